import PyProof.Rows.All
import Wide.All
import OpenK.AllK
import Wide.FinOn
import Lean
import PyProof.EqAt
import PyProof.EqKinds
import PyProof.TupleCall
import KE.KDictList
import PyProof.SetKind
import PyProof.IsRules
import KE.KSortTup
import PyProof.MeetsStr4
import PyProof.StrLawsJoin
import PyProof.ZipIter
import PyProof.Draws
import PyProof.EnumMake
import PyProof.WalksEnum
import PyProof.StrLawsTight
import PyProof.StrLawsChain
import PySem.Challenge.RW_layworld_k07_worlds_written_and_read
noncomputable section
open Option renaming some->ba,none->gV
set_option hygiene false
local macro_rules|`(abbrev $i:declId $s:optDeclSig $v:declVal)=>`(noncomputable def $i:declId $s:optDeclSig $v:declVal)|`(def $i:declId $b* :$t $v:declVal)=>`(theorem $i:declId $b* :$t $v:declVal)|`(tactic|omega)=>`(tactic|first|lia|omega (config:={}))|`(tactic|show $e:term)=>`(tactic|refine $e:term)|`(tactic|left)=>`(tactic|dsimp only[wS,wE,wA,wV,wG,List.set])|`(tactic|nofun)=>`(tactic|refine aE λK hK=>?_)
local macro_rules|`(#v[])=>`((by decide))|`(#v[$x:term])=>`(.cons $x .nil)|`(#v[$x:term,$y:term,*])=>`(.cons $x #v[$y,*])
local macro_rules|`(#[$x:term])=>`(⟨$x⟩)|`(#[$x:term,$y:term,*])=>`(⟨$x,$y,*⟩)
local macro_rules|`(∅)=>`((by omega))
open _root_ renaming List->EI,Option->EO,Nat->EV,Int->E5,if_pos->Fi,Bool->Fk,decide_eq_false->Fq,decide_eq_true_eq->Ft,if_neg->FJ,Array->FM,beq_self_eq_true->FQ,of_decide_eq_true->F1,False->F8,String->Gc,decide_eq_true->Gf,or_false->GV,if_false->Hn,beq_eq_false_iff_ne->Hw,DecidableEq->HR,if_true->HX,True->KP,of_decide_eq_false->K6,bne_self_eq_false->Ls,not_or->LJ,Unit->Ng,dif_pos->Nu
open PySem renaming wpAny_bind->EJ,Value->EK,Shared->EN,wpAny_pure->ET,Addr->EU,Str->E3,Expr->Fa,Program->Fn,Around->Fs,World->Fv,Heap->FN,wpAny_callSpecial?_slot->FU,wpAny_newObj_type->FW,sizeLine_eq->FX,wpAny_call_entry->F5,codeAny_builtin->F7,wpAny_holding->Ga,wpAny_truthy_bool->Gj,Obj->Gm,wpAny_field->Go,wpAny_mono->Gz,NameKind->GD,wpAny_seqItems->GM,wpAny_typeNameOfWhole_keyiter->G1,DictEntry->G2,Spec->G3,Pos->G5,plainId_quiet->He,FuncData->Hg,wpAny_passesOwn->Hl,wpAny_typeNameOf_keyiter->Hu,Stmt->Hv,mem_of_lookup->Hx,wpAny_setField_rec->HG,strKind->HL,Scope->HM,wpAny_pyIter_list->HP,call_meets->HV,wpAny_letGo->HW,wpAny_attempt->Il,wpAny_loadPart'->Io,Builtin->Ip,wpAny_Call_Name_kw->Iq,codeAny_mono->Ix,SetTable->IA,wpAny_dictEntries->IB,wpAny_rule->IF,wpAny_isInstance->II,IsPair->IK,wpAny_standAt->IM,wpAny_typeOf->IW,IsPart->Ja,wpAny_runValue->Jc,wpAny_setField->Jd,wpAny_tryCatch->Je,wpAny_of_eq->Jq,wpAny_comprehension_free->Jy,wpAny_pyHash_str->JB,noFill_tuple_add->JC,wpAny_forIn_list->JD,Paired->JG,ItemsOf->JL,wpAny_execs_nil->JT,codeAny_of_tree->JW,wpAny_dictEpoch->JX,wpAny_updateSeq->JY,wpAny_isOneOf_keyiter->J7,GenState->Ke,Params->Kg,isSubtype_stop->Ki,wpAny_pyIter_keyiter->Kj,wpAny_newTuple->Kl,wpAny_updateSeq_pair->Kq,PassesOwn->Kw,Keyword->Kx,rangeSize_one->KF,seq_tuple_add->KG,wpAny_newList->KJ,IsZip->KL,wpAny_load->KS,wpAny_pyIter_tuple->K2,wpAny_pyIter_ascii->K4,Env->Lb,wpAny_assign_Name->Lc,Operator->Le,BindsTo->Lf,concat_meets->Lh,wpAny_sequenceKey->Li,seqIndex_neg->Lj,list_append->Lk,wpAny_pyIter_enum->Lw,wpAny_pyHash_int->LA,Result->LD,wpAny_pyIter_zip->LO,CmpOp->LR,seqIndex_of->LS,wpAny_mkInt->LU,wpAny_Name->L7,wpAny_bindName->L8,typeIs_str->Ma,typeIs_int->Mb,fitsIndex_both->Mf,call->Mh,wpAny_fieldsOf->Mn,callType_newIn->Mp,intBits_le_64->Mw,evalPart_none->My,call_list_seq->MA,wpAny_handled->MF,wpAny_onRaise->MJ,small_one->MO,Sem->MR,call_range_1->MT,IsRangeIter->MY,wpAny_alloc->M4,wpAny_throw->M5,BoolOp->Nm,IsEnum->Nn,Model->Np,IsRange->Nv,Tok->NA,Drawn->NE,Walks->NH
open PySem.Heap renaming get?_push_of_some->EM,get?_push_size->EX,lt_size->E4,get?_update_other->FZ,get?_update_self->GU,SameBut->GY,size_push->Hh,get?_update_ne->Ii,ExtBut->Kh,size_update->LM
open Option renaming map_eq_some_iff->EQ,map_some->FP,isSome_iff_exists->Gb,map_eq_none_iff->JM,getD_none->LG,getD_some->LP,toList->ML
open List renaming length_map->ER,size_toArray->EY,getElem?_eq_getElem->EZ,getElem?_map->E1,length_append->E6,set->E7,getElem?_eq_some_iff->E9,mem_singleton->Fb,mem_cons->Fc,zipWith->Fd,mem_of_getElem?->Fh,mem_append_right->Fo,all_eq_true->Fu,replicate->Fw,mem_map->Fx,length_cons->Fy,getElem?_append_left->Fz,mem_cons_of_mem->FC,not_mem_nil->FH,all_cons->FK,mem_append->FR,map_cons->FV,getElem?_eq_none_iff->F4,map_append->F6,mem_cons_self->F9,length_take->Gg,getElem_mem->Gh,lookup_cons->Gi,range->Gn,replicate_succ->Gr,length_nil->Gx,findIdx?_eq_some_iff_getElem->GH,getElem?_append_right->GJ,getElem?_set->GL,take_add_one->GP,length_drop->GX,mem_append_left->G0,length_zipWith->G8,take_of_length_le->G9,map_map->Hb,any_cons->Hc,take_length->Hf,flatten_cons->Ho,append_assoc->Hq,mem_range->Hz,length_eq_zero_iff->HD,zip_cons_cons->HF,append_nil->HH,nodup_cons->HI,find?_cons->HJ,nodup_append->HN,length_range->HQ,filterMap_cons->Ig,map_congr_left->Ij,pairwise_map->IC,getElem?_zipWith->ID,isEmpty_iff->IL,getElem?_zipIdx->IP,mem_iff_getElem->IQ,forIn_cons->IT,length_zipIdx->Jg,findIdx?_cons->Jh,drop_drop->Jj,ext_getElem?->Js,getElem?_take_of_lt->Ju,map_take->Jz,getElem?_set_self->JH,range_succ_eq_map->JJ,drop_of_length_le->JQ,mem_filter->JS,of_mem_zip->JU,find?_some->J1,drop_left'->J2,length_replicate->J3,getElem?_eq_none->J9,take_append_drop->Kc,getElem?_set_ne->Kf,forIn_nil->Km,nodup_nil->Kn,mem_of_mem_take->Kr,mem_of_mem_drop->Ks,getElem?_range->KC,eraseDups_cons->KD,mem_filterMap->KT,mem_eraseDups->K7,filter_append->K8,take_sublist->Lg,all_map->Ln,zip_nil_left->Lo,getElem_inj->LB,ext_getElem->LK,any_toArray->LL,range'_succ->LN,foldl_cons->LY,foldr_cons->L1,take_left'->L5,foldl->Mc,Nodup->Mq,drop_zero->Mr,sum_cons->MK,length->MZ,range'->M6,map->NJ
open Bool renaming and_eq_true->ES,false_ne_true->E8,false_eq_true->Gd,or_eq_true->GQ,true_and->IN,false_or->Jv,and_eq_false_iff->J4,and_eq_true_iff->Kt,and_true->KH,not_true->KI,not_eq_true'->Lx,or_false->Mz
open PySem.W renaming Frag->EW,look_both->FD,keepIn->Ge,fnOf->GZ,kia_one->Hm,nsIn->Hr,codeIn->HB,methodObj->Jo,cellsFrom_some->JI,OpenLaw->JV,kat_nil->J0,KdlSrc->Kk,mg_of->KM,WalkO->MB,Looks->MG,recOk->MN,xlAt->MW
open Nat renaming le_refl->E2,ne_of_lt->Fg,lt_of_lt_of_le->Fp,le_trans->F2,lt_irrefl->Gq,ne_of_gt->Gw,zero_le->GC,le_succ->Hd,lt_succ_self->HY,le_add_right->HZ,le_of_lt->Iw,le_of_ble_eq_true->IE,succ_le_succ->IH,lt_succ_of_lt->Jr,lt_of_succ_lt_succ->JN,min_self->Lp,lt_or_ge->Lv,min_eq_right->LQ,le_add_left->L0,min_eq_left->L4,not_lt->Mo,add_assoc->MD,succ_mul->MU,sub_zero->MV,ble->NO
open Array renaming length_toList->Fe,getElem?_toList->F3,getElem?_eq_some_iff->GN,getElem?_eq_getElem->Hk,perm_iff_toList_perm->Jf,getElem?_eq_none->JK,append_assoc->KQ,forIn_toList->KZ,toList->MS,getD->Nl
open Int renaming toNat_natCast->Ff,natCast_nonneg->FB,emod_lt_of_pos->Hi,emod_nonneg->HK,toNat_of_nonneg->Ih,zero_add->Ly,ediv_nonneg->L3
open Option.some renaming injEq->Fj,inj->Gv
open PySem.Value renaming ref->FL,none->FY,bool->G4,type->Hs,str->Iu,int->JA
open PySem.Around renaming under_plainId->F0
open PyProof.Rows renaming callWith_type1->Gk,slot_tuple_getitem->GR,subscriptTail_builtinR->Iz,assignInOrder_cons->IZ,AllBare->Jp,listUpdate_at->Jw,SortKind->JE,get?_update_seq->JZ,entry_tuple_getitem->Kz,lt_int->KA,args_tuple_getitem->KU,IsTup->La,assignInOrder_nil->Ld,listItems_at->Lr,callWith_builtin1->LF,seqEpoch_at->LV,IntsAre->L6,slicePart_none->L9,tupleItemsOf_->Mx,Call_->Nq,StrsAre->Nt
open PySem.Obj renaming mapSeq->Gp,data_mapFields->Ir,isFreed_of_fields->J8,cls_mapFields->Lq,mapFields->ME
open PySem.Builtin.Tuple renaming tupleExact->Gs,tupleItemsOf->HS,tupleHashOf->Jk,tupleCompareSizes->Lz,tupleIsExact->Mj
open PySem.Builtin.SmallTypes renaming ownedTupleIsFree->Gu,ownedTupleHandOut->G7,nextOf->Jn
open ForInStep renaming yield->Gy
open PySem.Builtin.Range renaming rangeSize->GB,small->IV
open PySem.Txt renaming split->GF,join->Mk,mul->NN
open PySem.Str renaming ofString->GK,length->HU,join->NI
open PySem.Builtin.Str renaming strKind->G6,occurrences->HA,tooLong->Mt,partsBetween->MH,glued->Nw
open PySem.Builtin.List renaming listExtendWith->Ha,listTooLong->Ht,listFitsIndex->Mg
open PySem.Builtin.Slice renaming slicePlaces->Hj,sliceAdjust->Ic,sliceApplied->Jb,slicePartIndex->LW,sliceFields->Ms
open PySem.Heap.SameBut renaming update->Hy,refl->Lm
open PySem.SetTable renaming grown->HC,fits_plain_off->MP,orStandIn->Nk,relaid->NC,laid->NK
open PySem.F renaming plainAttrs_list->HE,args_tuple_add_2->Ik,entry_tuple_add->Iv,slot_tuple_add->Iy,slot_tuple_index->Jx,slot_list_index->JF,plainAttrs_str->JO,slot_dict_get->J5
open PySem.NameKind renaming free->Im,cell->NL
open PySem.SeqAt renaming EqAt->IG,notIn_listAt->KW,in_tupleAt->LH,in_listAt->LX
open True renaming intro->IJ
open PySem.Challenge renaming pw_layworld_k07_worlds_written_and_read->IR,rw_layworld_k07_worlds_written_and_read->IS
open PySem.Builtin.Dict_items renaming ownsTuple->IU
open PySem.Builtin.Builtins renaming bindParams->IX
open PySem.Calls renaming Name_function_global->IY,call_function_entry->Jm,Constant_str->KR
open PySem.StrLaws renaming At->Ji,join_length_le->JR,glued_eq_join->Kb,strSub_toList->Kd
open Classical renaming byContradiction->Jl,propDecidable->MQ
open PySem.Paired renaming length->Jt
open PySem.Env renaming kindOf->JP
open PySem.Builtin.Dict renaming showsAll->J6,dictSlotNone->Mu,pendingCount->Mv
open Std.Legacy.Range renaming forIn_eq_forIn_range'->Ko,size->MX
open Sum renaming inl->Ku,inr->Kv
open PySem.Expr renaming Name->Ky
open PySem.SeqAt.EqAt renaming int_str->KN,str_int->KO,none_bool->M0,bool_none->M1,bool_bool->M2,none_int->M7,none_str->M8,bool_int->M9,bool_str->Na,int_none->Nb,int_bool->Nc,str_none->Nd,str_bool->Nf,int_int->Ni,str_str->Nj,same->NB
open PySem.Code renaming quiet_builtin->KY
open PUnit renaming unit->K1
open PySem.ScopeKind renaming function->K5
open PySem.AutoListH renaming list___mul___list_int_3->K9
open PySem.AutoSeq1 renaming list_extend_list_list_0->Ll,sub_tuple_tuple->MC
open Function renaming comp_def->Lu
open PyProof.Rows.IsTup renaming new->LC
open PySem.IsL renaming update->LI
open PySem.Builtin.Frozenset renaming updateFrom->LZ,newClass->Ml
open PySem.Walks renaming list->Mm
open Prod.mk renaming injEq->MM
open PySem.MeetsSeq renaming list_pop_at->M3
open PySem.Heap.IsSliceOf renaming new->Nh
open List.Nodup renaming sublist->No
open List.Pairwise renaming nil->Nr
open PySem.Flow renaming next->Nx
open PySem.W.Looks renaming ld->Ny
open PySem.W.XL renaming keeps->Nz
open PySem.PassesOwn renaming never->ND
open Prod renaming ext->NF
open Or renaming inr->NG
open PySem.Str.join renaming eq_3->NM
open Nat.succ renaming inj->NP
set_option genSizeOf false
namespace ZZ.Lean
noncomputable section
set_option Elab.async false
set_option linter.all false
set_option maxRecDepth 100000
namespace L2
open PySem PySem.Spec PyProof.Rows
noncomputable abbrev jG:=Sum E5 E3
abbrev xO:jG->EK->Fk
 | .inl k,v=>Value.isInt k v
 | .inr x,v=>Value.isStrOf x v
abbrev CZ (w:Fv):jG->E5
 | .inl k=>hashInt k
 | .inr x=>hashStr w x
def aP:∀ {k:jG} {v:EK},xO k v=true->(∃i t,k=Ku i/\v=JA i t)\/(∃x t,k=Kv x/\v=Iu x t)
 | .inl i,v,h=>by
  obtain⟨t,e⟩:=Value.isInt_shape (k:=i) (v:=v) h;exact .inl #[i,t,rfl,e]
 | .inr x,v,h=>by
  obtain⟨t,e⟩:=Value.isStrOf_shape (x:=x) (v:=v) h;exact .inr #[x,t,rfl,e]
def yz (a b:E5):decide ((Ku a:jG)=Ku b)=(a==b):=by
 by_cases e:a=b
 ·subst e; simp
 ·have h:¬ (Ku a:jG)=Ku b:=λq=>e (Sum.inl.inj q)
  rw[Fq h];exact(Hw.mpr e).symm
def yA (a b:E3):decide ((Kv a:jG)=Kv b)=decide (a=b):=by
 by_cases e:a=b
 ·subst e; simp
 ·have h:¬ (Kv a:jG)=Kv b:=λq=>e (Sum.inr.inj q)
  rw[Fq h,Fq e]
def yB (a:E5)(b:E3):decide ((Ku a:jG)=Kv b)=false:=Fq (λq=>nomatch q)
def yC (a:E3)(b:E5):decide ((Kv a:jG)=Ku b)=false:=Fq (λq=>nomatch q)
abbrev jH (prog:Fn)(w:Fv):PySem.KeyKind prog w jG where
 is:=xO
 hash:=CZ w
 inj:=λv a b ha hb=>by
  rcases aP ha with⟨i,t,rfl,rfl⟩|⟨x,t,rfl,rfl⟩
  ·rcases aP hb with⟨j,u,rfl,e⟩|⟨y,u,rfl,e⟩
   ·injection e with e1 _; rw[e1]
   ·exact nomatch e
  ·rcases aP hb with⟨j,u,rfl,e⟩|⟨y,u,rfl,e⟩
   ·exact nomatch e
   ·injection e with e1 _; rw[e1]
 byValue:=λk v h=>by
  rcases aP h with⟨i,t,rfl,rfl⟩|⟨x,t,rfl,rfl⟩ <;> rfl
 pyHash:=λhv h=>by
  rcases aP hv with⟨i,t,rfl,rfl⟩|⟨x,t,rfl,rfl⟩
  ·exact LA h
  ·exact JB h
 eqBool:=λhu hv h=>by
  rcases aP hu with⟨i,t,rfl,rfl⟩|⟨x,t,rfl,rfl⟩
  ·rcases aP hv with⟨j,u,rfl,rfl⟩|⟨y,u,rfl,rfl⟩
   ·rw[yz]at h; exact wpAny_eqBool_int h
   ·rw[yB]at h; exact KN i t y u _ _ _ _ h
  ·rcases aP hv with⟨j,u,rfl,rfl⟩|⟨y,u,rfl,rfl⟩
   ·rw[yC]at h; exact KO x t j u _ _ _ _ h
   ·rw[yA]at h; exact wpAny_eqBool_str h
 «strs»:=λk x t v h=>by
  rcases aP h with⟨i,u,rfl,e⟩|⟨y,u,rfl,e⟩
  ·exact nomatch e
  ·injection e with e1 _
   subst e1;cases v <;> rfl
inductive V where
 | non|bl (b:Fk)|int (i:E5)|str (x:E3)|byt (b:FM UInt8)|flt (b:UInt64)|ref (a:EU)|ty (n:Gc)
 deriving HR
abbrev RelV:V->EK->Prop
 | .non,u=>u=FY
 | .bl b,u=>u=G4 b
 | .int i,u=>∃t,u=JA i t
 | .str x,u=>∃t,u=Iu x t
 | .byt b,u=>∃t,u=Value.bytes b t
 | .flt b,u=>∃t,u=Value.float b t
 | .ref a,u=>u=FL a
 | .ty n,u=>u=Hs n
noncomputable abbrev Vals:EI V->EI EK->Prop:=JG RelV
def Vals.length {xs:EI V}{us:EI EK}(r:Vals xs us):xs.length=us.length:=Jt r
def Vals.get:∀ {xs:EI V} {us:EI EK} {i:EV} {x:V},Vals xs us->xs[i]?=ba x->∃u,us[i]?=ba u/\RelV x u
 | _,_,_,_,.nil,e=>by simp at e
 | _,_,0,_,.cons r _,e=>by simp at e; subst e; exact#[_,rfl,r]
 | _,_,i+1,x,.cons _ t,e=>by
  obtain⟨u,h1,h2⟩:=Vals.get (i:=i) (x:=x) t (by simpa using e)
  exact#[u,by simpa using h1,h2]
def Vals.set {x:V}{u:EK}(r:RelV x u):∀ {xs:EI V} {us:EI EK} (i:EV),Vals xs us->Vals (xs.set i x) (us.set i u)
 | _,_,_,.nil=>.nil
 | _,_,0,.cons _ t=>.cons r t
 | _,_,i+1,.cons q t=>.cons q (Vals.set r i t)
def Vals.append:∀ {xs ys:EI V} {us ws:EI EK},Vals xs us->Vals ys ws->Vals (xs++ys) (us++ws)
 | _,_,_,_,.nil,s=>s
 | _,_,_,_,.cons r t,s=>.cons r (Vals.append t s)
def Vals.take:∀ {xs:EI V} {us:EI EK} (n:EV),Vals xs us->Vals (xs.take n) (us.take n)
 | _,_,0,_=>.nil
 | _,_,_+1,.nil=>.nil
 | _,_,n+1,.cons r t=>.cons r (Vals.take n t)
def Vals.drop:∀ {xs:EI V} {us:EI EK} (n:EV),Vals xs us->Vals (xs.drop n) (us.drop n)
 | _,_,0,r=>r
 | _,_,_+1,.nil=>.nil
 | _,_,n+1,.cons _ t=>Vals.drop n t
abbrev AO:EO V->EO EK->Prop
 | some v,ba u=>RelV v u
 | none,gV=>KP
 | _,_=>F8
abbrev KV {κ:Type}:EI (κ×V)->EI (κ×EK)->Prop:=JG λ(p:κ×V) (q:κ×EK)=>p.1=q.1/\RelV p.2 q.2
abbrev kV:jG->V
 | .inl i=>.int i
 | .inr x=>.str x
inductive HO where
 | lst (xs:EI V)
 | tup (xs:EI V)
 | dK (U:EI (jG×V))|dT (U:EI (EI jG×V))
 | set (S:E5->Fk) (n:EV)
 | ins (C dx:EU) (fs:EI (E3×V))
 | own (x:EU)
 | xd (fs:EI (E3×V))
 | met (f x:EU)
 | rng (lo hi:E5)
 | frz (o:Gm) (u:HO)
 | tbl (ps:FM EK)
 | ext (φ:FN->Prop)
noncomputable abbrev Hp:=EU->EO HO
abbrev aR (H:Hp)(a:EU)(o:HO):Hp:=λb=>if b=a then ba o else H b
def az {H:Hp}{a:EU}{o:HO}:aR H a o a=ba o:=by unfold aR; rw[Fi rfl]
def au {H:Hp}{a b:EU}{o:HO}(h:b≠a):aR H a o b=H b:=by unfold aR; rw[FJ h]
def cD {H:Hp}{a b:EU}{o:HO}(h:H a=ba o)(h':H b=gV):a≠b:=by
 intro e; subst e; rw[h]at h'; cases h'
section
variable (P:Fn) (w:Fv)
abbrev NoD (h:FN)(a:EU):Prop:=∃o,h.get? a=ba o/\o.dict=gV
def NoD.new (h:FN)(its:FM EK)(n:EV):NoD (h.push { cls:=.type "tuple",data:=.seq its n }) h.objs.size:=#[_,EX _ rfl,rfl]
abbrev ObjOk (H:Hp)(h:FN)(a:EU):HO->Prop
 | .lst xs=>xs.length<=sizeLine/\∃(its:EI EK) (n:EV),Vals xs its/\h.get? a=ba { cls:=.type "list",data:=.seq its.toArray n }
 | .tup xs=>(xs.length<=sizeLine/\NoD h a)/\∃its:EI EK,Vals xs its/\La h a its.toArray
 | .dK U=>U.length<=sizeLine/\(a==sysModules)=false/\∃vs,KV U vs/\h.DictOf (jH P w) a vs
 | .dT U=>U.length<=sizeLine/\(a==sysModules)=false/\∃xs:EI (EI jG×EU×EK),
   JG (λ(p:EI jG×V) (q:EI jG×EU×EK)=>p.1=q.1/\H q.2.1=ba (.tup (p.1.map kV))/\RelV p.2 q.2.2) U xs/\
   ∃o es ep,h.get? a=ba o/\o.ExactDict/\o.data=.dict es ep/\es.toList=xs.map (entryOfKey (tupleKind (jH P w)))/\(xs.map (·.1)).Nodup
 | .set S n=>h.SetOf (intKind P w) a S n
 | .ins C dx fs=>H dx=ba (.own a)/\fs.length<=1000/\dx≠a/\h.get? a=ba (PySem.W.instObj C dx)/\
   ∃mA,h.Ns1 dx mA/\(∀f,AO (fs.lookup f) (mA f))/\PySem.Within mA (fs.map (·.1))
 | .own _=>∃o,h.get? a=ba o
 | .xd fs=>∃mA,h.Ns1 a mA/\∀f,AO (fs.lookup f) (mA f)
 | .rng lo hi=>∃t u v,h.get? a=ba { cls:=.type "range",data:=.fields [.int lo t,.int hi u,.int 1 v].toArray }
 | .frz o u=>h.get? a=ba o/\ObjOk H h a u
 | .tbl ps=>h.get? a=ba { cls:=.none,data:=.fields ps }
 | .met f x=>h.get? a=ba (Jo (.ref f) (.ref x))
 | .ext φ=>φ h/\(∃o,h.get? a=ba o)/\∀h1 h2:FN,φ h1->(∀o,h1.get? a=ba o->h2.get? a=ba o)->φ h2
abbrev HOk (H:Hp)(h:FN):Prop:=∀a o,H a=ba o->ObjOk P w H h a o
end
section
variable{P:Fn}{w:Fv}{H H':Hp}{h h':FN}{a:EU}{o:HO}
def ObjOk.lt (x:ObjOk P w H h a o):a < h.objs.size:=by
 cases o with
 | lst xs=>obtain⟨_,_,_,_,e⟩:=x; exact E4 e
 | tup xs=>obtain⟨_,_,_,p⟩:=x; exact p.lt
 | dK U=>obtain⟨_,_,_,_,o,_,_,e,_⟩:=x; exact E4 e
 | dT U=>obtain⟨_,_,_,_,o,_,_,e,_⟩:=x; exact E4 e
 | set S n=>obtain⟨o,_,_,_,e,_⟩:=x; exact E4 e
 | ins C dx fs=>obtain⟨_,_,_,e,_⟩:=x; exact E4 e
 | own y=>obtain⟨_,e⟩:=x; exact E4 e
 | xd fs=>obtain⟨_,⟨_,_,_,e,_⟩,_⟩:=x; exact E4 e
 | rng lo hi=>obtain⟨_,_,_,e⟩:=x; exact E4 e
 | frz ob u=>obtain⟨e,_⟩:=x; exact E4 e
 | tbl ps=>exact E4 (show h.get? a=ba _ from x)
 | met f y=>exact E4 (show h.get? a=ba _ from x)
 | ext φ=>obtain⟨_,⟨_,e⟩,_⟩:=x; exact E4 e
def Paired.mapP {α β:Type}{F G:α->β->Prop}:∀ {l₁:EI α} {l₂:EI β},JG F l₁ l₂->(∀a b,F a b->G a b)->JG G l₁ l₂
 | _,_,.nil,_=>.nil
 | _,_,.cons r t,f=>.cons (f _ _ r) (Paired.mapP t f)
def ObjOk.stay (x:ObjOk P w H h a o)(k:∀b u,(b=a\/H b=ba (.own a))->h.get? b=ba u->h'.get? b=ba u)
  (ho:∀b,H b=ba (.own a)->H' b=ba (.own a)) (ht:∀b xs,H b=ba (.tup xs)->H' b=ba (.tup xs)):ObjOk P w H' h' a o:=by
 induction o with
 | lst xs=>obtain⟨z,its,n,r,e⟩:=x; exact#[z,its,n,r,k _ _ (.inl rfl) e]
 | tup xs=>obtain⟨⟨z,ob',e',d⟩,its,r,ob,e,c⟩:=x; exact#[#[z,ob',k _ _ (.inl rfl) e',d],its,r,ob,k _ _ (.inl rfl) e,c]
 | dK U=>obtain⟨z,y,vs,r,ob,es,ep,e,c⟩:=x; exact#[z,y,vs,r,ob,es,ep,k _ _ (.inl rfl) e,c]
 | dT U=>
  obtain⟨z,y,xs,r,ob,es,ep,e,c⟩:=x;exact#[z,y,xs,Paired.mapP r λp q z=>#[z.1,ht _ _ z.2.1,z.2.2],ob,es,ep,k _ _ (.inl rfl) e,c]
 | set S n=>obtain⟨ob,es,ep,t,e,c⟩:=x; exact#[ob,es,ep,t,k _ _ (.inl rfl) e,c]
 | ins C dx fs=>
  obtain⟨d,z,ne,e,mA,⟨od,es,ep,e2,c⟩,r⟩:=x;exact#[ho _ d,z,ne,k _ _ (.inl rfl) e,mA,#[od,es,ep,k _ _ (.inr d) e2,c],r]
 | own y=>obtain⟨ob,e⟩:=x; exact#[ob,k _ _ (.inl rfl) e]
 | xd fs=>obtain⟨mA,⟨od,es,ep,e,c⟩,r⟩:=x; exact#[mA,#[od,es,ep,k _ _ (.inl rfl) e,c],r]
 | rng lo hi=>obtain⟨t,u,v,e⟩:=x; exact#[t,u,v,k _ _ (.inl rfl) e]
 | frz ob u ih=>obtain⟨e,q⟩:=x; exact#[k _ _ (.inl rfl) e,ih q]
 | tbl ps=>
  have e:h.get? a=ba { cls:=.none,data:=.fields ps }:=x;change h'.get? a=ba { cls:=.none,data:=.fields ps };exact k a _ (.inl rfl) e
 | met f y=>
  have e:h.get? a=ba (Jo (.ref f) (.ref y)):=x;change h'.get? a=ba (Jo (.ref f) (.ref y));exact k a _ (.inl rfl) e
 | ext φ=>obtain⟨p,⟨o,e⟩,st⟩:=x; exact#[st _ _ p λo q=>k _ _ (.inl rfl) q,#[o,k _ _ (.inl rfl) e],st]
def HOk.lt (x:HOk P w H h)(e:H a=ba o):a < h.objs.size:=(x a o e).lt
def HOk.fresh (x:HOk P w H h)(e:h.objs.size<=a):H a=gV:=by
 cases q:H a with
 | none=>rfl
 | some u=>exact absurd (Fp (x.lt q) e) (Gq _)
def HOk.kept (x:HOk P w H h)(k:∀b u,h.get? b=ba u->h'.get? b=ba u):HOk P w H h':=λa o e=>
 (x a o e).stay (λb u _ q=>k b u q) (λ_ q=>q) λ_ _ q=>q
def HOk.laid (x:HOk P w H h)(k:∀b u,h.get? b=ba u->h'.get? b=ba u)(hp:h.objs.size<=a)(new:ObjOk P w (aR H a o) h' a o):HOk P w (aR H a o) h':=λb u e=>by
 have hn:=x.fresh hp
 by_cases hb:b=a
 ·subst hb; rw[az]at e; cases e; exact new
 ·rw[au hb]at e;exact(x b u e).stay (λc v _ q=>k c v q) (λc q=>by rw[au (cD q hn)]; exact q) λc xs q=>by rw[au (cD q hn)]; exact q
end
abbrev Rd (H:Hp)(a:EU)(u:HO):Prop:=H a=ba u\/∃o,H a=ba (.frz o u)
def Rd.ok {P:Fn}{w:Fv}{H:Hp}{h:FN}{a:EU}{u:HO}(r:Rd H a u)(x:HOk P w H h):ObjOk P w H h a u:=by
 rcases r with r|⟨o,r⟩
 ·exact x a u r
 ·obtain⟨_,q⟩:=x a _ r;exact q
abbrev AQ:EO HO->Prop
 | some (.lst _)=>KP
 | some (.dK _)=>KP
 | some (.dT _)=>KP
 | some (.set _ _)=>KP
 | some (.ins _ _ _)=>KP
 | some (.ext _)=>KP
 | _=>F8
section
variable{P:Fn}{w:Fv}{H:Hp}{h h':FN}{x e:EU}{o':HO}
def HOk.write (ok:HOk P w H h)(mu:AQ (H x))(he:e=x\/H e=ba (.own x))(k:∀b u,b≠e->h.get? b=ba u->h'.get? b=ba u)(heo:∃u,h'.get? e=ba u)
  (new:ObjOk P w (aR H x o') h' x o'):HOk P w (aR H x o') h':=λb u q=>by
 have nown:∀c y,H c=ba (.own y)->c≠x:=λc y r z=>by subst z; rw[r]at mu; exact mu
 have ntup:∀c xs,H c=ba (.tup xs)->c≠x:=λc xs r z=>by subst z; rw[r]at mu; exact mu
 by_cases hb:b=x
 ·subst hb; rw[az]at q; cases q; exact new
 ·rw[au hb]at q
  by_cases hbe:b=e
  ·have q':H b=ba (.own x):=by
    rcases he with z|z
    ·exact absurd (hbe.trans z) hb
    ·rw[hbe]; exact z
   rw[q]at q'; cases q'
   obtain⟨v,hv⟩:=heo;exact#[v,by rw[hbe]; exact hv]
  ·show(ok b u q).stay (λc v hc r=>k c v ?_ r) (λc r=>by rw[au (nown c b r)]; exact r) λc xs r=>by rw[au (ntup c xs r)]; exact r
   rcases hc with rfl|hc
   ·exact hbe
   ·rintro rfl;rcases he with z|z
    ·exact nown c b hc z
    ·rw[hc]at z; cases z; exact hb rfl
end
structure Un (fs ex:EI EU)(H H':Hp)(h h':FN):Prop where
 keep:∀b o,h.get? b=ba o->H b=gV->b∉fs->b∉ex->h'.get? b=ba o
 slot:∀b o,h.get? b=ba o->H b=gV->b∈fs->b∉ex->∃sl,h'.get? b=ba { o with slots:=sl }
 free:∀b o,h.get? b=ba o->H b=gV->b∉ex->H' b=gV
 there:∀b o,h.get? b=ba o->b∉ex->∃o',h'.get? b=ba o'
 tups:∀b xs,H b=ba (.tup xs)->H' b=ba (.tup xs)
 frzs:∀b o u,H b=ba (.frz o u)->H' b=ba (.frz o u)
 tbls:∀b ps,H b=ba (.tbl ps)->∃more,H' b=ba (.tbl (ps++more))
section
variable{fs fs' ex ex':EI EU}{H H1 H2:Hp}{h h1 h2 h':FN}{a x e:EU}{o:HO}
def Un.any (u:Un fs ex H H1 h h1){b:EU}{ob:Gm}(q:h.get? b=ba ob)(n:H b=gV)(hx:b∉ex):∃sl,h1.get? b=ba { ob with slots:=sl }:=by
 by_cases hb:b∈fs
 ·exact u.slot b ob q n hb hx
 ·exact#[ob.slots,u.keep b ob q n hb hx]
def Un.trans (a:Un fs ex H H1 h h1)(b:Un fs ex H1 H2 h1 h2):Un fs ex H H2 h h2 where
 keep:=λc ob q n hc hx=>b.keep c ob (a.keep c ob q n hc hx) (a.free c ob q n hx) hc hx
 slot:=λc ob q n hc hx=>by
  obtain⟨sl,e1⟩:=a.slot c ob q n hc hx;obtain⟨sl',e2⟩:=b.slot c _ e1 (a.free c ob q n hx) hc hx;exact#[sl',e2]
 free:=λc ob q n hx=>by
  obtain⟨o',e1⟩:=a.there c ob q hx;exact b.free c o' e1 (a.free c ob q n hx) hx
 there:=λc ob q hx=>by
  obtain⟨o',e1⟩:=a.there c ob q hx;exact b.there c o' e1 hx
 tups:=λc xs q=>b.tups c xs (a.tups c xs q)
 frzs:=λc ob xs q=>b.frzs c ob xs (a.frzs c ob xs q)
 tbls:=λc ps q=>by
  obtain⟨m1,e1⟩:=a.tbls c ps q;obtain⟨m2,e2⟩:=b.tbls c _ e1;exact#[m1++m2,by rw[e2,KQ]]
def Un.kept (k:∀b u,h.get? b=ba u->h'.get? b=ba u):Un fs ex H H h h':=
 #[λb ob q _ _ _=>k b ob q,λb ob q _ _ _=>#[ob.slots,k b ob q],λ_ _ _ n _=>n,λb ob q _=>#[ob,k b ob q],λ_ _ q=>q,λ_ _ _ q=>q,λ_ ps q=>#[#[],by rw[q]; simp]]
def Un.refl:Un fs ex H H h h:=Un.kept λ_ _ q=>q
def Un.laid (k:∀b u,h.get? b=ba u->h'.get? b=ba u)(hp:h.objs.size<=a)(hn:H a=gV):Un fs ex H (aR H a o) h h' where
 keep:=λb u q _ _ _=>k b u q
 slot:=λb u q _ _ _=>#[u.slots,k b u q]
 free:=λb u q n _=>by rw[au (Fg (Fp (E4 q) hp))]; exact n
 there:=λb u q _=>#[u,k b u q]
 tups:=λb xs q=>by rw[au (cD q hn)]; exact q
 frzs:=λb u xs q=>by rw[au (cD q hn)]; exact q
 tbls:=λb ps q=>#[#[],by rw[au (cD q hn),q]; simp]
def Un.write (mu:AQ (H x))(he:e=x\/H e=ba (.own x))(k:∀b u,b≠e->h.get? b=ba u->h'.get? b=ba u)(heo:∃u,h'.get? e=ba u):Un fs ex H (aR H x o) h h':=by
 have hx:∀b,H b=gV->b≠x:=λb n z=>by subst z; rw[n]at mu; exact mu
 have hb:∀b,H b=gV->b≠e:=λb n z=>by
  subst z;rcases he with r|r
  ·exact hx b n r
  ·rw[n]at r; cases r
 have hm:∀b u,H b=ba u->¬ AQ (ba u)->b≠x:=λb u q nm z=>by subst z; rw[q]at mu; exact nm mu
 show#[λb u q n _ _=>k b u (hb b n) q,λb u q n _ _=>#[u.slots,k b u (hb b n) q],λb u q n _=>by rw[au (hx b n)]; exact n,λb u q _=>?_,
  λb xs q=>by rw[au (hm b _ q λz=>z)]; exact q,λb u xs q=>by rw[au (hm b _ q λz=>z)]; exact q,λb ps q=>#[#[],by rw[au (hm b _ q λz=>z),q]; simp]]
 by_cases hbe:b=e
 ·subst hbe; exact heo
 ·exact#[u,k b u hbe q]
end
abbrev CM (h:FN)(H:Hp):EI EU:=(Gn h.objs.size).filter λa=>(H a).isSome
abbrev jI (h:FN)(H:Hp):FN:=PySem.W.hideAll h (CM h H)
def pf (h:FN)(H:Hp):(jI h H).objs.size=h.objs.size:=PySem.W.hideAll_size _ _
def qO {h:FN}{H:Hp}{b:EU}{o:Gm}(e:h.get? b=ba o)(n:H b=gV):(jI h H).get? b=ba o:=
 PySem.W.hideAll_get _ e λhm=>by
  have q:(H b).isSome=true:=(JS.mp hm).2;rw[n]at q; simp at q
def uT {h:FN}{H:Hp}{b:EU}{o:Gm}(e:(jI h H).get? b=ba o):h.get? b=ba o/\H b=gV:=by
 have e':h.get? b=ba o:=PySem.W.of_hideAll (CM h H) e;show#[e',?_];cases q:H b with
 | none=>rfl
 | some x=>
  have hm:b∈CM h H:=JS.mpr #[Hz.mpr (E4 e'),by simp[q]]
  have z:(jI h H).get? b=gV:=PySem.W.hideAll_none (CM h H) hm;rw[z]at e; cases e
abbrev uU (g h:FN)(L:EU):EI (EU×Gm):=(Gn h.objs.size).filterMap λa=>if a=L\/(g.get? a).isSome=true then gV else(h.get? a).map λo=>(a,o)
abbrev aY (g h:FN)(L d:EU):EI (EU×Gm):=(uU g h L).filter λp=>decide (p.1≠d)
structure Mod (K:EW)(mg:E3->EO EK)(base:FN):Prop where
 kin:K.In base
 glob:base.Ns mainGlobals mg
 blt:∃mb,base.Ns builtinsNs mb/\∀x:E3,x≠"__name__"->mb x=bootBuiltins x
 nolimit:base.NoLimit
structure Cx where
 prog:Fn
 w:Fv
 K:EW
 mg:E3->EO EK
 base:FN
 A:Fs
 N:EI E3
 s₀:EN
 H₀:Hp
 env:Lb
 outer:EI Lb
 stack:EI Lb
 ex:EI EU
 fn:E3->Fk
 calm:Fk
 pn:EI (EU×Gm)
 xe:EK->EN->Prop
abbrev mw (l:EI Lb):EI EU:=l.filterMap (·.frame)
noncomputable abbrev Cx.fs (X:Cx):EI EU:=mw X.outer
abbrev CN (sc:HM)(x:E3):Prop:=sc.names.lookup x=ba .local\/sc.names.lookup x=ba .cell\/sc.names.lookup x=ba .free
abbrev uV (sc:HM)(x:E3):Prop:=sc.names.lookup x=ba .local\/sc.names.lookup x=ba .cell
abbrev C0 (env:Lb)(h:FN)(m:E3->EO EK)(x:E3)(u:EK):Prop:=
 (env.kindOf x=ba .local/\m x=ba u)\/((env.kindOf x=ba .cell\/env.kindOf x=ba .free)/\∃c,env.cells.lookup x=ba c/\h.IsCell c (ba u))
structure Cx.Ok (X:Cx):Prop where
 mod:Mod X.K X.mg X.base
 kind:X.env.scope.kind=.function
 glob:X.env.globals=mainGlobals
 blt:X.env.builtins=builtinsNs
 above:X.s₀.heap.objs.size<=X.env.locals
 inj:∀x y c,X.env.cells.lookup x=ba c->X.env.cells.lookup y=ba c->x=y
 has:∀x,(X.env.kindOf x=ba .cell\/X.env.kindOf x=ba .free)->∃c,X.env.cells.lookup x=ba c
 cab:∀x c,X.fn x=true->X.env.cells.lookup x=ba c->X.s₀.heap.objs.size<=c
 hd:X.calm=true->X.A.handled=gV
 frames:X.A.frames=ba X.stack
 stk:X.stack=X.outer\/(X.stack=X.env::X.outer/\X.env.frame=ba X.env.locals)
 exf:∀b∈X.ex,b≠X.env.locals/\∀x c,X.env.cells.lookup x=ba c->c≠b
 bs:∀b o,X.base.get? b=ba o->X.s₀.heap.get? b=ba o/\X.H₀ b=gV
 bsz:X.base.objs.size<=X.s₀.heap.objs.size
 noex:∀b o,X.base.get? b=ba o->b∉X.ex
 exfs:∀b∈X.ex,b∉X.fs
 funs:X.s₀.heap.FunFrames X.base X.outer
 frf:∀b∈X.fs,X.H₀ b=gV
structure Inv (X:Cx)(J:EI (EU×Gm))(Y:EI (EO V))(H:Hp)(s:EN):Prop where
 ok:X.Ok
 os:s.os=X.s₀.os
 bare:Jp s.gens
 base:Un X.fs X.ex X.H₀ H X.s₀.heap s.heap
 loc:∃m,s.heap.Ns X.env.locals m/\∀(i:EV) (x:E3) (v:V),X.N[i]?=ba x->Y[i]?=ba (ba v)->CN X.env.scope x->∃u,RelV v u/\C0 X.env s.heap m x u
 cell:∀x c,X.env.cells.lookup x=ba c->∃v,s.heap.IsCell c v
 free:H X.env.locals=gV
 freeC:∀x c,X.env.cells.lookup x=ba c->H c=gV
 pin:∀p∈X.pn++J,s.heap.get? p.1=ba p.2/\H p.1=gV/\p.1≠X.env.locals/\p.1∉X.fs/\∀v,p.2.data≠.cell v
 hok:HOk X.prog X.w H s.heap
 len:Y.length=X.N.length
section
variable{X:Cx}{J:EI (EU×Gm)}{Y:EI (EO V)}{H H':Hp}{s:EN}{h':FN}
def Cx.Ok.nofr (ok:X.Ok){b:EU}{o:Gm}(e:X.base.get? b=ba o):b∉X.fs:=λhb=>by
 have:=(ok.funs.mem hb).1;rw[e]at this; cases this
def Inv.bs (I:Inv X J Y H s):∀b o,X.base.get? b=ba o->s.heap.get? b=ba o/\H b=gV:=λb o e=>
 #[I.base.keep b o (I.ok.bs b o e).1 (I.ok.bs b o e).2 (I.ok.nofr e) (I.ok.noex b o e),I.base.free b o (I.ok.bs b o e).1 (I.ok.bs b o e).2 (I.ok.noex b o e)]
def Inv.bk (I:Inv X J Y H s):∀b o,X.base.get? b=ba o->s.heap.get? b=ba o:=λb o e=>(I.bs b o e).1
def Inv.mod (I:Inv X J Y H s):Mod X.K X.mg X.base:=I.ok.mod
def Inv.kIn (I:Inv X J Y H s):X.K.In s.heap:=I.ok.mod.kin.keeps I.bk
def Inv.lt (I:Inv X J Y H s):X.env.locals < s.heap.objs.size:=let ⟨_,hn,_⟩:=I.loc; hn.lt
def Inv.sz (I:Inv X J Y H s):X.s₀.heap.objs.size<=s.heap.objs.size:=F2 I.ok.above (Iw I.lt)
def Inv.nofs (I:Inv X J Y H s){a:EU}(h:s.heap.objs.size<=a):a∉X.fs:=λhb=>by
 obtain⟨_,o,ho,_⟩:=I.ok.funs.mem hb;exact absurd (Fp (E4 ho) (F2 I.sz h)) (Gq _)
def Inv.cne (I:Inv X J Y H s):∀x c,X.env.cells.lookup x=ba c->c≠X.env.locals:=λx c e z=>by
 obtain⟨v,o,ho,hd⟩:=I.cell x c e;obtain⟨m,⟨o',es,ep,ho',hd',_⟩,_⟩:=I.loc;rw[z,ho']at ho; cases ho; rw[hd']at hd; cases hd
def Inv.funs (I:Inv X J Y H s):s.heap.FunFrames X.base X.outer:=by
 have all:∀(l:EI Lb),(∀b∈mw l,b∈X.fs)->X.s₀.heap.FunFrames X.base l->s.heap.FunFrames X.base l:=by
  intro l
  induction l with
  | nil=>intro _ _; trivial
  | cons env r ih=>
   intro hs hl;obtain⟨hk,⟨L,o,hf,hn,ho,hd⟩,hr⟩:=hl;have hL:L∈X.fs:=hs L (by unfold mw; rw[Ig,hf]; exact F9)
   obtain⟨sl,e⟩:=I.base.slot L o ho (I.ok.frf L hL) hL λz=>I.ok.exfs L z hL
   exact#[hk,#[L,_,hf,hn,e,hd],ih (λb hb=>hs b (by unfold mw; rw[Ig,hf]; exact FC _ hb)) hr]
 exact all X.outer (λ_ hb=>hb) I.ok.funs
def Inv.stack (I:Inv X J Y H s):s.heap.FunFrames X.base X.stack:=by
 rcases I.ok.stk with e|⟨e,hf⟩
 ·rw[e]; exact I.funs
 ·rw[e];obtain⟨m,hn,_⟩:=I.loc;show .cons (by rw[I.ok.kind]; decide) hf hn ?_ I.funs
  exact Heap.get?_none_of_le (F2 I.ok.bsz I.ok.above)
def Inv.stkSub (I:Inv X J Y H s):∀b∈mw X.stack,b∈X.env.locals::X.fs:=λb hb=>by
 rcases I.ok.stk with e|⟨e,hf⟩
 ·rw[e]at hb; exact FC _ hb
 ·rw[e]at hb;unfold mw at hb;rw[Ig,hf]at hb;exact hb
def Inv.stkFree (I:Inv X J Y H s):∀b∈mw X.stack,H b=gV:=λb hb=>by
 rcases Fc.mp (I.stkSub b hb)with e|hb
 ·rw[e]; exact I.free
 ·obtain⟨_,o,ho,_⟩:=I.ok.funs.mem hb;exact I.base.free b o ho (I.ok.frf b hb) λz=>I.ok.exfs b z hb
def Inv.step {g':FM Ke}{t':EV}{d':NE}{ch:EI EU}(I:Inv X J Y H s)
  (hch:∀b∈ch,(b∈X.ex\/X.s₀.heap.objs.size<=b)/\b≠X.env.locals/\(∀x c,X.env.cells.lookup x=ba c->c≠b)/\∀p∈X.pn++J,p.1≠b)
  (keep:∀b o,b≠X.env.locals->b∉X.fs->b∉ch->s.heap.get? b=ba o->H b=gV->h'.get? b=ba o)
  (slot:∀b o,b≠X.env.locals->b∈X.fs->b∉ch->s.heap.get? b=ba o->H b=gV->∃sl,h'.get? b=ba { o with slots:=sl }) (free:∀b o,b∉ch->s.heap.get? b=ba o->H b=gV->H' b=gV)
  (there:∀b o,b∉ch->s.heap.get? b=ba o->∃o',h'.get? b=ba o')
  (tups:∀b xs,H b=ba (.tup xs)->H' b=ba (.tup xs)) (frzs:∀b o u,H b=ba (.frz o u)->H' b=ba (.frz o u)) (tbls:∀b ps,H b=ba (.tbl ps)->∃more,H' b=ba (.tbl (ps++more)))
  (ns:∀m,s.heap.Ns X.env.locals m->h'.Ns X.env.locals m) (hok:HOk X.prog X.w H' h') (hg:Jp g') :
  Inv X J Y H' { s with heap:=h',gens:=g',drawn:=d',toks:=t' }:=by
 have neL:∀b o,X.s₀.heap.get? b=ba o->b≠X.env.locals:=λb o e=>Fg (Fp (E4 e) I.ok.above)
 have neC:∀b o,X.s₀.heap.get? b=ba o->b∉X.ex->b∉ch:=λb o e hx hb=>by
  rcases(hch b hb).1 with z|z
  ·exact hx z
  ·exact absurd (Fp (E4 e) z) (Gq _)
 have cellK:∀x c,X.env.cells.lookup x=ba c->∀v,s.heap.IsCell c v->h'.IsCell c v:=λx c e v #[o,ho,hd]=>by
  have nch:c∉ch:=λz=>(hch c z).2.2.1 x c e rfl
  by_cases hc:c∈X.fs
  ·obtain⟨sl,q⟩:=slot c o (I.cne x c e) hc nch ho (I.freeC x c e);exact#[_,q,hd]
  ·exact#[o,keep c o (I.cne x c e) hc nch ho (I.freeC x c e),hd]
 show#[I.ok,I.os,hg,#[λb o e n hb hx=>?_,λb o e n hb hx=>?_,λb o e n hx=>?_,λb o e hx=>?_,λb xs e=>tups b xs (I.base.tups b xs e),λb o xs e=>frzs b o xs (I.base.frzs b o xs e),λb ps e=>?_],?_,λx c e=>?_,?_,λx c e=>?_,λp hp=>?_,hok,I.len]
 ·exact keep b o (neL b o e) hb (neC b o e hx) (I.base.keep b o e n hb hx) (I.base.free b o e n hx)
 ·obtain⟨sl,e1⟩:=I.base.slot b o e n hb hx;obtain⟨sl',e2⟩:=slot b _ (neL b o e) hb (neC b o e hx) e1 (I.base.free b o e n hx);exact#[sl',e2]
 ·obtain⟨o',e1⟩:=I.base.there b o e hx;exact free b o' (neC b o e hx) e1 (I.base.free b o e n hx)
 ·obtain⟨o',e1⟩:=I.base.there b o e hx;exact there b o' (neC b o e hx) e1
 ·obtain⟨m1,e1⟩:=I.base.tbls b ps e;obtain⟨m2,e2⟩:=tbls b _ e1;exact#[m1++m2,by rw[e2,KQ]]
 ·obtain⟨m,hn,hl⟩:=I.loc;show#[m,ns m hn,λi x v e1 e2 e3=>?_]
  obtain⟨u,r,l⟩:=hl i x v e1 e2 e3;show#[u,r,?_];rcases l with l|⟨k,c,e,z⟩
  ·exact .inl l
  ·exact .inr #[k,c,e,cellK x c e _ z]
 ·obtain⟨v,z⟩:=I.cell x c e;exact#[v,cellK x c e v z]
 ·obtain⟨m,⟨o,_,_,ho,_⟩,_⟩:=I.loc;exact free _ o (λz=>(hch _ z).2.1 rfl) ho I.free
 ·obtain⟨v,o,ho,hd⟩:=I.cell x c e;exact free c o (λz=>(hch c z).2.2.1 x c e rfl) ho (I.freeC x c e)
 ·obtain⟨e,n,ne,nf,d⟩:=I.pin p hp;have nch:p.1∉ch:=λz=>(hch p.1 z).2.2.2 p hp rfl
  exact#[keep p.1 p.2 ne nf nch e n,free p.1 p.2 nch e n,ne,nf,d]
def Inv.un {t':EV}(I:Inv X J Y H s)(u:Un X.fs [] H H' s.heap h')(hok:HOk X.prog X.w H' h'):Inv X J Y H' { s with heap:=h',toks:=t' }:=by
 obtain⟨m,⟨o,es,ep,ho,r⟩,_⟩:=id I.loc;obtain⟨sl,hL⟩:=u.any ho I.free (by simp)
 exact I.step (g':=s.gens) (d':=s.drawn) (ch:=[]) (λ_ z=>nomatch z) (λb o _ hb _ e n=>u.keep b o e n hb (by simp)) (λb o _ hb _ e n=>u.slot b o e n hb (by simp)) (λb o _ e n=>u.free b o e n (by simp)) (λb o _ e=>u.there b o e (by simp)) u.tups u.frzs u.tbls (λm' hm=>by
  obtain⟨o',es',ep',ho',r'⟩:=hm;rw[ho]at ho'; cases ho'
  exact#[_,es',ep',hL,r']) hok I.bare
def Inv.call {g':FM Ke}{t':EV}{d':NE}{ch:EI EU}(I:Inv X J Y H s)(u:Un (mw X.stack) ch H H' s.heap h')(hok:HOk X.prog X.w H' h')(hg:Jp g')
  (hch:∀b∈ch,(b∈X.ex\/X.s₀.heap.objs.size<=b)/\b≠X.env.locals/\(∀x c,X.env.cells.lookup x=ba c->c≠b)/\∀p∈X.pn++J,p.1≠b) :
  Inv X J Y H' { s with heap:=h',gens:=g',drawn:=d',toks:=t' }:=by
 obtain⟨m,⟨o,es,ep,ho,r⟩,_⟩:=id I.loc;obtain⟨sl,hL⟩:=u.any ho I.free λz=>(hch _ z).2.1 rfl
 exact I.step (ch:=ch) hch (λb o hL hb hc e n=>u.keep b o e n (λz=>(Fc.mp (I.stkSub b z)).elim hL hb) hc) (λb o _ _ hc e n=>u.any e n hc) (λb o hc e n=>u.free b o e n hc) (λb o hc e=>u.there b o e hc) u.tups u.frzs u.tbls (λm' hm=>by
  obtain⟨o',es',ep',ho',r'⟩:=hm;rw[ho]at ho'; cases ho'
  exact#[_,es',ep',hL,r']) hok hg
def Inv.turned {t':EV}{it:EU}(I:Inv X J Y H s)(k:∀b o,b≠it->s.heap.get? b=ba o->h'.get? b=ba o)(hn:H it=gV)(hL:it≠X.env.locals)
  (h1:it∈X.ex\/X.s₀.heap.objs.size<=it) (h2:∀x c,X.env.cells.lookup x=ba c->c≠it) (h3:∀p∈X.pn++J,p.1≠it):Inv X J Y H { s with heap:=h',toks:=t' }:=by
 have nit:∀b u,H b=ba u->b≠it:=λb u e z=>by rw[z,hn]at e; cases e
 show I.step (g':=s.gens) (d':=s.drawn) (ch:=[it]) (λb hb=>?_) (λb o _ _ hc e _=>k b o (λz=>hc (by simp[z])) e) (λb o _ _ hc e _=>#[o.slots,k b o (λz=>hc (by simp[z])) e]) (λ_ _ _ _ n=>n)
  (λb o hc e=>#[o,k b o (λz=>hc (by simp[z])) e]) (λ_ _ e=>e) (λ_ _ _ e=>e) (λb ps e=>#[#[],by rw[e]; simp]) (λm hm=>?_) (λb u e=>?_) I.bare
 ·have e:b=it:=by simpa using hb
  subst e;exact#[h1,hL,h2,h3]
 ·obtain⟨o,es,ep,ho,r⟩:=hm;exact#[o,es,ep,k _ o (Ne.symm hL) ho,r]
 ·show(I.hok b u e).stay (λc v hc q=>k c v ?_ q) (λ_ q=>q) λ_ _ q=>q
  rcases hc with z|z
  ·rw[z]; exact nit b u e
  ·exact nit c _ z
def Inv.tok (I:Inv X J Y H s)(t:EV):Inv X J Y H { s with toks:=t }:=I.un (h':=s.heap) (t':=t) Un.refl I.hok
def Inv.kept {t':EV}(I:Inv X J Y H s)(k:∀b u,s.heap.get? b=ba u->h'.get? b=ba u):Inv X J Y H { s with heap:=h',toks:=t' }:=I.un (Un.kept k) (I.hok.kept k)
def Inv.laid {a:EU}{o:HO}{t':EV}(I:Inv X J Y H s)(k:∀b u,s.heap.get? b=ba u->h'.get? b=ba u)(hp:s.heap.objs.size<=a)(new:ObjOk X.prog X.w (aR H a o) h' a o) :
  Inv X J Y (aR H a o) { s with heap:=h',toks:=t' }:=I.un (Un.laid k hp (I.hok.fresh hp)) (I.hok.laid k hp new)
def Inv.write {x e:EU}{o:HO}{t':EV}(I:Inv X J Y H s)(mu:AQ (H x))(he:e=x\/H e=ba (.own x))(k:∀b u,b≠e->s.heap.get? b=ba u->h'.get? b=ba u)(heo:∃u,h'.get? e=ba u)
  (new:ObjOk X.prog X.w (aR H x o) h' x o):Inv X J Y (aR H x o) { s with heap:=h',toks:=t' }:=I.un (Un.write mu he k heo) (I.hok.write mu he k heo new)
def Inv.pins_of {J':EI (EU×Gm)}(I:Inv X J Y H s)(h:∀p∈J',s.heap.get? p.1=ba p.2/\H p.1=gV/\p.1≠X.env.locals/\p.1∉X.fs/\∀v,p.2.data≠.cell v):Inv X J' Y H s:=
 #[I.ok,I.os,I.bare,I.base,I.loc,I.cell,I.free,I.freeC,λp hp=>(FR.mp hp).elim (λz=>I.pin p (G0 _ z)) (h p),I.hok,I.len]
def kM {N:EI E3}(hN:N.Nodup){i j:EV}{x:E3}(a:N[i]?=ba x)(b:N[j]?=ba x):i=j:=by
 obtain⟨h1,e1⟩:=E9.mp a;obtain⟨h2,e2⟩:=E9.mp b;exact(LB hN).mp (e1.trans e2.symm)
def pg {tv:Np}{A:Fs}{E:EK->EN->Prop}{i:EV}{x:E3}{v:V}{u:EK}{Q:Ng->EN->Prop}(I:Inv X J Y H s)(hN:X.N.Nodup)(hi:X.N[i]?=ba x)(hx:uV X.env.scope x)(r:RelV v u)
  (h:∀s',Inv X J (Y.set i (ba v)) H s'->(∃a,GY a s.heap s'.heap/\(a=X.env.locals\/X.env.cells.lookup x=ba a))->Q () s') (hf:X.fn x=true\/X.env.scope.names.lookup x=ba .local):wpAny tv A (storeName X.env x u) Q E s:=by
 obtain⟨m,hn,hl⟩:=id I.loc;have hcls:(X.env.scope.kind==.class||(X.env.scope.kind==.module&&X.env.locals != X.env.globals))=false:=by rw[I.ok.kind]; rfl
 have hiσ:i < Y.length:=by rw[I.len]; exact(E9.mp hi).1
 have cne:=I.cne;have tracked:∀ {a:EU} {h':FN},(∃o,s.heap.get? a=ba o/\H a=gV)->GY a s.heap h'->HOk X.prog X.w H h':=λ{a h'} ha hs b ob e=>by
  obtain⟨_,_,hfree⟩:=ha;show(I.hok b ob e).stay (λc w' hc q=>(hs.2 c ?_).trans q) (λ_ q=>q) λ_ _ q=>q
  rintro rfl;rcases hc with rfl|hc
  ·rw[hfree]at e; cases e
  ·rw[hfree]at hc; cases hc
 rcases hx with hk|hk
 ·show wpAny_storeName_local hk hn (λh' hn' hs=>?_) hcls
  obtain⟨oL,_,_,hoL,_⟩:=id hn;show h _ #[I.ok,I.os,I.bare,#[λb o e n hb hx=>?_,λb o e n hb hx=>?_,I.base.free,λb o e hx=>?_,I.base.tups,I.base.frzs,I.base.tbls],#[_,hn',λj y v' e1 e2 e3=>?_],λy c e=>?_,I.free,I.freeC,λp hp=>?_,tracked #[oL,hoL,I.free] hs,by simpa using I.len] #[_,hs,.inl rfl]
  ·exact(hs.2 b (Fg (Fp (E4 e) I.ok.above))).trans (I.base.keep b o e n hb hx)
  ·obtain⟨sl,e1⟩:=I.base.slot b o e n hb hx;exact#[sl,(hs.2 b (Fg (Fp (E4 e) I.ok.above))).trans e1]
  ·obtain⟨o',e1⟩:=I.base.there b o e hx;exact#[o',(hs.2 b (Fg (Fp (E4 e) I.ok.above))).trans e1]
  ·by_cases hj:j=i
   ·subst hj;rw[hi]at e1; cases e1
    rw[JH hiσ]at e2;cases e2;exact#[u,r,.inl #[hk,by simp]]
   ·rw[Kf (Ne.symm hj)]at e2;obtain⟨u',r',q⟩:=hl j y v' e1 e2 e3;show#[u',r',?_];rcases q with⟨k,e⟩|⟨k,c,e,z⟩
    ·show .inl #[k,?_];have:y≠x:=λe=>hj (kM hN e1 (e ▸ hi))
     simp[this,e]
    ·exact .inr #[k,c,e,z.sameBut hs (cne y c e)]
  ·obtain⟨w',z⟩:=I.cell y c e;exact#[w',z.sameBut hs (cne y c e)]
  ·obtain⟨e,n,ne,nf,d⟩:=I.pin p hp;exact#[(hs.2 p.1 ne).trans e,n,ne,nf,d]
 ·have hfn:X.fn x=true:=by
   rcases hf with z|z
   ·exact z
   ·rw[z]at hk; cases hk
  obtain⟨c,hc⟩:=I.ok.has x (.inl hk);obtain⟨w',z⟩:=I.cell x c hc;show wpAny_storeName_cell I.ok.kind hk hc z (λh' hc' hs=>?_)
  obtain⟨oc,hoc,hocd⟩:=id z;show h { s with heap:=h' } #[I.ok,I.os,I.bare,#[λb o e n hb hx=>?_,λb o e n hb hx=>?_,I.base.free,λb o e hx=>?_,I.base.tups,I.base.frzs,I.base.tbls],#[m,hn.sameBut hs (Ne.symm (cne x c hc)),λj y v' e1 e2 e3=>?_],λy c' e=>?_,I.free,I.freeC,λp hp=>?_,tracked #[oc,hoc,I.freeC x c hc] hs,by simpa using I.len] #[c,hs,.inr hc]
  ·exact(hs.2 b (Fg (Fp (E4 e) (I.ok.cab x c hfn hc)))).trans (I.base.keep b o e n hb hx)
  ·obtain⟨sl,e1⟩:=I.base.slot b o e n hb hx;exact#[sl,(hs.2 b (Fg (Fp (E4 e) (I.ok.cab x c hfn hc)))).trans e1]
  ·obtain⟨o',e1⟩:=I.base.there b o e hx;exact#[o',(hs.2 b (Fg (Fp (E4 e) (I.ok.cab x c hfn hc)))).trans e1]
  ·by_cases hj:j=i
   ·subst hj;rw[hi]at e1; cases e1
    rw[JH hiσ]at e2;cases e2;exact#[u,r,.inr #[.inl hk,c,hc,hc']]
   ·rw[Kf (Ne.symm hj)]at e2;obtain⟨u',r',q⟩:=hl j y v' e1 e2 e3;show#[u',r',?_];rcases q with q|⟨k,c',e,z'⟩
    ·exact .inl q
    ·show .inr #[k,c',e,z'.sameBut hs ?_];rintro rfl;exact hj (kM hN e1 (I.ok.inj _ _ _ e hc ▸ hi))
  ·by_cases hcc:c'=c
   ·subst hcc; exact#[_,hc']
   ·obtain⟨w2,z2⟩:=I.cell y c' e;exact#[w2,z2.sameBut hs hcc]
  ·obtain⟨e,n,ne,nf,d⟩:=I.pin p hp;show#[(hs.2 p.1 ?_).trans e,n,ne,nf,d];intro q;rw[q,hoc]at e;have q':oc=p.2:=Gv e;exact d w' (by rw[<- q']; exact hocd)
def eT {tv:Np}{A:Fs}{E:EK->EN->Prop}{i:EV}{x:E3}{v:V}{u:EK}{Q:Ng->EN->Prop}(I:Inv X J Y H s)(hN:X.N.Nodup)(hi:X.N[i]?=ba x)(hx:uV X.env.scope x)(r:RelV v u)
  (h:∀s',Inv X J (Y.set i (ba v)) H s'->Q () s') (hf:X.fn x=true\/X.env.scope.names.lookup x=ba .local):wpAny tv A (storeName X.env x u) Q E s:=
 pg I hN hi hx r (λs' I' _=>h s' I') hf
def Inv.call' {s':EN}{ch:EI EU}(I:Inv X J Y H s)(ho:s'.os=s.os)(u:Un (mw X.stack) ch H H' s.heap s'.heap)(hok:HOk X.prog X.w H' s'.heap)(hg:Jp s'.gens)
  (hch:∀b∈ch,(b∈X.ex\/X.s₀.heap.objs.size<=b)/\b≠X.env.locals/\(∀x c,X.env.cells.lookup x=ba c->c≠b)/\∀p∈X.pn++J,p.1≠b):Inv X J Y H' s':=by
 obtain⟨h',g',d',t',o'⟩:=s';have e:o'=s.os:=ho;subst e;exact I.call (g':=g') (t':=t') (d':=d') u hok hg hch
end
noncomputable abbrev XK:=EK->EO EU->Hp->Prop
noncomputable abbrev St:=EI (EO V)
noncomputable abbrev VK:=V->Hp->Prop
noncomputable abbrev TE:=St->Hp->VK->Prop
noncomputable abbrev TT:=St->Hp->(Fk->Hp->Prop)->Prop
noncomputable abbrev TA:=St->Hp->(EI V->Hp->Prop)->Prop
structure Ends where
 nx:St->Hp->Prop
 rt:VK
 bk:St->Hp->Prop:=λ_ _=>F8
 ct:St->Hp->Prop:=λ_ _=>F8
noncomputable abbrev TS:=Ends->St->Hp->Prop
inductive EP (X:Cx)(J:EI (EU×Gm))(Y:St)(Q:VK)(u:EK)(s':EN):Prop
 | mk (v:V) (H':Hp) (i:Inv X J Y H' s') (r:RelV v u) (q:Q v H'):EP X J Y Q u s'
inductive TP (X:Cx)(J:EI (EU×Gm))(Y:St)(Q:Fk->Hp->Prop)(b:Fk)(s':EN):Prop
 | mk (H':Hp) (i:Inv X J Y H' s') (q:Q b H'):TP X J Y Q b s'
inductive AP (X:Cx)(J:EI (EU×Gm))(Y:St)(Q:EI V->Hp->Prop)(us:EI EK)(s':EN):Prop
 | mk (vs:EI V) (H':Hp) (i:Inv X J Y H' s') (r:Vals vs us) (q:Q vs H'):AP X J Y Q us s'
abbrev SP (X:Cx)(J:EI (EU×Gm))(D:Ends)(f:Flow)(s':EN):Prop:=
 match f with
 | .next=>∃Y' H',Inv X J Y' H' s'/\D.nx Y' H'
 | .brk=>∃Y' H',Inv X J Y' H' s'/\D.bk Y' H'
 | .cont=>∃Y' H',Inv X J Y' H' s'/\D.ct Y' H'
 | .ret u=>∃v Y' H',Inv X J Y' H' s'/\RelV v u/\D.rt v H'
abbrev PE (X:Cx)(e:Fa)(t:TE):Prop:=
 ∀(J:EI (EU×Gm)) (s:EN) (Y:St) (H:Hp) (Q:VK),Inv X J Y H s->t Y H Q->wpAny (model X.prog X.w) X.A (eval e X.env) (EP X J Y Q) X.xe s
abbrev PT (X:Cx)(e:Fa)(t:TT):Prop:=
 ∀(J:EI (EU×Gm)) (s:EN) (Y:St) (H:Hp) (Q:Fk->Hp->Prop),Inv X J Y H s->t Y H Q->wpAny (model X.prog X.w) X.A (isTrue e X.env (eval e X.env)) (TP X J Y Q) X.xe s
abbrev PW (X:Cx)(e:Fa)(t:TT):Prop:=
 ∀(whole:MR EK) (J:EI (EU×Gm)) (s:EN) (Y:St) (H:Hp) (Q:Fk->Hp->Prop),Inv X J Y H s->t Y H Q->wpAny (model X.prog X.w) X.A (isTrue e X.env whole) (TP X J Y Q) X.xe s
def PW.pt {X:Cx}{e:Fa}{t:TT}(h:PW X e t):PT X e t:=h _
abbrev PA (X:Cx)(es:EI Fa)(t:TA):Prop:=
 ∀(pos:G5) (J:EI (EU×Gm)) (s:EN) (Y:St) (H:Hp) (Q:EI V->Hp->Prop),Inv X J Y H s->t Y H Q->wpAny (model X.prog X.w) X.A (spliced (backTo pos (starEach es X.env))) (AP X J Y Q) X.xe s
abbrev PS (X:Cx)(st:Hv)(t:TS):Prop:=
 ∀(J:EI (EU×Gm)) (s:EN) (Y:St) (H:Hp) (D:Ends),Inv X J Y H s->t D Y H->wpAny (model X.prog X.w) X.A (exec st X.env) (SP X J D) X.xe s
abbrev PSs (X:Cx)(st:EI Hv)(t:TS):Prop:=
 ∀(J:EI (EU×Gm)) (s:EN) (Y:St) (H:Hp) (D:Ends),Inv X J Y H s->t D Y H->wpAny (model X.prog X.w) X.A (execs st X.env) (SP X J D) X.xe s
def aK {α:Type}{t:MR α}{Q Q':α->EN->Prop}{tv:Np}{A:Fs}{E:EK->EN->Prop}{s:EN}(h:wpAny tv A t Q E s)(hQ:∀a s,Q a s->Q' a s):wpAny tv A t Q' E s:=Gz h hQ λ_ _ x=>x
section
variable{X:Cx}
def EH {a b:Fa}{ta tb:TE}(ha:PE X a ta)(hb:PE X b tb){J:EI (EU×Gm)}{s:EN}{Y:St}{H:Hp}{R:V->V->Hp->Prop}(I:Inv X J Y H s)(h:ta Y H λx H1=>tb Y H1 λy H2=>R x y H2)
  {α:Type} {Q:α->EN->Prop} {f:EK->EK->MR α}
  (hf:∀v u s2 x y H2,Inv X J Y H2 s2->RelV x v->RelV y u->R x y H2->wpAny (model X.prog X.w) X.A (f v u) Q X.xe s2) :
  wpAny (model X.prog X.w) X.A (eval a X.env) (λv s₁=>wpAny (model X.prog X.w) X.A (eval b X.env) (λu s₂=>wpAny (model X.prog X.w) X.A (f v u) Q X.xe s₂) X.xe s₁) X.xe s:=by
 show aK (ha J s Y H _ I h) λv s1 #[x,H1,I1,r1,q1]=>?_
 show aK (hb J s1 Y H1 _ I1 q1) λu s2 #[y,H2,I2,r2,q2]=>?_
 exact hf v u s2 x y H2 I2 r1 r2 q2
abbrev yD (i:EV):TE:=λY H Q=>∃v,Y[i]?=ba (ba v)/\Q v H
abbrev tC (v:V):TE:=λ_ H Q=>Q v H
def qP {i:EV}{x:E3}{pos:G5}(hN:X.N[i]?=ba x)(hv:CN X.env.scope x)(hd:(x==("__debug__" : E3))=false:=by decide)(hcd:(x==("__classdict__" : E3))=false:=by decide):PE X (.Name x pos) (yD i):=by
 intro J s Y H Q I h;obtain⟨v,e,h⟩:=h;obtain⟨m,hn,hl⟩:=I.loc;obtain⟨u,r,l⟩:=hl i x v hN e hv;have fin:EP X J Y Q u s:=#[v,H,I,r,h];rcases l with⟨hk,hm⟩|⟨hk,c,hc,hcell⟩
 ·exact L7 (wpAny_loadName_local I.ok.kind hk hn hm fin) hd
 ·rcases hk with hk|hk
  ·exact L7 (wpAny_loadName_cell I.ok.kind hk hc hcell fin) hd
  ·exact L7 (wpAny_loadName_free I.ok.kind hk hc hcell fin hcd) hd
def qQ {i j pos}:PE X (.Constant (.int i) j pos) (tC (.int i)):=λ_ _ _ H _ I h=>wpAny_Constant_int #[.int i,H,I.tok _,#[_,rfl],h]
def xP {b j pos}:PE X (.Constant (.bool b) j pos) (tC (.bl b)):=λ_ _ _ H _ I h=>Constant_bool #[.bl b,H,I,rfl,h]
def qR {j pos}:PE X (.Constant .none j pos) (tC .non):=λ_ _ _ H _ I h=>Constant_none #[.non,H,I,rfl,h]
def qS {x j pos}:PE X (.Constant (.str x) j pos) (tC (.str x)):=λ_ _ _ H _ I h=>KR #[.str x,H,I.tok _,#[_,rfl],h]
abbrev Gl (X:Cx)(x:E3):Prop:=X.env.kindOf x=ba .globalImplicit
def jJ {E:EK->EN->Prop}{J:EI (EU×Gm)}{s:EN}{Y:St}{H:Hp}{x:E3}{u:EK}{pos:G5}{Q:EK->EN->Prop}(I:Inv X J Y H s)(hg:Gl X x)(hm:X.mg x=ba u)(h:Q u s)
  (hd:(x==("__debug__" : E3))=false:=by decide):wpAny (model X.prog X.w) X.A (eval (.Name x pos) X.env) Q E s:=
 IY I.ok.kind hg (Calls.loadGlobal_global (by rw[I.ok.glob]; exact I.mod.glob.keeps I.bk) hm h) hd
def dO {E:EK->EN->Prop}{J:EI (EU×Gm)}{s:EN}{Y:St}{H:Hp}{x:E3}{u:EK}{pos:G5}{Q:EK->EN->Prop}(I:Inv X J Y H s)(hg:Gl X x)(hm:X.mg x=gV)(hv:bootBuiltins x=ba u)(h:Q u s)
  (hn:x≠"__name__":=by decide) (hd:(x==("__debug__" : E3))=false:=by decide):wpAny (model X.prog X.w) X.A (eval (.Name x pos) X.env) Q E s:=by
 obtain⟨mb,h1,h2⟩:=I.mod.blt;exact IY I.ok.kind hg (Calls.loadGlobal_builtin (by rw[I.ok.glob]; exact I.mod.glob.keeps I.bk) hm (by rw[I.ok.blt]; exact h1.keeps I.bk) ((h2 x hn).trans hv) h) hd
def uW {x:E3}{v:V}{u:EK}{pos:G5}(hg:Gl X x)(hm:X.mg x=ba u)(r:RelV v u)(hd:(x==("__debug__" : E3))=false:=by decide):PE X (.Name x pos) (tC v):=
 λ_ _ _ H _ I h=>jJ I hg hm #[v,H,I,r,h] hd
def uX {x:E3}{v:V}{u:EK}{pos:G5}(hg:Gl X x)(hm:X.mg x=gV)(hv:bootBuiltins x=ba u)(r:RelV v u)(hn:x≠"__name__":=by decide)(hd:(x==("__debug__" : E3))=false:=by decide):PE X (.Name x pos) (tC v):=
 λ_ _ _ H _ I h=>dO I hg hm hv #[v,H,I,r,h] hn hd
variable{a b:Fa}{ta tb:TE}{pos:G5}
variable{tA tB':TT}{aY:EI Fa}
abbrev AR (t u:TT):TT:=λY H Q=>t Y H λc H1=>if c=true then u Y H1 Q else Q false H1
abbrev Ea (t u:TT):TT:=λY H Q=>t Y H λc H1=>if c=true then Q true H1 else u Y H1 Q
abbrev C3 (t:TT):TT:=λY H Q=>t Y H λc H1=>Q (!c) H1
def uY (ha:PT X a tA):PW X (.BoolOp .And [a] pos) tA:=by
 intro wh J s Y H Q I h;show isTrue_and (aK (ha J s Y H Q I h) λc s1 e=>?_)
 cases c with
 | true=>exact isTrue_and_nil e
 | false=>exact e
def yE (ha:PT X a tA):PW X (.BoolOp .Or [a] pos) tA:=by
 intro wh J s Y H Q I h;show isTrue_or (aK (ha J s Y H Q I h) λc s1 e=>?_)
 cases c with
 | false=>exact isTrue_or_nil e
 | true=>exact e
def yF (ha:PT X a tA)(hb:PW X (.BoolOp .And (b::aY) pos) tB'):PW X (.BoolOp .And (a::b::aY) pos) (AR tA tB'):=by
 intro wh J s Y H Q I h;show isTrue_and (aK (ha J s Y H _ I h) λc s1 #[H1,I1,q1]=>?_)
 cases c with
 | true=>exact hb wh J s1 Y H1 Q I1 q1
 | false=>exact#[H1,I1,q1]
def AS (ha:PT X a tA)(hb:PW X (.BoolOp .Or (b::aY) pos) tB'):PW X (.BoolOp .Or (a::b::aY) pos) (Ea tA tB'):=by
 intro wh J s Y H Q I h;show isTrue_or (aK (ha J s Y H _ I h) λc s1 #[H1,I1,q1]=>?_)
 cases c with
 | true=>exact#[H1,I1,q1]
 | false=>exact hb wh J s1 Y H1 Q I1 q1
def yG (ha:PT X a tA):PT X (.UnaryOp .Not a pos) (C3 tA):=by
 intro J s Y H Q I h;exact isTrue_not (aK (ha J s Y H (λc H1=>Q (!c) H1) I h) λ_ _ #[H1,i,q]=>#[H1,i,q])
abbrev AT (ta tb:TE):TE:=λY H Q=>ta Y H λx H1=>∃c,x=.bl c/\if c=true then tb Y H1 Q else Q (.bl false) H1
abbrev C4 (ta tb:TE):TE:=λY H Q=>ta Y H λx H1=>∃c,x=.bl c/\if c=true then Q (.bl true) H1 else tb Y H1 Q
abbrev AU (ta:TE):TE:=λY H Q=>ta Y H λx H1=>∃c,x=.bl c/\Q (.bl (!c)) H1
def yH {op}{t:TE}(h:PE X a t):PE X (.BoolOp op [a] pos) t:=λJ s Y H Q I hw=>BoolOp_one (h J s Y H Q I hw)
def yI (ha:PE X a ta)(hb:PE X (.BoolOp .And (b::aY) pos) tb):PE X (.BoolOp .And (a::b::aY) pos) (AT ta tb):=by
 intro J s Y H Q I h;show BoolOp_and (aK (ha J s Y H _ I h) λv s1 #[x,H1,I1,r1,q1]=>?_)
 obtain⟨c,rfl,q1⟩:=q1;cases r1;show Gj ?_;cases c with
 | true=>exact hb J s1 Y H1 Q I1 q1
 | false=>exact#[.bl false,H1,I1,rfl,q1]
def AV (ha:PE X a ta)(hb:PE X (.BoolOp .Or (b::aY) pos) tb):PE X (.BoolOp .Or (a::b::aY) pos) (C4 ta tb):=by
 intro J s Y H Q I h;show BoolOp_or (aK (ha J s Y H _ I h) λv s1 #[x,H1,I1,r1,q1]=>?_)
 obtain⟨c,rfl,q1⟩:=q1;cases r1;show Gj ?_;cases c with
 | false=>exact hb J s1 Y H1 Q I1 q1
 | true=>exact#[.bl true,H1,I1,rfl,q1]
def yJ (ha:PE X a ta):PE X (.UnaryOp .Not a pos) (AU ta):=by
 intro J s Y H Q I h;show UnaryOp_ (aK (ha J s Y H _ I h) λv s1 #[x,H1,I1,r1,q1]=>?_)
 obtain⟨c,rfl,q1⟩:=q1;cases r1;exact not_of (Gj #[.bl (!c),H1,I1,rfl,q1])
abbrev Et (t:TT)(ta tb:TE):TE:=λY H Q=>t Y H λc H1=>if c=true then ta Y H1 Q else tb Y H1 Q
def qT {c:Fa}(hc:PT X c tA)(ha:PE X a ta)(hb:PE X b tb):PE X (.IfExp c a b pos) (Et tA ta tb):=by
 intro J s Y H Q I h;show wpAny_IfExp (aK (hc J s Y H _ I h) λd s1 #[H1,I1,q1]=>?_)
 cases d with
 | true=>exact ha J s1 Y H1 Q I1 q1
 | false=>exact hb J s1 Y H1 Q I1 q1
end
abbrev SqL (K:EW)(H:Hp)(a:EU)(xs:EI V):Prop:=
 Rd H a (.lst xs)\/
  ∃(o:Gm) (its:FM EK) (n:EV),K.lookup a=ba o/\o.cls=.type "list"/\o.dict=gV/\o.data=.seq its n/\its.size<=sizeLine/\Vals xs its.toList
abbrev SqT (K:EW)(H:Hp)(a:EU)(xs:EI V):Prop:=
 Rd H a (.tup xs)\/
  ∃(o:Gm) (its:FM EK) (n:EV),K.lookup a=ba o/\o.cls=.type "tuple"/\o.dict=gV/\o.data=.seq its n/\its.size<=sizeLine/\Vals xs its.toList
abbrev C5:EK->EO V
 | .none=>ba .non
 | .bool b=>ba (.bl b)
 | .int i _=>ba (.int i)
 | .str x _=>ba (.str x)
 | .bytes b _=>ba (.byt b)
 | .float b _=>ba (.flt b)
 | .ref a=>ba (.ref a)
 | .type n=>ba (.ty n)
 | _=>gV
def RelV.abs {x:V}{u:EK}(r:RelV x u):C5 u=ba x:=by
 cases x with
 | non=>cases r; rfl
 | bl _=>cases r; rfl
 | int _=>obtain⟨t,rfl⟩:=r; rfl
 | str _=>obtain⟨t,rfl⟩:=r; rfl
 | byt _=>obtain⟨t,rfl⟩:=r; rfl
 | flt _=>obtain⟨t,rfl⟩:=r; rfl
 | ref _=>cases r; rfl
 | ty _=>cases r; rfl
def RelV.inj {x y:V}{u:EK}(r:RelV x u)(q:RelV y u):x=y:=Gv (r.abs.symm.trans q.abs)
def Vals.inj:∀ {xs ys:EI V} {us:EI EK},Vals xs us->Vals ys us->xs=ys
 | _,_,_,.nil,.nil=>rfl
 | _,_,_,.cons r t,.cons r' t'=>by rw[r.inj r',Vals.inj t t']
section
variable{X:Cx}{J:EI (EU×Gm)}{Y:St}{H:Hp}{s:EN}{a:EU}{xs ys:EI V}
def SqL.of {K:EW}(h:H a=ba (.lst xs)):SqL K H a xs:=.inl (.inl h)
def SqT.of {K:EW}(h:H a=ba (.tup xs)):SqT K H a xs:=.inl (.inl h)
def Inv.list (I:Inv X J Y H s)(h:SqL X.K H a xs):∃its:EI EK,Vals xs its/\PlainL s.heap a its.toArray/\xs.length<=sizeLine:=by
 rcases h with h|⟨o,its,n,hk,hc,hd,hs,hz,r⟩
 ·obtain⟨z,its,n,r,e⟩:=h.ok I.hok;exact#[its,r,#[_,n,e,rfl,rfl,rfl],z]
 ·show#[its.toList,r,#[o,n,I.kIn a o hk,hc,hd,by simpa using hs],?_]
  have e:=r.length;simp only[Fe]at e;omega
def Inv.tuple (I:Inv X J Y H s)(h:SqT X.K H a xs):∃its:EI EK,Vals xs its/\La s.heap a its.toArray/\xs.length<=sizeLine:=by
 rcases h with h|⟨o,its,n,hk,hc,hd,hs,hz,r⟩
 ·obtain⟨z,its,r,p⟩:=h.ok I.hok;exact#[its,r,p,z.1]
 ·show#[its.toList,r,#[o,I.kIn a o hk,hc,n,by simpa using hs],?_]
  have e:=r.length;simp only[Fe]at e;omega
def Inv.list_inj (I:Inv X J Y H s)(h:SqL X.K H a xs)(h':SqL X.K H a ys):xs=ys:=by
 obtain⟨its,r,⟨o,n,e,_,_,d⟩,_⟩:=I.list h;obtain⟨its',r',⟨o',n',e',_,_,d'⟩,_⟩:=I.list h';rw[e]at e'; cases e'
 rw[d]at d';injection d' with d1 _
 have:its=its':=by simpa using congrArg MS d1
 subst this;exact r.inj r'
def Inv.tuple_inj (I:Inv X J Y H s)(h:SqT X.K H a xs)(h':SqT X.K H a ys):xs=ys:=by
 obtain⟨its,r,⟨o,e,_,n,d⟩,_⟩:=I.tuple h;obtain⟨its',r',⟨o',e',_,n',d'⟩,_⟩:=I.tuple h';rw[e]at e'; cases e'
 rw[d]at d';injection d' with d1 _
 have:its=its':=by simpa using congrArg MS d1
 subst this;exact r.inj r'
end
noncomputable abbrev Cx.wish (X:Cx)(E:EK->EN->Prop):Cx:={ X with xe:=E }
noncomputable abbrev Cx.nox (X:Cx):Cx:=X.wish λ_ _=>F8
def Cx.Ok.wish {X:Cx}(ok:X.Ok)(E:EK->EN->Prop):(X.wish E).Ok:=
 #[ok.mod,ok.kind,ok.glob,ok.blt,ok.above,ok.inj,ok.has,ok.cab,ok.hd,ok.frames,ok.stk,ok.exf,ok.bs,ok.bsz,ok.noex,ok.exfs,ok.funs,ok.frf]
def Cx.Ok.unwish {X:Cx}{E:EK->EN->Prop}(ok:(X.wish E).Ok):X.Ok:=
 #[ok.mod,ok.kind,ok.glob,ok.blt,ok.above,ok.inj,ok.has,ok.cab,ok.hd,ok.frames,ok.stk,ok.exf,ok.bs,ok.bsz,ok.noex,ok.exfs,ok.funs,ok.frf]
section
variable{X:Cx}{J:EI (EU×Gm)}{Y:St}{H:Hp}{s:EN}{E:EK->EN->Prop}
def Inv.wish (I:Inv X J Y H s)(E:EK->EN->Prop):Inv (X.wish E) J Y H s:=#[I.ok.wish E,I.os,I.bare,I.base,I.loc,I.cell,I.free,I.freeC,I.pin,I.hok,I.len]
def Inv.unwish (I:Inv (X.wish E) J Y H s):Inv X J Y H s:=#[I.ok.unwish,I.os,I.bare,I.base,I.loc,I.cell,I.free,I.freeC,I.pin,I.hok,I.len]
def SP.unwish {D:Ends}{f:Flow}{s':EN}(h:SP (X.wish E) J D f s'):SP X J D f s':=by
 cases f with
 | next=>obtain⟨Y',H',I,q⟩:=h; exact#[Y',H',I.unwish,q]
 | brk=>obtain⟨Y',H',I,q⟩:=h; exact#[Y',H',I.unwish,q]
 | cont=>obtain⟨Y',H',I,q⟩:=h; exact#[Y',H',I.unwish,q]
 | ret u=>obtain⟨v,Y',H',I,r,q⟩:=h; exact#[v,Y',H',I.unwish,r,q]
def PSs.nox {st:EI Hv}{t:TS}(h:PSs X.nox st t):PSs X st t:=λJ s Y H D I hw=>
 Gz (h J s Y H D (I.wish _) hw) (λ_ _ q=>q.unwish) λ_ _ z=>F8.elim z
end
section
variable{X:Cx}{st:Hv}{aY:EI Hv}{t u:TS}{e:Fa}{te:TE}{pos:G5}
abbrev qU:TS:=λD Y H=>D.nx Y H
abbrev C6 (t u:TS):TS:=λD Y H=>t { D with nx:=u D } Y H
def uZ:PSs X [] qU:=λ_ _ Y H _ I h=>JT #[Y,H,I,h]
def qV (h1:PS X st t)(h2:PSs X aY u):PSs X (st::aY) (C6 t u):=by
 intro J s Y H D I h;show wpAny_execs_cons (aK (h1 J s Y H { D with nx:=u D } I h) λf s1 q=>?_)
 cases f with
 | next=>
  obtain⟨Y',H',I',q⟩:=q;exact h2 J s1 Y' H' D I' q
 | ret v=>exact q
 | brk=>exact q
 | cont=>exact q
abbrev yK:TS:=λD Y H=>D.bk Y H
abbrev AW:TS:=λD Y H=>D.ct Y H
def u4:PS X (.Pass pos) qU:=λ_ _ Y H _ I h=>wpAny_Pass #[Y,H,I,h]
def qW:PS X (.Break pos) yK:=λ_ _ Y H _ I h=>wpAny_Break #[Y,H,I,h]
def kN:PS X (.Continue pos) AW:=λ_ _ Y H _ I h=>wpAny_Continue #[Y,H,I,h]
def Inv.quiet {J:EI (EU×Gm)}{Y:St}{H:Hp}{s:EN}(I:Inv X J Y H s):interactive X.env=false:=by simp[interactive,I.ok.kind]
def yL {x j pos pos'}:PS X (.Expr (.Constant (.str x) j pos) pos') qU:=λ_ s Y H _ I h=>wpAny_Expr (KR (show SP X _ _ .next { s with toks:=s.toks+1 } from#[Y,H,I.tok _,h])) I.quiet
abbrev AX (te:TE):TS:=λD Y H=>te Y H λ_ H1=>D.nx Y H1
def u5 (he:PE X e te)(hs:swapsWith e gV pos.line X.env=pure false:=by rfl):PS X (.Expr e pos) (AX te):=by
 intro J s Y H D I h;exact wpAny_Expr_any (aK (he J s Y H _ I h) λv s1 #[x,H1,I1,r1,q1]=>#[Y,H1,I1,q1]) I.quiet hs
abbrev C7 (te:TE):TS:=λD Y H=>te Y H D.rt
def yM (he:PE X e te):PS X (.Return (ba e) pos) (C7 te):=by
 intro J s Y H D I h;exact wpAny_Return_some (aK (he J s Y H _ I h) λv s1 #[x,H1,I1,r1,q1]=>#[x,Y,H1,I1,r1,q1])
abbrev AY:TS:=λD _ H=>D.rt .non H
def u6:PS X (.Return gV pos) AY:=λ_ _ Y H _ I h=>wpAny_Return_none #[.non,Y,H,I,rfl,h]
abbrev C8 (c:TT)(t u:TS):TS:=λD Y H=>c Y H λb H1=>if b=true then t D Y H1 else u D Y H1
def AZ {c:Fa}{a b:EI Hv}{tc:TT}(hc:PT X c tc)(ha:PSs X a t)(hb:PSs X b u):PS X (.If c a b pos) (C8 tc t u):=by
 intro J s Y H D I h;show wpAny_If (aK (hc J s Y H _ I h) λd s1 #[H1,I1,q1]=>?_)
 cases d with
 | true=>exact ha J s1 Y H1 D I1 q1
 | false=>exact hb J s1 Y H1 D I1 q1
end
noncomputable abbrev TG:=V->St->Hp->(St->Hp->Prop)->Prop
noncomputable abbrev yN:=EI V->St->Hp->(St->Hp->Prop)->Prop
abbrev PG (X:Cx)(target:Fa)(t:TG):Prop:=
 ∀(J:EI (EU×Gm)) (s:EN) (Y:St) (H:Hp) (v:V) (u:EK) (Q:St->Hp->Prop),Inv X J Y H s->RelV v u->t v Y H Q->
  wpAny (model X.prog X.w) X.A (assign target X.env u) (λ_ s'=>∃Y' H',Inv X J Y' H' s'/\Q Y' H') X.xe s
abbrev A6 (X:Cx)(ts:EI Fa)(t:yN):Prop:=
 ∀(J:EI (EU×Gm)) (s:EN) (Y:St) (H:Hp) (vs:EI V) (us:EI EK) (Q:St->Hp->Prop),Inv X J Y H s->Vals vs us->t vs Y H Q->
  wpAny (model X.prog X.w) X.A (assignInOrder ((assignEach ts X.env).map (·.2)) us) (λ_ s'=>∃Y' H',Inv X J Y' H' s'/\Q Y' H') X.xe s
noncomputable abbrev yO:=V->V->V->Hp->(Hp->Prop)->Prop
abbrev yP (X:Cx)(t:yO):Prop:=
 ∀(J:EI (EU×Gm)) (s:EN) (Y:St) (H:Hp) (o i v:V) (ov iv u:EK) (Q:Hp->Prop),Inv X J Y H s->RelV o ov->RelV i iv->RelV v u->t o i v H Q->
  wpAny (model X.prog X.w) X.A (setItem ov iv u) (λ_ s'=>∃H',Inv X J Y H' s'/\Q H') X.xe s
section
variable{X:Cx}{pos:G5}
abbrev A7 (i:EV):TG:=λv Y H Q=>Q (Y.set i (ba v)) H
def nJ {i:EV}{x:E3}(hN:X.N.Nodup)(hi:X.N[i]?=ba x)(hx:uV X.env.scope x)(hf:X.fn x=true\/X.env.scope.names.lookup x=ba .local):PG X (.Name x pos) (A7 i):=by
 intro J s Y H v u Q I r h;exact Lc (eT I hN hi hx r (λs' I'=>#[_,H,I',h]) hf)
abbrev C9:yN:=λvs Y H Q=>vs=[]/\Q Y H
abbrev Ba (t:TG)(u:yN):yN:=λvs Y H Q=>∃v r,vs=v::r/\t v Y H λY' H'=>u r Y' H' Q
def u7:A6 X [] C9:=by
 intro J s Y H vs us Q I r h;obtain⟨e,h⟩:=h;subst e;cases r;exact Ld #[Y,H,I,h]
def qX {e:Fa}{es:EI Fa}{t:TG}{u:yN}(h1:PG X e t)(h2:A6 X es u)
  (hs:(assignEach (e::es) X.env).map (·.2)=assign e X.env::(assignEach es X.env).map (·.2):=by rfl):A6 X (e::es) (Ba t u):=by
 intro J s Y H vs us Q I r h;obtain⟨v,vr,e1,h⟩:=h;subst e1;cases r with
 | cons r rr=>
  rw[hs];show IZ (aK (h1 J s Y H _ _ _ I r h) λ_ s1 #[Y1,H1,I1,q1]=>?_)
  exact h2 J s1 Y1 H1 _ _ Q I1 rr q1
abbrev Da (K:EW)(n:EV)(t:yN):TG:=λv Y H Q=>∃a xs,v=.ref a/\SqT K H a xs/\xs.length=n/\t xs Y H Q
def yQ {es:EI Fa}{k:EV}{t:yN}{n:EV}(hc:X.calm=true)(h:A6 X es t)
  (hn:(assignEach es X.env).length=n:=by rfl) (hst:(assignEach es X.env).findIdx? (·.1)=gV:=by rfl):PG X (.Tuple es k pos) (Da X.K n t):=by
 intro J s Y H v u Q I r hw;obtain⟨a,xs,e1,hq,hl,hw⟩:=hw;subst e1;cases r;obtain⟨its,rv,ht,hz⟩:=I.tuple hq;show assign_Tuple_tuple (I.ok.hd hc) ht (by simp[hn,<- hl,rv.length]) hst λh' hx=>?_
 have I1:Inv X J Y H { s with heap:=h' }:=I.kept (t':=s.toks) λb o e=>hx b o (Fg (E4 e)) e
 exact h J _ Y H xs _ Q I1 (by simpa using rv) hw
abbrev Db (to ti:TE)(t:yO):TG:=λv Y H Q=>to Y H λo H1=>ti Y H1 λi H2=>t o i v H2 λH3=>Q Y H3
def yR {o i:Fa}{to ti:TE}{t:yO}(ho:PE X o to)(hi:PE X i ti)(hs:yP X t)
  (ha:∀v,assign (.Subscript o i pos) X.env v=(do
   let ov <- holding [v] (eval o X.env)
   let iv <- holding [v,ov] (eval i X.env)
   standAt pos
   holding [v,ov,iv] (setItem ov iv v)
   release [v,ov,iv] []):=by intro _; rfl):PG X (.Subscript o i pos) (Db to ti t):=by
 intro J s Y H v u Q I r h;rw[ha];show EJ (Ga (aK (ho J s Y H _ I h) λov s1 #[x,H1,I1,r1,q1]=>?_))
 show EJ (Ga (aK (hi J s1 Y H1 _ I1 q1) λiv s2 #[y,H2,I2,r2,q2]=>?_))
 show EJ (IM (EJ (Ga (aK (hs J s2 Y H2 x y v ov iv u _ I2 r1 r2 r q2) λ_ s3 #[H3,I3,q3]=>?_))))
 exact wpAny_release #[Y,H3,I3,q3]
abbrev Dc (te:TE)(g:TG):TS:=λD Y H=>te Y H λx H1=>g x Y H1 D.nx
def yS {tg e:Fa}{te:TE}{g:TG}(he:PE X e te)(hg:PG X tg g)(hs:swapsWithSole [tg] e pos.line X.env=pure false:=by rfl)(hw:swappedStores [tg] e X.env=pure gV:=by rfl)
  (h1:(assignEach [tg] X.env).map (·.2)=[assign tg X.env]:=by rfl):PS X (.Assign [tg] e pos) (Dc te g):=by
 intro J s Y H D I h;show wpAny_Assign_stores (aK (he J s Y H _ I h) λv s1 #[x,H1,I1,r1,q1]=>?_) hs hw
 rw[h1];exact aK (hg J s1 Y H1 x v _ I1 r1 q1) λ_ s2 q=>q
abbrev De (i j:EV)(ta:TA):TS:=λD Y H=>ta Y H λvs H1=>∃v w,vs=[v,w]/\D.nx ((Y.set i (ba v)).set j (ba w)) H1
def yT {i j:EV}{x y:E3}{a b:Fa}{ta:TA}{px py pt:G5}{kt k2 pt2}(hc:X.calm=true)(hN:X.N.Nodup)(hi:X.N[i]?=ba x)(hj:X.N[j]?=ba y)(hij:i≠j)
  (hx:X.env.scope.names.lookup x=ba .local) (hy:X.env.scope.names.lookup y=ba .local) (ha:PA X [a,b] ta)
  (hw:swappedStores [.Tuple [.Name x px,.Name y py] kt pt] (.Tuple [a,b] k2 pt2) X.env=pure (ba [x,y]))
  (hs:swapsWithSole [.Tuple [.Name x px,.Name y py] kt pt] (.Tuple [a,b] k2 pt2) pos.line X.env=pure false:=by rfl) :
  PS X (.Assign [.Tuple [.Name x px,.Name y py] kt pt] (.Tuple [a,b] k2 pt2) pos) (De i j ta):=by
 intro J s Y H D I h;rw[exec_Assign_arm];show EJ (IM ?_);rw[hs];show EJ (ET ?_);rw[FJ #v[]]
 show EJ (Tuple_ (aK (ha _ J s Y H _ I h) λus s1 #[vs,H1,I1,r1,q1]=>?_))
 obtain⟨v,w,e1,q1⟩:=q1;subst e1;obtain⟨u1,u2,rfl,rv,rw'⟩ : ∃u1 u2,us=[u1,u2]/\RelV v u1/\RelV w u2:=by
  cases r1 with
  | cons p q=>
   cases q with
   | cons p' q'=>
    cases q';exact#[_,_,rfl,p,p']
 show FW ?_ (by change 2<=sizeLine; decide)
 have I2:Inv X J Y H1 { s1 with heap:=s1.heap.push { cls:=.type "tuple",data:=.seq [u1,u2].toArray } }:=I1.kept (t':=s1.toks) λb o e=>EM _ e
 rw[hw];show EJ (ET ?_);change wpAny (model X.prog X.w) X.A (do rule "assign.swapped-stores"; let items <- unpackItems (.ref s1.heap.objs.size) 2 gV; assignInOrder [λv=>bindName X.env y v,λv=>bindName X.env x v] items.reverse; pure Nx) _ _ _
 show EJ (IF (EJ (unpackItems_tuple (items:=[u1,u2].toArray) (I.ok.hd hc) (LC s1.heap _) λh' hx'=>?_)))
 have I3:=I2.kept (h':=h') (t':=s1.toks) λb o e=>hx' b o (Fg (E4 e)) e
 change wpAny _ _ (assignInOrder [λv=>bindName X.env y v,λv=>bindName X.env x v] [u2,u1] >>= λ_=>pure Nx) _ _ _
 show EJ (IZ (L8 (eT I3 hN hj (.inl hy) rw' (λs2 I4=>?_) (.inr hy))))
 show IZ (L8 (eT I4 hN hi (.inl hx) rv (λs3 I5=>Ld (ET ?_)) (.inr hx)))
 rw[List.set_comm _ _ (Ne.symm hij)]at I5;exact#[_,H1,I5,q1]
abbrev yU (c:TT)(tb:TS):TS:=λD Y H=>∃W:EV->St->Hp->Prop,(∃m,W m Y H)/\∀m Y H,W m Y H->
 c Y H λb H1=>if b=true then ∃N:St->Hp->Prop,(∀Y' H',N Y' H'->∃m',m' < m/\W m' Y' H')/\tb { D with nx:=N,ct:=N,bk:=D.nx } Y H1 else D.nx Y H1
def qY {c:Fa}{body:EI Hv}{tc:TT}{tb:TS}(hp:Kw (model X.prog X.w) X.A X.env X.xe)(hc:PT X c tc)(hb:PSs X body tb):PS X (.While c body [] pos) (yU tc tb):=by
 intro J s Y H D I h;obtain⟨W,⟨m0,w0⟩,turn⟩:=h;show wpAny_While (codeAny_whileLoop (λn s'=>∃Y' H',Inv X J Y' H' s'/\W n Y' H') ?_ m0 #[Y,H,I,w0])
 rintro n s1 ⟨Y1,H1,I1,w1⟩;show Hl hp (aK (hc J s1 Y1 H1 _ I1 (turn n Y1 H1 w1)) λb s2 #[H2,I2,q2]=>?_)
 cases b with
 | true=>
  obtain⟨N,hN,q2⟩:=q2;rw[Fi rfl];show Hl hp (aK (hb J s2 Y1 H2 _ I2 q2) λf s3 q3=>?_)
  cases f with
  | next=>
   obtain⟨Y3,H3,I3,n3⟩:=q3;obtain⟨m',hm,w3⟩:=hN Y3 H3 n3;exact#[m',hm,Y3,H3,I3,w3]
  | cont=>
   obtain⟨Y3,H3,I3,n3⟩:=q3;obtain⟨m',hm,w3⟩:=hN Y3 H3 n3;exact#[m',hm,Y3,H3,I3,w3]
  | brk=>exact q3
  | ret v=>exact q3
 | false=>
  rw[FJ E8];exact JT #[Y1,H2,I2,q2]
end
structure It where
 go:EV->Hp->Prop
 yld:EV->Hp->V->Hp->Prop
 stop:EV->Hp->Prop
abbrev eL (X:Cx)(J:EI (EU×Gm))(H:Hp)(b:EU):Prop:=
 H b=gV/\b≠X.env.locals/\b∉X.fs/\(b∈X.ex\/X.s₀.heap.objs.size<=b)/\(∀x c,X.env.cells.lookup x=ba c->c≠b)/\∀p∈X.pn++J,p.1≠b
def Inv.fpOk {X:Cx}{J:EI (EU×Gm)}{Y:St}{H H':Hp}{s:EN}{b:EU}(I:Inv X J Y H s)(hb:s.heap.objs.size<=b)(hn:H' b=gV):eL X J H' b:=by
 show#[hn,Gw (Fp I.lt hb),I.nofs hb,.inr (F2 I.sz hb),λx c e z=>?_,λp hp z=>?_]
 ·obtain⟨v,q⟩:=I.cell x c e;exact absurd (Fp q.lt (by rw[z]; exact hb)) (Gq _)
 ·exact absurd (Fp (E4 (I.pin p hp).1) (by rw[z]; exact hb)) (Gq _)
structure Turn (P:Fn)(w:Fv)(K:EW)(tg:Fa)(td:It)(fp:EI EU)(it:EU)(tn:EV->FN->Prop):Prop where
 mem:it∈fp
 obj:∀i h,tn i h->∀b∈fp,∃o,h.get? b=ba o/\∀v,o.data≠.cell v
 keep:∀i h h',tn i h->(∀b∈fp,∀o,h.get? b=ba o->h'.get? b=ba o)->tn i h'
 item:∀(X:Cx),X.prog=P->X.w=w->X.K=K->X.calm=true->∀(i:EV) (J:EI (EU×Gm)) (s:EN) (Y:St) (H:Hp) (E:EK->EN->Prop),Inv X J Y H s->(∀b∈fp,eL X J H b)->tn i s.heap->td.go i H->
  wpAny (model P w) X.A (pyNext (.ref it)) (λr s1=>∃u,r=ba u/\
   wpAny (model P w) X.A (letOwnedTupleGo tg (.ref it) u) (λ_ s2=>∃x H',Inv X J Y H' s2/\RelV x u/\td.yld i H x H'/\tn (i+1) s2.heap/\∀b∈fp,H' b=gV) E s1) E s
 done:∀(X:Cx),X.prog=P->X.w=w->X.K=K->X.calm=true->∀(i:EV) (J:EI (EU×Gm)) (s:EN) (Y:St) (H:Hp) (E:EK->EN->Prop),Inv X J Y H s->(∀b∈fp,eL X J H b)->tn i s.heap->td.stop i H->
  wpAny (model P w) X.A (pyNext (.ref it)) (λr s1=>r=gV/\Inv X J Y H s1) E s
 self:∀(A:Fs) (i:EV) (s:EN) (Q:EK->EN->Prop) (E:EK->EN->Prop),tn i s.heap->Q (.ref it) s->wpAny (model P w) A (pyIter (.ref it)) Q E s
noncomputable abbrev TI:=St->Hp->(It->Hp->Prop)->Prop
abbrev AH (X:Cx)(J:EI (EU×Gm))(Y:St)(tg:Fa)(R:It->Hp->Prop)(itv:EK)(s2:EN):Prop:=
 ∃(it:EU) (fp:EI EU) (tn:EV->FN->Prop) (td:It) (H':Hp),itv=.ref it/\Inv X J Y H' s2/\Turn X.prog X.w X.K tg td fp it tn/\tn 0 s2.heap/\(∀b∈fp,eL X J H' b)/\R td H'
abbrev PI (X:Cx)(tg iter:Fa)(wi:TI):Prop:=
 ∀(J:EI (EU×Gm)) (s:EN) (Y:St) (H:Hp) (R:It->Hp->Prop),Inv X J Y H s->wi Y H R->
  wpAny (model X.prog X.w) X.A (eval iter X.env) (λv s1=>wpAny (model X.prog X.w) X.A (pyIter v) (AH X J Y tg R) X.xe s1) X.xe s
def kO {tv:Np}{A:Fs}{E:EK->EN->Prop}{s:EN}{tg:Fa}{it:EU}{u:EK}{o:Gm}{n:Gc}{vs:FM EK}{Q:Ng->EN->Prop}(ho:s.heap.get? it=ba o)(hc:o.cls=.type n)(hd:o.data=.fields vs)
    (hn:["enumerate","zip","dict_itemiterator","dict_reverseitemiterator","odict_iterator","itertools.zip_longest","itertools.pairwise"].contains n=false) (hQ:Q () s):wpAny tv A (letOwnedTupleGo tg (.ref it) u) Q E s:=by
  unfold letOwnedTupleGo;cases tg <;> first
    | exact ET hQ
    | (cases u <;> first
        | exact ET hQ
        | (show EJ (KS ho ?_)
           rw[hc,hd];change wpAny tv A (if (["enumerate","zip","dict_itemiterator","dict_reverseitemiterator","odict_iterator","itertools.zip_longest","itertools.pairwise"].contains n&&vs[0]?==ba (rawInt _))=true then _ else _) Q E s
           rw[FJ (by intro h; rw[hn,Bool.false_and]at h; cases h)]
           exact ET hQ))
abbrev Dg (K:EW)(a:EU):It:=
 #[λi H=>∃xs x,SqL K H a xs/\xs[i]?=ba x,λi H x H'=>H'=H/\∀xs,SqL K H a xs->xs[i]?=ba x,λi H=>∃xs,SqL K H a xs/\xs.length<=i]
abbrev AI (K:EW)(a:EU):It:=
 #[λi H=>∃xs x,SqT K H a xs/\xs[i]?=ba x,λi H x H'=>H'=H/\∀xs,SqT K H a xs->xs[i]?=ba x,λi H=>∃xs,SqT K H a xs/\xs.length<=i]
abbrev Bb (lo:E5)(n:EV):It:=#[λi _=>i < n,λi H x H'=>H'=H/\x=.int (lo+i),λi _=>n<=i]
def ph {P:Fn}{w:Fv}{K:EW}{tg:Fa}(a it:EU):Turn P w K tg (Dg K a) [it] it (λi h=>h.IsListIter it a i) where
 mem:=by simp
 obj:=λi h st b hb=>by
  have e:b=it:=by simpa using hb
  subst e;obtain⟨o,e,c,d⟩:=st;exact#[o,e,λv z=>by rw[d]at z; cases z]
 keep:=λi h h' st k=>st.at λo e=>k it (by simp) o e
 item:=by
  intro X hP hw hK hc i J s Y H E I hf st hg;subst hP hw hK;obtain⟨xs,x,hq,hx⟩:=hg;obtain⟨its,rv,p,hz⟩:=I.list hq;obtain⟨u,hu,ru⟩:=rv.get hx;obtain⟨f0,f1,f2,f3,f4,f5⟩:=hf it (by simp)
  show wpAny_pyNext_list_item st p.isList (x:=u) (by simpa using hu) λh' st' sb=>?_
  have I1:Inv X J Y H { s with heap:=h' }:=I.turned (t':=s.toks) (λb o hb e=>(sb.2 b hb).trans e) f0 f1 f3 f4 f5
  obtain⟨o,e,c,d⟩:=id st';exact#[u,rfl,kO (s:={ s with heap:=h' }) e c d #v[] #[x,H,I1,ru,#[rfl,λys hy=>by rw[I.list_inj hy hq]; exact hx],st',λb hb=>(hf b hb).1]]
 done:=by
  intro X hP hw hK hc i J s Y H E I hf st hg;subst hP hw hK;obtain⟨xs,hq,hx⟩:=hg;obtain⟨its,rv,p,hz⟩:=I.list hq;obtain⟨f0,f1,f2,f3,f4,f5⟩:=hf it (by simp)
  have hl:=rv.length;exact wpAny_pyNext_list_end (I.ok.hd hc) st p.isList (by simp; omega) λh' eb=>#[rfl,I.turned (t':=s.toks) (λb o hb e=>eb b o hb e) f0 f1 f3 f4 f5]
 self:=λ_ _ _ _ _ st h=>wpAny_pyIter_listiter st h
def mx {P:Fn}{w:Fv}{K:EW}{tg:Fa}(a it:EU):Turn P w K tg (AI K a) [it] it (λi h=>h.IsTupleIter it a i) where
 mem:=by simp
 obj:=λi h st b hb=>by
  have e:b=it:=by simpa using hb
  subst e;obtain⟨o,e,c,d⟩:=st;exact#[o,e,λv z=>by rw[d]at z; cases z]
 keep:=λi h h' st k=>st.at λo e=>k it (by simp) o e
 item:=by
  intro X hP hw hK hc i J s Y H E I hf st hg;subst hP hw hK;obtain⟨xs,x,hq,hx⟩:=hg;obtain⟨its,rv,p,hz⟩:=I.tuple hq;obtain⟨u,hu,ru⟩:=rv.get hx;obtain⟨f0,f1,f2,f3,f4,f5⟩:=hf it (by simp)
  show wpAny_pyNext_tuple_item st (show s.heap.IsTuple a its.toArray from p) (x:=u) (by simpa using hu) λh' st' sb=>?_
  have I1:Inv X J Y H { s with heap:=h' }:=I.turned (t':=s.toks) (λb o hb e=>(sb.2 b hb).trans e) f0 f1 f3 f4 f5
  obtain⟨o,e,c,d⟩:=id st';exact#[u,rfl,kO (s:={ s with heap:=h' }) e c d #v[] #[x,H,I1,ru,#[rfl,λys hy=>by rw[I.tuple_inj hy hq]; exact hx],st',λb hb=>(hf b hb).1]]
 done:=by
  intro X hP hw hK hc i J s Y H E I hf st hg;subst hP hw hK;obtain⟨xs,hq,hx⟩:=hg;obtain⟨its,rv,p,hz⟩:=I.tuple hq;obtain⟨f0,f1,f2,f3,f4,f5⟩:=hf it (by simp)
  have hl:=rv.length;exact wpAny_pyNext_tuple_end (I.ok.hd hc) st (show s.heap.IsTuple a its.toArray from p) (by simp; omega) λh' eb=>#[rfl,I.turned (t':=s.toks) (λb o hb e=>eb b o hb e) f0 f1 f3 f4 f5]
 self:=λ_ _ _ _ _ st h=>wpAny_pyIter_tupleiter st h
def my {P:Fn}{w:Fv}{K:EW}{tg:Fa}(it:EU)(lo:E5)(n:EV):Turn P w K tg (Bb lo n) [it] it (λi h=>MY h it (lo+(i:EV)*1) ((n:E5) - (i:EV)) 1) where
 mem:=by simp
 obj:=λi h st b hb=>by
  have e:b=it:=by simpa using hb
  subst e;exact#[_,st,λv z=>by
   have z':Data.fields _=Data.cell v:=z;cases z']
 keep:=λi h h' st k=>k it (by simp) _ st
 item:=by
  intro X hP hw hK hc i J s Y H E I hf st hg;subst hP hw hK;obtain⟨f0,f1,f2,f3,f4,f5⟩:=hf it (by simp)
  have W:=Walks.range (prog:=X.prog) (w:=X.w) (I.ok.hd hc) it lo 1 n;show W.item i s _ _ hg st λv h' tk hv st' kk=>?_
  obtain⟨t,rfl⟩:=hv;have I1:Inv X J Y H { s with heap:=h',toks:=tk }:=I.turned (λb o hb e=>kk b o (by simpa using hb) e) f0 f1 f3 f4 f5
  show#[_,rfl,kO (s:={ s with heap:=h',toks:=tk }) (n:="range_iterator") st' rfl rfl #v[] #[.int (lo+i),H,I1,#[t,?_],#[rfl,rfl],st',λb hb=>(hf b hb).1]]
  rw[Int.mul_one]
 done:=by
  intro X hP hw hK hc i J s Y H E I hf st hg;subst hP hw hK;obtain⟨f0,f1,f2,f3,f4,f5⟩:=hf it (by simp)
  exact wpAny_pyNext_range_end (I.ok.hd hc) st (by have:n<=i:=hg; omega) λh' eb=>#[rfl,I.turned (t':=s.toks) (λb o hb e=>eb b o hb e) f0 f1 f3 f4 f5]
 self:=λ_ _ _ _ _ st h=>wpAny_pyIter_rangeiter st h
section
variable{X:Cx}{tg:Fa}
def kP {J:EI (EU×Gm)}{Y:St}{H:Hp}{s:EN}{R:It->Hp->Prop}{E:EK->EN->Prop}{lo hi:E5}{t u v:NA}{tk:EV}(I:Inv X J Y H s)(h1 : -(2 ^ 62)<=lo)(h2:lo < 2 ^ 62)(h3 : -(2 ^ 62)<=hi)(h4:hi < 2 ^ 62)
  (q:R (Bb lo (hi - lo).toNat) H):wpAny (model X.prog X.w) X.A (pyIter (.ref s.heap.objs.size)) (AH X J Y tg R) E { s with heap:=s.heap.push { cls:=.type "range",data:=.fields [.int lo t,.int hi u,.int 1 v].toArray },toks:=tk }:=by
 show wpAny_pyIter_range (IsRange.new ..) (MO h1 h2 h3 h4) ?_;have I1:Inv X J Y H { s with heap:=s.heap.push { cls:=.type "range",data:=.fields [.int lo t,.int hi u,.int 1 v].toArray },toks:=tk }:=I.kept λb o e=>EM _ e
 show#[(s.heap.push { cls:=.type "range",data:=.fields [.int lo t,.int hi u,.int 1 v].toArray }).objs.size,[(s.heap.push { cls:=.type "range",data:=.fields [.int lo t,.int hi u,.int 1 v].toArray }).objs.size],_,_,H,rfl,
  I1.kept (t':=tk) λb o e=>EM _ e,my _ lo (hi - lo).toNat,?_,λb hb=>?_,q]
 ·have e1:lo+((0:EV):E5)*1=lo:=by simp
  have e2:(((hi - lo).toNat:EV):E5) - ((0:EV):E5)=GB lo hi 1:=by rw[KF]; split <;> omega
  change MY _ _ (lo+((0:EV):E5)*1) ((((hi - lo).toNat:EV):E5) - ((0:EV):E5)) 1;rw[e1,e2];exact EX _ rfl
 ·have e:b=(s.heap.push { cls:=.type "range",data:=.fields [.int lo t,.int hi u,.int 1 v].toArray }).objs.size:=by simpa using hb
  subst e;exact I1.fpOk (E2 _) (I1.hok.fresh (E2 _))
abbrev Bc (ta:TA):TI:=λY H R=>ta Y H λvs H1=>∃j:E5,vs=[.int j]/\-(2 ^ 62)<=j/\j < 2 ^ 62/\R (Bb 0 j.toNat) H1
abbrev iRng2 (ta:TA):TI:=λY H R=>ta Y H λvs H1=>∃i j:E5,vs=[.int i,.int j]/\(-(2 ^ 62)<=i/\i < 2 ^ 62/\-(2 ^ 62)<=j/\j < 2 ^ 62)/\R (Bb i (j - i).toNat) H1
def pk {a:Fa}{ta:TA}{p pos:G5}(hg:Gl X "range")(hm:X.mg "range" = gV)(ha:PA X [a] ta)(hs:starEach [a] X.env=[(false,eval a X.env)]:=by rfl):PI X tg (.Call (.Name "range" p) [a] [] pos) (Bc ta):=by
 intro J s Y H R I h;show Nq (dO I hg hm boot_range (Gk (aK (ha pos J s Y H _ I h) λus s1 #[vs,H1,I1,r1,q1]=>?_) hs rfl))
 obtain⟨j,e,q1,q2,q⟩:=q1;subst e;cases r1 with
 | cons r rr=>
  cases rr;obtain⟨t,rfl⟩:=r;exact MT (kP I1 ∅ ∅ q1 q2 (by simpa using q))
def po {a b:Fa}{ta:TA}{p pos:G5}(hg:Gl X "range")(hm:X.mg "range" = gV)(ha:PA X [a,b] ta)(hs:starEach [a,b] X.env=[(false,eval a X.env),(false,eval b X.env)]:=by rfl)(hs2:starEach [b] X.env=[(false,eval b X.env)]:=by rfl) :
  PI X tg (.Call (.Name "range" p) [a,b] [] pos) (iRng2 ta):=by
 intro J s Y H R I h;show Nq (dO I hg hm boot_range (Gk (aK (ha pos J s Y H _ I h) λus s1 #[vs,H1,I1,r1,q1]=>?_) (by rw[hs,hs2]) (by rw[hs2]; rfl)))
 obtain⟨i,j,e,⟨q1,q2,q3,q4⟩,q⟩:=q1;subst e;cases r1 with
 | cons r rr=>
  cases rr with
  | cons r' rr=>
   cases rr;obtain⟨t,rfl⟩:=r;obtain⟨t',rfl⟩:=r';exact call_range_2 (kP I1 q1 q2 q3 q4 q)
abbrev Dh (wi:TI)(g:TG)(tb:TS):TS:=λD Y H=>wi Y H λtd H1=>∃W:EV->EV->St->Hp->Prop,(∃m,W 0 m Y H1)/\∀i m Y H,W i m Y H->
 (td.stop i H/\D.nx Y H)\/(td.go i H/\∃N:St->Hp->Prop,(∀Y' H',N Y' H'->∃m',m' < m/\W (i+1) m' Y' H')/\∀x H',td.yld i H x H'->g x Y H' λY2 H2=>tb { D with nx:=N,ct:=N,bk:=D.nx } Y2 H2)
abbrev fN (fp:EI EU)(h:FN):EI (EU×Gm):=fp.filterMap λb=>(h.get? b).map λo=>(b,o)
def dz {fp:EI EU}{h:FN}{b:EU}{o:Gm}(hb:b∈fp)(e:h.get? b=ba o):(b,o)∈fN fp h:=KT.mpr #[b,hb,by rw[e]; rfl]
def pr {fp:EI EU}{h:FN}{p:EU×Gm}(hp:p∈fN fp h):p.1∈fp/\h.get? p.1=ba p.2:=by
 obtain⟨b,hb,e⟩:=KT.mp hp;cases q:h.get? b with
 | none=>rw[q]at e; cases e
 | some o=>
  rw[q]at e;have e':(b,o)=p:=Gv e;subst e';exact#[hb,q]
def Inv.pinned {J:EI (EU×Gm)}{Y:St}{H:Hp}{s:EN}{fp:EI EU}(I:Inv X J Y H s)(hf:∀b∈fp,eL X J H b)(ho:∀b∈fp,∃o,s.heap.get? b=ba o/\∀v,o.data≠.cell v):Inv X (J++fN fp s.heap) Y H s:=
 I.pins_of λp hp=>(FR.mp hp).elim (λz=>I.pin p (Fo _ z)) λz=>by
  obtain⟨hb,e⟩:=pr z;obtain⟨f0,f1,f2,_⟩:=hf p.1 hb;obtain⟨o,e',d⟩:=ho p.1 hb;rw[e]at e'; cases e'
  exact#[e,f0,f1,f2,d]
def Inv.unpinned {J pl:EI (EU×Gm)}{Y:St}{H:Hp}{s:EN}(I:Inv X (J++pl) Y H s):Inv X J Y H s:=I.pins_of λp hp=>I.pin p (Fo _ (G0 _ hp))
def yV {iter:Fa}{body:EI Hv}{wi:TI}{g:TG}{tb:TS}{pos:G5}(hp:Kw (model X.prog X.w) X.A X.env X.xe)(hc:X.calm=true)(hi:PI X tg iter wi)(hg:PG X tg g)(hb:PSs X body tb)
  (hs:∀x,foldedSetIterable iter X.env x=pure x:=by intro _; rfl):PS X (.For tg iter body [] pos) (Dh wi g tb):=by
 intro J s Y H D I h;show wpAny_For (aK (hi J s Y H _ I h) λv s1 h1=>aK h1 λitv s2 h2=>?_) hs
 obtain⟨it,fp,tn,td,H2,e,I2,T,aE,f2,W,⟨m0,w0⟩,turn⟩:=h2;subst e;have stat:∀ {H':Hp},(∀b∈fp,H' b=gV)->∀b∈fp,eL X J H' b:=λhn b hb=>#[hn b hb,(f2 b hb).2]
 show codeAny_forLoop_any (λn s'=>∃i Y' H',Inv X J Y' H' s'/\tn i s'.heap/\(∀b∈fp,H' b=gV)/\W i n Y' H') ?_ m0 #[0,Y,H2,I2,aE,λb hb=>(f2 b hb).1,w0]
 rintro n s3 ⟨i,Y3,H3,I3,st3,fr3,w3⟩;rcases turn i n Y3 H3 w3 with⟨stop,qn⟩|⟨go,N,hN,step⟩
 ·show Hl hp (aK (T.done X rfl rfl rfl hc i J s3 Y3 H3 X.xe I3 (stat fr3) st3 stop) λr s4 #[hr,I4]=>?_)
  subst hr;exact JT #[Y3,H3,I4,qn]
 ·show Hl hp (aK (T.item X rfl rfl rfl hc i J s3 Y3 H3 X.xe I3 (stat fr3) st3 go) λr s4 #[u,hr,h4]=>?_)
  subst hr;show Hl hp (aK h4 λ_ s5 #[x,H5,I5,r5,y5,st5,fr5]=>?_)
  have I5':=I5.pinned (stat fr5) (T.obj _ _ st5);show Hl hp (aK (hg _ s5 Y3 H5 x u _ I5' r5 (step x H5 y5)) λ_ s6 #[Y6,H6,I6,q6]=>?_)
  show Hl hp (aK (hb _ s6 Y6 H6 _ I6 q6) λf s7 q7=>?_)
  have again:∀ {Y7:St} {H7:Hp},Inv X (J++fN fp s5.heap) Y7 H7 s7->N Y7 H7->∃m,m < n/\∃i Y' H',Inv X J Y' H' s7/\tn i s7.heap/\(∀b∈fp,H' b=gV)/\W i m Y' H':=λ{Y7 H7} I7 n7=>by
   obtain⟨m',hm,w7⟩:=hN Y7 H7 n7;show#[m',hm,i+1,Y7,H7,I7.unpinned,T.keep _ _ _ st5 λb hb o e=>(I7.pin (b,o) (Fo _ (Fo _ (dz hb e)))).1,λb hb=>?_,w7]
   obtain⟨o,e,d⟩:=T.obj _ _ st5 b hb;exact(I7.pin (b,o) (Fo _ (Fo _ (dz hb e)))).2.1
  cases f with
  | next=>obtain⟨Y7,H7,I7,n7⟩:=q7; exact again I7 n7
  | cont=>obtain⟨Y7,H7,I7,n7⟩:=q7; exact again I7 n7
  | brk=>obtain⟨Y7,H7,I7,q7⟩:=q7; exact#[Y7,H7,I7.unpinned,q7]
  | ret v=>obtain⟨x7,Y7,H7,I7,r7,q7⟩:=q7; exact#[x7,Y7,H7,I7.unpinned,r7,q7]
end
def for_tup {K:EW}{a:EU}{xs:EI V}{g:TG}{tb:TS}{D:Ends}{Y:St}{H:Hp}(Pv:EV->St->Hp->Prop)(h0:Pv 0 Y H)(hl:∀i Y H,i<=xs.length->Pv i Y H->SqT K H a xs)
  (hs:∀i x Y H,xs[i]?=ba x->Pv i Y H->g x Y H λY2 H2=>tb { D with nx:=Pv (i+1),ct:=Pv (i+1),bk:=D.nx } Y2 H2) (hd:∀Y H,Pv xs.length Y H->D.nx Y H) :
  ∃W:EV->EV->St->Hp->Prop,(∃m,W 0 m Y H)/\∀i m Y H,W i m Y H->
   ((AI K a).stop i H/\D.nx Y H)\/((AI K a).go i H/\∃N:St->Hp->Prop,(∀Y' H',N Y' H'->∃m',m' < m/\W (i+1) m' Y' H')/\∀x H',(AI K a).yld i H x H'->g x Y H' λY2 H2=>tb { D with nx:=N,ct:=N,bk:=D.nx } Y2 H2):=by
 show#[λi m Y H=>m=xs.length - i/\i<=xs.length/\Pv i Y H,#[xs.length,by simp,GC _,h0],?_]
 rintro i m Y H ⟨rfl,hi,p⟩;have q:=hl i Y H hi p
 by_cases hlt:i < xs.length
 ·show .inr #[#[xs,xs[i],q,by simp[hlt]],Pv (i+1),λY' H' p'=>#[xs.length - (i+1),∅,rfl,hlt,p'],λx H' y=>?_]
  obtain⟨e,y⟩:=y;subst e;exact hs i x Y _ (y xs q) p
 ·have e:i=xs.length:=∅
  subst e;exact .inl #[#[xs,q,E2 _],hd Y H p]
noncomputable abbrev R2:=V->V->Hp->VK->Prop
abbrev OpR (X:Cx)(f:EK->EK->MR EK)(r:R2):Prop:=
 ∀(J:EI (EU×Gm)) (s:EN) (Y:St) (H:Hp) (x y:V) (v u:EK) (Q:VK),Inv X J Y H s->RelV x v->RelV y u->r x y H Q->
  wpAny (model X.prog X.w) X.A (f v u) (EP X J Y Q) X.xe s
abbrev Di (X:Cx)(f:EK->MR EK)(r:V->Hp->VK->Prop):Prop:=
 ∀(J:EI (EU×Gm)) (s:EN) (Y:St) (H:Hp) (x:V) (v:EK) (Q:VK),Inv X J Y H s->RelV x v->r x H Q->
  wpAny (model X.prog X.w) X.A (f v) (EP X J Y Q) X.xe s
abbrev CallR (X:Cx)(f:EK)(r:EI V->Hp->VK->Prop):Prop:=
 ∀(J:EI (EU×Gm)) (s:EN) (Y:St) (H:Hp) (xs:EI V) (us:EI EK) (Q:VK),Inv X J Y H s->Vals xs us->r xs H Q->
  wpAny (model X.prog X.w) X.A (call f us) (EP X J Y Q) X.xe s
abbrev Dj (X:Cx)(r:V->Hp->(Fk->Hp->Prop)->Prop):Prop:=
 ∀(J:EI (EU×Gm)) (s:EN) (Y:St) (H:Hp) (x:V) (v:EK) (Q:Fk->Hp->Prop),Inv X J Y H s->RelV x v->r x H Q->
  wpAny (model X.prog X.w) X.A (truthy v) (TP X J Y Q) X.xe s
abbrev CO (r:R2)(ta tb:TE):TE:=λY H Q=>ta Y H λx H1=>tb Y H1 λy H2=>r x y H2 Q
abbrev Eu (r:V->Hp->VK->Prop)(ta:TE):TE:=λY H Q=>ta Y H λx H1=>r x H1 Q
abbrev rI (C:E5->E5->Prop)(g:E5->E5->V):R2:=λx y H Q=>∃i j,x=.int i/\y=.int j/\C i j/\Q (g i j) H
abbrev xQ (g:E5->E5->V):R2:=λx y H Q=>∃i j,x=.int i/\y=.int j/\Q (g i j) H
abbrev rU (g:E5->V):V->Hp->VK->Prop:=λx H Q=>∃i,x=.int i/\Q (g i) H
section
variable{X:Cx}{a b c:Fa}{ta tb tc:TE}{pos:G5}
def yW (ha:PE X a ta)(hb:PE X b tb){J:EI (EU×Gm)}{s:EN}{Y:St}{H:Hp}{R:V->V->Hp->Prop}(I:Inv X J Y H s)
  (h:ta Y H λx H1=>tb Y H1 λy H2=>R x y H2) {Q:EK->EN->Prop} {f:EK->EK->MR EK}
  (hf:∀v u s2 x y H2,Inv X J Y H2 s2->RelV x v->RelV y u->R x y H2->wpAny (model X.prog X.w) X.A (f v u) Q X.xe s2) :
  wpAny (model X.prog X.w) X.A (eval a X.env) (λv s₁=>wpAny (model X.prog X.w) X.A (eval b X.env) (λu s₂=>wpAny (model X.prog X.w) X.A (f v u) Q X.xe s₂) X.xe s₁) X.xe s:=by
 show aK (ha J s Y H _ I h) λv s1 #[x,H1,I1,r1,q1]=>?_
 show aK (hb J s1 Y H1 _ I1 q1) λu s2 #[y,H2,I2,r2,q2]=>?_
 exact hf v u s2 x y H2 I2 r1 r2 q2
def Bd {op:Le}{r:R2}(ho:OpR X (binaryOp op) r)(ha:PE X a ta)(hb:PE X b tb):PE X (.BinOp a op b pos) (CO r ta tb):=by
 intro J s Y H Q I h;exact wpAny_BinOp (yW ha hb I h λv u s2 x y H2 I2 rx ry q=>ho J s2 Y H2 x y v u Q I2 rx ry q)
def Be {op:UnaryOp}{r:V->Hp->VK->Prop}(ho:Di X (unaryOp op) r)(ha:PE X a ta):PE X (.UnaryOp op a pos) (Eu r ta):=by
 intro J s Y H Q I h;exact UnaryOp_ (aK (ha J s Y H _ I h) λv s1 #[x,H1,I1,r1,q1]=>ho J s1 Y H1 x v Q I1 r1 q1)
def CP {f:EK->EK->MR EK}{C:E5->E5->Prop}{g:E5->E5->E5}
  (rule:∀(i j:E5) (t u:NA) (s:EN) (Q:EK->EN->Prop) (E:EK->EN->Prop),C i j->Q (.int (g i j) s.toks) { s with toks:=s.toks+1 }->wpAny (model X.prog X.w) X.A (f (.int i t) (.int j u)) Q E s) :
  OpR X f (rI C λi j=>.int (g i j)):=by
 intro J s Y H x y v u Q I rx ry h;obtain⟨i,j,rfl,rfl,hc,q⟩:=h;obtain⟨t,rfl⟩:=rx;obtain⟨t',rfl⟩:=ry;exact rule i j t t' s _ _ hc #[.int (g i j),H,I.tok _,#[_,rfl],q]
def Bf {f:EK->EK->MR EK}{g:E5->E5->E5}
  (rule:∀(i j:E5) (t u:NA) (s:EN) (Q:EK->EN->Prop) (E:EK->EN->Prop),Q (.int (g i j) s.toks) { s with toks:=s.toks+1 }->wpAny (model X.prog X.w) X.A (f (.int i t) (.int j u)) Q E s) :
  OpR X f (xQ λi j=>.int (g i j)):=by
 intro J s Y H x y v u Q I rx ry h;obtain⟨i,j,rfl,rfl,q⟩:=h;obtain⟨t,rfl⟩:=rx;obtain⟨t',rfl⟩:=ry;exact rule i j t t' s _ _ #[.int (g i j),H,I.tok _,#[_,rfl],q]
def u8 {f:EK->EK->MR EK}{g:E5->E5->Fk}
  (rule:∀(i j:E5) (t u:NA) (s:EN) (Q:EK->EN->Prop) (E:EK->EN->Prop),Q (.bool (g i j)) s->wpAny (model X.prog X.w) X.A (f (.int i t) (.int j u)) Q E s) :
  OpR X f (xQ λi j=>.bl (g i j)):=by
 intro J s Y H x y v u Q I rx ry h;obtain⟨i,j,rfl,rfl,q⟩:=h;obtain⟨t,rfl⟩:=rx;obtain⟨t',rfl⟩:=ry;exact rule i j t t' s _ _ #[.bl (g i j),H,I,rfl,q]
abbrev Dk (i j:E5):Prop:=0 < j/\j < 1073741824
abbrev Dl (i j:E5):Prop:=0<=j/\j<=1000000/\i.natAbs < 2 ^ 64
abbrev CMul (i j:E5):Prop:=(-(2 ^ 64) < i/\i < 2 ^ 64)\/(-(2 ^ 64) < j/\j < 2 ^ 64)
def CMul.ok {i j:E5}(h:CMul i j):IntMulOk i j:=by
 rcases h with⟨h1,h2⟩|⟨h1,h2⟩
 ·exact .of_left (Mw h1 h2)
 ·exact .of_right (Mw h1 h2)
def yX:OpR X (binaryOp .Add) (xQ λi j=>.int (i+j)):=Bf λ_ _ _ _ _ _ _ q=>add_int q
def yY:OpR X (binaryOp .Sub) (xQ λi j=>.int (i - j)):=Bf λ_ _ _ _ _ _ _ q=>sub_int q
def yZ:OpR X (binaryOp .Mult) (rI CMul λi j=>.int (i*j)):=CP λ_ _ _ _ _ _ _ hc q=>mul_int q hc.ok
def u9:OpR X (binaryOp .FloorDiv) (rI Dk λi j=>.int (i / j)):=CP λi j _ _ _ _ _ hc q=>by
 have h1:(0:E5) < j:=hc.1;have h2:j < 1073741824:=hc.2;exact floordiv_int ∅ (by rw[Int.fdiv_eq_ediv_of_nonneg i ∅]; exact q) (.inl (PyProof.noPylong_small ∅))
def y4:OpR X (binaryOp .Mod) (rI (λ_ j=>0 < j) λi j=>.int (i % j)):=CP λi j _ _ _ _ _ hc q=>by
 have h1:(0:E5) < j:=hc;exact mod_int' ∅ (by rw[Int.fmod_eq_emod_of_nonneg i ∅]; exact q)
def y6:OpR X (binaryOp .Pow) (rI Dl λi j=>.int (i ^ j.toNat)):=CP λ_ _ _ _ _ _ _ hc q=>pow_int_small hc.1 hc.2.1 hc.2.2 q
def Ev {f:EK->MR EK}{g:E5->E5}
  (rule:∀(i:E5) (t:NA) (s:EN) (Q:EK->EN->Prop) (E:EK->EN->Prop),Q (.int (g i) s.toks) { s with toks:=s.toks+1 }->wpAny (model X.prog X.w) X.A (f (.int i t)) Q E s) :
  Di X f (rU λi=>.int (g i)):=by
 intro J s Y H x v Q I rx h;obtain⟨i,rfl,q⟩:=h;obtain⟨t,rfl⟩:=rx;exact rule i t s _ _ #[.int (g i),H,I.tok _,#[_,rfl],q]
def y8:Di X (unaryOp .USub) (rU λi=>.int (-i)):=Ev λ_ _ _ _ _ q=>neg_int q
def mz {J:EI (EU×Gm)}{Y:St}{H:Hp}{s:EN}{Q:VK}{k k':Fk}(I:Inv X J Y H s)(q:Q (.bl k) H)(e:k=k'):EP X J Y Q (.bool k') s:=by
 subst e;exact#[.bl k,H,I,rfl,q]
def Bg:OpR X (compareOp .Lt) (xQ λi j=>.bl (decide (i < j))):=u8 λ_ _ _ _ _ _ _ q=>lt_int q
def Bh:OpR X (compareOp .LtE) (xQ λi j=>.bl (decide (i<=j))):=u8 λ_ _ _ _ _ _ _ q=>le_int q
def Bj:OpR X (compareOp .Gt) (xQ λi j=>.bl (decide (j < i))):=u8 λ_ _ _ _ _ _ _ q=>gt_int q
def Bk:OpR X (compareOp .GtE) (xQ λi j=>.bl (decide (j<=i))):=u8 λ_ _ _ _ _ _ _ q=>ge_int q
def pA:OpR X (compareOp .In) (λx y H Q=>∃i j,x=.str i/\y=.str j/\Q (.bl (!(HA j i 0 j.length 1).isEmpty)) H):=by
 intro J s Y H x y v u Q I rx ry h;obtain⟨i,j,rfl,rfl,q⟩:=h;obtain⟨t,rfl⟩:=rx;obtain⟨t',rfl⟩:=ry;exact in_str (mz I q rfl)
def y9:OpR X (compareOp .Is) (λx y H Q=>y=.non/\Q (.bl (decide (x=.non))) H):=by
 intro J s Y H x y v u Q I rx ry h;obtain⟨rfl,q⟩:=h;cases ry;show is_none_gen (mz I q ?_);cases x <;> first
  | (cases rx; rfl)
  | (obtain⟨t,rfl⟩:=rx; rfl)
def vc:OpR X (compareOp .IsNot) (λx y H Q=>y=.non/\Q (.bl (!decide (x=.non))) H):=by
 intro J s Y H x y v u Q I rx ry h;obtain⟨rfl,q⟩:=h;cases ry;show isnot_none_gen (mz I q ?_);cases x <;> first
  | (cases rx; rfl)
  | (obtain⟨t,rfl⟩:=rx; rfl)
def vd {op:LR}{r:R2}(ho:OpR X (compareOp op) r)(ha:PE X a ta)(hb:PE X b tb)(hm:behindInMarks op b=false):PE X (.Compare a [op] [b] pos) (CO r ta tb):=by
 intro J s Y H Q I h;exact wpAny_Compare1 (yW ha hb I h λv u s2 x y H2 I2 rx ry q=>ho J s2 Y H2 x y v u Q I2 rx ry q) hm
abbrev xR (t:TE):TT:=λY H Q=>t Y H λx H'=>∃k,x=.bl k/\Q k H'
def ve {op:LR}{r:R2}(ho:OpR X (compareOp op) r)(ha:PE X a ta)(hb:PE X b tb)(hm:behindInMarks op b=false):PT X (.Compare a [op] [b] pos) (xR (CO r ta tb)):=by
 intro J s Y H Q I h;show wpAny_isTrue_Compare1 (aK (ha J s Y H _ I h) λv s1 #[x,H1,I1,r1,q1]=>aK (hb J s1 Y H1 _ I1 q1) λu s2 #[y,H2,I2,r2,q2]=>
  aK (ho J s2 Y H2 x y v u _ I2 r1 r2 q2) λc s3 #[z,H3,I3,r3,k,e,q3]=>?_) hm
 subst e;cases r3;exact Gj #[H3,I3,q3]
abbrev mB (r r':R2)(ta tb tc:TE):TE:=λY H Q=>ta Y H λx H1=>tb Y H1 λy H2=>r x y H2 λz H3=>∃k,z=.bl k/\
 (if k=true then tc Y H3 λw' H4=>r' y w' H4 Q else Q (.bl false) H3)
def qZ {op op':LR}{r r':R2}(ho:OpR X (compareOp op) r)(ho':OpR X (compareOp op') r')(ha:PE X a ta)(hb:PE X b tb)(hc:PE X c tc)
  (hm:lastMarks [op,op'] [b,c]=false:=by with_unfolding_all rfl):PE X (.Compare a [op,op'] [b,c] pos) (mB r r' ta tb tc):=by
 intro J s Y H Q I h;show Compare_chain (aK (ha J s Y H _ I h) λv s1 #[x,H1,I1,r1,q1]=>chain_link (aK (hb J s1 Y H1 _ I1 q1) λu s2 #[y,H2,I2,r2,q2]=>
  aK (ho J s2 Y H2 x y v u _ I2 r1 r2 q2) λd s3 #[z,H3,I3,r3,k,e,q3]=>?_)) hm
 subst e;cases r3;show Gj ?_;cases k with
 | false=>exact ite_ff #[.bl false,H3,I3,rfl,q3]
 | true=>exact ite_tt (chain_last (aK (hc J s3 Y H3 _ I3 q3) λw' s4 #[z',H4,I4,r4,q4]=>ho' J s4 Y H4 y z' u w' Q I4 r2 r4 q4))
def q8 {op op':LR}{r r':R2}(ho:OpR X (compareOp op) r)(ho':OpR X (compareOp op') r')(ha:PE X a ta)(hb:PE X b tb)(hc:PE X c tc)
  (hm:lastMarks [op,op'] [b,c]=false:=by with_unfolding_all rfl):PT X (.Compare a [op,op'] [b,c] pos) (xR (mB r r' ta tb tc)):=by
 intro J s Y H Q I h;show isTrue_chain (aK (ha J s Y H _ I h) λv s1 #[x,H1,I1,r1,q1]=>test_link (aK (hb J s1 Y H1 _ I1 q1) λu s2 #[y,H2,I2,r2,q2]=>
  aK (ho J s2 Y H2 x y v u _ I2 r1 r2 q2) λd s3 #[z,H3,I3,r3,k,e,q3]=>?_)) hm
 subst e;cases r3;show Gj ?_;cases k with
 | false=>
  obtain⟨k',e',q'⟩:=q3;cases e';exact ite_ff #[H3,I3,q']
 | true=>
  show ite_tt (test_last (aK (hc J s3 Y H3 _ I3 q3) λw' s4 #[z',H4,I4,r4,q4]=>aK (ho' J s4 Y H4 y z' u w' _ I4 r2 r4 q4) λd' s5 #[z2,H5,I5,r5,k2,e2,q5]=>?_))
  subst e2;cases r5;exact Gj #[H5,I5,q5]
abbrev Dm (K:EW)(x:V)(H:Hp)(k:Fk):Prop:=
 match x with
 | .non=>k=false
 | .bl b=>k=b
 | .int i=>k=(i != 0)
 | .str y=>y.length<=sizeLine/\k=((y.length:E5) != 0)
 | .byt y=>y.size<=sizeLine/\k=((y.size:E5) != 0)
 | .ref p=>(∃xs,SqL K H p xs/\k = !xs.isEmpty)\/(∃xs,SqT K H p xs/\k = !xs.isEmpty)\/∃U,H p=ba (.dK U)/\k = !U.isEmpty
 | _=>F8
def mC {κ:Type}{U:EI (κ×V)}{vs:EI (κ×EK)}(r:KV U vs):(!vs.isEmpty) = !U.isEmpty:=by
 cases r <;> rfl
def gT {xs:EI V}{its:EI EK}(r:Vals xs its):(!its.toArray.isEmpty) = !xs.isEmpty:=by
 cases r <;> simp
def fO:(sizeLine:EV) < 2 ^ 63:=by rw[FX]; decide
def zd:Dj X (λx H Q=>∃k,Dm X.K x H k/\Q k H):=by
 intro J s Y H x v Q I rx h;obtain⟨k,e,q⟩:=h;have hl:=fO;have hs:sizeLine=16777216:=FX;cases x with
 | non=>
  cases rx;have e':k=false:=e;subst e';exact truthy_none #[H,I,q]
 | bl b=>
  cases rx;have e':k=b:=e;subst e';exact Gj #[H,I,q]
 | int i=>
  obtain⟨t,rfl⟩:=rx;have e':k=(i != 0):=e;subst e';exact PySem.P.truthy_int #[H,I,q]
 | str y=>
  obtain⟨t,rfl⟩:=rx;obtain⟨hy,e'⟩ : y.length<=sizeLine/\k=((y.length:E5) != 0):=e;subst e';exact PySem.P.truthy_str ∅ #[H,I.tok _,q]
 | byt y=>
  obtain⟨t,rfl⟩:=rx;obtain⟨hy,e'⟩ : y.size<=sizeLine/\k=((y.size:E5) != 0):=e;subst e';exact PySem.W.truthy_bytes ∅ #[H,I.tok _,q]
 | ref p=>
  cases rx;have e':(∃xs,SqL X.K H p xs/\k = !xs.isEmpty)\/(∃xs,SqT X.K H p xs/\k = !xs.isEmpty)\/∃U,H p=ba (.dK U)/\k = !U.isEmpty:=e;rcases e' with⟨xs,hx,e'⟩|⟨xs,hx,e'⟩|⟨U,hx,e'⟩
  ·subst e';obtain⟨its,r,pl,hz⟩:=I.list hx;have hlen:=r.length;exact wpAny_truthy_list pl.isList (by simp only[EY]; omega) #[H,I.tok _,by rw[gT r]; exact q]
  ·subst e';obtain⟨its,r,pl,hz⟩:=I.tuple hx;have hlen:=r.length;exact truthy_tuple pl (by simp only[EY]; omega) #[H,I.tok _,by rw[gT r]; exact q]
  ·subst e';obtain⟨hz,hS,vs,r,m⟩ : U.length<=sizeLine/\(p==sysModules)=false/\∃vs,KV U vs/\s.heap.DictOf (jH X.prog X.w) p vs:=I.hok p _ hx;have hlen:U.length=vs.length:=Jt r;exact wpAny_truthy_dict hS m ∅ #[H,I.tok _,by rw[mC r]; exact q]
 | _=>exact(show F8 from e).elim
def mD:OpR X (binaryOp .Add) (λx y H Q=>∃i j,x=.str i/\y=.str j/\i.length+j.length<=sizeLine/\Q (.str (i++j)) H):=by
 intro J s Y H x y v u Q I rx ry h;obtain⟨i,j,rfl,rfl,hz,q⟩:=h;obtain⟨t,rfl⟩:=rx;obtain⟨t',rfl⟩:=ry;exact add_str (λt' tk=>#[.str (i++j),H,I.tok _,#[_,rfl],q]) hz
def iZ {x:V}{us:EI EK}(r:Vals [x] us):∃u,us=[u]/\RelV x u:=by
 cases r with
 | cons r1 r2=>cases r2; exact#[_,rfl,r1]
def Bl {x y:V}{us:EI EK}(r:Vals [x,y] us):∃u w',us=[u,w']/\RelV x u/\RelV y w':=by
 cases r with
 | cons r1 r2=>
  cases r2 with
  | cons r3 r4=>cases r4; exact#[_,_,rfl,r1,r3]
def pB (hc:X.calm=true):CallR X (.builtin "min") (λxs H Q=>∃i j,xs=[.int i,.int j]/\Q (.int (if j < i then j else i)) H):=by
 intro J s Y H xs us Q I r h;obtain⟨i,j,rfl,q⟩:=h;obtain⟨u,w',rfl,⟨t,rfl⟩,⟨t',rfl⟩⟩:=Bl r;show min_two_ints (I.ok.hd hc) λh' tk k=>#[_,H,I.kept k,?_,q]
 by_cases hj:j < i
 ·rw[Fi hj,Fi hj]; exact#[_,rfl]
 ·rw[FJ hj,FJ hj]; exact#[_,rfl]
def i3:CallR X (.type "int") (λxs H Q=>(∃i,xs=[.int i]/\Q (.int i) H)\/∃k,xs=[.bl k]/\Q (.int (if k then 1 else 0)) H):=by
 intro J s Y H xs us Q I r h;rcases h with⟨i,rfl,q⟩|⟨k,rfl,q⟩
 ·obtain⟨u,rfl,t,rfl⟩:=iZ r;exact call_int_int #[.int i,H,I,#[_,rfl],q]
 ·obtain⟨u,rfl,r1⟩:=iZ r;cases r1;exact call_int_bool #[.int (if k then 1 else 0),H,I.tok _,#[_,rfl],q]
abbrev Dn (K:EW)(x:V)(H:Hp)(n:EV):Prop:=
 match x with
 | .str y=>y.length<=sizeLine/\n=y.length
 | .byt y=>y.size<=sizeLine/\n=y.size
 | .ref p=>(∃xs,SqL K H p xs/\n=xs.length)\/∃xs,SqT K H p xs/\n=xs.length
 | _=>F8
def gU:CallR X (.builtin "len") (λxs H Q=>∃x n,xs=[x]/\Dn X.K x H n/\Q (.int n) H):=by
 intro J s Y H xs us Q I r h;obtain⟨x,n,rfl,e,q⟩:=h;obtain⟨u,rfl,rx⟩:=iZ r;have hl:=fO;have hs:sizeLine=16777216:=FX;cases x with
 | str y=>
  obtain⟨t,rfl⟩:=rx;obtain⟨hy,e'⟩ : y.length<=sizeLine/\n=y.length:=e;subst e';exact len_str ∅ #[.int _,H,I.tok _,#[_,rfl],q]
 | byt y=>
  obtain⟨t,rfl⟩:=rx;obtain⟨hy,e'⟩ : y.size<=sizeLine/\n=y.size:=e;subst e';exact PySem.W.len_bytes ∅ #[.int _,H,I.tok _,#[_,rfl],q]
 | ref p=>
  cases rx;have e':(∃xs,SqL X.K H p xs/\n=xs.length)\/∃xs,SqT X.K H p xs/\n=xs.length:=e;rcases e' with⟨xs,hx,e'⟩|⟨xs,hx,e'⟩
  ·subst e';obtain⟨its,r',pl,hz⟩:=I.list hx;have hlen:=r'.length;exact Calls.call_len_list pl.isList (by simp only[EY]; omega) #[.int xs.length,H,I.tok _,#[_,by simp only[EY]; rw[hlen]],q]
  ·subst e';obtain⟨its,r',pl,hz⟩:=I.tuple hx;have hlen:=r'.length;exact len_tuple pl (by simp only[EY]; omega) #[.int xs.length,H,I.tok _,#[_,by simp only[EY]; rw[hlen]],q]
 | _=>exact(show F8 from e).elim
end
structure Room (k:EV)(A:Fs):Prop where
 hd:A.handled=gV
 dp:A.depth+3*k+5 < recursionLimit
 un:A.units+16*k+200 < cLine
def Room.deeper {k:EV}{A:Fs}(r:Room (k+1) A)(env:Lb):Room k (A.deeper env):=
 #[r.hd,by have:=r.dp; show A.depth+1+3*k+5 < _; omega,by have:=r.un; show A.units+3+16*k+200 < _; omega]
def Room.depth {k:EV}{A:Fs}(r:Room k A):A.depth < recursionLimit:=by have:=r.dp; omega
abbrev Bm:TA:=λ_ H Q=>Q [] H
abbrev Bn (ta:TE)(tr:TA):TA:=λY H Q=>ta Y H λx H1=>tr Y H1 λxs H2=>Q (x::xs) H2
section
variable{X:Cx}{e:Fa}{es:EI Fa}{te:TE}{t:TA}{pos:G5}
def q9:PA X [] Bm:=λ_ _ _ _ H Q I h=>Calls.spliced_nil #[[],H,I,.nil,h]
def jK (ha:PE X e te)(hr:PA X es t)(hs:starEach (e::es) X.env=(false,eval e X.env)::starEach es X.env:=by rfl):PA X (e::es) (Bn te t):=by
 intro pos J s Y H Q I h;rw[hs];change wpAny _ _ (spliced ((false,eval e X.env)::backTo pos (starEach es X.env))) _ _ s;show Calls.spliced_cons (aK (ha J s Y H _ I h) λu s1 #[x,H1,I1,r1,q1]=>?_)
 exact aK (hr pos J s1 Y H1 _ I1 q1) λus s2 #[xs,H2,I2,r2,q2]=>#[x::xs,H2,I2,.cons r1 r2,q2]
abbrev Do (t:TA):TE:=λY H Q=>t Y H λxs H1=>xs.length<=sizeLine/\∀p,H1 p=gV->Q (.ref p) (aR H1 p (.tup xs))
abbrev Dp (t:TA):TE:=λY H Q=>t Y H λxs H1=>xs.length<=sizeLine/\∀p,H1 p=gV->Q (.ref p) (aR H1 p (.lst xs))
def ze {x1}(h:PA X es t):PE X (.Tuple es x1 pos) (Do t):=by
 intro J s Y H Q I hq;show wpAny_Tuple_spliced (aK (h pos J s Y H _ I hq) λus s1 #[xs,H1,I1,r,z,q]=>#[by rw[<- r.length]; exact z,?_])
 have hf:H1 s1.heap.objs.size=gV:=I1.hok.fresh (E2 _);show#[.ref s1.heap.objs.size,aR H1 s1.heap.objs.size (.tup xs),I1.laid (t':=s1.toks) (λb u e=>EM _ e) (E2 _) ?_,rfl,q _ hf]
 exact#[#[z,NoD.new _ _ _],us,r,#[_,EX _ rfl,rfl,_,rfl]]
def zf (h:PA X es t):PE X (.List es pos) (Dp t):=by
 intro J s Y H Q I hq;show wpAny_List_spliced (aK (h pos J s Y H _ I hq) λus s1 #[xs,H1,I1,r,z,q]=>#[by rw[<- r.length]; exact z,?_])
 have hf:H1 s1.heap.objs.size=gV:=I1.hok.fresh (E2 _);show#[.ref s1.heap.objs.size,aR H1 s1.heap.objs.size (.lst xs),I1.laid (t':=s1.toks) (λb u e=>EM _ e) (E2 _) ?_,rfl,q _ hf]
 exact#[z,us,0,r,EX _ rfl]
end
noncomputable abbrev Sp:=EI V->Hp->VK->XK->Prop
noncomputable abbrev rc:=EI Lb->Hp->EN->XK->EK->EN->Prop
structure Env0 (P:Fn)(w:Fv)(K:EW)(mg:E3->EO EK)(base:FN)(A:Fs)(outer:EI Lb)(s:EN)(H:Hp):Prop where
 frames:A.frames=ba outer
 mod:Mod K mg base
 bs:∀b o,base.get? b=ba o->s.heap.get? b=ba o/\H b=gV
 bsz:base.objs.size<=s.heap.objs.size
 funs:s.heap.FunFrames base outer
 frf:∀b∈mw outer,H b=gV
 hok:HOk P w H s.heap
 bare:Jp s.gens
abbrev CE (outer:EI Lb)(P:Fn)(w:Fv)(H:Hp)(s:EN)(Q:VK)(u:EK)(s':EN):Prop:=
 ∃v H',s'.os=s.os/\Jp s'.gens/\Un (mw outer) [] H H' s.heap s'.heap/\HOk P w H' s'.heap/\RelV v u/\Q v H'
abbrev CR (CX:rc)(outer:EI Lb)(P:Fn)(w:Fv)(H:Hp)(s:EN)(Q:VK)(E:XK)(r:LD)(s':EN):Prop:=
 match r with
 | .ok (.ret u)=>CE outer P w H s Q u s'
 | .ok _=>F8
 | .error e=>CX outer H s E e s'
structure FnOk (P:Fn)(w:Fv)(K:EW)(mg:E3->EO EK)(base:FN)(CX:rc)(k:EV)(f:EU)(fd:Hg)(ps:EI E3)(sp:Sp):Prop where
 len:∀vs H Q E,sp vs H Q E->vs.length=ps.length
 run:∀(A:Fs) (outer:EI Lb) (s:EN) (H:Hp) (args:Args) (us:EI EK) (vs:EI V) (Q:VK) (E:XK),Room k A->Env0 P w K mg base A outer s H->Lf s fd args (ps.zip us)->Vals vs us->sp vs H Q E->
  codeAny (model P w) A (.call (.ref f) args) (CR CX outer P w H s Q E) s
section
variable{X:Cx}{J:EI (EU×Gm)}{Y:St}{H:Hp}{s s':EN}
def Inv.env0 (I:Inv X J Y H s):Env0 X.prog X.w X.K X.mg X.base X.A X.stack s H:=
 #[I.ok.frames,I.ok.mod,I.bs,F2 I.ok.bsz I.sz,I.stack,I.stkFree,I.hok,I.bare]
def Inv.after {Q:VK}{u:EK}(I:Inv X J Y H s)(h:CE X.stack X.prog X.w H s Q u s'):EP X J Y Q u s':=by
 obtain⟨v,H',os,bare,un,hok,r,q⟩:=h;obtain⟨hh,g,d,t,os'⟩:=s';obtain rfl:os'=s.os:=os;exact#[v,H',I.call (h':=hh) (g':=g) (d':=d) (t':=t) (ch:=[]) un hok bare (λb z=>absurd z (by simp)),r,q]
end
abbrev re (sp:Sp)(dvs:EI V)(E:XK)(t:TA):TE:=λY H Q=>t Y H λvs H1=>sp (vs++dvs) H1 Q E
abbrev Binds (K:EW)(fd:Hg)(ps:EI E3)(ds:EI EK):Prop:=
 ∀(s:EN) (us:EI EK),K.In s.heap->(us++ds).length=ps.length->Lf s fd #[us,[]] (ps.zip (us++ds))
def Binds.all {K:EW}{fd:Hg}{ps:EI E3}(h:∀us:EI EK,us.length=ps.length->bindArgs fd #[us,[]]=pure (ps.zip us)):Binds K fd ps []:=λs us _ hl=>by
 rw[HH]at hl ⊢;exact .of_eq (h us hl)
abbrev jL (CX:rc)(X:Cx)(E:XK):Prop:=∀(J:EI (EU×Gm)) (Y:St) (H:Hp) (s:EN) (e:EK) (s':EN),Inv X J Y H s->CX X.stack H s E e s'->X.xe e s'
section
variable{X:Cx}{CX:rc}{k:EV}{f C:EU}{fd:Hg}{ps:EI E3}{sp:Sp}{dvs:EI V}{ds:EI EK}{E:XK}{x m:E3}{p pos apos:G5}{e o:Fa}{es:EI Fa}{ta:TE}{t:TA}
def rg {J:EI (EU×Gm)}{Y:St}{H:Hp}{s:EN}{Q:VK}{us:EI EK}{vs:EI V}(F:FnOk X.prog X.w X.K X.mg X.base CX k f fd ps sp)(hr:Room k X.A)(hb:Binds X.K fd ps ds)(hd:Vals dvs ds)(hx:jL CX X E)
  (I:Inv X J Y H s) (r:Vals vs us) (h:sp (vs++dvs) H Q E):wpAny (model X.prog X.w) X.A (call (.ref f) us) (EP X J Y Q) X.xe s:=by
 have r2:Vals (vs++dvs) (us++ds):=r.append hd;have hl:(us++ds).length=ps.length:=by rw[<- r2.length]; exact F.len _ _ _ _ h
 show wpAny_call (Ix (F.run X.A X.stack s H #[us,[]] (us++ds) (vs++dvs) Q E hr I.env0 (hb s us I.kIn hl) r2 h) λr s' hq=>?_)
 cases r with
 | error e=>exact hx J Y H s e s' I hq
 | ok fl=>
  cases fl with
  | ret u=>exact I.after hq
  | next=>exact F8.elim hq
  | brk=>exact F8.elim hq
  | cont=>exact F8.elim hq
def vf (F:FnOk X.prog X.w X.K X.mg X.base CX k f fd ps sp)(hr:Room k X.A)(hg:Gl X x)(hm:X.mg x=ba (.ref f))(hk:Ge X.K (.ref f)=true)(hb:Binds X.K fd ps ds)(hd:Vals dvs ds)(hx:jL CX X E)
  (ha:PA X (e::es) t) (hdb:(x==("__debug__" : E3))=false:=by decide) (he:starEach (e::es) X.env=(false,eval e X.env)::starEach es X.env:=by rfl) (hpl:(backTo pos (starEach es X.env)).any (·.1)=false:=by rfl) :
  PE X (.Call (.Name x p) (e::es) [] pos) (re sp dvs E t):=by
 intro J s Y H Q I h;show Iq (jJ I hg hm ?_ hdb);show PySem.W.callWith_K (h₀:=X.base) I.ok.mod.kin hk (aK (ha pos J s Y H _ I h) λus s1 #[vs,H1,I1,r,q]=>#[I1.kIn,?_]) he hpl
 exact rg F hr hb hd hx I1 r q
def rh (F:FnOk X.prog X.w X.K X.mg X.base CX k f fd ps sp)(hr:Room k X.A)(hg:Gl X x)(hm:X.mg x=ba (.ref f))(hk:Ge X.K (.ref f)=true)(hb:Binds X.K fd ps ds)(hd:Vals dvs ds)(hx:jL CX X E)
  (hdb:(x==("__debug__" : E3))=false:=by decide):PE X (.Call (.Name x p) [] [] pos) (re sp dvs E Bm):=by
 intro J s Y H Q I h;show Iq (jJ I hg hm ?_ hdb);exact PySem.W.callWith_K0 I.kIn hk (rg (us:=[]) F hr hb hd hx I .nil h)
end
structure FnScope (N P:EI E3)(sc:HM):Prop where
 kind:sc.kind=.function
 co:sc.isCoroutine=false
 gen:sc.isGenerator=false
 nd:N.Nodup
 pre:N.take P.length=P
 par:∀x∈P,sc.names.lookup x=ba .local\/sc.names.lookup x=ba .cell
 nofree:∀y∈sc.names,y.2≠.free
def i4 {kindOf:E3->EO GD}{x:E3}:∀ {binds:EI (E3×EK)} {m:E3->EO EK},(∀v,(x,v)∉binds)->bindL kindOf binds m x=m x
 | [],_,_=>rfl
 | (n,v)::r,m,h=>by
  unfold bindL;rw[i4 λw hw=>h w (FC _ hw)]
  split
  ·have:x≠n:=by rintro rfl; exact h v F9
   simp[this]
  ·rfl
def i5 {kindOf:E3->EO GD}{x:E3}:∀ {binds:EI (E3×EK)} {m:E3->EO EK},(∀v,(x,v)∉binds)->bindC kindOf binds m x=m x
 | [],_,_=>rfl
 | (n,v)::r,m,h=>by
  unfold bindC;rw[i5 λw hw=>h w (FC _ hw)]
  split
  ·rfl
  ·have:x≠n:=by rintro rfl; exact h v F9
   simp[this]
def i6 {kindOf:E3->EO GD}{x:E3}{v:EK}:∀ {P:EI E3} {vs:EI EK} {i:EV} {m:E3->EO EK},P.Nodup->P[i]?=ba x->vs[i]?=ba v->kindOf x=ba .local->
  bindL kindOf (P.zip vs) m x=ba v
 | [],_,_,_,_,h,_,_=>by simp at h
 | _::_,[],_,_,_,_,h,_=>by simp at h
 | p::P,w::vs,0,m,nd,h1,h2,hk=>by
  simp at h1 h2; subst h1; subst h2
  change bindL kindOf ((p,w)::P.zip vs) m p=_;unfold bindL;rw[i4 λv hv=>(HI.mp nd).1 (JU hv).1,Fi hk]
  simp
 | p::P,w::vs,i+1,m,nd,h1,h2,hk=>by
  change bindL kindOf ((p,w)::P.zip vs) m x=_;unfold bindL;exact i6 (i:=i) (HI.mp nd).2 (by simpa using h1) (by simpa using h2) hk
def i7 {kindOf:E3->EO GD}{x:E3}{v:EK}:∀ {P:EI E3} {vs:EI EK} {i:EV} {m:E3->EO EK},P.Nodup->P[i]?=ba x->vs[i]?=ba v->kindOf x≠ba .local->
  bindC kindOf (P.zip vs) m x=ba v
 | [],_,_,_,_,h,_,_=>by simp at h
 | _::_,[],_,_,_,_,h,_=>by simp at h
 | p::P,w::vs,0,m,nd,h1,h2,hk=>by
  simp at h1 h2; subst h1; subst h2
  change bindC kindOf ((p,w)::P.zip vs) m p=_;unfold bindC;rw[i5 λv hv=>(HI.mp nd).1 (JU hv).1,FJ hk]
  simp
 | p::P,w::vs,i+1,m,nd,h1,h2,hk=>by
  change bindC kindOf ((p,w)::P.zip vs) m x=_;unfold bindC;exact i7 (i:=i) (HI.mp nd).2 (by simpa using h1) (by simpa using h2) hk
abbrev dP (N:EI E3)(vs:EI V):St:=vs.map ba++Fw (N.length - vs.length) gV
abbrev mE (CX:rc)(P:Fn)(w:Fv)(K:EW)(mg:E3->EO EK)(base:FN)(N:EI E3)(qual:E3)(scope:HM)(f:EU)(cd:EK)(A:Fs)(outer:EI Lb)(s:EN)(H:Hp)(E:XK):Cx where
 prog:=P
 w:=w
 K:=K
 mg:=mg
 base:=base
 A:=A.deeper (envOfC qual scope s.heap.objs.size f cd)
 N:=N
 s₀:=s
 H₀:=H
 env:=envOfC qual scope s.heap.objs.size f cd
 outer:=outer
 stack:=envOfC qual scope s.heap.objs.size f cd::outer
 ex:=[]
 calm:=true
 fn:=λ_=>true
 pn:=[]
 xe:=λe s'=>wpAny (model P w) (A.deeper (envOfC qual scope s.heap.objs.size f cd)) (leaving (envOfC qual scope s.heap.objs.size f cd) e) (λ_ s''=>CX outer H s E e s'') (λe' s''=>CX outer H s E e' s'') s'
def kQ {sc:HM}{n:EV}{x:E3}(h:sc.names.lookup x=ba .cell):∃c,(cellsFrom n sc.names []).lookup x=ba c:=by
 have q:=JI sc.names n [] (.inl h);exact Gb.mp q
def pE {CX:rc}{P:Fn}{w:Fv}{K:EW}{mg:E3->EO EK}{base:FN}{N ps:EI E3}{qual:E3}{scope:HM}{f:EU}{cd:EK}{A:Fs}{outer:EI Lb}{s s1:EN}{H:Hp}{E:XK}{us:EI EK}{vs:EI V}
  (S:FnScope N ps scope) (hd:A.handled=gV) (e0:Env0 P w K mg base A outer s H) (hl:vs.length=ps.length) (r:Vals vs us)
  (x:InCallC s s.heap.objs.size (bindL (envOfC qual scope s.heap.objs.size f cd).kindOf (ps.zip us) λ_=>gV) (cellsFrom (s.heap.objs.size+1) scope.names []) (bindC (envOfC qual scope s.heap.objs.size f cd).kindOf (ps.zip us) λ_=>gV) s1) :
  Inv (mE CX P w K mg base N qual scope f cd A outer s H E) [] (dP N vs) H s1:=by
 have hpl:ps.length<=N.length:=by have:=congrArg MZ S.pre; rw[Gg]at this; omega
 obtain⟨h1,tk,rfl,hk⟩:=x.done;have noA:∀b:EU,b∉(mE CX P w K mg base N qual scope f cd A outer s H E).ex:=λb z=>absurd (show b∈([]:EI EU)from z) (by simp)
 show#[#[e0.mod,S.kind,rfl,rfl,E2 _,λy z c h1 h2=>?_,λy hy=>?_,λy c _ h=>?_,λ_=>hd,Around.frames_deeper e0.frames,.inr #[rfl,rfl],λb z=>absurd z (noA b),e0.bs,e0.bsz,λb _ _=>noA b,λb z=>absurd z (noA b),e0.funs,e0.frf],
  rfl,e0.bare,Un.kept hk,#[_,x.toInCall.ns,λi y v h1 h2 h3=>?_],λy c h=>#[_,x.cell y c h],e0.hok.fresh (E2 _),λy c h=>?_,λp hp=>absurd (show p∈([]:EI (EU×Gm))from hp) (by simp),e0.hok.kept hk,?_]
 ·exact name_of_addr x.apart (Hx h1) (Hx h2)
 ·have hy:scope.names.lookup y=ba .cell\/scope.names.lookup y=ba .free:=hy;rcases hy with hy|hy
  ·exact kQ hy
  ·exact absurd rfl (S.nofree _ (Hx hy))
 ·exact Iw (x.above y c (Hx h))
 ·have hi:i < vs.length:=by
   unfold dP at h2
   by_cases hi:i < vs.length
   ·exact hi
   ·rw[GJ (by simpa using hi)]at h2
    rw[List.getElem?_replicate]at h2;split at h2 <;> cases h2
  have ha:vs[i]?=ba v:=by
   unfold dP at h2;rw[Fz (by simpa using hi),E1]at h2
   cases e:vs[i]? with
   | none=>rw[e]at h2; cases h2
   | some a=>rw[e]at h2; cases h2; rfl
  obtain⟨u,hu,rv⟩:=r.get ha;have hp:ps[i]?=ba y:=by
   rw[<- S.pre,Ju ∅]; exact h1
  have ndP:ps.Nodup:=by rw[<- S.pre]; exact S.nd.sublist (Lg _ _)
  show#[u,rv,?_];rcases S.par y (Fh hp)with k|k
  ·exact .inl #[k,i6 ndP hp hu k]
  ·obtain⟨c,e⟩:=kQ (n:=s.heap.objs.size+1) k;show .inr #[.inl k,c,e,?_];have q:=x.cell y c e;rw[i7 ndP hp hu (by change scope.names.lookup y≠_; rw[k]; decide)]at q
   exact q
 ·exact e0.hok.fresh (Iw (x.above y c (Hx h)))
 ·unfold dP;change _=N.length;rw[E6,ER,J3];omega
def Bo {CX:rc}{P:Fn}{w:Fv}{K:EW}{mg:E3->EO EK}{base:FN}{k:EV}{f:EU}{name qual:E3}{params:Arguments}{body:EI Hv}{scope:HM}{dV kV doc pm cdv ct oc:EK}{an od:EO EU}
  {osl:FM (EO EK)} {N ps:EI E3} {sp:Sp} (lk:K.lookup f=ba #[oc,od,.func (GZ name qual params body scope dV kV doc pm an cdv ct),osl]) (hcd:HB K cdv qual=true) (S:FnScope N ps scope)
  (len:∀vs H Q E,sp vs H Q E->vs.length=ps.length)
  (hbody:∀(A:Fs) (outer:EI Lb) (s:EN) (H:Hp) (vs:EI V) (Q:VK) (E:XK),Room k (A.deeper (envOfC qual scope s.heap.objs.size f cdv))->sp vs H Q E->
   ∃t,PSs (mE CX P w K mg base N qual scope f cdv A outer s H E) body t/\t { nx:=λ_ H'=>Q .non H',rt:=Q } (dP N vs) H) :
  FnOk P w K mg base CX (k+1) f (GZ name qual params body scope dV kV doc pm an cdv ct) ps sp:=by
 show#[len,λA outer s H args us vs Q E hr e0 hb r hsp=>?_]
 have hl:=len _ _ _ _ hsp;have KX:K.In s.heap:=e0.mod.kin.keeps λb o e=>(e0.bs b o e).1
 have lim:s.heap.NoLimit:=e0.mod.nolimit.keeps λb o e=>(e0.bs b o e).1
 have hkind:∀y∈ps.zip us,scope.names.lookup y.1=ba .local\/(scope.names.lookup y.1=ba .cell/\((cellsFrom (s.heap.objs.size+1) scope.names []).lookup y.1).isSome=true):=λ#[n,v] hy=>by
  rcases S.par n (JU hy).1 with q|q
  ·exact .inl q
  ·exact .inr #[q,JI _ _ _ (.inl q)]
 show codeAny_call_function hr.depth (KX _ _ lk) rfl S.co S.gen rfl (PySem.W.codeRec_of KX hcd) (hb _ _ _ _ ?_);show wpAny_newFunctionEnv_cells S.kind hkind λenv he s1 x=>?_
 subst he;show#[lim.keeps x.toInCall.keep,codeAny_func ?_];obtain⟨t,ht,hq⟩:=hbody A outer s H vs Q E (hr.deeper _) hsp;have I:Inv (mE CX P w K mg base N qual scope f cdv A outer s H E) [] (dP N vs) H s1:=pE S hr.hd e0 hl r x;show Gz (ht [] s1 (dP N vs) H _ I hq) (λfl s' hs=>?_) λe s' hs=>hs
 have fin:∀ {Y':St} {H':Hp} {v:V} {u:EK},Inv (mE CX P w K mg base N qual scope f cdv A outer s H E) [] Y' H' s'->RelV v u->Q v H'->CE outer P w H s Q u s':=
  λ{Y' H' v u} td rv q=>#[v,H',td.os,td.bare,td.base,td.hok,rv,q]
 cases fl with
 | ret u=>
  obtain⟨v,Y',H',td,rv,q⟩:=hs;exact fin td rv q
 | next=>
  obtain⟨Y',H',td,q⟩:=hs;exact fin (v:=V.non) (u:=FY) td rfl q
 | brk=>
  obtain⟨_,_,_,q⟩:=hs;exact F8.elim q
 | cont=>
  obtain⟨_,_,_,q⟩:=hs;exact F8.elim q
section
variable{X:Cx}{x:E3}{p pos:G5}{e:Fa}{es:EI Fa}{t:TA}{id T:Gc}{r:EI V->Hp->VK->Prop}
abbrev Eb (r:EI V->Hp->VK->Prop)(t:TA):TE:=λY H Q=>t Y H λvs H1=>r vs H1 Q
def kR (hc:CallR X (.builtin id) r)(hg:Gl X x)(hm:X.mg x=gV)(hv:bootBuiltins x=ba (.builtin id))(ha:PA X (e::es) t)(hn:x≠"__name__":=by decide)(hdb:(x==("__debug__" : E3))=false:=by decide)
  (he:starEach (e::es) X.env=(false,eval e X.env)::starEach es X.env:=by rfl) (hpl:(backTo pos (starEach es X.env)).any (·.1)=false:=by rfl):PE X (.Call (.Name x p) (e::es) [] pos) (Eb r t):=by
 intro J s Y H Q I h;show Iq (dO I hg hm hv ?_ hn hdb);exact LF (aK (ha pos J s Y H _ I h) λus s1 #[vs,H1,I1,r1,q1]=>hc J s1 Y H1 vs us Q I1 r1 q1) he hpl
def pG (hc:CallR X (.type T) r)(hg:Gl X x)(hm:X.mg x=gV)(hv:bootBuiltins x=ba (.type T))(ha:PA X (e::es) t)(hn:x≠"__name__":=by decide)(hdb:(x==("__debug__" : E3))=false:=by decide)
  (he:starEach (e::es) X.env=(false,eval e X.env)::starEach es X.env:=by rfl) (hpl:(backTo pos (starEach es X.env)).any (·.1)=false:=by rfl):PE X (.Call (.Name x p) (e::es) [] pos) (Eb r t):=by
 intro J s Y H Q I h;show Iq (dO I hg hm hv ?_ hn hdb);exact Gk (aK (ha pos J s Y H _ I h) λus s1 #[vs,H1,I1,r1,q1]=>hc J s1 Y H1 vs us Q I1 r1 q1) he hpl
end
end L2
namespace HT
open PySem PyProof.Rows
section
open PySem.SeqAt
open PySem.AutoSeq1 (wpAny_loadPart')
open PySem.MeetsSeq PySem.MeetsSeq2 PySem.MeetsSeq3
end
section
variable{prog:Fn}{w:Fv}{A:Fs}{E:EK->EN->Prop}{s:EN}
def vg {t b:EU}{vs ws:EI EK}{Q:EK->EN->Prop}(ht:La s.heap t vs.toArray)(hb:La s.heap b ws.toArray)(hv:vs≠[])
  (h1:ws=[]->Q (.ref t) s) (h2:ws≠[]->Q (.ref s.heap.objs.size) { s with heap:=s.heap.push { cls:=.type "tuple",data:=.seq (vs++ws).toArray } })
  (hsz:vs.length+ws.length<=sizeLine):wpAny (model prog w) A (binaryOp .Add (.ref t) (.ref b)) Q E s:=by
 obtain⟨⟨cls,dd,data,sl⟩,ho,hc,n,hd⟩:=id ht;obtain⟨⟨cls2,dd2,data2,sl2⟩,ho2,hc2,n2,hd2⟩:=id hb;simp only at hc hd hc2 hd2;subst hc hd hc2 hd2;have e:vs.toArray++ws.toArray=(vs++ws).toArray:=by simp
 by_cases hw:ws=[]
 ·exact Lh #[_,ho,rfl] #[_,ho2,rfl] JC KG Iy Iv (Ik _ _)
   (tuple_addW1 t b vs.toArray ws.toArray n n2 dd dd2 sl sl2 (by simpa using hv) (by simp[hw])) #[ho,ho2,h1 hw]
 ·show Lh #[_,ho,rfl] #[_,ho2,rfl] JC KG Iy Iv (Ik _ _)
   (tuple_addW2 t b vs.toArray ws.toArray n n2 dd dd2 sl sl2 (by simpa using hv) (by simpa using hw) (by rw[EY,EY]; exact hsz)) #[ho,ho2,?_]
  rw[e];exact h2 hw
abbrev bv (n d:EV):EO E5->EV
 | none=>d
 | some v=>if v < 0 then(v+(n:E5)).toNat else min v.toNat n
def kS (n d:EV):bv n d gV=d:=rfl
def nK (n d k:EV):bv n d (ba (k:E5))=min k n:=by
 show(if (k:E5) < 0 then((k:E5)+(n:E5)).toNat else min (k:E5).toNat n)=min k n
 rw[FJ ∅,Ff]
def zh (n d:EV)(hd:d<=n)(o:EO E5):bv n d o<=n:=by
 cases o with
 | none=>exact hd
 | some v=>
  show(if v < 0 then(v+(n:E5)).toNat else min v.toNat n)<=n
  by_cases hv:v < 0
  ·rw[Fi hv]; omega
  ·rw[FJ hv]; exact Nat.min_le_right _ _
def nL (v:E5)(n d:EV):(if v < 0 then max (v+(n:E5)) 0 else min v (n:E5))=((bv n d (ba v):EV):E5):=by
 show(if v < 0 then max (v+(n:E5)) 0 else min v (n:E5))=(((if v < 0 then(v+(n:E5)).toNat else min v.toNat n):EV):E5)
 by_cases hv:v < 0
 ·simp only[Fi hv]; omega
 ·simp only[FJ hv]; omega
def mF (lo hi:EO E5)(n:EV):Ic lo hi 1 (n:E5)=(((bv n 0 lo:EV):E5),((bv n n hi:EV):E5)):=by
 have h1:¬ ((1:E5) < 0):=∅
 unfold Ic;simp only[h1,Hn];show NF ?_ ?_
 ·cases lo with
  | none=>rfl
  | some v=>exact nL v n 0
 ·cases hi with
  | none=>rfl
  | some v=>exact nL v n n
def mG (i j:EV):Hj (i:E5) (j:E5) 1=j - i:=by
 unfold Hj;have h1:(1:E5) > 0:=∅
 simp only[h1,HX,Int.ediv_one];split <;> omega
def gW {v:EK}{o:EO E5}{Q:EO E5->EN->Prop}(p:Ja v o)(h:Q o s):wpAny (model prog w) A (LW v) Q E s:=by
 cases p with
 | none=>exact L9 h
 | int i t=>exact slicePart_int h
def dk {sl:EU}{vl vu:EK}{lo hi:EO E5}{n:EV}{Q:E5×E5×EV->EN->Prop}(hs:s.heap.IsSliceOf sl vl vu .none)(pl:Ja vl lo)(pu:Ja vu hi)
  (h:Q (((bv n 0 lo:EV):E5),1,bv n n hi - bv n 0 lo) s):wpAny (model prog w) A (Jb (.ref sl) (pure (n:E5))) Q E s:=by
 obtain⟨os,hos,hcs,hds⟩:=id hs;unfold Jb Ms;show EJ (EJ (Go hos hds (x:=vl) rfl (EJ (Go hos hds (x:=vu) rfl (EJ (Go hos hds (x:=.none) rfl (ET ?_)))))));show EJ (L9 ?_);change wpAny _ _ (if ((1:E5)==0)=true then _ else _) _ _ s
 rw[FJ #v[]]
 show EJ (gW pl (EJ (gW pu (EJ (ET ?_)))));change wpAny _ _ (match Ic lo hi 1 (n:E5)with|(lo,hi)=>pure (lo,(1:E5),Hj lo hi 1)) _ _ s
 rw[mF lo hi n];change wpAny _ _ (pure (((bv n 0 lo:EV):E5),(1:E5),Hj ((bv n 0 lo:EV):E5) ((bv n n hi:EV):E5) 1)) _ _ s;rw[mG];exact ET h
def rj (xs:FM EK)(i k:EV):((Gn k).filterMap λ(m:EV)=>xs[((i:E5)+(m:E5)*1).toNat]?).toArray=((xs.toList.drop i).take k).toArray:=by
 have e:(λ(m:EV)=>xs[((i:E5)+(m:E5)*1).toNat]?)=λm=>xs[i+m]?:=by
  funext m
  have:((i:E5)+(m:E5)*1).toNat=i+m:=∅
  rw[this]
 rw[e];have:=pick_run xs i k;rw[List.filterMap_map]at this;have e2:((λx=>xs[x]?)∘λx=>i+x)=λm=>xs[i+m]?:=rfl
 rw[e2]at this;rw[this]
def eU {t sl:EU}{items:FM EK}{vl vu:EK}{lo hi:EO E5}{Q:EK->EN->Prop}(ht:La s.heap t items)(hs:s.heap.IsSliceOf sl vl vu .none)(pl:Ja vl lo)(pu:Ja vu hi)
  (hw:¬ (bv items.size 0 lo=0/\bv items.size items.size hi=items.size))
  (h:Q (.ref s.heap.objs.size) { s with heap:=s.heap.push { cls:=.type "tuple",data:=.seq ((items.toList.drop (bv items.size 0 lo)).take (bv items.size items.size hi - bv items.size 0 lo)).toArray } })
  (hsz:items.size<=sizeLine):wpAny (model prog w) A (getItem (.ref t) (.ref sl)) Q E s:=by
 have htake:sizeOk (.seq ((items.toList.drop (bv items.size 0 lo)).take (bv items.size items.size hi - bv items.size 0 lo)).toArray):=by
  show((items.toList.drop (bv items.size 0 lo)).take (bv items.size items.size hi - bv items.size 0 lo)).toArray.size<=sizeLine;rw[EY,Gg,GX,Fe];omega
 have hj:bv items.size items.size hi<=items.size:=zh _ _ (E2 _) hi;obtain⟨os,hos,hcs,hds⟩:=id hs;have hTs:s.TypeIs (.ref sl) "slice":=#[os,hos,hcs];unfold getItem
 try with_reducible show Ga ?_
 first|refine EJ (ET ?_)|skip
 show EJ (Li ht.typeIs #v[] ?_)
 show EJ (FU (name:=GK "__getitem__") ht.typeIs GR
  (F5 GR ht.typeIs Kz ?_ (KU _ _)))
 change wpAny _ _ (HS (.ref t) >>= _) _ _ s;show EJ (Mx ht ?_);show EJ (IW hTs ?_);rw[Fi #v[]]
 show EJ (dk hs pl pu ?_);have hno:¬ ((((bv items.size 0 lo:EV):E5)==0&&(1:E5)==1&&(bv items.size items.size hi - bv items.size 0 lo)==items.size)=true):=by
  intro q;rw[ES,ES]at q;have q1:((bv items.size 0 lo:EV):E5)=0:=eq_of_beq q.1.1;have q2:bv items.size items.size hi - bv items.size 0 lo=items.size:=eq_of_beq q.2;exact hw #[∅,∅]
 change wpAny _ _ (if (((bv items.size 0 lo:EV):E5)==0&&(1:E5)==1&&(bv items.size items.size hi - bv items.size 0 lo)==items.size)=true then _ else _) _ _ s
 rw[FJ hno,rj]
 first
  | exact EJ (m:=Gs _) (FW (ET #[_,rfl,ET h]) htake)
  | exact EJ (m:=Gs _) (FW (EJ (ET (ET #[_,rfl,ET h]))) htake)
  | exact EJ (EJ (m:=Gs _) (FW (ET (ET #[_,rfl,ET h])) htake))
  | exact EJ (EJ (m:=Gs _) (FW (ET #[_,rfl,ET h]) htake))
end
end HT
namespace L2
open PySem PySem.Spec PyProof.Rows
noncomputable abbrev TO:=St->Hp->(EO E5->Hp->Prop)->Prop
abbrev PO (X:Cx)(e:EO Fa)(t:TO):Prop:=
 ∀(J:EI (EU×Gm)) (s:EN) (Y:St) (H:Hp) (Q:EO E5->Hp->Prop),Inv X J Y H s->t Y H Q->
  wpAny (model X.prog X.w) X.A (evalPart e X.env) (λu s'=>∃o H',Inv X J Y H' s'/\Ja u o/\Q o H') X.xe s
abbrev vh:TO:=λ_ H Q=>Q gV H
abbrev Bp (t:TE):TO:=λY H Q=>t Y H λx H1=>∃i,x=.int i/\Q (ba i) H1
section
variable{X:Cx}{e:Fa}{te:TE}{lo hi:EO Fa}{tl th:TO}{pos p2:G5}
def vk:PO X gV vh:=by
 intro J s Y H Q I h;rw[My];exact ET #[gV,H,I,.none,h]
def vm (h:PE X e te):PO X (ba e) (Bp te):=by
 intro J s Y H Q I hw;rw[evalPart_some];show aK (h J s Y H _ I hw) λu s1 #[x,H1,I1,r1,q1]=>?_
 obtain⟨i,rfl,q⟩:=q1;obtain⟨t,rfl⟩:=r1;exact#[ba i,H1,I1,.int i t,q]
abbrev Bq (X:Cx)(r:V->EO E5->EO E5->Hp->VK->Prop):Prop:=
 ∀(J:EI (EU×Gm)) (s:EN) (Y:St) (H:Hp) (x:V) (v vl vu:EK) (lo hi:EO E5) (sl:EU) (Q:VK),Inv X J Y H s->RelV x v->s.heap.IsSliceOf sl vl vu .none->Ja vl lo->Ja vu hi->r x lo hi H Q->
  ∃T id,typeLookup (.type T) "__getitem__" = pure (ba (.builtin id))/\s.TypeIs v T/\wpAny (model X.prog X.w) X.A (getItem v (.ref sl)) (EP X J Y Q) X.xe s
abbrev Ew (r:V->EO E5->EO E5->Hp->VK->Prop)(te:TE)(tl th:TO):TE:=λY H Q=>te Y H λx H1=>tl Y H1 λl H2=>th Y H2 λu H3=>r x l u H3 Q
def rm {r:V->EO E5->EO E5->Hp->VK->Prop}(hr:Bq X r)(he:PE X e te)(hl:PO X lo tl)(hu:PO X hi th):PE X (.Subscript e (.Slice lo hi gV p2) pos) (Ew r te tl th):=by
 intro J s Y H Q I h;show Subscript_ (aK (he J s Y H _ I h) λv s1 #[x,H1,I1,r1,q1]=>?_)
 show wpAny_Slice (aK (hl J s1 Y H1 _ I1 q1) λvl s2 #[l,H2,I2,pl,q2]=>aK (hu J s2 Y H2 _ I2 q2) λvu s3 #[u,H3,I3,pu,q3]=>?_)
 rw[My];show ET ?_;have I4:Inv X J Y H3 { s3 with heap:=s3.heap.push { cls:=.type "slice",data:=.fields [vl,vu,.none].toArray } }:=I3.kept (t':=s3.toks) λb ob q=>EM _ q
 obtain⟨T,id,hT,ht,hg⟩:=hr J { s3 with heap:=s3.heap.push { cls:=.type "slice",data:=.fields [vl,vu,.none].toArray } } Y H3 x v vl vu l u s3.heap.objs.size Q I4 r1 (Nh ..) pl pu q3
 change wpAny (model X.prog X.w) X.A (subscriptTail e (.Slice lo hi gV p2) v (.ref s3.heap.objs.size)) (EP X J Y Q) X.xe { s3 with heap:=s3.heap.push { cls:=.type "slice",data:=.fields [vl,vu,.none].toArray } }
 exact tail_any (ops:=[.ref s3.heap.objs.size,v]) ht hT hg (by with_unfolding_all rfl)
abbrev gX (xs:EI V)(lo hi:EO E5):EI V:=(xs.drop (HT.bv xs.length 0 lo)).take (HT.bv xs.length xs.length hi - HT.bv xs.length 0 lo)
def gk (xs:EI V)(lo hi:EO E5):(gX xs lo hi).length<=xs.length:=by
 unfold gX;rw[Gg,GX];omega
abbrev Dq (K:EW):V->EO E5->EO E5->Hp->VK->Prop:=λx lo hi H Q=>∃a xs,x=.ref a/\SqT K H a xs/\
 ¬ (HT.bv xs.length 0 lo=0/\HT.bv xs.length xs.length hi=xs.length)/\∀p,H p=gV->Q (.ref p) (aR H p (.tup (gX xs lo hi)))
def zj:Bq X (Dq X.K):=by
 intro J s Y H x v vl vu lo hi sl Q I rx hs pl pu h;obtain⟨a,xs,rfl,hx,hw,q⟩:=h;cases rx;obtain⟨its,r,ht,hz⟩:=I.tuple hx;have hlen:its.toArray.size=xs.length:=by rw[EY]; exact r.length.symm
 show#["tuple",_,PyProof.Rows.slot_tuple_getitem.lookup,ht.typeIs,?_];show HT.eU ht hs pl pu (by rw[hlen]; exact hw) ?_ (by rw[hlen]; exact hz)
 rw[hlen];show#[.ref s.heap.objs.size,_,I.laid (t':=s.toks) (o:=.tup (gX xs lo hi)) (λb ob q=>EM _ q) (E2 _) ?_,rfl,q _ (I.hok.fresh (E2 _))]
 exact#[#[F2 (gk xs lo hi) hz,NoD.new _ _ _],_,(r.drop (HT.bv xs.length 0 lo)).take (HT.bv xs.length xs.length hi - HT.bv xs.length 0 lo),LC _ _]
def Vals.nil_iff {xs:EI V}{us:EI EK}(r:Vals xs us):us=[]↔xs=[]:=by
 cases r with
 | nil=>simp
 | cons _ _=>simp
end
abbrev qJ (n:EV)(i:E5):EO EV:=if 0<=i then(if i < n then ba i.toNat else gV)else if -(n:E5)<=i then ba (i+n).toNat else gV
abbrev mq {α:Type}(xs:EI α)(i:E5):EO α:=(qJ xs.length i).bind λj=>xs[j]?
def nM {n:EV}{i:E5}{j:EV}(h:qJ n i=ba j):seqIndex? i n=ba j/\j < n/\-(n:E5)<=i/\i < n:=by
 unfold qJ at h
 by_cases h0:0<=i
 ·rw[Fi h0]at h
  by_cases h1:i < n
  ·rw[Fi h1]at h;have e:i.toNat=j:=Gv h;exact#[by rw[LS h0 h1,e],∅,∅,h1]
  ·rw[FJ h1]at h; cases h
 ·rw[FJ h0]at h
  by_cases h1 : -(n:E5)<=i
  ·rw[Fi h1]at h;have e:(i+n).toNat=j:=Gv h;exact#[by rw[Lj ∅ h1,e],∅,h1,∅]
  ·rw[FJ h1]at h; cases h
def jM {α:Type}{xs:EI α}{i:E5}{v:α}(h:mq xs i=ba v):∃j,seqIndex? i xs.length=ba j/\xs[j]?=ba v/\j < xs.length/\-(xs.length:E5)<=i/\i < xs.length:=by
 unfold mq at h;cases e:qJ xs.length i with
 | none=>rw[e]at h; cases h
 | some j=>
  rw[e]at h;obtain⟨h1,h2,h3,h4⟩:=nM e;exact#[j,h1,h,h2,h3,h4]
def atI_nat {α:Type}{xs:EI α}{j:EV}{v:α}(h:xs[j]?=ba v):mq xs (j:E5)=ba v:=by
 have hj:j < xs.length:=(E9.mp h).1;have e:qJ xs.length (j:E5)=ba j:=by
  unfold qJ;rw[Fi ∅,Fi ∅]; simp
 unfold mq; rw[e]; exact h
abbrev jN (b:Fa):Prop:=∀o i,subscripted b false o i=operate [o,i] (getItem o i)
abbrev IxR (X:Cx)(r:R2):Prop:=
 ∀(value slice:Fa) (J:EI (EU×Gm)) (s:EN) (Y:St) (H:Hp) (x y:V) (v u:EK) (Q:VK),Inv X J Y H s->RelV x v->RelV y u->r x y H Q->
  subscripted slice false v u=operate [v,u] (getItem v u)->wpAny (model X.prog X.w) X.A (subscriptTail value slice v u) (EP X J Y Q) X.xe s
abbrev MtR (X:Cx)(id:Gc)(r:V->EI V->Hp->VK->Prop):Prop:=
 ∀(J:EI (EU×Gm)) (s:EN) (Y:St) (H:Hp) (x:V) (xs:EI V) (v:EK) (us:EI EK) (Q:VK),Inv X J Y H s->RelV x v->Vals xs us->r x xs H Q->
  wpAny (model X.prog X.w) X.A (call (.builtin id) (v::us)) (EP X J Y Q) X.xe s
section
variable{X:Cx}{a b:Fa}{ta tb:TE}{pos:G5}
def Br {r:R2}(hr:IxR X r)(ha:PE X a ta)(hb:PE X b tb)(hs:jN b):PE X (.Subscript a b pos) (CO r ta tb):=by
 intro J s Y H Q I h;exact Subscript_ (yW ha hb I h λv u s2 x y H2 I2 rx ry q=>hr a b J s2 Y H2 x y v u Q I2 rx ry q (hs _ _))
abbrev Dr (K:EW):R2:=λx y H Q=>∃p xs i v,x=.ref p/\y=.int i/\SqL K H p xs/\mq xs i=ba v/\Q v H
abbrev Ds (K:EW):R2:=λx y H Q=>∃p xs i v,x=.ref p/\y=.int i/\SqT K H p xs/\mq xs i=ba v/\Q v H
abbrev Dt:R2:=λx y H Q=>∃z i c,x=.str z/\y=.int i/\z.length<=sizeLine/\mq z.cps.toList i=ba c/\Q (.str #[[c].toArray]) H
def vn:IxR X (Dr X.K):=by
 intro value slice J s Y H x y v u Q I rx ry h hs;obtain⟨p,xs,i,z,rfl,rfl,hq,he,q⟩:=h;cases rx;obtain⟨t,rfl⟩:=ry;obtain⟨its,r,pl,hz⟩:=I.list hq;obtain⟨j,h1,h2,h3,h4,h5⟩:=jM he;obtain⟨w,ew,rw'⟩:=r.get h2;have hl:=r.length;have hn:=fO;have fin:EP X J Y Q w s:=#[z,H,I,rw',q]
 by_cases h0:0<=i
 ·have hj:i.toNat=j:=by
   rw[LS h0 h5]at h1;exact Gv h1
  exact item_listR pl.isList h0 ∅ (by rw[hj]; simpa using ew) fin hs
 ·have hj:(i+(its.toArray.size:E5)).toNat=j:=by
   rw[Lj ∅ h4]at h1
   rw[EY,<- hl];exact Gv h1
  exact Iz (x:=w) pl.isList.typeIs slot_list_getitem.lookup
   (wpAny_getItem_list_neg (Q:=λr s'=>r=w/\EP X J Y Q r s') pl.isList ∅ (by rw[EY] <;> omega) ∅ (by rw[hj]; simpa using ew) #[rfl,fin]) hs
def zm:IxR X (Ds X.K):=by
 intro value slice J s Y H x y v u Q I rx ry h hs;obtain⟨p,xs,i,z,rfl,rfl,hq,he,q⟩:=h;cases rx;obtain⟨t,rfl⟩:=ry;obtain⟨its,r,pl,hz⟩:=I.tuple hq;obtain⟨j,h1,h2,h3,h4,h5⟩:=jM he;obtain⟨w,ew,rw'⟩:=r.get h2;have hl:=r.length;have hn:=fO;have fin:EP X J Y Q w s:=#[z,H,I,rw',q];exact Iz (x:=w) pl.typeIs slot_tuple_getitem.lookup
  (getItem_tuple (j:=j) (Q:=λr s'=>r=w/\EP X J Y Q r s') pl ∅ ∅ (by rw[EY,<- hl]; exact h1) (by simpa using ew) #[rfl,fin]) hs
def zn:IxR X Dt:=by
 intro value slice J s Y H x y v u Q I rx ry h hs;obtain⟨z,i,c,rfl,rfl,hz,he,q⟩:=h;obtain⟨t,rfl⟩:=rx;obtain⟨t',rfl⟩:=ry;obtain⟨j,h1,h2,h3,h4,h5⟩:=jM he;have hl:z.cps.toList.length=z.length:=by simp[HU]
 rw[hl]at h1 h4 h5;have hn:=fO;exact tail_any (Ma s z t) slot_str_getitem.lookup (getItem_str (c:=c) (by
  have e1:decide (i < -(2 ^ 63:E5))=false:=Fq ∅
  have e2:decide (i>=2 ^ 63)=false:=Fq ∅
  rw[e1,e2,Mz]) (by rw[h1]; simpa using h2) #[.str #[[c].toArray],H,I.tok _,#[_,rfl],q]) hs
def mH (its:EI EK)(n j:EV)(u:EK):Gp (·.setIfInBounds j u) { cls:=.type "list",data:=.seq its.toArray n }={ cls:=.type "list",data:=.seq (its.set j u).toArray n }:=by
 simp[Gp]
def Inv.lst {J:EI (EU×Gm)}{Y:St}{H:Hp}{s:EN}{p:EU}{xs:EI V}(I:Inv X J Y H s)(h:H p=ba (.lst xs)) :
  ∃(its:EI EK) (n:EV),Vals xs its/\s.heap.get? p=ba { cls:=.type "list",data:=.seq its.toArray n }/\xs.length<=sizeLine:=by
 obtain⟨z,its,n,r,e⟩:=I.hok p _ h;exact#[its,n,r,e,z]
def Inv.lstUpd {J:EI (EU×Gm)}{Y:St}{H:Hp}{s:EN}{p:EU}{xs ys:EI V}{its its':EI EK}{n n':EV}{f:Gm->Gm}(I:Inv X J Y H s)(h:H p=ba (.lst xs))
  (ho:s.heap.get? p=ba { cls:=.type "list",data:=.seq its.toArray n }) (hf:f { cls:=.type "list",data:=.seq its.toArray n }={ cls:=.type "list",data:=.seq its'.toArray n' }) (r:Vals ys its') (hz:ys.length<=sizeLine) (t:EV) :
  Inv X J Y (aR H p (.lst ys)) { s with heap:=s.heap.update p f,toks:=t }:=by
 have e:(s.heap.update p f).get? p=ba { cls:=.type "list",data:=.seq its'.toArray n' }:=by
  rw[GU f ho (by rw[hf] <;> rfl),hf]
 show I.write (x:=p) (e:=p) (by rw[h]; trivial) (.inl rfl) (λb u hb q=>(FZ _ _ (Ne.symm hb)).trans q) #[_,e] ?_
 exact#[hz,its',n',r,e]
abbrev Bs:V->V->V->Hp->(Hp->Prop)->Prop:=λo i v H Q=>∃p xs k j,o=.ref p/\i=.int k/\H p=ba (.lst xs)/\qJ xs.length k=ba j/\Q (aR H p (.lst (xs.set j v)))
def rn:yP X Bs:=by
 intro J s Y H o i v ov iv u Q I ro ri rv h;obtain⟨p,xs,k,j,rfl,rfl,hp,hj,q⟩:=h;cases ro;obtain⟨t,rfl⟩:=ri;obtain⟨its,n,r,ho,hz⟩:=I.lst hp;obtain⟨h1,h2,h3,h4⟩:=nM hj;have hl:=r.length;have hn:=fO;have I':Inv X J Y (aR H p (.lst (xs.set j v))) { s with heap:=s.heap.update p (Gp (·.setIfInBounds j u)) }:=
  I.lstUpd hp ho (mH its n j u) (r.set rv j) (by rw[List.length_set]; exact hz) s.toks
 by_cases h0:0<=k
 ·have hk:k.toNat=j:=by
   rw[LS h0 h4]at h1;exact Gv h1
  exact PySem.W.ki_setAt ho h0 ∅ (by rw[EY,<- hl]; exact h4) (by rw[hk]; exact#[_,I',q])
 ·have hk:(k+(its.toArray.size:E5)).toNat=j:=by
   rw[Lj ∅ h3]at h1
   rw[EY,<- hl];exact Gv h1
  exact PySem.W.ki_setBack ho ∅ (by rw[EY,<- hl]; exact h3) ∅ (by rw[hk]; exact#[_,I',q])
def jO (lo hi:EO E5)(n:EV):(sliceBounds lo hi gV n).1=((HT.bv n 0 lo:EV):E5)/\(sliceBounds lo hi gV n).2.1=((HT.bv n n hi:EV):E5)/\(sliceBounds lo hi gV n).2.2=1:=by
 show#[?_,?_,rfl]
 ·cases lo with
  | none=>simp[sliceBounds,HT.bv]
  | some i=>
   simp only[sliceBounds,HT.bv,LG,show(1:E5) > 0 by decide,HX]
   by_cases h:i < 0
   ·simp only[h,HX] <;> omega
   ·simp only[h,Hn] <;> omega
 ·cases hi with
  | none=>simp[sliceBounds,HT.bv]
  | some i=>
   simp only[sliceBounds,HT.bv,LG,show(1:E5) > 0 by decide,HX]
   by_cases h:i < 0
   ·simp only[h,HX] <;> omega
   ·simp only[h,Hn] <;> omega
def iR (its:EI EK)(lo hi:EO E5):slicePick its.toArray lo hi gV=((its.drop (HT.bv its.length 0 lo)).take (HT.bv its.length its.length hi - HT.bv its.length 0 lo)).toArray:=by
 obtain⟨h1,h2,h3⟩:=jO lo hi its.toArray.size;unfold slicePick;rw[h1,h2,h3];simp only[sliceRange_one,pick_run,EY] <;> rfl
abbrev Du (K:EW):V->EO E5->EO E5->Hp->VK->Prop:=λx lo hi H Q=>∃a xs,x=.ref a/\SqL K H a xs/\∀p,H p=gV->Q (.ref p) (aR H p (.lst (gX xs lo hi)))
def vo:Bq X (Du X.K):=by
 intro J s Y H x v vl vu lo hi sl Q I rx hs pl pu h;obtain⟨a,xs,rfl,hx,q⟩:=h;cases rx;obtain⟨its,r,ht,hz⟩:=I.list hx;have hlen:=r.length;show#["list",_,slot_list_getitem.lookup,ht.isList.typeIs,?_];show wpAny_getItem_list_slice ht.isList hs pl pu .none (by simp) ?_ (by rw[EY] <;> omega)
 rw[iR,<- hlen];show#[.ref s.heap.objs.size,_,I.laid (t':=s.toks) (o:=.lst (gX xs lo hi)) (λb ob q=>EM _ q) (E2 _) ?_,rfl,q _ (I.hok.fresh (E2 _))]
 exact#[F2 (gk xs lo hi) hz,_,0,(r.drop (HT.bv xs.length 0 lo)).take (HT.bv xs.length xs.length hi - HT.bv xs.length 0 lo),EX _ rfl]
abbrev eD:V->Fk
 | .non=>true
 | .bl _=>true
 | .int _=>true
 | .str _=>true
 | _=>false
abbrev vp:V->V->Fk
 | .non,.non=>true
 | .bl a,.bl b=>a==b
 | .bl a,.int b=>(if a then 1 else 0)==b
 | .int a,.bl b=>a==(if b then 1 else 0)
 | .int a,.int b=>a==b
 | .str a,.str b=>a==b
 | _,_=>false
def zo {A:Fs}{s:EN}{y x:V}{u v:EK}(ry:RelV y u)(rx:RelV x v)(fy:eD y=true)(fx:eD x=true):IG A s u v (vp y x):=by
 cases y with
 | non=>
  cases ry;cases x with
  | non=>cases rx; exact NB _
  | bl b=>cases rx; exact M0 b
  | int b=>obtain⟨t,rfl⟩:=rx; exact M7 b t
  | str b=>obtain⟨t,rfl⟩:=rx; exact M8 b t
  | _=>exact absurd (show false=true from fx) E8
 | bl a=>
  cases ry;cases x with
  | non=>cases rx; exact M1 a
  | bl b=>cases rx; exact M2 a b
  | int b=>obtain⟨t,rfl⟩:=rx; exact M9 a b t
  | str b=>obtain⟨t,rfl⟩:=rx; exact Na a b t
  | _=>exact absurd (show false=true from fx) E8
 | int a=>
  obtain⟨t',rfl⟩:=ry;cases x with
  | non=>cases rx; exact Nb a t'
  | bl b=>cases rx; exact Nc a t' b
  | int b=>obtain⟨t,rfl⟩:=rx; exact Ni a t' b t
  | str b=>obtain⟨t,rfl⟩:=rx; exact KN a t' b t
  | _=>exact absurd (show false=true from fx) E8
 | str a=>
  obtain⟨t',rfl⟩:=ry;cases x with
  | non=>cases rx; exact Nd a t'
  | bl b=>cases rx; exact Nf a t' b
  | int b=>obtain⟨t,rfl⟩:=rx; exact KO a t' b t
  | str b=>obtain⟨t,rfl⟩:=rx; exact Nj a t' b t
  | _=>exact absurd (show false=true from fx) E8
 | _=>exact absurd (show false=true from fy) E8
abbrev kK (x:V)(u:EK):Fk:=match u with
 | .none=>vp .non x
 | .bool b=>vp (.bl b) x
 | .int i _=>vp (.int i) x
 | .str z _=>vp (.str z) x
 | _=>false
def mI {x y:V}{u:EK}(r:RelV y u)(f:eD y=true):kK x u=vp y x:=by
 cases y with
 | non=>cases r; rfl
 | bl b=>cases r; rfl
 | int i=>obtain⟨t,rfl⟩:=r; rfl
 | str z=>obtain⟨t,rfl⟩:=r; rfl
 | _=>exact absurd (show false=true from f) E8
def eV {x:V}:∀ {xs:EI V} {us:EI EK},Vals xs us->xs.all eD=true->us.any (kK x)=xs.any λy=>vp y x
 | _,_,.nil,_=>rfl
 | y::xs,u::us,.cons r t,f=>by
  rw[FK,ES]at f;rw[Hc,Hc,mI r f.1,eV t f.2]
def cF {A:Fs}{s:EN}{x:V}{v:EK}(rx:RelV x v)(fx:eD x=true):∀ {xs:EI V} {us:EI EK},Vals xs us->xs.all eD=true->∀u∈us,IG A s u v (kK x u)
 | _,_,.nil,_=>λu hu=>by cases hu
 | y::xs,u::us,.cons r t,f=>λu' hu=>by
  rw[FK,ES]at f;rcases Fc.mp hu with rfl|hu
  ·rw[mI r f.1]; exact zo r rx f.1 fx
  ·exact cF rx fx t f.2 u' hu
abbrev CQ (x:V)(xs:EI V):Fk:=xs.any λy=>vp y x
abbrev Dv (K:EW)(neg:Fk):R2:=λx y H Q=>∃p xs,y=.ref p/\(SqL K H p xs\/SqT K H p xs)/\eD x=true/\xs.all eD=true/\Q (.bl (if neg then !CQ x xs else CQ x xs)) H
def pH:OpR X (compareOp .In) (Dv X.K false):=by
 intro J s Y H x y v u Q I rx ry h;obtain⟨p,xs,rfl,hq,fx,fs,q⟩:=h;cases ry;rcases hq with hq|hq
 ·obtain⟨its,r,pl,hz⟩:=I.list hq;show LX (kK x) pl.isList (λw hw=>cF rx fx r fs w (by simpa using hw)) #[.bl _,H,I,rfl,?_]
  rw[show its.toArray.any (kK x)=its.any (kK x) by simp,eV r fs]
  exact q
 ·obtain⟨its,r,pl,hz⟩:=I.tuple hq;show LH (kK x) pl (λw hw=>cF rx fx r fs w (by simpa using hw)) #[.bl _,H,I,rfl,?_]
  rw[show its.toArray.any (kK x)=its.any (kK x) by simp,eV r fs]
  exact q
def jP:OpR X (compareOp .NotIn) (Dv X.K true):=by
 intro J s Y H x y v u Q I rx ry h;obtain⟨p,xs,rfl,hq,fx,fs,q⟩:=h;cases ry;rcases hq with hq|hq
 ·obtain⟨its,r,pl,hz⟩:=I.list hq;show KW (kK x) pl.isList (λw hw=>cF rx fx r fs w (by simpa using hw)) #[.bl _,H,I,rfl,?_]
  rw[show its.toArray.any (kK x)=its.any (kK x) by simp,eV r fs]
  exact q
 ·obtain⟨its,r,pl,hz⟩:=I.tuple hq;show SeqAt.notIn_tupleAt (kK x) pl (λw hw=>cF rx fx r fs w (by simpa using hw)) #[.bl _,H,I,rfl,?_]
  rw[show its.toArray.any (kK x)=its.any (kK x) by simp,eV r fs]
  exact q
def jQ:CallR X (.type "list") (λxs H Q=>∃p ys,xs=[.ref p]/\(SqL X.K H p ys\/SqT X.K H p ys)/\∀l,H l=gV->Q (.ref l) (aR H l (.lst ys))):=by
 intro J s Y H xs us Q I r h;obtain⟨p,ys,rfl,hq,q⟩:=h;obtain⟨u,rfl,rx⟩:=iZ r;cases rx;have fin:∀(its:EI EK),Vals ys its->ys.length<=sizeLine->∀(h':FN) (c':EV),(∀b o',s.heap.get? b=ba o'->h'.get? b=ba o')->
   h'.get? s.heap.objs.size=ba { cls:=.type "list",dict:=gV,data:=.seq its.toArray c',slots:=#[] }->EP X J Y Q (.ref s.heap.objs.size) { s with heap:=h' }:=λits r' hz h' c' kp e=>
  #[.ref s.heap.objs.size,_,I.laid (t':=s.toks) kp (E2 _) (show ObjOk X.prog X.w _ h' _ (.lst ys)from#[hz,its,c',r',e]),rfl,q _ (I.hok.fresh (E2 _))]
 rcases hq with hq|hq
 ·obtain⟨its,r',pl,hz⟩:=I.list hq;have hlen:=r'.length;obtain⟨o,ho,hc,n,hd⟩:=pl.isList;exact MA p (.inl rfl) ho hc hd (λh' c' kp e=>fin its r' hz h' c' kp e) (by simp only[EY] <;> omega)
 ·obtain⟨its,r',pl,hz⟩:=I.tuple hq;have hlen:=r'.length;obtain⟨o,ho,hc,n,hd⟩:=pl;exact MA p (.inr rfl) ho hc hd (λh' c' kp e=>fin its r' hz h' c' kp e) (by simp only[EY] <;> omega)
def eE:CallR X (.type "tuple") (λxs H Q=>∃p ys,xs=[.ref p]/\((SqL X.K H p ys/\∀l,H l=gV->Q (.ref l) (aR H l (.tup ys)))\/(SqT X.K H p ys/\Q (.ref p) H))):=by
 intro J s Y H xs us Q I r h;obtain⟨p,ys,rfl,h⟩:=h;obtain⟨u,rfl,rx⟩:=iZ r;cases rx;rcases h with⟨hq,q⟩|⟨hq,q⟩
 ·obtain⟨its,r',pl,hz⟩:=I.list hq;have hlen:=r'.length;show call_tuple_list pl.isList (λh' kp=>?_) (by simp only[EY] <;> omega)
  have I1:Inv X J Y H { s with heap:=h' }:=I.kept (t':=s.toks) kp
  have I2:Inv X J Y (aR H h'.objs.size (.tup ys)) { s with heap:=h'.push { cls:=.type "tuple",data:=.seq its.toArray } }:=
   I1.laid (t':=s.toks) (λb o e=>EM _ e) (E2 _) (show ObjOk X.prog X.w _ _ _ (.tup ys)from#[#[hz,NoD.new _ _ _],its,r',LC _ _])
  exact#[.ref h'.objs.size,_,I2,rfl,q _ (I1.hok.fresh (E2 _))]
 ·obtain⟨its,r',pl,hz⟩:=I.tuple hq;exact call_tuple_same pl #[.ref p,H,I,rfl,q]
abbrev Dw (K:EW)(T:Gc)(x:V)(H:Hp):Prop:=match x with
 | .str _=>T = "str"
 | .int _=>T = "int"
 | .ref p=>(T = "list"/\∃xs,SqL K H p xs)\/(T = "tuple"/\∃o,K.lookup p=ba o/\o.cls=.type "tuple"/\o.dict=gV)\/
   (T = "dict"/\((∃U,H p=ba (.dK U))\/∃U,H p=ba (.dT U)))\/(T = "set"/\∃S n,H p=ba (.set S n))
 | _=>F8
def rq {J:EI (EU×Gm)}{Y:St}{H:Hp}{s:EN}{T:Gc}{x:V}{v:EK}(I:Inv X J Y H s)(r:RelV x v)(ty:Dw X.K T x H) :
  s.TypeIs v T/\∀a,v=.ref a->∃ob,s.heap.get? a=ba ob/\ob.dict=gV:=by
 cases x with
 | str z=>
  obtain⟨t,rfl⟩:=r;cases(show T = "str" from ty)
  exact#[Ma s z t,λ_ e=>nomatch e]
 | int i=>
  obtain⟨t,rfl⟩:=r;cases(show T = "int" from ty)
  exact#[Mb s i t,λ_ e=>nomatch e]
 | ref p=>
  cases r;rcases ty with⟨rfl,xs,hq⟩|⟨rfl,o,hk,hc,hd⟩|⟨rfl,hk⟩|⟨rfl,S,n,hk⟩
  ·obtain⟨its,_,pl,_⟩:=I.list hq;show#[pl.isList.typeIs,λa e=>?_]
   cases e;obtain⟨o,n,e,c,hd,_⟩:=pl;exact#[o,e,hd]
  ·show#[#[o,I.kIn p o hk,hc],λa e=>?_]
   cases e;exact#[o,I.kIn _ o hk,hd]
  ·have z:∃o,s.heap.get? p=ba o/\o.ExactDict:=by
    rcases hk with⟨U,hk⟩|⟨U,hk⟩
    ·obtain⟨_,_,_,_,o,_,_,e,ex,_⟩:=I.hok p _ hk;exact#[o,e,ex]
    ·obtain⟨_,_,_,_,o,_,_,e,ex,_⟩:=I.hok p _ hk;exact#[o,e,ex]
   obtain⟨o,e,ex⟩:=z;show#[#[o,e,ex.1],λa e2=>?_]
   cases e2;exact#[o,e,ex.2.1]
  ·obtain⟨o,_,_,_,e,ex,_⟩:=I.hok p _ hk;show#[#[o,e,ex.1],λa e2=>?_]
   cases e2;exact#[o,e,ex.2.1]
 | _=>exact F8.elim ty
variable{o e:Fa}{es:EI Fa}{to:TE}{t:TA}{name:E3}{apos cpos:G5}{T id:Gc}{r:V->EI V->Hp->VK->Prop}
end
abbrev Dx (X:Cx)(id:Gc)(r:V->EI V->Hp->VK->Prop):Prop:=
 ∀(J:EI (EU×Gm)) (s:EN) (Y:St) (H:Hp) (x:V) (xs:EI V) (v:EK) (us:EI EK) (Q:VK),Inv X J Y H s->RelV x v->Vals xs us->r x xs H Q->
  wpAny (model X.prog X.w) X.A (call (.builtin id) (v::us)) (EP X J Y Q) X.xe s
def Vals.one:∀ {x:V} {us:EI EK},Vals [x] us->∃u,us=[u]/\RelV x u
 | _,_,.cons r .nil=>#[_,rfl,r]
def Vals.eraseIdx:∀ {xs:EI V} {us:EI EK} (i:EV),Vals xs us->Vals (xs.eraseIdx i) (us.eraseIdx i)
 | _,_,_,.nil=>.nil
 | _,_,0,.cons _ t=>t
 | _,_,i+1,.cons r t=>.cons r (Vals.eraseIdx i t)
def Vals.rep {xs:EI V}{us:EI EK}(h:Vals xs us):∀k:EV,Vals (Fw k xs).flatten (Fw k us).flatten
 | 0=>.nil
 | k+1=>by
  rw[Gr,Gr,Ho,Ho];exact Vals.append h (Vals.rep h k)
def i8 {α:Type}:∀(l:EI α) (i:EV),(l.eraseIdx i).length<=l.length
 | [],_=>E2 _
 | _::_,0=>Hd _
 | _::r,i+1=>IH (i8 r i)
def i9 (its:EI EK):∀(k:EV) (acc:EI EK),
  Mc (λx1 x2=>x1++x2) acc.toArray (Fw k its.toArray)=(acc++(Fw k its).flatten).toArray
 | 0,acc=>by simp
 | k+1,acc=>by
  have e:acc.toArray++its.toArray=(acc++its).toArray:=by simp
  have e2:(acc++its)++(Fw k its).flatten=acc++(Fw (k+1) its).flatten:=by
   rw[Gr,Ho,Hq]
  rw[<- e2,<- i9 its k (acc++its),<- e,Gr,LY]
section
variable{X:Cx}{J:EI (EU×Gm)}{Y:St}{H:Hp}{s:EN}{l b:EU}{xs ys zs:EI V}
def Inv.lset {its its':EI EK}{n:EV}{f:FM EK->FM EK}{t':EV}(I:Inv X J Y H s)(hH:H l=ba (.lst xs))
  (e:s.heap.get? l=ba { cls:=.type "list",data:=.seq its.toArray n }) (hf:f its.toArray=its'.toArray) (hv:Vals ys its') (hz:ys.length<=sizeLine) :
  Inv X J Y (aR H l (.lst ys)) { s with heap:=s.heap.update l (Gp f),toks:=t' }:=by
 have q:=LI e f;rw[hf]at q;show I.write (x:=l) (e:=l) (by rw[hH]; exact trivial) (.inl rfl) (λb' u hb hu=>(FZ s.heap (Gp f) (Ne.symm hb)).trans hu) #[_,q] ?_
 exact#[hz,its',_,hv,q]
def Inv.lnew {its:EI EK}{t':EV}(I:Inv X J Y H s)(hv:Vals ys its)(hz:ys.length<=sizeLine) :
  Inv X J Y (aR H s.heap.objs.size (.lst ys)) { s with heap:=s.heap.push { cls:=.type "list",data:=.seq its.toArray },toks:=t' }:=
 I.laid (λ_ _ q=>EM _ q) (E2 _) #[hz,its,0,hv,EX _ rfl]
def Inv.fresh (I:Inv X J Y H s):H s.heap.objs.size=gV:=I.hok.fresh (E2 _)
def Inv.lstM (I:Inv X J Y H s)(hH:H l=ba (.lst xs)):xs.length<=sizeLine/\∃(its:EI EK) (n:EV),Vals xs its/\xs.length=its.length/\s.heap.get? l=ba { cls:=.type "list",data:=.seq its.toArray n }:=by
 obtain⟨z,its,n,r,e⟩:=I.hok l _ hH;exact#[z,its,n,r,r.length,e]
def kU {n:EV}(h:n<=sizeLine):Ht n=false:=by
 unfold Ht;exact Fq ∅
end
section
variable{X:Cx}
abbrev vt:V->EI V->Hp->VK->Prop:=λx vs H Q=>∃l xs y,x=.ref l/\vs=[y]/\H l=ba (.lst xs)/\xs.length < sizeLine/\Q .non (aR H l (.lst (xs++[y])))
def pI:Dx X "list.append" vt:=by
 intro J s Y H x vs v us Q I rx rv h;obtain⟨l,xs,y,rfl,rfl,hH,hz,q⟩:=h;cases rx;obtain⟨u,rfl,ru⟩:=rv.one;obtain⟨z,its,n,r,hl,e⟩:=I.lstM hH;show HV F.slot_list_append #[_,e,rfl] F.entry_list_append (F.args_list_append_2 _ _) (Lk l its.toArray n u (by rw[EY]; omega)) #[e,?_]
 show#[.non,_,I.lset (its':=its++[u]) hH e (by simp) (r.append #v[ru]) ?_,rfl,q]
 rw[E6,List.length_singleton];omega
abbrev vw:V->EI V->Hp->VK->Prop:=λx vs H Q=>∃l b xs zs,x=.ref l/\vs=[.ref b]/\H l=ba (.lst xs)/\H b=ba (.lst zs)/\xs.length+zs.length<=sizeLine/\Q .non (aR H l (.lst (xs++zs)))
def pJ:Dx X "list.extend" vw:=by
 intro J s Y H x vs v us Q I rx rv h;obtain⟨l,b,xs,zs,rfl,rfl,hH,hB,hz,q⟩:=h;cases rx;obtain⟨u,rfl,ru⟩:=rv.one;cases ru;obtain⟨z,its,n,r,hl,e⟩:=I.lstM hH;obtain⟨z2,its2,n2,r2,hl2,e2⟩:=I.lstM hB;have hsz:its.toArray.size+its2.toArray.size<=sizeLine:=by rw[EY,EY]; omega
 have hlong:¬ (!its.toArray.isEmpty&&Ht (its.toArray.size+its2.toArray.size))=true:=by
  rw[kU hsz,Bool.and_false];exact E8
 show HV F.slot_list_extend #[_,e,rfl] F.entry_list_extend (F.args_list_extend_2 _ _)
  (Ll l its.toArray n b its2.toArray n2 hlong (by rw[EY]; omega) ∅) #[e,e2,?_]
 show#[.non,_,I.lset (its':=its++its2) hH e (by simp) (r.append r2) ?_,rfl,q]
 rw[E6];omega
abbrev zp:V->EI V->Hp->VK->Prop:=λx vs H Q=>∃l xs i k y,x=.ref l/\vs=[.int i]/\H l=ba (.lst xs)/\-(2 ^ 63)<=i/\i < 2 ^ 63/\seqIndex? i xs.length=ba k/\xs[k]?=ba y/\Q y (aR H l (.lst (xs.eraseIdx k)))
def rs:Dx X "list.pop" zp:=by
 intro J s Y H x vs v us Q I rx rv h;obtain⟨l,xs,i,k,y,rfl,rfl,hH,h1,h2,hk,hy,q⟩:=h;cases rx;obtain⟨u,rfl,ru⟩:=rv.one;obtain⟨t,rfl⟩:=ru;obtain⟨z,its,n,r,hl,e⟩:=I.lstM hH;obtain⟨w,hw,rw'⟩:=r.get hy;show HV F.slot_list_pop #[_,e,rfl] F.entry_list_pop (F.args_list_pop_2 _ _)
  (M3 l its.toArray n i t k w (Mf h1 h2) (by rw[EY,<- hl]; exact hk) (by rw[<- F3]; exact hw) (by rw[EY]; omega)) #[e,?_]
 show#[y,_,I.lset (its':=its.eraseIdx k) hH e ?_ (r.eraseIdx k) ?_,rw',q]
 ·change its.toArray.eraseIdxIfInBounds k=(its.eraseIdx k).toArray;rw[List.eraseIdxIfInBounds_toArray]
 ·have:=i8 xs k;omega
abbrev Dy:R2:=λx y H Q=>∃l b xs zs,x=.ref l/\y=.ref b/\H l=ba (.lst xs)/\H b=ba (.lst zs)/\xs.length+zs.length<=sizeLine/\∀p,H p=gV->Q (.ref p) (aR H p (.lst (xs++zs)))
def zq:OpR X (binaryOp .Add) Dy:=by
 intro J s Y H x y v u Q I rx ry h;obtain⟨l,b,xs,zs,rfl,rfl,hH,hB,hz,q⟩:=h;cases rx;cases ry;obtain⟨z,its,n,r,hl,e⟩:=I.lstM hH;obtain⟨z2,its2,n2,r2,hl2,e2⟩:=I.lstM hB;show PySem.P.add_list e e2 ?_ (by rw[EY,EY]; omega)
 have ea:its.toArray++its2.toArray=(its++its2).toArray:=by simp
 rw[ea];exact#[.ref _,_,I.lnew (t':=s.toks) (r.append r2) (by rw[E6]; omega),rfl,q _ I.fresh]
abbrev Dz:R2:=λx y H Q=>∃l k xs,x=.ref l/\y=.int k/\H l=ba (.lst xs)/\-(2 ^ 63)<=k/\k < 2 ^ 63/\xs.length*k.toNat<=sizeLine/\
 ∀p,H p=gV->Q (.ref p) (aR H p (.lst (Fw k.toNat xs).flatten))
def vx {α:Type}(xs:EI α)(k:EV):(Fw k xs).flatten.length=k*xs.length:=by
 induction k with
 | zero=>simp
 | succ k ih=>rw[Gr,Ho,E6,ih,MU,Nat.add_comm]
def zr:OpR X (binaryOp .Mult) Dz:=by
 intro J s Y H x y v u Q I rx ry h;obtain⟨l,k,xs,rfl,rfl,hH,h1,h2,hz,q⟩:=h;cases rx;obtain⟨t,rfl⟩:=ry;obtain⟨z,its,n,r,hl,e⟩:=I.lstM hH;have hlen:its.toArray.size*k.toNat<=sizeLine:=by rw[EY,<- hl]; exact hz
 have hcap:¬ its.toArray.size*k.toNat > (2 ^ 63 - 1) / 8:=by
  have:(sizeLine:EV)<=(2 ^ 63 - 1) / 8:=by decide
  omega
 have hfit:¬ (!Mg k)=true:=by
  rw[Mf h1 h2];exact E8
 have hlong:¬ Ht (its.toArray.size*k.toNat)=true:=by
  rw[kU hlen];exact E8
 have hnew:Mc (λx1 x2=>x1++x2) #[] (Fw (if its.toArray.isEmpty=true then 0 else k.toNat) its.toArray)=(Fw k.toNat its).flatten.toArray:=by
  have f0:∀m:EV,Mc (λx1 x2=>x1++x2) #[] (Fw m its.toArray)=(Fw m its).flatten.toArray:=λm=>by
   have:=i9 its m [];rw[List.nil_append]at this;exact this
  rw[f0];cases its with
  | nil=>simp
  | cons a r'=>rw[FJ (by simp)]
 show wpAny_binaryOp_repeat_ref (T:="list") (U:="int") #v[] #[_,e,rfl] (λs'=>Mb s' k t) noFill_list_mul F.fills_int_mul F.slot_int_rmul repeat_list F.slot_int_index.lookup
  (HV F.slot_int_rmul (Mb s k t) F.entry_int_rmul (F.args_int_rmul_2 _ _) (int___rmul___int_list k t l its.toArray n)
   #[e,rfl,#[_,e,rfl],HV F.slot_list_mul #[_,e,rfl] F.entry_list_mul (F.args_list_mul_2 _ _) (K9 l its.toArray n k t hfit hcap hlong) #[e,?_]])
 rw[hnew];exact#[.ref _,_,I.lnew (t':=s.toks) (r.rep k.toNat) (by rw[vx,Nat.mul_comm]; exact hz),rfl,q _ I.fresh]
end
section
variable{X:Cx}{J:EI (EU×Gm)}{Y:St}{H:Hp}{s:EN}{a:EU}{y v:V}{u r:EK}{o:EO V}{A:Fs}{E:EK->EN->Prop}
def Inv.big (I:Inv X J Y H s):sysModules < s.heap.objs.size:=by
 have h:mainGlobals < s.heap.objs.size:=(I.mod.glob.keeps I.bk).lt;exact Nat.lt_trans #v[] h
def jR {h':FN}{t':EV}{ob:HO}(I:Inv X J Y H s)(mu:AQ (H a))(hs:GY a s.heap h')(he:∃q,h'.get? a=ba q)(new:ObjOk X.prog X.w (aR H a ob) h' a ob) :
  Inv X J Y (aR H a ob) { s with heap:=h',toks:=t' }:=
 I.write (x:=a) (e:=a) mu (.inl rfl) (λb q hb z=>(hs.2 b hb).trans z) he new
end
noncomputable abbrev VV:EI (V×V)->EI (EK×EK)->Prop:=JG λp q=>RelV p.1 q.1/\RelV p.2 q.2
end L2
namespace Att
open PySem PySem.W PySem.Calls PyProof.Rows
def gE {P:Kg}{h:FN}:∀(ns:EI E5) (vs:EI EK),WellAll P h vs (ns.map WData.int)->L6 vs ns:=by
 intro ns
 induction ns with
 | nil=>
  intro vs w;rw[List.map_nil]at w;cases w;exact .nil
 | cons n ns ih=>
  intro vs w;rw[FV]at w;cases w with
  | cons a b=>
   cases a;exact .cons _ _ (ih _ b)
def pK {l:OpenLaw}{n:EV}(hn:l.most=ba n){P:Kg}{h:FN}{args:EI WData}{vals:EI EK}
  (hpre:l.row.toRowW.claim.pre args=true) (hwl:WellAll P h vals args) :
  ∃a vs ns,vals=[FL a]/\args=[WData.list (ns.map WData.int)]/\h.get? a=ba { cls:=.type "list",data:=.seq vs.toArray }/\L6 vs ns/\ns.length<=n:=by
 have hsh:WShape.hasAll [] args [.list .int]=true:=(pre_splitW hpre).1;have hc:l.pre.holds [] { args:=args }=true:=(pre_splitW hpre).2;obtain⟨d,r,rfl,h1,h2⟩:=hasAllW_cons hsh;obtain rfl:=hasAllW_nil h2;obtain⟨xs,rfl,h3⟩:=hasW_list h1;obtain⟨ns,rfl⟩:=items_int h3;have hlen:ns.length<=n:=by
  unfold OpenLaw.pre at hc;have h4:(WTm.not (.lt (.lit (.int (n:E5))) (.len (.arg 0)))).holds [] { args:=[.list (ns.map .int)] }=true:=by
   have h4:=(holds_andW hc).1;rw[hn]at h4;exact h4
  have h5:=condW_of h4 (w_not (w_lt w_lit (w_len_list (w_arg rfl))));rw[ER]at h5;show Nat.le_of_not_lt λq=>?_
  have q':(n:E5) < ((ns.length:EV):E5):=∅
  first
   | (rw[Gf q']at h5; exact absurd h5 #v[])
   | (simp at h5; omega)
 cases hwl with
 | cons w1 w2=>
  cases w2;cases w1 with
  | list ho hall=>exact#[_,_,ns,rfl,rfl,ho,gE ns _ hall,hlen]
def pL (l:OpenLaw)(args:EI WData):l.row.toRowW.claim.post args (.bool true) args=true:=
 postW_of (r:=l.row.toRowW) (X:=(true==true))
  (show WShape.has [] (.bool true) .bool=true by first|rfl|decide|simp[WShape.has,WShape.arms,WShape.armsAll])
  (show(WTm.eq .res (.lit (.bool true))).value [] { args:=args,res:=ba (.bool true),after:=args }=ba (.bool (true==true))from w_eq_bool (w_res rfl) w_lit) rfl
def attach_call {l:OpenLaw}{n:EV}{q:Fn}{loose:EI E3}{XP:(E3->EO EK)->FN->Prop}{YP:Fv->FN->Prop}{d:DefRec}
  (hn:l.most=ba n) (hdf:d.params.defaults=[])
  (call:∀(w:Fv) (s₀ s₁:EN) (mg mb:E3->EO EK) (fa:EU) (o:Gm) (pm cd doc:EK) (a:EU) (vs:EI EK) (ns:EI E5),
   Ground q loose [] XP w s₀ mg mb s₁.heap->YP w s₁.heap->
   s₁.heap.get? fa=ba o->o.data=.func (docDef d.name d.params d.body d.scope pm cd doc)->s₁.heap.CodeRec cd d.name->mg d.name=ba (.ref fa)->
   s₁.heap.get? a=ba { cls:=.type "list",data:=.seq vs.toArray }->L6 vs ns->ns.length<=n->s₁.gens=#[]->
   codeAny (model l.prog w) callerA (.call (.ref fa) #[[.ref a],[]]) (λr s'=>r=.ok (.ret (.bool true))/\OldK s₁.heap s'.heap/\s'.os=s₁.os/\Jp s'.gens) s₁) :
  WalkO q loose XP YP l.row.toRowW d [] (λf vs=>Mh f vs):=by
 intro w s₀ s₁ mg mb G Yq fa o pm cd doc dV kV ho hd hcd hD hmg hg args vals as hpre hlay hrd hwl hlo;obtain rfl:dV=.none:=Dflts.none hD hdf;obtain rfl:kV=.none:=Dflts.noKw hD;obtain⟨a,vs,ns,rfl,rfl,hobj,hints,hlen⟩:=pK hn hpre hwl;show enter_call (Ix (call w s₀ s₁ mg mb fa o pm cd doc a vs ns G Yq ho (fd_plain hd) hcd hmg hobj hints hlen hg) λr s' hq=>?_)
 obtain⟨rfl,h2,h3,h4⟩:=hq;exact#[.inl #[.bool true,.bool true,[],rfl,λ_=>rfl,.bool true,pL l _,λ_=>#[Nr,λ_ hm=>(nomatch hm)]],h2,h3,h4]
end Att
namespace L2
open PySem PySem.Spec PyProof.Rows
def ja:∀ {vs:EI EK} {ns:EI E5},L6 vs ns->Vals (ns.map V.int) vs
 | _,_,.nil=>.nil
 | _,_,.cons n t h=>.cons #[t,rfl] (ja h)
abbrev rz (H:Hp):Prop:=∀b,H b=gV\/∃o xs,H b=ba (.frz o (.lst xs))
def rA {P:Fn}{w:Fv}{K:EW}{mg mb:E3->EO EK}{CX:rc}{k:EV}{fa a:EU}{fd:Hg}{x:E3}{sp:Sp}{s₁:EN}{vs:EI EK}{ns:EI E5}
  (KX:K.In s₁.heap) (hns:s₁.heap.Ns mainGlobals mg) (hb:s₁.heap.Ns builtinsNs mb) (hbb:∀x:E3,x≠"__name__"->mb x=bootBuiltins x) (hlim:s₁.heap.NoLimit) (hg:s₁.gens=#[])
  (ha:s₁.heap.get? a=ba { cls:=.type "list",data:=.seq vs.toArray }) (hi:L6 vs ns) (hl:ns.length<=sizeLine) (hr:Room k callerA)
  (F:∀base:FN,K.In base->base.Ns mainGlobals mg->FnOk P w K mg base CX k fa fd [x] sp) (hbind:∀(s:EN) (u:EK),Lf s fd #[[u],[]] [(x,u)])
  (hsp:∀H:Hp,rz H->SqL K H a (ns.map V.int)->sp [.ref a] H (λv _=>v=.bl true) λ_ _ _=>F8)
  (hCX:∀H e s',CX [] H s₁ (λ_ _ _=>F8) e s'->F8) :
  codeAny (model P w) callerA (.call (.ref fa) #[[.ref a],[]]) (λr s'=>r=.ok (.ret (.bool true))/\OldK s₁.heap s'.heap/\s'.os=s₁.os/\Jp s'.gens) s₁:=by
 have rv:=ja hi;have lenV:=hi.length;have core:∀H:Hp,rz H->SqL K H a (ns.map V.int)->HOk P w H s₁.heap->(∀b,H b≠gV->b=a)->(H a≠gV->K.lookup a=gV)->
   codeAny (model P w) callerA (.call (.ref fa) #[[.ref a],[]]) (λr s'=>r=.ok (.ret (.bool true))/\OldK s₁.heap s'.heap/\s'.os=s₁.os/\Jp s'.gens) s₁:=by
  intro H hO hS hok hA hK;have base_of:∀ {b:EU} {o:Gm},s₁.heap.get? b=ba o->H b=gV->(jI s₁.heap H).get? b=ba o:=λe n=>qO e n
  have noA:∀ {b:EU} {o:Gm} {es:FM G2} {ep:EV},s₁.heap.get? b=ba o->o.data=.dict es ep->H b=gV:=λ{b o es ep} e d=>by
   cases q:H b with
   | none=>rfl
   | some u=>
    have e':b=a:=hA b (by rw[q]; simp)
    subst e';rw[ha]at e; cases e
    have d':Data.seq vs.toArray _=Data.dict es ep:=d;cases d'
  have nsK:∀ {b:EU} {m:E3->EO EK},s₁.heap.Ns b m->(jI s₁.heap H).Ns b m:=λ{b m} #[o,es,ep,e,d,r]=>#[o,es,ep,base_of e (noA e d),d,r]
  have hKb:K.In (jI s₁.heap H):=λb o e=>base_of (KX b o e) (by
   cases q:H b with
   | none=>rfl
   | some u=>
    have e':b=a:=hA b (by rw[q]; simp)
    subst e';rw[hK (by rw[q]; simp)]at e; cases e)
  have hM:Mod K mg (jI s₁.heap H):=#[hKb,nsK hns,#[mb,nsK hb,hbb],let ⟨mc,h1,h2⟩:=hlim; #[mc,nsK h1,h2]]
  have e0:Env0 P w K mg (jI s₁.heap H) callerA [] s₁ H:=#[rfl,hM,λb o e=>uT e,Nat.le_of_eq (pf _ _),trivial,λb hb=>absurd (show b∈([]:EI EU)from hb) (by simp),hok,.of_eq hg]
  show Ix ((F _ hKb (nsK hns)).run callerA [] s₁ H #[[.ref a],[]] [.ref a] [.ref a] _ _ hr e0 (hbind s₁ (.ref a)) #v[rfl] (hsp H hO hS)) λr s' h=>?_
  cases r with
  | error e=>exact(hCX H e s' h).elim
  | ok fl=>
   cases fl with
   | next=>exact F8.elim h
   | brk=>exact F8.elim h
   | cont=>exact F8.elim h
   | ret u=>
    obtain⟨v,H',os,bare,un,hok',r',q⟩:=h;have q':v=.bl true:=q;subst q';obtain rfl:u=G4 true:=r';show#[rfl,OldK.of_keep λb o e=>?_,os,bare]
    cases q:H b with
    | none=>exact un.keep b o e q (by intro z; exact absurd (show b∈([]:EI EU)from z) (by simp)) (by simp)
    | some u=>
     rcases hO b with z|⟨ob,xs,z⟩
     ·rw[q]at z; cases z
     ·have z2:=un.frzs b ob _ z;obtain⟨e1,_⟩:=hok b _ z;obtain⟨e2,_⟩:=hok' b _ z2;rw[e]at e1; cases e1
      exact e2
 cases hk:K.lookup a with
 | some o=>
  have e:=KX a o hk;rw[ha]at e;cases e;show core (λ_=>gV) (λ_=>.inl rfl) (.inr #[_,vs.toArray,_,hk,rfl,rfl,rfl,by rw[EY,lenV]; exact hl,by simpa using rv]) (λb u z=>by have z':(gV:EO HO)=ba u:=z; cases z') (λb z=>absurd rfl z) λz=>absurd rfl z
 | none=>
  show core (λb=>if b=a then ba (.frz { cls:=.type "list",data:=.seq vs.toArray } (.lst (ns.map V.int)))else gV) (λb=>?_) (.inl (.inr #[{ cls:=.type "list",data:=.seq vs.toArray },Fi rfl])) (λb u z=>?_) (λb z=>?_) λ_=>hk
  ·by_cases hb:b=a
   ·exact .inr #[_,_,Fi hb]
   ·exact .inl (FJ hb)
  ·by_cases hb:b=a
   ·have z':=(Fi hb).symm.trans z;cases z';subst hb;exact#[ha,by rw[ER]; exact hl,vs,_,rv,ha]
   ·have z':=(FJ hb).symm.trans z;cases z'
  ·by_cases hb:b=a
   ·exact hb
   ·exact absurd (FJ hb) z
def vy {l:JV}{n k:EV}{q:Fn}{loose:EI E3}{XP:(E3->EO EK)->FN->Prop}{YP:Fv->FN->Prop}{d:DefRec}{K:Kg->EW}{CX:Fv->rc}{sp:Fv->Sp}{x:E3}
  (hn:l.most=ba n) (hn2:n<=sizeLine) (hdf:d.params.defaults=[]) (hr:Room k callerA)
  (hY:∀(w:Fv) (h:FN),YP w h->(K w.params).In h)
  (F:∀(w:Fv) (mg:E3->EO EK) (fa:EU) (h:FN),(K w.params).In h->h.Ns mainGlobals mg->mg d.name=ba (.ref fa)->
   ∃fd:Hg,(∀(s:EN) (u:EK),Lf s fd #[[u],[]] [(x,u)])/\
    ∀base:FN,(K w.params).In base->base.Ns mainGlobals mg->FnOk l.prog w (K w.params) mg base (CX w) k fa fd [x] (sp w))
  (hsp:∀(w:Fv) (H:Hp) (a:EU) (ns:EI E5),ns.length<=n->rz H->SqL (K w.params) H a (ns.map V.int)->sp w [.ref a] H (λv _=>v=.bl true) λ_ _ _=>F8)
  (hCX:∀(w:Fv) (H:Hp) (s:EN) (e:EK) (s':EN),CX w [] H s (λ_ _ _=>F8) e s'->F8) :
  MB q loose XP YP l.row.toRowW d [] (λf vs=>Mh f vs):=by
 show Att.attach_call hn hdf λw s₀ s₁ mg mb fa o pm cd doc a vs ns G Yq ho hd hcd hmg hobj hints hlen hg=>?_
 have KX:=hY w _ Yq;obtain⟨fd,hb,hF⟩:=F w mg fa _ KX G.T.g hmg;exact rA KX G.T.g G.T.b G.T.builtins G.T.nolimit hg hobj hints (F2 hlen hn2) hr hF hb (λH hO hS=>hsp w H a ns hlen hO hS) λH e s'=>hCX w H s₁ e s'
abbrev cp (s:Hv):Arguments:=match s with
 | .FunctionDef _ a _ _ _ _ _ _ _ _=>a
 | _=>{ posonlyargs:=[],args:=[],vararg:=gV,kwonlyargs:=[],kw_defaults:=[],kwarg:=gV,defaults:=[] }
abbrev bx (s:Hv):EI Hv:=match s with
 | .FunctionDef _ _ b _ _ _ _ _ _ _=>b
 | _=>[]
abbrev aG (s:Hv):HM:=match s with
 | .FunctionDef _ _ _ _ _ _ sc _ _ _=>sc
 | _=>{ kind:=.function,names:=[],isGenerator:=false,isCoroutine:=false }
noncomputable abbrev qK:rc:=λ_ _ _ _ _ _=>F8
noncomputable abbrev E0:XK:=λ_ _ _=>F8
def xS {X:Cx}:jL qK X E0:=λ_ _ _ _ _ _ _ h=>h.elim
structure Fun (K:EW)(x qual:E3)(st:Hv)(f:EU)(fd:Hg):Prop where
 ex:∃(oc:EK) (od:EO EU) (kV doc pm:EK) (an:EO EU) (cdv ct:EK) (osl:FM (EO EK)),
  fd=GZ x qual (cp st) (bx st) (aG st) .none kV doc pm an cdv ct/\K.lookup f=ba #[oc,od,.func fd,osl]/\HB K cdv qual=true
 kp:Ge K (.ref f)=true
section
variable{P:Fn}{w:Fv}{K:EW}{mg:E3->EO EK}{base:FN}
def Fun.ok {x qual:E3}{st:Hv}{f:EU}{fd:Hg}{N ps:EI E3}{k:EV}{sp:Sp}(F:Fun K x qual st f fd)(S:FnScope N ps (aG st))(len:∀vs H Q E,sp vs H Q E->vs.length=ps.length)
  (hbody:∀(cdv:EK) (A:Fs) (outer:EI Lb) (s:EN) (H:Hp) (vs:EI V) (Q:VK) (E:XK),Room k (A.deeper (envOfC qual (aG st) s.heap.objs.size f cdv))->sp vs H Q E->
   ∃t,PSs (mE qK P w K mg base N qual (aG st) f cdv A outer s H E).nox (bx st) t/\t { nx:=λ_ H'=>Q .non H',rt:=Q } (dP N vs) H):FnOk P w K mg base qK (k+1) f fd ps sp:=by
 obtain⟨oc,od,kV,doc,pm,an,cdv,ct,osl,rfl,lk,hcd⟩:=F.ex;show Bo lk hcd S len λA outer s H vs Q E hr hsp=>?_
 obtain⟨t,h,q⟩:=hbody cdv A outer s H vs Q E hr hsp;exact#[t,h.nox,q]
def Fun.binds {x qual:E3}{st:Hv}{f:EU}{fd:Hg}{ps:EI E3}(F:Fun K x qual st f fd)
  (h:∀(kV doc pm:EK) (an:EO EU) (cdv ct:EK) (us:EI EK),us.length=ps.length->bindArgs (GZ x qual (cp st) (bx st) (aG st) .none kV doc pm an cdv ct) #[us,[]]=pure (ps.zip us)):Binds K fd ps []:=by
 obtain⟨oc,od,kV,doc,pm,an,cdv,ct,osl,rfl,lk,hcd⟩:=F.ex;exact .all (h kV doc pm an cdv ct)
def rB {x qual:E3}{st:Hv}{f:EU}{oc:EK}{od an:EO EU}{osl:FM (EO EK)}{kV doc pm cdv ct:EK}(l:K.lookup f=ba #[oc,od,.func (GZ x qual (cp st) (bx st) (aG st) .none kV doc pm an cdv ct),osl])
  (c:HB K cdv qual=true) (k:Ge K (.ref f)=true):Fun K x qual st f (GZ x qual (cp st) (bx st) (aG st) .none kV doc pm an cdv ct):=#[#[oc,od,kV,doc,pm,an,cdv,ct,osl,rfl,l,c],k]
end
section
variable{X:Cx}
def pv (i:EV){x:E3}{pos:G5}(hN:X.N[i]?=ba x:=by rfl)(hv:CN X.env.scope x)(hd:(x==("__debug__" : E3))=false:=by decide)
  (hcd:(x==("__classdict__" : E3))=false:=by decide):PE X (.Name x pos) (yD i):=qP hN hv hd hcd
end
end L2
namespace Mi
open PySem PySem.Spec PyProof.Rows L2
abbrev Bt (w:Fv):Fk:=w.params.followText "set-order"
abbrev Ex (w:Fv)(e:E5×EK):Prop:=∃x tk,e=(hashStr w x,.str x tk)
structure Tabs (w:Fv)(xs:EI E3)(es:FM (E5×EK))(t:IA):Prop where
 el:∀e∈es.toList,Ex w e
 pm:(es.toList.map λe=>strOf e.2).Perm xs
 nd:xs.Nodup
 few:xs.length < scanBound
 fit:t.fits es.size=true
 led:t.led = !Bt w
 pl:t.plain=true->es.size=0
abbrev c9 (w:Fv)(xs:EI E3)(o:Gm):Prop:=o.ExactSet/\∃es ep t,o.data=.set es ep t/\Tabs w xs es t
section
variable{prog:Fn}{w:Fv}{A:Fs}{E:EK->EN->Prop}{s:EN}{xs:EI E3}{es:FM (E5×EK)}{t:IA}
def vz {x y:E3}{tk:NA}:(HL prog w).is x (.str y tk)=true↔y=x:=by
 show(y==x)=true↔y=x;exact beq_iff_eq
def Tabs.elems (h:Tabs w xs es t):ElemsOf (HL prog w) es.toList:=λe he=>by
 obtain⟨x,tk,rfl⟩:=h.el e he;exact#[#[x,vz.mpr rfl,rfl],rfl]
def Tabs.size (h:Tabs w xs es t):es.size=xs.length:=by rw[<- h.pm.length_eq,ER,Fe]
def Tabs.has (h:Tabs w xs es t)(x:E3):(∃e∈es.toList,(HL prog w).is x e.2=true)↔x∈xs:=by
 rw[<- h.pm.mem_iff,Fx];constructor
 ·rintro⟨e,he,q⟩;obtain⟨y,tk,rfl⟩:=h.el e he;exact#[_,he,vz.mp q]
 ·rintro⟨e,he,q⟩;obtain⟨y,tk,rfl⟩:=h.el e he;exact#[_,he,vz.mpr q]
def mJ (t:IA)(es:FM (E5×EK))(h:E5)(x:EK):(layNew t es h x).2.1.led=t.led:=by
 unfold layNew;split
 ·unfold Nk;dsimp only;split <;> rfl
 ·rfl
def pM (t:IA)(es:FM (E5×EK))(n:EV):(relayAll t es n).2.1.led=t.led/\((relayAll t es n).2.1.plain=true->t.plain=true):=by
 unfold relayAll;split
 ·rename_i t' order h;dsimp only;split
  ·unfold NC NK at h;rw[Option.bind_eq_bind,Option.bind_eq_some_iff]at h;obtain⟨ow,_,h⟩:=h;cases h;exact#[rfl,λz=>z]
  ·exact#[rfl,λz=>by cases z]
 ·exact#[rfl,λz=>by cases z]
def nN {a:EU}{o:Gm}{es1:FM (E5×EK)}{ep:EV}{t1:IA}{Q:Ng->EN->Prop}(ho:s.heap.get? a=ba o)(hex:o.ExactSet)(hd:o.data=.set es ep t)(T:Tabs w xs es1 t1)
  (h:∀h',GY a s.heap h'->h'.get? a=ba { o with data:=.set es1 (ep+1) t1 }->Q () { s with heap:=h' }):wpAny (model prog w) A (storeSet a es1 t1) Q E s:=by
 show wpAny_storeSet_of ho hd (h _ (Hy ..) ?_) (by rw[T.size]; exact fits_of_scanBound T.few)
 have:=GU (Obj.putSet es1 t1) ho (by rw[putSet_of es1 t1 hd]; rfl)
 rw[putSet_of es1 t1 hd]at this;exact this
def vA {a:EU}{o:Gm}{x:E3}{tk:NA}{Q:Fk->EN->Prop}(ho:s.heap.get? a=ba o)(hS:c9 w xs o)(hr:xs.length+1 < scanBound)
  (h:∀b h' o',GY a s.heap h'->h'.get? a=ba o'->c9 w (if x∈xs then xs else xs++[x]) o'->Q b { s with heap:=h' }):wpAny (model prog w) A (setAddHashed a (.str x tk) (hashStr w x)) Q E s:=by
 obtain⟨hex,es,ep,t,hd,T⟩:=hS;have hk:(HL prog w).is x (.str x tk)=true:=vz.mpr rfl;have hx:=T.has (prog:=prog) x;unfold setAddHashed setAddHashedIn;show Ga (EJ (wpAny_setState_of ho hd T.fit ?_));dsimp only;rw[byScan_of (knd:=HL prog w) rfl (by rw[T.size]; exact T.few) T.elems]
 simp only[↓reduceIte];unfold setAddByScan;show EJ (EJ (IF (EJ (wpAny_setScan_of (knd:=HL prog w) hk ho hd T.fit T.elems ?_))));cases q:es.toList.findIdx? (λe=>(HL prog w).is x e.2)with
 | some j=>
  obtain⟨hj,hp,_⟩:=GH.mp q;have hm:x∈xs:=hx.mp #[_,Gh hj,hp];dsimp only;have:=h false s.heap o (Lm ..) ho (by rw[Fi hm]; exact#[hex,es,ep,t,hd,T])
  exact ET (ET this)
 | none=>
  have hm:x∉xs:=λz=>by
   obtain⟨e,he,hp⟩:=hx.mpr z;rw[List.findIdx?_eq_none_iff.mp q e he]at hp;cases hp
  rw[FJ hm]at h;dsimp only;have lp:=layNew_perm t es (hashStr w x) (.str x tk);have lf:=layNew_fits t es (hashStr w x) (.str x tk);have ll:=mJ t es (hashStr w x) (.str x tk);have hgen:∀(b:Fk) {s₁:EN} {Q':Ng->EN->Prop},Q' () s₁->wpAny (model prog w) A (match b with|true=>rule "set.scan.the-table-gave-way"|false=>pure ()) Q' E s₁:=λb s₁ Q' hq=>by cases b <;> first|exact ET hq|exact IF hq
  generalize hL:layNew t es (hashStr w x) (.str x tk)=L at lp lf ll ⊢;obtain⟨es1,t1,dm,gv⟩:=L;dsimp only at lp lf ll ⊢;rw[Array.toList_push]at lp;have T1:∀p,Tabs w (xs++[x]) es1 { t1 with plain:=p }\/p=true:=λp=>by
   cases p with
   | true=>exact .inr rfl
   | false=>
    show .inl #[λe he=>?_,(lp.map λe=>strOf e.2).trans ?_,?_,by simpa using hr,MP lf,ll.trans T.led,λz=>by cases z]
    ·rcases FR.mp (lp.mem_iff.mp he)with he|he
     ·exact T.el e he
     ·rw[Fb.mp he]; exact#[x,tk,rfl]
    ·rw[F6];exact T.pm.append_right _
    ·exact HN.mpr #[T.nd,by simp,λy hy z hz e=>hm (by rw[Fb.mp hz]at e; exact e ▸ hy)]
  have fin:∀(g:Fk->MR Ng),(∀(b:Fk) (s₁:EN) (Q':Ng->EN->Prop),Q' () s₁->wpAny (model prog w) A (g b) Q' E s₁)->∀t2:IA,Tabs w (xs++[x]) es1 t2->wpAny (model prog w) A (do
    storeSet a es1 t2
    if (!dm&&t2.tooFull)=true then do
      g (relayAll t2 es1 (HC es1.size)).2.2
      storeSet a (relayAll t2 es1 (HC es1.size)).1 (relayAll t2 es1 (HC es1.size)).2.1
      pure (ba true)
     else pure (ba true)) (λr s'=>wpAny (model prog w) A (match r with|some b=>pure b|none=>setAddHashedIn a (.str x tk) (hashStr w x) 99999) Q E s') E s:=λg hg t2 T2=>by
   show EJ (nN ho hex hd T2 λh1 sb1 o1=>?_)
   show wpAny_ite_split (λ_=>?_) (λ_=>ET (ET (h _ _ _ sb1 o1 #[hex,_,_,_,rfl,T2])))
   have rp:=relayAll_perm t2 es1 (HC es1.size);have rf:=relayAll_fits t2 es1 (HC es1.size);have rt:=pM t2 es1 (HC es1.size);generalize hR:relayAll t2 es1 (HC es1.size)=R at rp rf rt ⊢;obtain⟨es2,t3,g2⟩:=R;dsimp only at rp rf rt ⊢;have T3:Tabs w (xs++[x]) es2 t3:=#[λe he=>T2.el e (rp.mem_iff.mp he),(rp.map _).trans T2.pm,T2.nd,T2.few,rf,rt.1.trans T2.led,λz=>by
    have:=T2.pl (rt.2 z);rw[<- Fe,rp.length_eq,Fe]; exact this]
   show EJ (hg _ _ _ ?_);show EJ (nN o1 hex rfl T3 λh2 sb2 o2=>?_)
   exact ET (ET (h _ _ _ (sb1.trans sb2) o2 #[hex,_,_,_,rfl,T3]))
  show EJ (hgen _ ?_);split
  ·show EJ ?_;rw[hashByValue_scannable 8 rfl];show ET ?_;exact fin _ (λb _ _ hq=>hgen b hq) _ ((T1 false).resolve_right E8)
  ·rename_i hp;show EJ (ET ?_);have e:({ t1 with plain:=false }:IA)=t1:=by
    obtain⟨_,_,_,_,_,_,p⟩:=t1;cases p with
    | false=>rfl
    | true=>exact absurd rfl hp
   simp only[↓reduceIte];exact fin _ (λb _ _ hq=>hgen b hq) _ (e ▸ (T1 false).resolve_right E8)
end
inductive W where
 | non|bl (b:Fk)|int (i:E5)|str (x:E3)|tup (xs:EI W)|ref (i:EV)
inductive T where
 | int (i:E5)|str (x:E3)|tup (xs:EI T)
mutual
def T.beq:T->T->Fk
 | .int i,.int j=>i==j
 | .str x,.str y=>x==y
 | .tup xs,.tup ys=>T.beqs xs ys
 | _,_=>false
def T.beqs:EI T->EI T->Fk
 | [],[]=>true
 | x::xs,y::ys=>T.beq x y&&T.beqs xs ys
 | _,_=>false
end
mutual
theorem T.beq_iff:∀x y:T,T.beq x y=true↔x=y
 | .int i,.int j=>by simp[T.beq]
 | .str x,.str y=>by simp[T.beq]
 | .tup xs,.tup ys=>by simp[T.beq,T.beqs_iff xs ys]
 | .int _,.str _|.int _,.tup _|.str _,.int _|.str _,.tup _|.tup _,.int _|.tup _,.str _=>by simp[T.beq]
theorem T.beqs_iff:∀xs ys:EI T,T.beqs xs ys=true↔xs=ys
 | [],[]=>by simp[T.beqs]
 | x::xs,y::ys=>by simp[T.beqs,T.beq_iff x y,T.beqs_iff xs ys]
 | [],_::_|_::_,[]=>by simp[T.beqs]
end
noncomputable instance:HR T:=λx y=>decidable_of_iff (T.beq x y=true) (T.beq_iff x y)
mutual
def T.w:T->W
 | .int i=>.int i
 | .str x=>.str x
 | .tup xs=>.tup (T.ws xs)
def T.ws:EI T->EI W
 | []=>[]
 | x::xs=>T.w x::T.ws xs
end
mutual
def W.t:W->EO T
 | .int i=>ba (.int i)
 | .str x=>ba (.str x)
 | .tup xs=>(W.ts xs).map .tup
 | _=>gV
def W.ts:EI W->EO (EI T)
 | []=>ba []
 | x::xs=>match W.t x,W.ts xs with
  | some y,ba ys=>ba (y::ys)
  | _,_=>gV
end
mutual
theorem W.t_w:∀ {w:W} {k:T},W.t w=ba k->k.w=w
 | .int i,_,h=>by cases h; rfl
 | .str x,_,h=>by cases h; rfl
 | .tup xs,_,h=>by
  simp only[W.t,EQ]at h;obtain⟨ks,h1,h2⟩:=h;subst h2;simp only[T.w,W.ts_w h1]
 | .non,_,h|.bl _,_,h|.ref _,_,h=>by cases h
theorem W.ts_w:∀ {ws:EI W} {ks:EI T},W.ts ws=ba ks->T.ws ks=ws
 | [],_,h=>by cases h; rfl
 | w::ws,_,h=>by
  simp only[W.ts]at h;split at h
  ·rename_i y ys h1 h2;cases h;simp only[T.ws,W.t_w h1,W.ts_w h2]
  ·cases h
end
mutual
theorem T.w_t:∀k:T,W.t k.w=ba k
 | .int _=>rfl
 | .str _=>rfl
 | .tup xs=>by simp only[T.w,W.t,T.ws_ts xs,FP]
theorem T.ws_ts:∀ks:EI T,W.ts (T.ws ks)=ba ks
 | []=>rfl
 | x::xs=>by simp only[T.ws,W.ts,T.w_t x,T.ws_ts xs]
end
mutual
def T.depth:T->EV
 | .tup xs=>T.depths xs+1
 | _=>0
def T.depths:EI T->EV
 | []=>0
 | x::xs=>max (T.depth x) (T.depths xs)
end
mutual
def T.draws:T->EV
 | .tup xs=>T.drawss xs+1
 | _=>1
def T.drawss:EI T->EV
 | []=>0
 | x::xs=>T.draws x+T.drawss xs
end
mutual
def kW (wd:Fv):T->E5
 | .int i=>hashInt i
 | .str x=>hashStr wd x
 | .tup xs=>reduceHash (Jk (gY wd xs))
def gY (wd:Fv):EI T->EI E5
 | []=>[]
 | x::xs=>kW wd x::gY wd xs
end
abbrev T.isTup:T->Fk
 | .tup _=>true
 | _=>false
abbrev aF:EV:=6
inductive O where
 | lst (xs:EI W)
 | fro (xs:EI W)
 | sts (xs:EI E3)
 | rng (lo hi:E5)
 | dic (U:EI (T×W))
 | frd (U:EI (T×W))
noncomputable abbrev aa:=EI O
noncomputable abbrev Fm:=EI (EO W)
section
variable (K:EW) (A:EI EU) (H:Hp)
mutual
inductive Rel:W->V->Prop
 | non:Rel .non .non
 | bl {b:Fk}:Rel (.bl b) (.bl b)
 | int {i:E5}:Rel (.int i) (.int i)
 | str {x:E3}:Rel (.str x) (.str x)
 | tup {ws:EI W} {a:EU} {vs:EI V}:SqT K H a vs->RelL ws vs->Rel (.tup ws) (.ref a)
 | ref {i:EV} {a:EU}:A[i]?=ba a->Rel (.ref i) (.ref a)
inductive RelL:EI W->EI V->Prop
 | nil:RelL [] []
 | cons {w:W} {v:V} {ws:EI W} {vs:EI V}:Rel w v->RelL ws vs->RelL (w::ws) (v::vs)
end
end
section
variable{K:EW}{A A' A'':EI EU}{H H' H'':Hp}
structure Ext (K:EW)(A:EI EU)(H:Hp)(A':EI EU)(H':Hp):Prop where
 ad:∀(i:EV) (a:EU),A[i]?=ba a->A'[i]?=ba a
 tp:∀(a:EU) (vs:EI V),SqT K H a vs->SqT K H' a vs
 fz:∀(a:EU) (o:Gm) (u:HO),H a=ba (.frz o u)->H' a=ba (.frz o u)
def Ext.refl:Ext K A H A H:=#[λ_ _ h=>h,λ_ _ h=>h,λ_ _ _ h=>h]
def Ext.trans (e:Ext K A H A' H')(f:Ext K A' H' A'' H''):Ext K A H A'' H'':=#[λi a h=>f.ad i a (e.ad i a h),λa vs h=>f.tp a vs (e.tp a vs h),λa o u h=>f.fz a o u (e.fz a o u h)]
mutual
theorem Rel.mono (e:Ext K A H A' H'):∀ {w:W} {v:V},Rel K A H w v->Rel K A' H' w v
 | _,_,.non=>.non
 | _,_,.bl=>.bl
 | _,_,.int=>.int
 | _,_,.str=>.str
 | _,_,.tup h r=>.tup (e.tp _ _ h) (RelL.mono e r)
 | _,_,.ref h=>.ref (e.ad _ _ h)
theorem RelL.mono (e:Ext K A H A' H'):∀ {ws:EI W} {vs:EI V},RelL K A H ws vs->RelL K A' H' ws vs
 | _,_,.nil=>.nil
 | _,_,.cons r t=>.cons (Rel.mono e r) (RelL.mono e t)
end
def RelL.length:∀ {ws:EI W} {vs:EI V},RelL K A H ws vs->ws.length=vs.length
 | _,_,.nil=>rfl
 | _,_,.cons _ t=>by simp[RelL.length t]
def RelL.get:∀ {ws:EI W} {vs:EI V} {i:EV} {w:W},RelL K A H ws vs->ws[i]?=ba w->∃v,vs[i]?=ba v/\Rel K A H w v
 | _,_,_,_,.nil,e=>by simp at e
 | _,_,0,_,.cons r _,e=>by simp at e; subst e; exact#[_,rfl,r]
 | _,_,i+1,w,.cons _ t,e=>by
  obtain⟨u,h1,h2⟩:=RelL.get (i:=i) (w:=w) t (by simpa using e)
  exact#[u,by simpa using h1,h2]
def RelL.append:∀ {xs ys:EI W} {us ws:EI V},RelL K A H xs us->RelL K A H ys ws->RelL K A H (xs++ys) (us++ws)
 | _,_,_,_,.nil,s=>s
 | _,_,_,_,.cons r t,s=>.cons r (RelL.append t s)
def RelL.take:∀ {xs:EI W} {us:EI V} (n:EV),RelL K A H xs us->RelL K A H (xs.take n) (us.take n)
 | _,_,0,_=>.nil
 | _,_,_+1,.nil=>.nil
 | _,_,n+1,.cons r t=>.cons r (RelL.take n t)
def RelL.drop:∀ {xs:EI W} {us:EI V} (n:EV),RelL K A H xs us->RelL K A H (xs.drop n) (us.drop n)
 | _,_,0,r=>r
 | _,_,_+1,.nil=>.nil
 | _,_,n+1,.cons _ t=>RelL.drop n t
def RelL.set {x:W}{u:V}(r:Rel K A H x u):∀ {xs:EI W} {us:EI V} (i:EV),RelL K A H xs us->RelL K A H (xs.set i x) (us.set i u)
 | _,_,_,.nil=>.nil
 | _,_,0,.cons _ t=>.cons r t
 | _,_,i+1,.cons q t=>.cons q (RelL.set r i t)
def RelL.rep {xs:EI W}{us:EI V}(h:RelL K A H xs us):∀k:EV,RelL K A H (Fw k xs).flatten (Fw k us).flatten
 | 0=>.nil
 | k+1=>by
  rw[Gr,Gr,Ho,Ho];exact RelL.append h (RelL.rep h k)
def RelL.eraseIdx:∀ {xs:EI W} {us:EI V} (i:EV),RelL K A H xs us->RelL K A H (xs.eraseIdx i) (us.eraseIdx i)
 | _,_,_,.nil=>.nil
 | _,_,0,.cons _ t=>t
 | _,_,i+1,.cons r t=>.cons r (RelL.eraseIdx i t)
abbrev FroL (K:EW)(H:Hp)(a:EU)(vs:EI V):Prop:=
 (∃o,H a=ba (.frz o (.lst vs)))\/
  ∃(o:Gm) (its:FM EK) (n:EV),K.lookup a=ba o/\o.cls=.type "list"/\o.dict=gV/\o.data=.seq its n/\its.size<=sizeLine/\Vals vs its.toList
def FroL.sq {a:EU}{vs:EI V}(h:FroL K H a vs):SqL K H a vs:=by
 rcases h with⟨o,h⟩|h
 ·exact .inl (.inr #[o,h])
 ·exact .inr h
abbrev rC (wd:Fv)(x:T×EU×EK):G2:=#[kW wd x.1,.ref x.2.1,x.2.2]
abbrev DicAt (wd:Fv)(a:EU)(xs:EI (T×EU×EK))(h:FN):Prop:=
 xs.length<=sizeLine/\(a==sysModules)=false/\(xs.map (·.1)).Nodup/\∃o es ep,h.get? a=ba o/\o.ExactDict/\o.data=.dict es ep/\es.toList=xs.map (rC wd)
abbrev cG (wd:Fv)(a:EU)(xs:EI (T×EU×EK)):HO:=.ext (DicAt wd a xs)
abbrev KRel (K:EW)(A:EI EU)(H:Hp):EI (T×W)->EI (T×EU×EK)->Prop:=
 JG λ(p:T×W) (q:T×EU×EK)=>p.1=q.1/\p.1.isTup=true/\p.1.depth<=aF/\Rel K A H p.1.w (.ref q.2.1)/\∃v,Rel K A H p.2 v/\RelV v q.2.2
def KRel.mono (e:Ext K A H A' H'){U:EI (T×W)}{xs:EI (T×EU×EK)}(h:KRel K A H U xs):KRel K A' H' U xs:=
 Paired.mapP h λ_ _ #[h1,h2,h3,h4,v,h5,h6]=>#[h1,h2,h3,h4.mono e,v,h5.mono e,h6]
variable{wd:Fv}
abbrev ObjRel (wd:Fv)(K:EW)(A:EI EU)(H:Hp)(a:EU):O->Prop
 | .lst ws=>∃vs,H a=ba (.lst vs)/\RelL K A H ws vs
 | .fro ws=>∃vs,FroL K H a vs/\RelL K A H ws vs
 | .sts xs=>∃o φ,H a=ba (.frz o (.ext φ))/\c9 wd xs o
 | .rng lo hi=>H a=ba (.rng lo hi)
 | .dic U=>∃xs,H a=ba (cG wd a xs)/\KRel K A H U xs
 | .frd U=>∃o xs,H a=ba (.frz o (cG wd a xs))/\KRel K A H U xs
abbrev O.mut:O->Fk
 | .fro _=>false
 | .sts _=>false
 | .rng _ _=>false
 | .frd _=>false
 | _=>true
structure StoreOk (wd:Fv)(K:EW)(A:EI EU)(H:Hp)(S:aa):Prop where
 len:A.length=S.length
 nd:∀(i j:EV) (a:EU) (o u:O),S[i]?=ba o->o.mut=true->S[j]?=ba u->u.mut=true->A[i]?=ba a->A[j]?=ba a->i=j
 obj:∀(i:EV) (o:O) (a:EU),S[i]?=ba o->A[i]?=ba a->ObjRel wd K A H a o
abbrev EnvRel (K:EW)(A:EI EU)(H:Hp)(Z:Fm)(Y:L2.St):Prop:=
 Z.length=Y.length/\∀(i:EV) (w:W),Z[i]?=ba (ba w)->∃v,Y[i]?=ba (ba v)/\Rel K A H w v
def EnvRel.mono {Z:Fm}{Y:L2.St}(e:Ext K A H A' H')(h:EnvRel K A H Z Y):EnvRel K A' H' Z Y:=
 #[h.1,λi w q=>let ⟨v,a,b⟩:=h.2 i w q; #[v,a,b.mono e]]
def EnvRel.set {Z:Fm}{Y:L2.St}{w:W}{v:V}(h:EnvRel K A H Z Y)(r:Rel K A H w v)(i:EV):EnvRel K A H (Z.set i (ba w)) (Y.set i (ba v)):=by
 show#[by simp[h.1],λj w' q=>?_]
 rw[GL]at q ⊢
 by_cases e:i=j
 ·subst e;rw[Fi rfl]at q ⊢
  by_cases hl:i < Z.length
  ·rw[Fi hl]at q;rw[Fi (h.1 ▸ hl)];cases q;exact#[v,rfl,r]
  ·rw[FJ hl]at q; cases q
 ·rw[FJ e]at q ⊢;exact h.2 j w' q
abbrev Wr (H:Hp)(p:EU):Prop:=H p=gV\/(∃xs,H p=ba (.lst xs))\/(∃φ,H p=ba (.ext φ))\/∃ks,H p=ba (.dK ks)
def Wr.lst {p:EU}{xs:EI V}(h:H p=ba (.lst xs)):Wr H p:=.inr (.inl #[xs,h])
def Wr.ext {p:EU}{φ:FN->Prop}(h:H p=ba (.ext φ)):Wr H p:=.inr (.inr (.inl #[φ,h]))
def Wr.ne_tup {p a:EU}{xs:EI V}(hp:Wr H p)(h:H a=ba (.tup xs)):a≠p:=by
 intro e; subst e
 rcases hp with q|⟨xs,q⟩|⟨φ,q⟩|⟨ks,q⟩ <;> (rw[h]at q; cases q)
def Wr.ne_frz {p a:EU}{o:Gm}{u:HO}(hp:Wr H p)(h:H a=ba (.frz o u)):a≠p:=by
 intro e; subst e
 rcases hp with q|⟨xs,q⟩|⟨φ,q⟩|⟨ks,q⟩ <;> (rw[h]at q; cases q)
def Wr.ne_rng {p a:EU}{lo hi:E5}(hp:Wr H p)(h:H a=ba (.rng lo hi)):a≠p:=by
 intro e; subst e
 rcases hp with q|⟨xs,q⟩|⟨φ,q⟩|⟨ks,q⟩ <;> (rw[h]at q; cases q)
def nO {p:EU}{o:HO}(hp:Wr H p){a:EU}{vs:EI V}(h:SqT K H a vs):SqT K (aR H p o) a vs:=by
 rcases h with(h|⟨o',h⟩)|h
 ·exact .inl (.inl (by rw[au (hp.ne_tup h)]; exact h))
 ·exact .inl (.inr #[o',by rw[au (hp.ne_frz h)]; exact h])
 ·exact .inr h
def rD {p:EU}{o:HO}(hp:Wr H p){a:EU}{vs:EI V}(h:FroL K H a vs):FroL K (aR H p o) a vs:=by
 rcases h with⟨o',h⟩|h
 ·exact .inl #[o',by rw[au (hp.ne_frz h)]; exact h]
 ·exact .inr h
def bp {p:EU}{o:HO}(hp:Wr H p):Ext K A H A (aR H p o):=#[λ_ _ h=>h,λ_ _ h=>nO hp h,λ_ _ _ h=>by rw[au (hp.ne_frz h)]; exact h]
def cH {p:EU}{o:HO}(hp:H p=gV):Ext K A H (A++[p]) (aR H p o):=
 #[λi a h=>by rw[Fz (E9.mp h).1]; exact h,λ_ _ h=>nO (.inl hp) h,λ_ _ _ h=>by rw[au (Wr.ne_frz (.inl hp) h)]; exact h]
def ObjRel.keep {p a:EU}{o:HO}{b:O}(hp:Wr H p)(hne:b.mut=true->a≠p)(e:Ext K A H A' (aR H p o))(h:ObjRel wd K A H a b):ObjRel wd K A' (aR H p o) a b:=by
 cases b with
 | lst ws=>
  obtain⟨vs,q,r⟩:=h;exact#[vs,by rw[au (hne rfl)]; exact q,r.mono e]
 | fro ws=>
  obtain⟨vs,q,r⟩:=h;exact#[vs,rD hp q,r.mono e]
 | sts xs=>
  obtain⟨ob,φ,q,r⟩:=h;exact#[ob,φ,by rw[au (hp.ne_frz q)]; exact q,r]
 | rng lo hi=>
  have h:H a=ba (.rng lo hi):=h;change aR H p o a=ba (.rng lo hi);rw[au (hp.ne_rng h)];exact h
 | dic U=>
  obtain⟨xs,q,r⟩:=h;exact#[xs,by rw[au (hne rfl)]; exact q,r.mono e]
 | frd U=>
  obtain⟨ob,xs,q,r⟩:=h;exact#[ob,xs,by rw[au (hp.ne_frz q)]; exact q,r.mono e]
def ObjRel.there {a:EU}{b:O}(h:ObjRel wd K A H a b)(hm:b.mut=true):H a≠gV:=by
 cases b with
 | lst ws=>obtain⟨vs,q,r⟩:=h; rw[q]; intro z; cases z
 | fro ws=>cases hm
 | sts ws=>cases hm
 | rng lo hi=>cases hm
 | dic U=>obtain⟨vs,q,r⟩:=h; rw[q]; intro z; cases z
 | frd ws=>cases hm
def ObjRel.wr {a:EU}{b:O}(h:ObjRel wd K A H a b)(hm:b.mut=true):Wr H a:=by
 cases b with
 | lst ws=>obtain⟨vs,q,r⟩:=h; exact .lst q
 | fro ws=>cases hm
 | sts ws=>cases hm
 | rng lo hi=>cases hm
 | dic U=>obtain⟨vs,q,r⟩:=h; exact .ext q
 | frd ws=>cases hm
def StoreOk.lay {S:aa}{p:EU}{o:HO}(h:StoreOk wd K A H S)(hp:H p=gV):StoreOk wd K A (aR H p o) S:=
 #[h.len,h.nd,λi b a e ea=>(h.obj i b a e ea).keep (.inl hp) (λhm z=>(h.obj i b a e ea).there hm (z ▸ hp)) (bp (.inl hp))]
def StoreOk.pushO {S:aa}{p:EU}{n:O}{u:HO}(h:StoreOk wd K A H S)(hp:H p=gV)(r:ObjRel wd K (A++[p]) (aR H p u) p n):StoreOk wd K (A++[p]) (aR H p u) (S++[n]):=by
 have ex:Ext K A H (A++[p]) (aR H p u):=cH hp;have old:∀ {i:EV} {o:O} {a:EU},(S++[n])[i]?=ba o->(A++[p])[i]?=ba a->i < S.length->S[i]?=ba o/\A[i]?=ba a:=λ{i o a} e ea hl=>by
  rw[Fz hl]at e;rw[Fz (h.len ▸ hl)]at ea;exact#[e,ea]
 have new:∀ {i:EV} {o:O} {a:EU},(S++[n])[i]?=ba o->(A++[p])[i]?=ba a->¬ i < S.length->i=S.length/\o=n/\a=p:=λ{i o a} e ea hl=>by
  have hi:i=S.length:=by
   have:=(E9.mp e).1;simp at this;omega
  subst hi;simp at e;rw[<- h.len]at ea;simp at ea;exact#[rfl,e.symm,ea.symm]
 show#[by simp[h.len],λi j a o u e1 m1 e2 m2 a1 a2=>?_,λi o a e ea=>?_]
 ·by_cases hi:i < S.length <;> by_cases hj:j < S.length
  ·obtain⟨x1,y1⟩:=old e1 a1 hi;obtain⟨x2,y2⟩:=old e2 a2 hj;exact h.nd i j a o u x1 m1 x2 m2 y1 y2
  ·obtain⟨x1,y1⟩:=old e1 a1 hi;obtain⟨_,_,z⟩:=new e2 a2 hj;subst z;exact absurd hp ((h.obj i o a x1 y1).there m1)
  ·obtain⟨x2,y2⟩:=old e2 a2 hj;obtain⟨_,_,z⟩:=new e1 a1 hi;subst z;exact absurd hp ((h.obj j u a x2 y2).there m2)
  ·rw[(new e1 a1 hi).1,(new e2 a2 hj).1]
 ·by_cases hi:i < S.length
  ·obtain⟨x1,y1⟩:=old e ea hi;exact(h.obj i o a x1 y1).keep (.inl hp) (λhm z=>(h.obj i o a x1 y1).there hm (z ▸ hp)) ex
  ·obtain⟨_,rfl,rfl⟩:=new e ea hi;exact r
def StoreOk.push {S:aa}{p:EU}{ws:EI W}{vs:EI V}(h:StoreOk wd K A H S)(hp:H p=gV)(r:RelL K A H ws vs):StoreOk wd K (A++[p]) (aR H p (.lst vs)) (S++[.lst ws]):=
 h.pushO hp #[vs,az,r.mono (cH hp)]
def StoreOk.writeO {S:aa}{i:EV}{p:EU}{o0 n:O}{u:HO}(h:StoreOk wd K A H S)(e:S[i]?=ba o0)(m0:o0.mut=true)(ea:A[i]?=ba p)(r:ObjRel wd K A (aR H p u) p n) :
  StoreOk wd K A (aR H p u) (S.set i n)/\Ext K A H A (aR H p u):=by
 have hw:Wr H p:=(h.obj i _ p e ea).wr m0;have ex:Ext K A H A (aR H p u):=bp hw;have hl:i < S.length:=(E9.mp e).1;show#[#[by simp[h.len],λj k a o u e1 m1 e2 m2 a1 a2=>?_,λj o a e1 a1=>?_],ex]
 ·have get:∀ {j:EV} {o:O},(S.set i n)[j]?=ba o->o.mut=true->∃o',S[j]?=ba o'/\o'.mut=true:=λ{j o} q m=>by
   rw[GL]at q
   by_cases z:i=j
   ·subst z; exact#[_,e,m0]
   ·rw[FJ z]at q; exact#[o,q,m]
  obtain⟨o',x1,m1'⟩:=get e1 m1;obtain⟨u',x2,m2'⟩:=get e2 m2;exact h.nd j k a o' u' x1 m1' x2 m2' a1 a2
 ·rw[GL]at e1
  by_cases z:i=j
  ·subst z;rw[Fi rfl,Fi hl]at e1;cases e1;rw[ea]at a1; cases a1
   exact r
  ·rw[FJ z]at e1;exact(h.obj j o a e1 a1).keep hw (λhm q=>z (h.nd i j p _ o e m0 e1 hm ea (q ▸ a1))) ex
def StoreOk.write {S:aa}{i:EV}{p:EU}{ws:EI W}{us:EI V}{ws0:EI W}(h:StoreOk wd K A H S)(e:S[i]?=ba (.lst ws0))(ea:A[i]?=ba p)(r:RelL K A H ws us) :
  StoreOk wd K A (aR H p (.lst us)) (S.set i (.lst ws))/\Ext K A H A (aR H p (.lst us)):=
 h.writeO e rfl ea #[us,az,r.mono (bp ((h.obj i _ p e ea).wr rfl))]
end
abbrev dL (S:aa)(i:EV):EO (EI W):=match S[i]? with
 | some (.lst xs)=>ba xs
 | some (.fro xs)=>ba xs
 | _=>gV
abbrev kL (S:aa)(i:EV):EO (EI W):=match S[i]? with
 | some (.lst xs)=>ba xs
 | _=>gV
abbrev gZ (S:aa)(xs:EI W):EO (W×aa):=if xs.length<=sizeLine then ba (.ref S.length,S++[.lst xs])else gV
abbrev mK (S:aa)(xs:EI W):EO (W×aa):=if xs.length<=sizeLine then ba (.tup xs,S)else gV
abbrev vB (j:E5):Fk:=decide (0 < j)&&decide (j < 1073741824)
abbrev pN (i j:E5):Fk:=(decide (-(2 ^ 64) < i)&&decide (i < 2 ^ 64))||(decide (-(2 ^ 64) < j)&&decide (j < 2 ^ 64))
abbrev Bu (i j:E5):Fk:=decide (0<=j)&&decide (j<=1000000)&&decide (i.natAbs < 2 ^ 64)
inductive BOp where|add|sub|mul|fdiv|mod|pow
 deriving HR
abbrev uQ (c:E5->E5->Fk)(f:E5->E5->E5)(x y:W)(S:aa):EO (W×aa):=match x,y with
 | .int i,.int j=>if c i j then ba (.int (f i j),S)else gV
 | _,_=>gV
abbrev pO (x y:W)(S:aa):EO (W×aa):=match x with
 | .int i=>match y with
  | .int j=>ba (.int (i+j),S)
  | _=>gV
 | .str x=>match y with
  | .str y=>if x.length+y.length<=sizeLine then ba (.str (x++y),S)else gV
  | _=>gV
 | .tup xs=>match y with
  | .tup ys=>mK S (xs++ys)
  | _=>gV
 | .ref i=>match y with
  | .ref j=>match kL S i,kL S j with
   | some xs,ba ys=>gZ S (xs++ys)
   | _,_=>gV
  | _=>gV
 | _=>gV
abbrev rE (x y:W)(S:aa):EO (W×aa):=match x with
 | .str x=>match y with
  | .int k=>if k < 2 ^ 24/\-(2 ^ 24)<=k/\x.length*k.toNat<=sizeLine then ba (.str (NN x k),S)else gV
  | _=>gV
 | .ref i=>match y with
  | .int k=>match kL S i with
   | some xs=>if k < 2 ^ 24/\-(2 ^ 24)<=k/\xs.length*k.toNat<=sizeLine then gZ S (Fw k.toNat xs).flatten else gV
   | none=>gV
  | _=>gV
 | x=>uQ pN (· * ·) x y S
abbrev dQ:BOp->W->W->aa->EO (W×aa)
 | .add,x,y,S=>pO x y S
 | .sub,x,y,S=>uQ (λ_ _=>true) (· - ·) x y S
 | .mul,x,y,S=>rE x y S
 | .fdiv,x,y,S=>uQ (λ_ j=>vB j) (· / ·) x y S
 | .mod,x,y,S=>uQ (λ_ j=>decide (0 < j)) (· % ·) x y S
 | .pow,x,y,S=>uQ Bu (λi j=>i ^ j.toNat) x y S
abbrev BOp.py:BOp->Le
 | .add=>.Add|.sub=>.Sub|.mul=>.Mult|.fdiv=>.FloorDiv|.mod=>.Mod|.pow=>.Pow
section
variable (X:Cx)
inductive PostE (J:EI (EU×Gm))(Y:L2.St)(A:EI EU)(H:Hp)(S':aa)(w:W)(u:EK)(s':EN):Prop
 | mk (v:V) (H':Hp) (A':EI EU) (i:Inv X J Y H' s') (r:RelV v u) (e:Ext X.K A H A' H') (so:StoreOk X.w X.K A' H' S') (rl:Rel X.K A' H' w v):PostE J Y A H S' w u s'
noncomputable abbrev FE:=Fm->aa->EO (W×aa)
abbrev LOp (f:EK->EK->MR EK)(g:W->W->aa->EO (W×aa)):Prop:=
 ∀(J:EI (EU×Gm)) (s:EN) (Y:L2.St) (H:Hp) (A:EI EU) (S:aa) (x y:W) (a b:V) (u v:EK) (w:W) (S':aa),Inv X J Y H s->StoreOk X.w X.K A H S->
  Rel X.K A H x a->RelV a u->Rel X.K A H y b->RelV b v->g x y S=ba (w,S')->wpAny (model X.prog X.w) X.A (f u v) (PostE X J Y A H S' w) X.xe s
end
section
variable{X:Cx}
def g6 {S:aa}{i:EV}{xs:EI W}(h:kL S i=ba xs):S[i]?=ba (.lst xs):=by
 unfold kL at h;split at h
 ·cases h; assumption
 ·cases h
def da {A:EI EU}{H:Hp}{S:aa}{i:EV}{xs:EI W}{a:EU}(so:StoreOk X.w X.K A H S)(h:kL S i=ba xs)(ea:A[i]?=ba a):∃vs,H a=ba (.lst vs)/\RelL X.K A H xs vs:=
 so.obj i _ a (g6 h) ea
def aH {A:EI EU}{H:Hp}{S:aa}{i:EV}{xs:EI W}{a:EU}(so:StoreOk X.w X.K A H S)(h:dL S i=ba xs)(ea:A[i]?=ba a):∃vs,SqL X.K H a vs/\RelL X.K A H xs vs:=by
 unfold dL at h;split at h
 ·cases h;obtain⟨vs,q,r⟩:=so.obj i _ a (by assumption) ea
  exact#[vs,.of q,r]
 ·cases h;obtain⟨vs,q,r⟩:=so.obj i _ a (by assumption) ea
  exact#[vs,q.sq,r]
 ·cases h
def gM {S S':aa}{xs:EI W}{w:W}(h:gZ S xs=ba (w,S')):xs.length<=sizeLine/\w=.ref S.length/\S'=S++[.lst xs]:=by
 unfold gZ at h;split at h
 ·cases h; exact#[by assumption,rfl,rfl]
 ·cases h
def nP {S S':aa}{xs:EI W}{w:W}(h:mK S xs=ba (w,S')):xs.length<=sizeLine/\w=.tup xs/\S'=S:=by
 unfold mK at h;split at h
 ·cases h; exact#[by assumption,rfl,rfl]
 ·cases h
def vC {A:EI EU}{H:Hp}{S:aa}{ws:EI W}{vs:EI V}{Q:VK}{p:EU}(so:StoreOk X.w X.K A H S)(r:RelL X.K A H ws vs)(hp:H p=gV)
  (q:∀v H' A',Ext X.K A H A' H'->StoreOk X.w X.K A' H' (S++[.lst ws])->Rel X.K A' H' (.ref S.length) v->Q v H'):Q (.ref p) (aR H p (.lst vs)):=
 q _ _ (A++[p]) (cH hp) (so.push hp r) (.ref (by rw[<- so.len]; simp))
def vD {A:EI EU}{H:Hp}{S:aa}{ws:EI W}{vs:EI V}{Q:VK}{p:EU}(so:StoreOk X.w X.K A H S)(r:RelL X.K A H ws vs)(hp:H p=gV)
  (q:∀v H' A',Ext X.K A H A' H'->StoreOk X.w X.K A' H' S->Rel X.K A' H' (.tup ws) v->Q v H'):Q (.ref p) (aR H p (.tup vs)):=
 q _ _ A (bp (.inl hp)) (so.lay hp) (.tup (.of az) (r.mono (bp (.inl hp))))
abbrev Bv (K:EW):R2:=λx y H Q=>∃a b xs ys,x=.ref a/\y=.ref b/\SqT K H a xs/\SqT K H b ys/\xs.length+ys.length<=sizeLine/\
 (xs=[]->Q (.ref b) H)/\(ys=[]->Q (.ref a) H)/\(∀p,H p=gV->Q (.ref p) (aR H p (.tup (xs++ys))))
def vE:OpR X (binaryOp .Add) (Bv X.K):=by
 intro J s Y H x y v u Q I rx ry h;obtain⟨a,b,xs,ys,rfl,rfl,ha,hb,hz,q0,q1,q2⟩:=h;cases rx;cases ry;obtain⟨its,r1,p1,_⟩:=I.tuple ha;obtain⟨its2,r2,p2,_⟩:=I.tuple hb
 by_cases hx:xs=[]
 ·obtain⟨⟨cls,dd,data,sl⟩,ho,hc,n,hd⟩:=id p1;obtain⟨⟨cls2,dd2,data2,sl2⟩,ho2,hc2,n2,hd2⟩:=id p2;simp only at hc hd hc2 hd2;subst hc hd hc2 hd2;exact Lh #[_,ho,rfl] #[_,ho2,rfl] JC KG Iy Iv (Ik _ _)
   (tuple_addW0 a b its.toArray its2.toArray n n2 dd dd2 sl sl2 (by simp[r1.nil_iff.mpr hx])) #[ho,ho2,#[.ref b,H,I,rfl,q0 hx]]
 ·show HT.vg p1 p2 (λz=>hx (r1.nil_iff.mp z)) (λz=>#[.ref a,H,I,rfl,q1 (r2.nil_iff.mp z)]) (λz=>?_) (by rw[<- r1.length,<- r2.length]; exact hz)
  show#[.ref s.heap.objs.size,_,I.laid (t':=s.toks) (o:=.tup (xs++ys)) (λb ob q=>EM _ q) (E2 _) ?_,rfl,q2 _ (I.hok.fresh (E2 _))]
  exact#[#[by rw[E6]; exact hz,NoD.new _ _ _],_,r1.append r2,LC _ _]
def RelL.nil_iff {K:EW}{A:EI EU}{H:Hp}{ws:EI W}{vs:EI V}(r:RelL K A H ws vs):vs=[]↔ws=[]:=by
 cases r <;> simp
def mL:OpR X (binaryOp .Mult) (λx y H Q=>∃z k,x=.str z/\y=.int k/\MulOk z k/\Q (.str (NN z k)) H):=by
 intro J s Y H x y v u Q I rx ry h;obtain⟨z,k,rfl,rfl,ok,q⟩:=h;obtain⟨t,rfl⟩:=rx;obtain⟨t',rfl⟩:=ry;exact SB.mul ok λt2 k2=>#[.str _,H,I.tok _,#[_,rfl],q]
def rF {x:E3}{k:E5}(h1:k < 16777216)(h2 : -16777216<=k)(h3:x.length*k.toNat<=sizeLine):MulOk x k:=by
 have hs:sizeLine=16777216:=FX;rw[hs]at h3;show#[?_,λa b=>?_,λ_ _=>?_]
 ·rw[Bool.or_eq_false_iff];exact#[Fq ∅,Fq ∅]
 ·have hk:0 < k:=∅
  have e:(x.length:E5)*k=((x.length*k.toNat:EV):E5):=by
   rw[Int.natCast_mul,Ih ∅]
  intro hgt;have h4:(2 ^ 63 - 1:E5) < (x.length:E5)*k:=(Int.ediv_lt_iff_lt_mul hk).mp hgt;rw[e]at h4;generalize x.length*k.toNat=z at h3 h4;omega
 ·unfold Mt;rw[hs];exact Fq ∅
inductive EndV (wd:Fv)(K:EW)(A:EI EU)(H:Hp)(S':aa)(w:W)(v:V)(H':Hp):Prop
 | mk (A':EI EU) (e:Ext K A H A' H') (so:StoreOk wd K A' H' S') (r:Rel K A' H' w v):EndV wd K A H S' w v H'
def EndV.here {A:EI EU}{H:Hp}{S:aa}{w:W}{v:V}(so:StoreOk X.w X.K A H S)(r:Rel X.K A H w v):EndV X.w X.K A H S w v H:=#[A,.refl,so,r]
def EndV.lst {A:EI EU}{H:Hp}{S:aa}{ws:EI W}{vs:EI V}{p:EU}(so:StoreOk X.w X.K A H S)(r:RelL X.K A H ws vs)(hp:H p=gV):EndV X.w X.K A H (S++[.lst ws]) (.ref S.length) (.ref p) (aR H p (.lst vs)):=
 vC (Q:=EndV X.w X.K A H (S++[.lst ws]) (.ref S.length)) so r hp λv H' A' a b c=>#[A',a,b,c]
def EndV.tup {A:EI EU}{H:Hp}{S:aa}{ws:EI W}{vs:EI V}{p:EU}(so:StoreOk X.w X.K A H S)(r:RelL X.K A H ws vs)(hp:H p=gV):EndV X.w X.K A H S (.tup ws) (.ref p) (aR H p (.tup vs)):=
 vD (Q:=EndV X.w X.K A H S (.tup ws)) so r hp λv H' A' a b c=>#[A',a,b,c]
def EP.post {J:EI (EU×Gm)}{Y:L2.St}{A:EI EU}{H:Hp}{S':aa}{w:W}{u:EK}{s':EN}(h:EP X J Y (EndV X.w X.K A H S' w) u s'):PostE X J Y A H S' w u s':=by
 obtain⟨v,H',I',r,A',x,y,z⟩:=h;exact#[v,H',A',I',r,x,y,z]
def OpR.go {f:EK->EK->MR EK}{r:R2}(h:OpR X f r){J:EI (EU×Gm)}{Y:L2.St}{A:EI EU}{H:Hp}{S':aa}{w:W}{s:EN}{a b:V}{u v:EK}(I:Inv X J Y H s)(ru:RelV a u)(rv:RelV b v)
  (q:r a b H (EndV X.w X.K A H S' w)):wpAny (model X.prog X.w) X.A (f u v) (PostE X J Y A H S' w) X.xe s:=aK (h J s Y H a b u v _ I ru rv q) λ_ _=>EP.post
def vF:LOp X (binaryOp .Add) (dQ .add):=by
 intro J s Y H A S x y a b u v w S' I so rx ru ry rv e;cases rx with
 | int=>cases ry with
  | int=>cases e; exact OpR.go yX I ru rv #[_,_,rfl,rfl,.here so .int]
  | _=>cases e
 | str=>cases ry with
  | str=>
   dsimp only[dQ,pO]at e;split at e
   ·cases e; exact OpR.go mD I ru rv #[_,_,rfl,rfl,by assumption,.here so .str]
   ·cases e
  | _=>cases e
 | tup h1 r1=>cases ry with
  | tup h2 r2=>
   obtain⟨hl,rfl,rfl⟩:=nP (show mK S _=_ from e)
   rw[E6,r1.length,r2.length]at hl;show OpR.go vE I ru rv #[_,_,_,_,rfl,rfl,h1,h2,hl,λz=>?_,λz=>?_,λp hp=>.tup so (r1.append r2) hp]
   ·have z':=r1.nil_iff.mp z;subst z';exact .here so (.tup h2 r2)
   ·have z':=r2.nil_iff.mp z;subst z';rw[HH];exact .here so (.tup h1 r1)
  | _=>cases e
 | ref h1=>cases ry with
  | ref h2=>
   dsimp only[dQ,pO]at e;split at e
   ·obtain⟨hl,rfl,rfl⟩:=gM e;obtain⟨vs,q1,r1⟩:=da so (by assumption) h1
    obtain⟨us,q2,r2⟩:=da so (by assumption) h2
    rw[E6,r1.length,r2.length]at hl;exact OpR.go zq I ru rv #[_,_,_,_,rfl,rfl,q1,q2,hl,λp hp=>.lst so (r1.append r2) hp]
   ·cases e
  | _=>cases e
 | _=>cases e
def kX {f:EK->EK->MR EK}{c:E5->E5->Fk}{g:E5->E5->E5}{r:R2}(h:OpR X f r)(hr:∀i j H Q,c i j=true->Q (.int (g i j)) H->r (.int i) (.int j) H Q):LOp X f (uQ c g):=by
 intro J s Y H A S x y a b u v w S' I so rx ru ry rv e;cases rx with
 | int=>cases ry with
  | int=>
   unfold uQ at e;dsimp only at e;split at e
   ·cases e; exact OpR.go h I ru rv (hr _ _ _ _ (by assumption) (.here so .int))
   ·cases e
  | _=>cases e
 | _=>cases e
def vG:LOp X (binaryOp .Sub) (dQ .sub):=kX yY λ_ _ _ _ _ q=>#[_,_,rfl,rfl,q]
def vH {i j:E5}(h:pN i j=true):CMul i j:=by
 unfold pN at h;rw[GQ,ES,ES,Ft,Ft,Ft,Ft]at h;exact h
def vI:LOp X (binaryOp .Mult) (dQ .mul):=by
 have hI:LOp X (binaryOp .Mult) (uQ pN (· * ·)):=kX yZ λ_ _ _ _ h q=>#[_,_,rfl,rfl,vH h,q]
 intro J s Y H A S x y a b u v w S' I so rx ru ry rv e;cases x with
 | str z=>
  cases rx with
  | str=>cases ry with
   | int=>
    dsimp only[dQ,rE]at e;split at e
    ·rename_i hc;cases e; exact OpR.go mL I ru rv #[_,_,rfl,rfl,rF ∅ ∅ hc.2.2,.here so .str]
    ·cases e
   | _=>cases e
 | ref z=>
  cases rx with
  | ref h1=>cases ry with
   | int=>
    dsimp only[dQ,rE]at e;split at e
    ·split at e
     ·rename_i hc;obtain⟨hl,rfl,rfl⟩:=gM e;obtain⟨vs,q1,r1⟩:=da so (by assumption) h1
      rw[r1.length]at hc;exact OpR.go zr I ru rv #[_,_,_,rfl,rfl,q1,∅,∅,hc.2.2,λp hp=>.lst so (r1.rep _) hp]
     ·cases e
    ·cases e
   | _=>cases e
 | _=>exact hI _ _ _ _ _ _ _ _ _ _ _ _ _ _ I so rx ru ry rv e
def rG:LOp X (binaryOp .FloorDiv) (dQ .fdiv):=kX u9 λ_ _ _ _ h q=>#[_,_,rfl,rfl,by
 unfold vB at h;rw[ES,Ft,Ft]at h;exact h,q]
def vJ:LOp X (binaryOp .Mod) (dQ .mod):=kX y4 λ_ _ _ _ h q=>#[_,_,rfl,rfl,F1 h,q]
def vK:LOp X (binaryOp .Pow) (dQ .pow):=kX y6 λ_ _ _ _ h q=>#[_,_,rfl,rfl,by
 unfold Bu at h;rw[ES,ES,Ft,Ft,Ft]at h;exact#[h.1.1,h.1.2,h.2],q]
def nQ (o:BOp):LOp X (binaryOp o.py) (dQ o):=by
 cases o
 ·exact vF
 ·exact vG
 ·exact vI
 ·exact rG
 ·exact vJ
 ·exact vK
end
abbrev kY (f:W->W->EO Fk):EI W->EI W->EO Fk
 | [],[]=>ba true
 | [],_::_=>ba false
 | _::_,[]=>ba false
 | x::xs,y::ys=>match f x y,kY f xs ys with
  | some a,ba b=>ba (a&&b)
  | _,_=>gV
abbrev b2 (b:Fk):E5:=if b then 1 else 0
abbrev kZ (S:aa):EV->W->W->EO Fk
 | _,.non,y=>match y with
  | .non=>ba true
  | _=>gV
 | _,.bl a,y=>match y with
  | .bl b=>ba (a==b)
  | _=>gV
 | _,.int a,y=>match y with
  | .int b=>ba (a==b)
  | _=>gV
 | _,.str a,y=>match y with
  | .str b=>ba (a==b)
  | _=>gV
 | 0,_,_=>gV
 | d+1,.tup xs,y=>match y with
  | .tup ys=>kY (kZ S d) xs ys
  | _=>gV
 | d+1,.ref i,y=>match y with
  | .ref j=>match kL S i,kL S j with
   | some xs,ba ys=>if xs.length=ys.length then kY (kZ S d) xs ys else ba false
   | _,_=>gV
  | _=>gV
section
variable{X:Cx}{J:EI (EU×Gm)}{Y:L2.St}{H:Hp}{s:EN}{A:EI EU}{S:aa}
abbrev RU (K:EW)(A:EI EU)(H:Hp)(w:W)(u:EK):Prop:=∃v,Rel K A H w v/\RelV v u
def nR {ws:EI W}{vs:EI V}{us:EI EK}(r:RelL X.K A H ws vs)(q:Vals vs us):∀(j:EV) (h1:j < ws.length) (h2:j < us.length),RU X.K A H ws[j] us[j]:=by
 induction ws generalizing vs us with
 | nil=>intro j h1; simp at h1
 | cons w ws ih=>
  cases r with
  | cons r1 rr=>
   cases q with
   | cons q1 qq=>
    intro j h1 h2;cases j with
    | zero=>exact#[_,r1,q1]
    | succ j=>exact ih rr qq j (by simpa using h1) (by simpa using h2)
def rH {ws:EI W}{u:EK}(I:Inv X J Y H s)(h:RU X.K A H (.tup ws) u):∃a its,u=.ref a/\La s.heap a its/\its.size=ws.length/\ws.length<=sizeLine/\∀(j:EV) (h1:j < ws.length) (h2:j < its.size),RU X.K A H ws[j] its[j]:=by
 obtain⟨v,r,q⟩:=h;cases r with
 | tup sq rl=>
  obtain⟨its,rv,ht,hz⟩:=I.tuple sq;show#[_,its.toArray,q,ht,by rw[EY,<- rv.length,rl.length],by rw[rl.length]; exact hz,λj h1 h2=>?_]
  have:=nR rl rv j h1 (by simpa using h2)
  simpa using this
def rJ {i:EV}{ws:EI W}{u:EK}(I:Inv X J Y H s)(so:StoreOk X.w X.K A H S)(e:kL S i=ba ws)(h:RU X.K A H (.ref i) u):∃a its,u=.ref a/\A[i]?=ba a/\s.heap.IsList a its/\its.size=ws.length/\ws.length<=sizeLine/\∀(j:EV) (h1:j < ws.length) (h2:j < its.size),RU X.K A H ws[j] its[j]:=by
 obtain⟨v,r,q⟩:=h;cases r with
 | ref ea=>
  obtain⟨vs,hq,rl⟩:=da so e ea;obtain⟨its,rv,ht,hz⟩:=I.list (.of hq);show#[_,its.toArray,q,ea,ht.isList,by rw[EY,<- rv.length,rl.length],by rw[rl.length]; exact hz,λj h1 h2=>?_]
  have:=nR rl rv j h1 (by simpa using h2)
  simpa using this
def g9 {f:W->W->EO Fk}:∀ {xs ys:EI W} {k:Fk},kY f xs ys=ba k->∃e:EV->Fk,(∀(j:EV) (h1:j < xs.length) (h2:j < ys.length),f xs[j] ys[j]=ba (e j))/\
  k=((Gn (min xs.length ys.length)).all e&&xs.length==ys.length)
 | [],[],k,h=>#[λ_=>true,λj h1=>by simp at h1,by cases h; rfl]
 | [],_::_,k,h=>#[λ_=>true,λj h1=>by simp at h1,by cases h; simp]
 | _::_,[],k,h=>#[λ_=>true,λj h1 h2=>by simp at h2,by cases h; simp]
 | x::xs,y::ys,k,h=>by
  dsimp only[kY]at h;split at h
  ·rename_i a b ha hb;cases h;obtain⟨e,h1,h2⟩:=g9 hb;show#[λj=>match j with|0=>a|j+1=>e j,λj hj1 hj2=>?_,?_]
   ·cases j with
    | zero=>exact ha
    | succ j=>exact h1 j (by simpa using hj1) (by simpa using hj2)
   ·subst h2;simp only[Fy,Nat.add_min_add_right,JJ,FK,Ln,Bool.and_assoc];congr 2;simp
  ·cases h
def vL (I:Inv X J Y H s)(so:StoreOk X.w X.K A H S):∀(d:EV) {x y:W} {v:V} {k:Fk},Rel X.K A H x v->Rel X.K A H y v->kZ S d x y=ba k->k=true:=by
 intro d
 induction d with
 | zero=>
  intro x y v k rx ry e;cases rx with
  | non=>cases ry; cases e; rfl
  | bl=>cases ry; cases e; exact FQ _
  | int=>cases ry; cases e; exact FQ _
  | str=>cases ry; cases e; exact FQ _
  | tup _ _=>cases e
  | ref _=>cases e
 | succ d ih=>
  have lists:∀ {xs ys:EI W} {vs:EI V} {k:Fk},RelL X.K A H xs vs->RelL X.K A H ys vs->kY (kZ S d) xs ys=ba k->k=true:=by
   intro xs
   induction xs with
   | nil=>
    intro ys vs k r1 r2 e;cases r1; cases r2; cases e; rfl
   | cons x xs ihx=>
    intro ys vs k r1 r2 e;cases r1 with
    | cons p1 q1=>
     cases r2 with
     | cons p2 q2=>
      dsimp only[kY]at e;split at e
      ·rename_i a b ha hb;cases e;rw[ih p1 p2 ha,ihx q1 q2 hb];rfl
      ·cases e
  intro x y v k rx ry e;cases rx with
  | non=>cases ry; cases e; rfl
  | bl=>cases ry; cases e; exact FQ _
  | int=>cases ry; cases e; exact FQ _
  | str=>cases ry; cases e; exact FQ _
  | tup h1 r1=>
   cases ry with
   | tup h2 r2=>
    rw[I.tuple_inj h1 h2]at r1;exact lists r1 r2 e
   | ref ea=>cases e
  | ref ea=>
   cases ry with
   | tup h2 r2=>cases e
   | ref eb=>
    dsimp only[kZ]at e;split at e
    ·rename_i xs ys hx hy;have:=so.nd _ _ _ _ _ (g6 hx) rfl (g6 hy) rfl ea eb;subst this;rw[hx]at hy; cases hy
     rw[Fi rfl]at e;obtain⟨vs,q,r⟩:=da so hx ea;exact lists r r e
    ·cases e
def aL (A:Fs):A.in1.units=A.units+1:=rfl
noncomputable abbrev AJ (B:Fs)(s:EN)(u v:EK)(k:Fk):Prop:=SeqAt.RcAt B s u v k/\SeqAt.RcNeAt B s u v (!k)/\IG B s u v k
open SeqAt in
def xT (I:Inv X J Y H s)(so:StoreOk X.w X.K A H S):∀(d:EV) (B:Fs) {x y:W} {u v:EK} {k:Fk},B.units+d < cLine->RU X.K A H x u->RU X.K A H y v->kZ S d x y=ba k->AJ B s u v k:=by
 have non:∀ {B:Fs} {y:W} {u v:EK} {k:Fk} {d:EV},RU X.K A H .non u->RU X.K A H y v->kZ S d .non y=ba k->AJ B s u v k:=by
  intro B y u v k d ⟨_,rx,ra⟩ ⟨_,ry,rb⟩ e;cases rx;cases(show u=FY from ra)
  cases y with
  | non=>
   have e:ba (true)=ba k:=by cases d <;> exact e
   cases e;cases ry;cases(show v=FY from rb)
   exact#[.none_none,.none_none,.same _]
  | _=>cases d <;> cases e
 have bl:∀ {B:Fs} {b:Fk} {y:W} {u v:EK} {k:Fk} {d:EV},RU X.K A H (.bl b) u->RU X.K A H y v->kZ S d (.bl b) y=ba k->AJ B s u v k:=by
  intro B b y u v k d ⟨_,rx,ra⟩ ⟨_,ry,rb⟩ e;cases rx;cases(show u=G4 _ from ra)
  cases y with
  | bl c=>
   have e:ba (b==c)=ba k:=by cases d <;> exact e
   cases e;cases ry;cases(show v=G4 _ from rb)
   exact#[.bool_bool _ _,.bool_bool _ _,.bool_bool _ _]
  | _=>cases d <;> cases e
 have int:∀ {B:Fs} {b:E5} {y:W} {u v:EK} {k:Fk} {d:EV},RU X.K A H (.int b) u->RU X.K A H y v->kZ S d (.int b) y=ba k->AJ B s u v k:=by
  intro B b y u v k d ⟨_,rx,ra⟩ ⟨_,ry,rb⟩ e;cases rx;obtain⟨t0,rfl⟩ : ∃t,u=JA _ t:=ra;cases y with
  | int c=>
   have e:ba (b==c)=ba k:=by cases d <;> exact e
   cases e;cases ry;obtain⟨t,rfl⟩ : ∃t,v=JA _ t:=rb;exact#[.int_int _ _ _ _,.int_int _ _ _ _,.int_int _ _ _ _]
  | _=>cases d <;> cases e
 have str:∀ {B:Fs} {b:E3} {y:W} {u v:EK} {k:Fk} {d:EV},RU X.K A H (.str b) u->RU X.K A H y v->kZ S d (.str b) y=ba k->AJ B s u v k:=by
  intro B b y u v k d ⟨_,rx,ra⟩ ⟨_,ry,rb⟩ e;cases rx;obtain⟨t0,rfl⟩ : ∃t,u=Iu _ t:=ra;cases y with
  | str c=>
   have e:ba (b==c)=ba k:=by cases d <;> exact e
   cases e;cases ry;obtain⟨t,rfl⟩ : ∃t,v=Iu _ t:=rb;exact#[.str_str _ _ _ _,.str_str _ _ _ _,.str_str _ _ _ _]
  | _=>cases d <;> cases e
 intro d
 induction d with
 | zero=>
  intro B x y u v k hu rx ry e;cases x with
  | non=>exact non rx ry e
  | bl b=>exact bl rx ry e
  | int b=>exact int rx ry e
  | str b=>exact str rx ry e
  | _=>cases e
 | succ d ih=>
  intro B x y u v k hu rx ry e;have hu0:B.units < cLine:=∅
  have hu1:B.in1.units+d < cLine:=by rw[aL]; omega
  have rx0:=rx;have ry0:=ry;have fin:∀ {a b:EU},u=.ref a->v=.ref b->RcAt B s u v k->RcNeAt B s u v (!k)->AJ B s u v k:=by
   intro a b ea eb h1 h2;subst ea eb;show#[h1,h2,?_]
   by_cases hab:a=b
   ·subst hab;obtain⟨v1,q1,z1⟩:=rx0;obtain⟨v2,q2,z2⟩:=ry0;have e12:v1=v2:=z1.inj z2;subst e12;have:=vL I so (d+1) q1 q2 e;subst this;exact EqAt.same _
   ·exact EqAt.of_refs hab h1
  cases x with
  | non=>exact non rx ry e
  | bl b=>exact bl rx ry e
  | int b=>exact int rx ry e
  | str b=>exact str rx ry e
  | tup xs=>
   cases y with
   | tup ys=>
    obtain⟨a,its,rfl,ht,hs,_,hi⟩:=rH I rx;obtain⟨b,its2,rfl,ht2,hs2,_,hi2⟩:=rH I ry;obtain⟨f,h1,h2⟩:=g9 (show kY (kZ S d) xs ys=ba k from e)
    have he:∀j (h1:j < its.size) (h2:j < its2.size),EqAt B.in1 s its[j] its2[j] (f j):=λj j1 j2=>
     (ih B.in1 hu1 (hi j (hs ▸ j1) j1) (hi2 j (hs2 ▸ j2) j2) (h1 j (hs ▸ j1) (hs2 ▸ j2))).2.2
    rw[<- hs,<- hs2]at h2;subst h2;exact fin rfl rfl (RcAt.tuples ht ht2 hu0 he) (RcNeAt.tuples ht ht2 hu0 he)
   | _=>cases e
  | ref i=>
   cases y with
   | ref j=>
    dsimp only[kZ]at e;split at e
    ·rename_i ws ws2 hw hw2;obtain⟨a,its,rfl,_,hl,hs,_,hi⟩:=rJ I so hw rx;obtain⟨b,its2,rfl,_,hl2,hs2,_,hi2⟩:=rJ I so hw2 ry;split at e
     ·rename_i hlen;obtain⟨f,h1,h2⟩:=g9 e;have he:∀j (h1:j < its.size) (h2:j < its2.size),EqAt B.in1 s its[j] its2[j] (f j):=λj j1 j2=>
       (ih B.in1 hu1 (hi j (hs ▸ j1) j1) (hi2 j (hs2 ▸ j2) j2) (h1 j (hs ▸ j1) (hs2 ▸ j2))).2.2
      have hk:k=(Gn its.size).all f:=by rw[h2,hs,hlen]; simp
      subst hk;exact fin rfl rfl (RcAt.lists hl hl2 (by rw[hs,hs2,hlen]) hu0 he) (RcNeAt.lists hl hl2 (by rw[hs,hs2,hlen]) hu0 he)
     ·rename_i hlen;cases e;have hb:(its.size != its2.size)=true:=by rw[hs,hs2]; simpa using hlen
      exact fin rfl rfl (RcAt.lists_lengths hl hl2 hb hu0) (RcNeAt.lists_lengths hl hl2 hb hu0)
    ·cases e
   | _=>cases e
end
abbrev xU (fe fl:W->W->EO Fk):EI W->EI W->EO Fk
 | [],[]=>ba false
 | [],_::_=>ba true
 | _::_,[]=>ba false
 | x::xs,y::ys=>match fe x y with
  | some true=>xU fe fl xs ys
  | some false=>fl x y
  | none=>gV
abbrev Ey (S:aa):EV->W->W->EO Fk
 | _,.int a,.int b=>ba (decide (a < b))
 | _,.str a,.str b=>ba (decide (a.cps.toList < b.cps.toList))
 | d+1,.tup xs,.tup ys=>xU (kZ S d) (Ey S d) xs ys
 | _,_,_=>gV
abbrev LtAt (B:Fs)(s:EN)(u v:EK)(k:Fk):Prop:=
 ∀(prog:Fn) (w:Fv) (E:EK->EN->Prop) (Q:EK->EN->Prop),Q (.bool k) s->wpAny (model prog w) B (richCompare .Lt u v) Q E s
inductive LexR (B:Fs)(s:EN):EI EK->EI EK->Fk->Prop
 | nn:LexR B s [] [] false
 | nc {v:EK} {vs:EI EK}:LexR B s [] (v::vs) true
 | cn {v:EK} {vs:EI EK}:LexR B s (v::vs) [] false
 | eq {u v:EK} {us vs:EI EK} {k:Fk}:IG B s u v true->LexR B s us vs k->LexR B s (u::us) (v::vs) k
 | ne {u v:EK} {us vs:EI EK} {k:Fk}:IG B s u v false->LtAt B s u v k->LexR B s (u::us) (v::vs) k
section
open PySem.SeqAt
open PySem.AutoSeq1 (wpAny_loadPart')
open PySem.MeetsSeq PySem.MeetsSeq2 PySem.MeetsSeq3
def jS (l b:EU)(items items2:FM EK)(n n2:EV)(dd dd2:EO EU)(sl sl2:FM (EO EK))(k:Fk) :
  Meets (Ip.«tuple.__lt__» #[[.ref l,.ref b],[]])
   (λB R s=>s.heap.get? l=ba { cls:=.type "tuple",dict:=dd,data:=.seq items n,slots:=sl }/\s.heap.get? b=ba { cls:=.type "tuple",dict:=dd2,data:=.seq items2 n2,slots:=sl2 }/\
    LexR B.in1 s items.toList items2.toList k/\R (.ok (.ret (.bool k))) s):=
 .of_wp λprog w A R s h=>by
  obtain⟨hp,g,d,tk,os⟩:=s; obtain⟨hl,hb,hx,h⟩:=h
  have f2:=MC;have z1:items.toList.length=items.size:=by simp
  have z2:items2.toList.length=items2.size:=by simp
  wp_walk using Io hl,Io hb,JD _ (λaY b s'=>b.1=gV/\s'=#[hp,g,d,tk,os]/\∃(vs ws:EI EK),aY=vs.zip ws/\
   LexR A.in1 #[hp,g,d,tk,os] vs ws k/\vs.length+items2.size=ws.length+items.size) _
  case turn=>
   rintro⟨y,x⟩ aY b s' ⟨hb',rfl,vs,ws,hz,hlx,hlen⟩;cases hlx with
   | nn=>rw[Lo]at hz; cases hz
   | nc=>rw[Lo]at hz; cases hz
   | cn=>rw[List.zip_nil_right]at hz; cases hz
   | eq he hr=>
    rw[HF]at hz;injection hz with hyx hrest
    injection hyx with hy hx
    subst hy hx;simp only[Fy]at hlen;show EJ (he prog w _ _ ?_)
    wp_walk
    exact#[rfl,rfl,_,_,hrest,hr,∅]
   | ne he hr=>
    rw[HF]at hz;injection hz with hyx hrest
    injection hyx with hy hx
    subst hy hx;show EJ (he prog w _ _ ?_);have hri:=hr prog w
    wp_walk using hri
    exact#[_,rfl,by simpa using h]
  case fin=>
   rintro⟨b1,b2⟩ s' ⟨hb',rfl,vs,ws,hz,hlx,hlen⟩;simp only at hb';subst hb';have hv:k=decide (items.size < items2.size):=by
    cases hlx with
    | nn=>simp only[Gx]at hlen; exact(Fq ∅).symm
    | nc=>simp only[Gx,Fy]at hlen; exact(Gf ∅).symm
    | cn=>simp only[Gx,Fy]at hlen; exact(Fq ∅).symm
    | eq _ _=>rw[HF]at hz; cases hz
    | ne _ _=>rw[HF]at hz; cases hz
   subst hv
   wp_walk
   exact#[_,rfl,by simpa [Lz]using h]
  case h=>
   exact#[rfl,rfl,items.toList,items2.toList,rfl,hx,∅]
end
def LtAt.tuples {B:Fs}{s:EN}{l b:EU}{items items2:FM EK}{k:Fk}(hl:La s.heap l items)(hb:La s.heap b items2)(hu:B.units < cLine)(hx:LexR B.in1 s items.toList items2.toList k) :
  LtAt B s (.ref l) (.ref b) k:=λprog w E Q h=>by
 obtain⟨⟨cls,dd,data,sl⟩,ho,hc,n,hd⟩:=id hl;obtain⟨⟨cls2,dd2,data2,sl2⟩,ho2,hc2,n2,hd2⟩:=id hb;simp only at hc hd hc2 hd2;subst hc hd hc2 hd2;exact richCompare_meets_room (op:=.Lt) #[_,ho,rfl] #[_,ho2,rfl] PySem.F.slot_tuple_lt PySem.F.entry_tuple_lt (PySem.F.args_tuple_lt_2 _ _) (jS l b items items2 n n2 dd dd2 sl sl2 k)
  #[ho,ho2,hx,show G4 k≠Value.notImplemented/\Q (.bool k) s from#[(λx=>nomatch x),h]] hu
inductive COp where|eq|ne|lt|le|gt|ge|isin|notin|is|isnot
 deriving HR
abbrev COp.py:COp->LR
 | .eq=>.Eq|.ne=>.NotEq|.lt=>.Lt|.le=>.LtE|.gt=>.Gt|.ge=>.GtE|.isin=>.In|.notin=>.NotIn|.is=>.Is|.isnot=>.IsNot
abbrev aZ:W->Fk
 | .non=>true
 | .bl _=>true
 | .int _=>true
 | .str _=>true
 | _=>false
abbrev mM:W->W->Fk
 | .non,.non=>true
 | .bl a,.bl b=>a==b
 | .bl a,.int b=>b2 a==b
 | .int a,.bl b=>a==b2 b
 | .int a,.int b=>a==b
 | .str a,.str b=>a==b
 | _,_=>false
abbrev bQ (S:aa):W->EO (EI W)
 | .tup xs=>ba xs
 | .ref i=>dL S i
 | _=>gV
noncomputable abbrev dA:EV:=20
abbrev vM (x y:W)(S:aa):EO Fk:=match bQ S y with
 | some ys=>if aZ x&&ys.all aZ then ba (ys.any λz=>mM z x)else gV
 | none=>gV
abbrev pP:W->Fk
 | .non=>true
 | _=>false
abbrev rK (f:E5->E5->Fk):W->W->EO Fk
 | .int i,.int j=>ba (f i j)
 | _,_=>gV
abbrev DA:W->W->EO Fk
 | .bl a,.bl b=>ba (!(a==b))
 | _,_=>gV
abbrev vN:COp->W->W->aa->EO Fk
 | .eq,x,y,S=>kZ S dA x y
 | .ne,x,y,S=>(kZ S dA x y).map (!·)
 | .lt,x,y,_=>rK (λi j=>decide (i < j)) x y
 | .le,x,y,_=>rK (λi j=>decide (i<=j)) x y
 | .gt,x,y,_=>rK (λi j=>decide (j < i)) x y
 | .ge,x,y,_=>rK (λi j=>decide (j<=i)) x y
 | .isin,x,y,S=>vM x y S
 | .notin,x,y,S=>(vM x y S).map (!·)
 | .is,x,y,_=>if pP y then ba (pP x)else gV
 | .isnot,x,y,_=>if pP y then ba (!pP x)else DA x y
abbrev dq (o:COp)(x y:W)(S:aa):EO (W×aa):=(vN o x y S).map λk=>(.bl k,S)
section
variable{X:Cx}
def gN {J:EI (EU×Gm)}{Y:L2.St}{H:Hp}{s:EN}{A:EI EU}{S:aa}{k:Fk}(I:Inv X J Y H s)(so:StoreOk X.w X.K A H S):PostE X J Y A H S (.bl k) (.bool k) s:=
 #[.bl k,H,A,I,rfl,.refl,so,.bl]
def vO {o:COp}{x y w:W}{S S':aa}(h:dq o x y S=ba (w,S')):∃k,vN o x y S=ba k/\w=.bl k/\S'=S:=by
 unfold dq at h;rw[EQ]at h;obtain⟨k,h1,h2⟩:=h;cases h2;exact#[k,h1,rfl,rfl]
def dR {A:EI EU}{H:Hp}{w:W}{v:V}(r:Rel X.K A H w v)(f:aZ w=true):eD v=true:=by
 cases r <;> first|rfl|cases f
def ec {A:EI EU}{H:Hp}:∀ {ws:EI W} {vs:EI V},RelL X.K A H ws vs->ws.all aZ=true->vs.all eD=true
 | _,_,.nil,_=>rfl
 | _,_,.cons r t,f=>by
  rw[FK,ES]at f ⊢;exact#[dR r f.1,ec t f.2]
def nS {A:EI EU}{H:Hp}{x y:W}{u v:V}(r:Rel X.K A H x u)(q:Rel X.K A H y v)(fx:aZ x=true)(fy:aZ y=true):vp u v=mM x y:=by
 cases r <;> cases q <;> first|rfl|cases fx|cases fy
def nT {A:EI EU}{H:Hp}{y:W}{v:V}(q:Rel X.K A H y v)(fy:aZ y=true):∀ {ws:EI W} {vs:EI V},RelL X.K A H ws vs->ws.all aZ=true->CQ v vs=ws.any λz=>mM z y
 | _,_,.nil,_=>rfl
 | _,_,.cons r t,f=>by
  rw[FK,ES]at f;have:=nT q fy t f.2;unfold CQ at this ⊢;rw[Hc,Hc,nS r q f.1 fy,this]
def jT {J:EI (EU×Gm)}{Y:L2.St}{H:Hp}{s:EN}{A:EI EU}{S:aa}{y:W}{b:V}{ys:EI W}(so:StoreOk X.w X.K A H S)(r:Rel X.K A H y b)(e:bQ S y=ba ys):∃p vs,b=.ref p/\(SqL X.K H p vs\/SqT X.K H p vs)/\RelL X.K A H ys vs:=by
 cases r with
 | tup h1 r1=>cases e; exact#[_,_,rfl,.inr h1,r1]
 | ref ea=>
  obtain⟨vs,h1,r1⟩:=aH so e ea;exact#[_,vs,rfl,.inl h1,r1]
 | _=>cases e
def rL {neg:Fk}{o:LR}(ho:OpR X (compareOp o) (Dv X.K neg)){J:EI (EU×Gm)}{Y:L2.St}{H:Hp}{s:EN}{A:EI EU}{S:aa}{x y:W}{a b:V}{u v:EK}{ys:EI W}(I:Inv X J Y H s)(so:StoreOk X.w X.K A H S)
  (rx:Rel X.K A H x a) (ru:RelV a u) (ry:Rel X.K A H y b) (rv:RelV b v) (e:bQ S y=ba ys) (f:(aZ x&&ys.all aZ)=true) :
  wpAny (model X.prog X.w) X.A (compareOp o u v) (PostE X J Y A H S (.bl (if neg then !ys.any λz=>mM z x else ys.any λz=>mM z x))) X.xe s:=by
 obtain⟨p,vs,rfl,hq,rl⟩:=jT (J:=J) (Y:=Y) (s:=s) so ry e;rw[ES]at f;show OpR.go ho I ru rv #[p,vs,rfl,hq,dR rx f.1,ec rl f.2,?_];rw[nT rx f.1 rl f.2];exact .here so .bl
def eW (hu:X.A.units+dA < cLine)(o:COp):LOp X (compareOp o.py) (dq o):=by
 intro J s Y H A S x y a b u v w S' I so rx ru ry rv e;obtain⟨k,ek,e1,e2⟩:=vO e;subst e1;subst e2;clear e
 rename aa=>S
 have twoI:∀ {f:E5->E5->Fk},rK f x y=ba k->∃i j,x=.int i/\y=.int j/\k=f i j:=by
  intro f h;cases x with
  | int i=>cases y with
   | int j=>cases h; exact#[i,j,rfl,rfl,rfl]
   | _=>cases h
  | _=>cases h
 have hu1:X.A.units+1 < cLine:=by have:dA=20:=rfl; omega
 have ofSq:∀ {c:Fk},vM x y S=ba c->(∃ys,bQ S y=ba ys/\(aZ x&&ys.all aZ)=true/\c=ys.any λz=>mM z x):=by
  intro c h;unfold vM at h;split at h
  ·split at h
   ·cases h; exact#[_,by assumption,by assumption,rfl]
   ·cases h
  ·cases h
 have ofN:∀ {c:Fk},(if pP y then ba c else gV)=ba k->y=.non/\k=c:=by
  intro c h;cases y with
  | non=>cases h; exact#[rfl,rfl]
  | _=>cases h
 cases o with
 | eq=>exact(xT I so dA X.A hu #[a,rx,ru] #[b,ry,rv] ek).1 _ _ _ _ (gN I so)
 | ne=>
  obtain⟨k',h1,rfl⟩:=EQ.mp ek;exact(xT I so dA X.A hu #[a,rx,ru] #[b,ry,rv] h1).2.1 _ _ _ _ (gN I so)
 | lt=>
  obtain⟨i,j,rfl,rfl,rfl⟩:=twoI ek;cases rx; cases ry
  exact OpR.go Bg I ru rv #[_,_,rfl,rfl,.here so .bl]
 | le=>
  obtain⟨i,j,rfl,rfl,rfl⟩:=twoI ek;cases rx; cases ry
  exact OpR.go Bh I ru rv #[_,_,rfl,rfl,.here so .bl]
 | gt=>
  obtain⟨i,j,rfl,rfl,rfl⟩:=twoI ek;cases rx; cases ry
  exact OpR.go Bj I ru rv #[_,_,rfl,rfl,.here so .bl]
 | ge=>
  obtain⟨i,j,rfl,rfl,rfl⟩:=twoI ek;cases rx; cases ry
  exact OpR.go Bk I ru rv #[_,_,rfl,rfl,.here so .bl]
 | isin=>
  obtain⟨ys,h1,h2,rfl⟩:=ofSq ek;exact rL (neg:=false) pH I so rx ru ry rv h1 h2
 | notin=>
  obtain⟨c,h,rfl⟩:=EQ.mp ek;obtain⟨ys,h1,h2,rfl⟩:=ofSq h;exact rL (neg:=true) jP I so rx ru ry rv h1 h2
 | is=>
  obtain⟨rfl,rfl⟩:=ofN ek;cases ry;show OpR.go y9 I ru rv #[rfl,?_];cases rx <;> exact .here so .bl
 | isnot=>
  cases y with
  | non=>
   have ek:ba (!pP x)=ba k:=ek;cases ek;cases ry;show OpR.go vc I ru rv #[rfl,?_];cases rx <;> exact .here so .bl
  | bl b'=>
   cases x with
   | bl a'=>
    have ek:ba (!(a'==b'))=ba k:=ek;cases ek;cases rx;cases ry;obtain rfl:u=G4 a':=ru;obtain rfl:v=G4 b':=rv;show wpAny_isNot_plain rfl ?_;have e:(!(G4 a'==G4 b')) = !(a'==b'):=by cases a' <;> cases b' <;> rfl
    rw[e];exact gN I so
   | _=>cases ek
  | _=>cases x <;> cases ek
end
end Mi
namespace HT
open PySem PyProof.Rows
section
variable{prog:Fn}{w:Fv}{A:Fs}{E:EK->EN->Prop}{s:EN}
def eA {t sl:EU}{items:FM EK}{vl vu:EK}{lo hi:EO E5}{Q:EK->EN->Prop}(ht:La s.heap t items)(hs:s.heap.IsSliceOf sl vl vu .none)(pl:Ja vl lo)(pu:Ja vu hi)
  (hw:bv items.size 0 lo=0/\bv items.size items.size hi=items.size) (h:Q (.ref t) s):wpAny (model prog w) A (getItem (.ref t) (.ref sl)) Q E s:=by
 obtain⟨os,hos,hcs,hds⟩:=id hs;have hTs:s.TypeIs (.ref sl) "slice":=#[os,hos,hcs];unfold getItem
 try with_reducible show Ga ?_
 first|refine EJ (ET ?_)|skip
 show EJ (Li ht.typeIs #v[] ?_)
 show EJ (FU (name:=GK "__getitem__") ht.typeIs GR
  (F5 GR ht.typeIs Kz ?_ (KU _ _)))
 change wpAny _ _ (HS (.ref t) >>= _) _ _ s;show EJ (Mx ht ?_);show EJ (IW hTs ?_);rw[Fi #v[]]
 show EJ (dk hs pl pu ?_);have hyes:((((bv items.size 0 lo:EV):E5)==0&&(1:E5)==1&&(bv items.size items.size hi - bv items.size 0 lo)==items.size)=true):=by
  rw[hw.1,hw.2];simp
 change wpAny _ _ (if (((bv items.size 0 lo:EV):E5)==0&&(1:E5)==1&&(bv items.size items.size hi - bv items.size 0 lo)==items.size)=true then _ else _) _ _ s
 rw[Fi hyes];unfold Mj;show EJ (EJ (IW ht.typeIs (ET ?_)));rw[Fi #v[]]
 exact EJ (IF (EJ (ET (ET #[_,rfl,ET h]))))
end
end HT
namespace Mi
open PySem PySem.Spec PyProof.Rows L2
abbrev qL (x y:W)(S:aa):EO (W×aa):=match x,y with
 | .tup xs,.int i=>(mq xs i).map λw=>(w,S)
 | .ref r,.int i=>match dL S r with
  | some xs=>(mq xs i).map λw=>(w,S)
  | none=>gV
 | .str x,.int i=>if x.length<=sizeLine then(mq x.cps.toList i).map λc=>(.str #[[c].toArray],S)else gV
 | _,_=>gV
abbrev gF (xs:EI W)(lo hi:EO E5):EI W:=(xs.drop (HT.bv xs.length 0 lo)).take (HT.bv xs.length xs.length hi - HT.bv xs.length 0 lo)
abbrev la (x:W)(lo hi:EO E5)(S:aa):EO (W×aa):=match x with
 | .tup xs=>ba (.tup (gF xs lo hi),S)
 | .ref r=>match dL S r with
  | some xs=>ba (.ref S.length,S++[.lst (gF xs lo hi)])
  | none=>gV
 | _=>gV
abbrev pQ (o i v:W)(S:aa):EO aa:=match o,i with
 | .ref r,.int k=>match kL S r with
  | some xs=>match qJ xs.length k with
   | some j=>ba (S.set r (.lst (xs.set j v)))
   | none=>gV
  | none=>gV
 | _,_=>gV
section
variable (X:Cx)
abbrev LIx (g:W->W->aa->EO (W×aa)):Prop:=
 ∀(value slice:Fa) (J:EI (EU×Gm)) (s:EN) (Y:L2.St) (H:Hp) (A:EI EU) (S:aa) (x y:W) (a b:V) (u v:EK) (w:W) (S':aa),Inv X J Y H s->StoreOk X.w X.K A H S->
  Rel X.K A H x a->RelV a u->Rel X.K A H y b->RelV b v->g x y S=ba (w,S')->subscripted slice false u v=operate [u,v] (getItem u v)->wpAny (model X.prog X.w) X.A (subscriptTail value slice u v) (PostE X J Y A H S' w) X.xe s
abbrev LSl (g:W->EO E5->EO E5->aa->EO (W×aa)):Prop:=
 ∀(J:EI (EU×Gm)) (s:EN) (Y:L2.St) (H:Hp) (A:EI EU) (S:aa) (x:W) (a:V) (v vl vu:EK) (lo hi:EO E5) (sl:EU) (w:W) (S':aa),Inv X J Y H s->StoreOk X.w X.K A H S->
  Rel X.K A H x a->RelV a v->s.heap.IsSliceOf sl vl vu .none->Ja vl lo->Ja vu hi->g x lo hi S=ba (w,S')->
  ∃T id,typeLookup (.type T) "__getitem__" = pure (ba (.builtin id))/\s.TypeIs v T/\wpAny (model X.prog X.w) X.A (getItem v (.ref sl)) (PostE X J Y A H S' w) X.xe s
abbrev LSet (g:W->W->W->aa->EO aa):Prop:=
 ∀(J:EI (EU×Gm)) (s:EN) (Y:L2.St) (H:Hp) (A:EI EU) (S:aa) (o i x:W) (ao ai ax:V) (uo ui ux:EK) (S':aa),Inv X J Y H s->StoreOk X.w X.K A H S->
  Rel X.K A H o ao->RelV ao uo->Rel X.K A H i ai->RelV ai ui->Rel X.K A H x ax->RelV ax ux->g o i x S=ba S'->
  wpAny (model X.prog X.w) X.A (setItem uo ui ux) (λ_ s'=>∃H' A',Inv X J Y H' s'/\Ext X.K A H A' H'/\StoreOk X.w X.K A' H' S') X.xe s
abbrev LCall (f:EK)(g:EI W->aa->EO (W×aa)):Prop:=
 ∀(J:EI (EU×Gm)) (s:EN) (Y:L2.St) (H:Hp) (A:EI EU) (S:aa) (xs:EI W) (vs:EI V) (us:EI EK) (w:W) (S':aa),Inv X J Y H s->StoreOk X.w X.K A H S->
  RelL X.K A H xs vs->Vals vs us->g xs S=ba (w,S')->wpAny (model X.prog X.w) X.A (call f us) (PostE X J Y A H S' w) X.xe s
abbrev LMeth (id:Gc)(g:W->EI W->aa->EO (W×aa)):Prop:=
 ∀(J:EI (EU×Gm)) (s:EN) (Y:L2.St) (H:Hp) (A:EI EU) (S:aa) (x:W) (a:V) (u:EK) (xs:EI W) (vs:EI V) (us:EI EK) (w:W) (S':aa),Inv X J Y H s->StoreOk X.w X.K A H S->
  Rel X.K A H x a->RelV a u->RelL X.K A H xs vs->Vals vs us->g x xs S=ba (w,S')->wpAny (model X.prog X.w) X.A (call (.builtin id) (u::us)) (PostE X J Y A H S' w) X.xe s
end
section
variable{X:Cx}{J:EI (EU×Gm)}{Y:L2.St}{H:Hp}{s:EN}{A:EI EU}{S:aa}
def IxR.go {r:R2}(h:IxR X r){S':aa}{w:W}{a b:V}{u v:EK}{value slice:Fa}(I:Inv X J Y H s)(ru:RelV a u)(rv:RelV b v)(q:r a b H (EndV X.w X.K A H S' w))(hs:subscripted slice false u v=operate [u,v] (getItem u v)) :
  wpAny (model X.prog X.w) X.A (subscriptTail value slice u v) (PostE X J Y A H S' w) X.xe s:=aK (h value slice J s Y H a b u v _ I ru rv q hs) λ_ _=>EP.post
def CallR.go {f:EK}{r:EI V->Hp->VK->Prop}(h:CallR X f r){S':aa}{w:W}{vs:EI V}{us:EI EK}(I:Inv X J Y H s)(rv:Vals vs us)(q:r vs H (EndV X.w X.K A H S' w)) :
  wpAny (model X.prog X.w) X.A (call f us) (PostE X J Y A H S' w) X.xe s:=aK (h J s Y H vs us _ I rv q) λ_ _=>EP.post
def MtR.go {id:Gc}{r:V->EI V->Hp->VK->Prop}(h:MtR X id r){S':aa}{w:W}{a:V}{u:EK}{vs:EI V}{us:EI EK}(I:Inv X J Y H s)(ru:RelV a u)(rv:Vals vs us)(q:r a vs H (EndV X.w X.K A H S' w)) :
  wpAny (model X.prog X.w) X.A (call (.builtin id) (u::us)) (PostE X J Y A H S' w) X.xe s:=aK (h J s Y H a vs u us _ I ru rv q) λ_ _=>EP.post
def nU {xs:EI W}{vs:EI V}{i:E5}{w:W}(r:RelL X.K A H xs vs)(e:mq xs i=ba w):∃v,mq vs i=ba v/\Rel X.K A H w v:=by
 unfold mq at e ⊢;rw[r.length]at e;cases q:qJ vs.length i with
 | none=>rw[q]at e; cases e
 | some j=>
  rw[q]at e;obtain⟨v,h1,h2⟩:=r.get (show xs[j]?=ba w from e)
  exact#[v,h1,h2]
def Ez (hu:X.A.units+10 < cLine):LIx X qL:=by
 intro value slice J s Y H A S x y a b u v w S' I so rx ru ry rv e hs;cases rx with
 | tup h1 r1=>cases ry with
  | int=>
   (dsimp only[qL]at e; simp only[EQ]at e)
   obtain⟨w',e1,e2⟩:=e;cases e2;obtain⟨z,h2,r2⟩:=nU r1 e1;exact IxR.go zm I ru rv #[_,_,_,_,rfl,rfl,h1,h2,.here so r2] hs
  | _=>cases e
 | ref ea=>cases ry with
  | int=>
   dsimp only[qL]at e;split at e
   ·rename_i ws hw;rw[EQ]at e;obtain⟨w',e1,e2⟩:=e;cases e2;obtain⟨vs,h1,r1⟩:=aH so hw ea;obtain⟨z,h2,r2⟩:=nU r1 e1;exact IxR.go vn I ru rv #[_,_,_,_,rfl,rfl,h1,h2,.here so r2] hs
   ·cases e
  | _=>cases e
 | str=>cases ry with
  | int=>
   dsimp only[qL]at e;split at e
   ·rw[EQ]at e;obtain⟨c,e1,e2⟩:=e;cases e2;exact IxR.go zn I ru rv #[_,_,_,rfl,rfl,by assumption,e1,.here so .str] hs
   ·cases e
  | _=>cases e
 | _=>cases ry <;> cases e
def jU {xs:EI W}{vs:EI V}{lo hi:EO E5}(r:RelL X.K A H xs vs):RelL X.K A H (gF xs lo hi) (gX vs lo hi):=by
 unfold gF gX;rw[r.length];exact(r.drop _).take _
def vP:Bq X (λx lo hi H Q=>∃a xs,x=.ref a/\SqT X.K H a xs/\(gX xs lo hi=xs->Q (.ref a) H)/\∀p,H p=gV->Q (.ref p) (aR H p (.tup (gX xs lo hi)))):=by
 intro J s Y H x v vl vu lo hi sl Q I rx hs pl pu h;obtain⟨a,xs,rfl,hx,q0,q⟩:=h
 by_cases hw:(HT.bv xs.length 0 lo=0/\HT.bv xs.length xs.length hi=xs.length)
 ·cases rx;obtain⟨its,r,ht,hz⟩:=I.tuple hx;have hlen:its.toArray.size=xs.length:=by rw[EY]; exact r.length.symm
  show#["tuple",_,PyProof.Rows.slot_tuple_getitem.lookup,ht.typeIs,?_];show HT.eA ht hs pl pu (by rw[hlen]; exact hw) #[.ref a,H,I,rfl,q0 ?_]
  unfold gX;rw[hw.1,hw.2];simp
 ·exact zj J s Y H (.ref a) v vl vu lo hi sl Q I rx hs pl pu #[a,xs,rfl,hx,hw,q]
def EA:LSl X la:=by
 intro J s Y H A S x a v vl vu lo hi sl w S' I so rx rv hs pl pu e;cases rx with
 | tup h1 r1=>
  cases e;obtain⟨T,id,z1,z2,z3⟩:=vP J s Y H _ v vl vu lo hi sl (EndV X.w X.K A H S (.tup (gF _ lo hi))) I rv hs pl pu #[_,_,rfl,h1,λq=>.here so (.tup h1 (by have:=jU (lo:=lo) (hi:=hi) r1; rw[q]at this; exact this)),λp hp=>.tup so (jU r1) hp]
  exact#[T,id,z1,z2,aK z3 λ_ _=>EP.post]
 | ref ea=>
  dsimp only[la]at e;split at e
  ·rename_i ws hw;cases e;obtain⟨vs,h1,r1⟩:=aH so hw ea;obtain⟨T,id,z1,z2,z3⟩:=vo J s Y H _ v vl vu lo hi sl (EndV X.w X.K A H (S++[.lst (gF ws lo hi)]) (.ref S.length)) I rv hs pl pu #[_,_,rfl,h1,λp hp=>.lst so (jU r1) hp]
   exact#[T,id,z1,z2,aK z3 λ_ _=>EP.post]
  ·cases e
 | _=>cases e
def lset (hu:X.A.units+10 < cLine):LSet X pQ:=by
 intro J s Y H A S o i x ao ai ax uo ui ux S' I so ro ruo ri rui rx rux e;cases ro with
 | ref ea=>cases ri with
  | int=>
   dsimp only[pQ]at e;split at e
   ·rename_i ws hw;split at e
    ·rename_i j hj;cases e;obtain⟨vs,h1,r1⟩:=da so hw ea;rw[r1.length]at hj;obtain⟨so',ex⟩:=so.write (g6 hw) ea (r1.set rx j);exact aK (rn J s Y H _ _ _ uo ui ux (λH'=>H'=aR H _ (.lst (vs.set j ax))) I ruo rui rux #[_,_,_,_,rfl,rfl,h1,hj,rfl]) λ_ s' #[H',I',e']=>#[_,A,e' ▸ I',ex,so']
    ·cases e
   ·cases e
  | _=>cases e
 | _=>cases ri <;> cases e
abbrev mN (xs:EI W)(S:aa):EO (W×aa):=match xs with
 | [.tup ys]=>ba (.int ys.length,S)
 | [.str y]=>if y.length<=sizeLine then ba (.int y.length,S)else gV
 | [.ref i]=>(dL S i).map λys=>(.int ys.length,S)
 | _=>gV
def pR:LCall X (.builtin "len") mN:=by
 intro J s Y H A S xs vs us w S' I so rl rv e;cases rl with
 | nil=>cases e
 | cons r t=>
  cases t with
  | cons _ _=>cases r <;> cases e
  | nil=>
   cases r with
   | tup h1 r1=>cases e; rw[r1.length]; exact CallR.go gU I rv #[_,_,rfl,.inr #[_,h1,rfl],.here so .int]
   | str=>
    dsimp only[mN]at e;split at e
    ·cases e; exact CallR.go gU I rv #[_,_,rfl,#[by assumption,rfl],.here so .int]
    ·cases e
   | ref ea=>
    (dsimp only[mN]at e; simp only[EQ]at e)
    obtain⟨ws,hw,e2⟩:=e;cases e2;obtain⟨vs',h1,r1⟩:=aH so hw ea;rw[r1.length];exact CallR.go gU I rv #[_,_,rfl,.inl #[_,h1,rfl],.here so .int]
   | _=>cases e
abbrev eX (xs:EI W)(S:aa):EO (W×aa):=match xs with
 | [x]=>match bQ S x with
  | some ys=>ba (.ref S.length,S++[.lst ys])
  | none=>gV
 | _=>gV
def eM:LCall X (.type "list") eX:=by
 intro J s Y H A S xs vs us w S' I so rl rv e;cases rl with
 | nil=>cases e
 | cons r t=>
  cases t with
  | cons _ _=>cases e
  | nil=>
   dsimp only[eX]at e;split at e
   ·rename_i ys hy;cases e;obtain⟨p,vs',rfl,hq,r1⟩:=jT (J:=J) (Y:=Y) (s:=s) so r hy;exact CallR.go jQ I rv #[p,vs',rfl,hq,λl hl=>.lst so r1 hl]
   ·cases e
abbrev hG (xs:EI W)(S:aa):EO (W×aa):=match xs with
 | [.tup ys]=>ba (.tup ys,S)
 | [.ref i]=>match dL S i with
  | some ys=>ba (.tup ys,S)
  | none=>gV
 | _=>gV
def gl:LCall X (.type "tuple") hG:=by
 intro J s Y H A S xs vs us w S' I so rl rv e;cases rl with
 | nil=>cases e
 | cons r t=>
  cases t with
  | cons _ _=>cases r <;> cases e
  | nil=>
   cases r with
   | tup h1 r1=>cases e; exact CallR.go eE I rv #[_,_,rfl,.inr #[h1,.here so (.tup h1 r1)]]
   | ref ea=>
    dsimp only[hG]at e;split at e
    ·rename_i ys hy;cases e;obtain⟨vs',h1,r1⟩:=aH so hy ea;exact CallR.go eE I rv #[_,_,rfl,.inl #[h1,λl hl=>.tup so r1 hl]]
    ·cases e
   | _=>cases e
abbrev Bw (xs:EI W)(S:aa):EO (W×aa):=match xs with
 | [.int i]=>ba (.int i,S)
 | [.bl b]=>ba (.int (if b then 1 else 0),S)
 | _=>gV
def pS:LCall X (.type "int") Bw:=by
 intro J s Y H A S xs vs us w S' I so rl rv e;cases rl with
 | nil=>cases e
 | cons r t=>
  cases t with
  | cons _ _=>cases r <;> cases e
  | nil=>
   cases r with
   | int=>cases e; exact CallR.go i3 I rv (.inl #[_,rfl,.here so .int])
   | bl=>cases e; exact CallR.go i3 I rv (.inr #[_,rfl,.here so .int])
   | _=>cases e
abbrev eY (x:W)(xs:EI W)(S:aa):EO (W×aa):=match x,xs with
 | .ref i,[y]=>match kL S i with
  | some ys=>if ys.length < sizeLine then ba (.non,S.set i (.lst (ys++[y])))else gV
  | none=>gV
 | _,_=>gV
def fP {i:EV}{p:EU}{ws ws0:EI W}{us:EI V}(so:StoreOk X.w X.K A H S)(e:kL S i=ba ws0)(ea:A[i]?=ba p)(r:RelL X.K A H ws us){w:W}{v:V}(rw':Rel X.K A H w v) :
  EndV X.w X.K A H (S.set i (.lst ws)) w v (aR H p (.lst us)):=by
 obtain⟨so',ex⟩:=so.write (g6 e) ea r;exact#[A,ex,so',rw'.mono ex]
def jV:LMeth X "list.append" eY:=by
 intro J s Y H A S x a u xs vs us w S' I so rx ru rl rv e;cases rx with
 | ref ea=>
  cases rl with
  | nil=>cases e
  | cons r t=>
   cases t with
   | cons _ _=>cases e
   | nil=>
    dsimp only[eY]at e;split at e
    ·rename_i ys hy;split at e
     ·rename_i hl;cases e;obtain⟨vs',h1,r1⟩:=da so hy ea;rw[r1.length]at hl;exact MtR.go pI I ru rv #[_,_,_,rfl,rfl,h1,hl,fP so hy ea (r1.append #v[r]) .non]
     ·cases e
    ·cases e
 | _=>cases e
abbrev jW (x:W)(xs:EI W)(S:aa):EO (W×aa):=match x,xs with
 | .ref i,[.ref j]=>match kL S i,kL S j with
  | some ys,ba zs=>if ys.length+zs.length<=sizeLine then ba (.non,S.set i (.lst (ys++zs)))else gV
  | _,_=>gV
 | _,_=>gV
def jX:LMeth X "list.extend" jW:=by
 intro J s Y H A S x a u xs vs us w S' I so rx ru rl rv e;cases rx with
 | ref ea=>
  cases rl with
  | nil=>cases e
  | cons r t=>
   cases t with
   | cons _ _=>cases r <;> cases e
   | nil=>
    cases r with
    | ref eb=>
     dsimp only[jW]at e;split at e
     ·rename_i ys zs hy hz;split at e
      ·rename_i hl;cases e;obtain⟨vs',h1,r1⟩:=da so hy ea;obtain⟨vs2,h2,r2⟩:=da so hz eb;rw[r1.length,r2.length]at hl;exact MtR.go pJ I ru rv #[_,_,_,_,rfl,rfl,h1,h2,hl,fP so hy ea (r1.append r2) .non]
      ·cases e
     ·cases e
    | _=>cases e
 | _=>cases e
abbrev zt (x:W)(xs:EI W)(S:aa):EO (W×aa):=match x,xs with
 | .ref i,[.int k]=>match kL S i with
  | some ys=>if -(2 ^ 63)<=k/\k < 2 ^ 63 then match seqIndex? k ys.length with
   | some j=>match ys[j]? with
    | some y=>ba (y,S.set i (.lst (ys.eraseIdx j)))
    | none=>gV
   | none=>gV
   else gV
  | none=>gV
 | _,_=>gV
def pT:LMeth X "list.pop" zt:=by
 intro J s Y H A S x a u xs vs us w S' I so rx ru rl rv e;cases rx with
 | ref ea=>
  cases rl with
  | nil=>cases e
  | cons r t=>
   cases t with
   | cons _ _=>cases r <;> cases e
   | nil=>
    cases r with
    | int=>
     dsimp only[zt]at e;split at e
     ·rename_i ys hy;split at e
      ·rename_i hk;split at e
       ·rename_i j hj;split at e
        ·rename_i y hyj;cases e;obtain⟨vs',h1,r1⟩:=da so hy ea;obtain⟨v',h2,r2⟩:=r1.get hyj;rw[r1.length]at hj;exact MtR.go rs I ru rv #[_,_,_,_,_,rfl,rfl,h1,hk.1,hk.2,hj,h2,fP so hy ea (r1.eraseIdx j) r2]
        ·cases e
       ·cases e
      ·cases e
     ·cases e
    | _=>cases e
 | _=>cases e
abbrev dS:EI W->EO (EI E3)
 | []=>ba []
 | .str x::xs=>(dS xs).map (x :: ·)
 | _::_=>gV
abbrev lb (x:W)(xs:EI W)(S:aa):EO (W×aa):=match x,xs with
 | .str x,[y]=>match bQ S y with
  | some ys=>match dS ys with
   | some zs=>if (zs.map (·.length)).sum+zs.length*x.length<=16777216 then ba (.str (Mk x zs),S)else gV
   | none=>gV
  | none=>gV
 | _,_=>gV
def hW:∀ {ws:EI W} {vs:EI V} {us:EI EK} {zs:EI E3},RelL X.K A H ws vs->Vals vs us->dS ws=ba zs->Nt us zs
 | _,_,_,zs,.nil,.nil,e=>by cases e; exact .nil
 | _,_,_,zs,.cons r t,.cons q p,e=>by
  cases r with
  | str=>
   (dsimp only[dS]at e; simp only[EQ]at e)
   obtain⟨z,e1,e2⟩:=e;subst e2;obtain⟨tk,rfl⟩ : ∃t,_=Iu _ t:=q;exact .cons _ tk (hW t p e1)
  | _=>cases e
def mO:LMeth X "str.join" lb:=by
 intro J s Y H A S x a u xs vs us w S' I so rx ru rl rv e;cases rx with
 | str=>
  cases rl with
  | nil=>cases e
  | cons r t=>
   cases t with
   | cons _ _=>cases e
   | nil=>
    simp only[lb]at e;split at e
    ·rename_i ys hy;split at e
     ·rename_i zs hz;split at e
      ·rename_i hl;cases e;obtain⟨p,vs',rfl,hq,r1⟩:=jT (J:=J) (Y:=Y) (s:=s) so r hy;obtain⟨t0,rfl⟩ : ∃t,u=Iu _ t:=ru;obtain⟨u1,rfl,ru1⟩:=iZ rv;have ru1':u1=FL p:=ru1;subst ru1';rcases hq with hq|hq
       ·obtain⟨its,rr,pl,hz'⟩:=I.list hq;exact join_list pl.isList (by simpa using hW r1 rr hz) hl λt' k=>#[.str _,H,A,I.tok _,#[_,rfl],.refl,so,.str]
       ·obtain⟨its,rr,pl,hz'⟩:=I.tuple hq;exact join_tuple pl (by simpa using hW r1 rr hz) hl λt' k=>#[.str _,H,A,I.tok _,#[_,rfl],.refl,so,.str]
      ·cases e
     ·cases e
    ·cases e
 | _=>cases e
abbrev dB (S:aa):W->EO Fk
 | .non=>ba false
 | .bl b=>ba b
 | .int i=>ba (i != 0)
 | .str y=>if y.length<=sizeLine then ba ((y.length:E5) != 0)else gV
 | .tup xs=>ba (!xs.isEmpty)
 | .ref i=>(dL S i).map λxs=>!xs.isEmpty
def gm {ws:EI W}{vs:EI V}(r:RelL X.K A H ws vs):(!ws.isEmpty) = !vs.isEmpty:=by cases r <;> rfl
def DB {x:W}{a:V}{u:EK}{k:Fk}{Q:Fk->EN->Prop}(I:Inv X J Y H s)(so:StoreOk X.w X.K A H S)(rx:Rel X.K A H x a)(ru:RelV a u)(e:dB S x=ba k)(hq:∀s',Inv X J Y H s'->Q k s') :
  wpAny (model X.prog X.w) X.A (truthy u) Q X.xe s:=by
 show aK (zd J s Y H a u (λb H'=>b=k/\H'=H) I ru #[k,?_,rfl,rfl]) λb s' #[H',I',e1,e2]=>?_
 ·cases rx with
  | non=>cases e; rfl
  | bl=>cases e; rfl
  | int=>cases e; rfl
  | str=>
   simp only[dB]at e;split at e
   ·cases e; exact#[by assumption,rfl]
   ·cases e
  | tup h1 r1=>cases e; exact .inr (.inl #[_,h1,gm r1])
  | ref ea=>
   simp only[dB,EQ]at e;obtain⟨ws,hw,e2⟩:=e;subst e2;obtain⟨vs,h1,r1⟩:=aH so hw ea;exact .inl #[_,h1,gm r1]
 ·subst e1 e2;exact hq s' I'
end
abbrev pU (xs:EI E3)(x:E3):EI E3:=if x∈xs then xs else xs++[x]
abbrev gG (ss:EI E3):EI E3:=ss.foldl pU []
def pV {ss:EI E3}{x:E3}:gG (ss++[x])=pU (gG ss) x:=by unfold gG; rw[List.foldl_append]; rfl
def rM {xs:EI E3}{x:E3}:(pU xs x).length<=xs.length+1:=by
 unfold pU;split
 ·exact Hd _
 ·simp
def rN:∀ss:EI E3,(gG ss).length<=ss.length:=λss=>by
 unfold gG
 suffices h:∀(ss acc:EI E3),(ss.foldl pU acc).length<=acc.length+ss.length by simpa using h ss []
 intro ss
 induction ss with
 | nil=>intro acc; simp
 | cons x ss ih=>
  intro acc;have h1:=ih (pU acc x);have h2:=rM (xs:=acc) (x:=x);simp only[LY,Fy];omega
abbrev bK (w:Fv):Gm:={ cls:=.type "set",dict:=gV,data:=.set #[] 0 (.fresh 0 0 (!Bt w)) }
def pW {w:Fv}:c9 w [] (bK w):=#[#[rfl,rfl,rfl],#[],0,_,rfl,#[λe he=>by simp at he,by simp,.nil,#v[],rfl,rfl,λ_=>rfl]]
section
variable{prog:Fn}{w:Fv}{A:Fs}{E:EK->EN->Prop}{s:EN}{R:LD->EN->Prop}{I:EU}{fp wr:EI EU}{G:FM Ke->FM Ke->Prop}{n:EV}{P:EV->EK->Prop}{St:EV->EN->Prop}
def rO (W:WalksS prog w A.in1 I fp wr G n P St){D:EU}(hD:D∉fp){ss:EI E3}(hl:ss.length=n)(hP:∀i v,P i v->∃x tk,ss[i]?=ba x/\v=.str x tk)(hb:n+1 < scanBound) :
  ∀(k i:EV) (s:EN) (o:Gm),n - i=k->i<=n->St i s->s.heap.get? D=ba o->c9 w (gG (ss.take i)) o->
   (∀s' o',Moved (D::wr) G s s'->s'.heap.get? D=ba o'->c9 w (gG ss) o'->R (.ok (.ret .none)) s')->codeAny (model prog w) A (.builtin "set.update.loop" #[[.ref D,.ref I],[]]) R s:=by
 have hw:D∉wr:=λz=>hD (W.sub _ z)
 have up:∀b∈wr,b∈D::wr:=λb z=>FC _ z
 intro k
 induction k with
 | zero=>
  intro i s o hk hi st ho hS hR;obtain rfl:i=n:=∅
  show F7 F.entry_set_update_loop ?_;rw[F0 F.plain_set_update_loop _];change wpAny _ A.in1 (pyNext (.ref I) >>= _) _ _ s;show EJ (W.done s _ _ st λs' mv=>?_)
  exact ET (hR s' o (mv.mono up) (mv.heap D _ hw ho) (by rw[G9 ∅]at hS; exact hS))
 | succ k ih=>
  intro i s o hk hi st ho hS hR;have hlt:i < n:=∅
  show F7 F.entry_set_update_loop ?_;rw[F0 F.plain_set_update_loop _];change wpAny _ A.in1 (pyNext (.ref I) >>= _) _ _ s;show EJ (W.item i s _ _ hlt st λv s1 pv st1 mv=>?_)
  obtain⟨x,tk,hx,rfl⟩:=hP i v pv;change wpAny _ A.in1 (holding [Iu x tk] (setAdd D (.str x tk)) >>= _) _ _ s1;show EJ (Ga ?_);unfold setAdd;show Ga (EJ (JB ?_));have hlen:(gG (ss.take i)).length+1 < scanBound:=by
   have:=rN (ss.take i);rw[Gg]at this;omega
  have o1:s1.heap.get? D=ba o:=mv.heap D _ hw ho;show vA (s:={ s1 with toks:=s1.toks+1 }) o1 hS hlen λb h' o' sb ho' hS'=>?_
  show ET #[He F.plain_set_update_loop _,ih (i+1) { s1 with heap:=h',toks:=s1.toks+1 } o' ∅ hlt (W.frame _ s1 _ _ st1 (Hd _) λc hc u q=>?_) ho' ?_ λs2 o2 mv2 ho2 hS2=>?_]
  ·rw[sb.2 c λz=>hD (z ▸ hc)]; exact q
  ·rw[List.take_succ,hx];change c9 w (gG (ss.take i++[x])) o';rw[pV];exact hS'
  ·show hR s2 o2 (Moved.trans W.gtrans ((mv.mono up).then_heap (Hd _) λc u hc q=>?_) mv2) ho2 hS2
   rw[sb.2 c λz=>hc (z ▸ F9)]
   exact q
def rP (a:EK){Q₁:EK->EN->Prop}(h:Q₁ (.ref s.heap.objs.size) { s with heap:=s.heap.push (bK w) }):codeAny (model prog w) A (.call (.builtin "set.__new__") #[[.type "set",a],[]]) (wants Q₁ E) s:=by
 show JW ?_;change wpAny _ A.in1 (checkBuiltinCall "set.__new__" #[[.type "set",a],[]] >>= λ_=>again (.builtin "set.__new__" #[[.type "set",a],[]])) _ _ s
 show EJ (Jq (F.newCall_set_1 a) (ET #[He F.plain_set_new _,F7 F.entry_set_new ?_]));rw[F0 F.plain_set_new _];unfold Ip.«set.__new__» Ml;have hsub:=PySem.sub_set_self;obtain⟨hp,g,d,tk,os⟩:=s;dsimp only
 wp_walk
 show wpAny_askSetting (ET ?_);dsimp only;simp only[newObj];exact EJ (M4 (ET (ET h)))
set_option maxHeartbeats 4000000 in
def rQ {l:EU}{its:FM EK}{ss:EI E3}{Q:EK->EN->Prop}(hh:A.handled=gV)(hl:s.heap.IsList l its)(hi:Nt its.toList ss)(hb:ss.length+1 < scanBound)
  (h:∀h' tk o,h'.get? s.heap.objs.size=ba o->c9 w (gG ss) o->(∀b u,s.heap.get? b=ba u->h'.get? b=ba u)->Q (.ref s.heap.objs.size) { s with heap:=h',toks:=tk }):wpAny (model prog w) A (call (.type "set") [.ref l]) Q E s:=by
 obtain⟨c,tl,hmro⟩:=F.called_set.mro;have hmade:=F.called_set.made;have hsub:=F.called_set.sub;have hn1:=F.called_set.notType;have hn2:=F.called_set.canCreate;have hct:=F.typeCall_set_1 (.ref l);show wpAny_call (JW ?_);change wpAny _ _ (callAny (.type "set") _) _ _ _;show ET #[KY _ (by decide +kernel),F7 F.entry_type_call ?_]
 rw[Around.under_plain (weight_type_call_type "set" [.ref l] []) rfl]
 repeat (any_goals (first|assumption|wp_step))
 show Ix (rP (w:=w) (.ref l) (E:=E) (Q₁:=λobj s1=>obj=.ref s.heap.objs.size/\s1={ s with heap:=s.heap.push (bK w) }) #[rfl,rfl]) λr s1 hr=>?_
 match r,hr with
 | .ok (.ret obj),hr=>
  obtain⟨rfl,rfl⟩:=hr;have oS:(s.heap.push (bK w)).get? s.heap.objs.size=ba (bK w):=EX _ rfl;have tS:Shared.TypeIs { s with heap:=s.heap.push (bK w) } (.ref s.heap.objs.size) "set":=#[_,oS,rfl]
  have hli:=F.called_set.init.lookup;have hbi:=F.called_set.init.bind (.ref s.heap.objs.size)
  repeat (any_goals (first|assumption|wp_step))
  show Ix (codeAny_call_builtin (R:=wants (λr s2=>r=.none/\∃h' tk o,s2={ s with heap:=h',toks:=tk }/\h'.get? s.heap.objs.size=ba o/\c9 w (gG ss) o/\∀b u,s.heap.get? b=ba u->h'.get? b=ba u) E) F.called_set.init.plain F.entry_set_init (check_set_init_1 tS ?_)) λr2 s2 hr2=>?_
  ·obtain⟨⟨oc,od,ot,osl⟩,hol,hcl,nl,hdl⟩:=id hl;simp only at hcl hdl;subst hcl hdl;have hol1:=EM (bK w) hol;have l1:(s.heap.push (bK w)).IsList l its:=#[_,hol1,rfl,nl,rfl];have e1:=F.sub_list_set;have e2:=F.sub_list_frozenset;have e3:(Hs "list" == Hs "dict")=false:=by decide
   unfold Ip.«set.__init__» noKeywords LZ;generalize hPI:pyIter=PI
   wp_walk
   subst hPI;show HP l1 (EJ (Jc ?_));have ls:l < s.heap.objs.size:=E4 hol;have sz:(s.heap.push (bK w)).objs.size=s.heap.objs.size+1:=Hh ..;have ne:l≠(s.heap.push (bK w)).objs.size:=by rw[sz]; exact Fg (Jr ls)
   show rO ((Mm (A:=A.in1.in1.in1) (by simp[hh]) _ l ne its).toS) (D:=s.heap.objs.size) (ss:=ss) (by rw[sz]; simp only[Fc,FH,GV,LJ]; exact#[Fg (HY _),Gw ls]) (by rw[<- hi.length,Fe]) (λi v q=>?_) (by rw[<- Fe,hi.length]; exact hb) _ 0 _ (bK w) rfl (GC _)
    #[#[_,EX _ rfl,rfl,rfl],l1.push _] (EM _ oS) pW λs3 o3 mv ho3 hS3=>?_
   ·obtain⟨x,tk,e,hx⟩:=hi.item i v (by rw[F3]; exact q)
    exact#[x,tk,hx,e]
   ·rw[Moved.eq_with mv];show ET (ET #[rfl,s3.heap,s3.toks,o3,rfl,ho3,hS3,λb u q=>?_])
    have hb:=E4 q;exact mv.heap b u (by rw[sz]; simp only[Fc,FH,GV,LJ]; exact#[Fg hb,Fg (Jr hb)]) (EM _ (EM _ q))
  ·match r2,hr2 with
   | .ok (.ret r),hr2=>
    obtain⟨rfl,h',tk,o,rfl,g1,g2,g3⟩:=hr2
    repeat (any_goals (first|assumption|wp_step))
    exact h h' tk o g1 g2 g3
   | .ok .next,hr2=>exact hr2.elim
   | .ok .brk,hr2=>exact hr2.elim
   | .ok .cont,hr2=>exact hr2.elim
   | .error e,hr2=>exact hr2
 | .ok .next,hr=>exact hr.elim
 | .ok .brk,hr=>exact hr.elim
 | .ok .cont,hr=>exact hr.elim
 | .error e,hr=>exact hr
end
abbrev rR:EI W->EO (EI E3)
 | []=>ba []
 | .str x::ws=>(rR ws).map (x :: ·)
 | _::_=>gV
def lc:∀ {ws:EI W} {ss:EI E3},rR ws=ba ss->ws=ss.map .str
 | [],_,h=>by cases h; rfl
 | .str x::ws,_,h=>by
  obtain⟨ss,h1,rfl⟩:=EQ.mp h;rw[lc h1]; rfl
 | .non::_,_,h|.bl _::_,_,h|.int _::_,_,h|.tup _::_,_,h|.ref _::_,_,h=>by cases h
abbrev DC (S:aa)(i:EV):EO (EI E3):=match S[i]? with
 | some (.sts xs)=>ba xs
 | _=>gV
abbrev vQ (S:aa)(i:EV):EO (E5×E5):=match S[i]? with
 | some (.rng lo hi)=>ba (lo,hi)
 | _=>gV
abbrev mP (xs:EI W)(S:aa):EO (W×aa):=match xs with
 | [.ref i]=>match dL S i with
  | some ws=>match rR ws with
   | some ss=>if ss.length+1 < scanBound then ba (.ref S.length,S++[.sts (gG ss)])else gV
   | none=>gV
  | none=>gV
 | _=>gV
abbrev mQ (xs:EI W)(S:aa):EO (W×aa):=match xs with
 | [.int j]=>if -(2 ^ 62)<=j/\j < 2 ^ 62 then ba (.ref S.length,S++[.rng 0 j])else gV
 | _=>gV
abbrev Bx (lo:E5)(n:EV):EI W:=(Gn n).map λ(k:EV)=>.int (lo+(k:E5))
abbrev jb (xs:EI W)(S:aa):EO (W×aa):=match xs with
 | [.ref i]=>match vQ S i with
  | some (lo,hi)=>if -(2 ^ 62)<=lo/\lo < 2 ^ 62/\-(2 ^ 62)<=hi/\hi < 2 ^ 62/\(hi - lo).toNat<=sizeLine then ba (.ref S.length,S++[.lst (Bx lo (hi - lo).toNat)])else gV
  | none=>eX [.ref i] S
 | xs=>eX xs S
section
variable{X:Cx}{J:EI (EU×Gm)}{Y:L2.St}{H:Hp}{s:EN}{A:EI EU}{S:aa}
def Inv.drawn (I:Inv X J Y H s)(d:NE):Inv X J Y H { s with drawn:=d }:=#[I.ok,I.os,I.bare,I.base,I.loc,I.cell,I.free,I.freeC,I.pin,I.hok,I.len]
def eZ {h':FN}{tk:EV}{dr:NE}{D:EU}{n:O}{u:HO}(I:Inv X J Y H s)(so:StoreOk X.w X.K A H S)(hk:∀b o,s.heap.get? b=ba o->h'.get? b=ba o)(hD:s.heap.objs.size<=D)(new:ObjOk X.prog X.w (aR H D u) h' D u)
  (r:H D=gV->ObjRel X.w X.K (A++[D]) (aR H D u) D n):PostE X J Y A H (S++[n]) (.ref S.length) (.ref D) { s with heap:=h',toks:=tk,drawn:=dr }:=by
 have hn:H D=gV:=I.hok.fresh hD;show#[.ref D,_,A++[D],Mi.Inv.drawn (I.laid (a:=D) (o:=u) (t':=tk) hk hD new) dr,rfl,cH hn,so.pushO hn (r hn),.ref ?_];rw[<- so.len]; simp
def jc:∀ {ss:EI E3} {vs:EI V} {us:EI EK},RelL X.K A H (ss.map .str) vs->Vals vs us->Nt us ss
 | [],_,_,.nil,rv=>by cases rv; exact .nil
 | x::ss,_,_,.cons r t,rv=>by
  cases rv with
  | cons ru rv=>
   cases r;obtain⟨tk,rfl⟩:=ru;exact .cons x tk (jc t rv)
def jY:∀ {vs:EI V} {us:EI EK},vs.length=us.length->(∀(i:EV) v u,vs[i]?=ba v->us[i]?=ba u->L2.RelV v u)->Vals vs us
 | [],[],_,_=>.nil
 | v::vs,u::us,hl,h=>.cons (h 0 v u rfl rfl) (jY (by simpa using hl) λi v u a b=>h (i+1) v u (by simpa using a) (by simpa using b))
 | [],_::_,hl,_=>by cases hl
 | _::_,[],hl,_=>by cases hl
def jZ {K:EW}{lo:E5}:∀(l:EI EV),RelL K A H (l.map λ(k:EV)=>W.int (lo+(k:E5))) (l.map λ(k:EV)=>V.int (lo+(k:E5)))
 | []=>.nil
 | _::l=>.cons .int (jZ l)
def gO {xs:EI W}{vs:EI V}{us:EI EK}{i:EV}(rl:RelL X.K A H [.ref i] vs)(rv:Vals vs us):∃a,A[i]?=ba a/\us=[.ref a]:=by
 cases rl with
 | cons r t=>
  cases t;cases r with
  | @ref _ a ea=>
   cases rv with
   | cons ru rv=>
    cases rv;obtain rfl:_=FL a:=ru;exact#[a,ea,rfl]
def pX (hh:X.A.handled=gV):LCall X (.type "set") mP:=by
 intro J s Y H A S xs vs us w S' I so rl rv e;unfold mP at e;split at e
 ·rename_i i;obtain⟨a,ea,rfl⟩:=gO (xs:=[]) rl rv;split at e
  ·rename_i ws hw;split at e
   ·rename_i ss hs;split at e
    ·rename_i hb;cases e;obtain⟨vs',h1,r1⟩:=aH so hw ea;obtain⟨its,rv',p,_⟩:=I.list h1;rw[lc hs]at r1;show rQ hh p.isList (by simpa using jc r1 rv') hb λh' tk o ho hS hk=>?_
     show eZ (dr:=s.drawn) (u:=.frz o (.ext λh=>h.get? s.heap.objs.size=ba o)) I so hk (E2 _) #[ho,ho,#[o,ho],λh1 h2 q k=>k _ q] λ_=>#[o,_,az,hS]
    ·cases e
   ·cases e
  ·cases e
 ·cases e
def zu {i:EV}{ss:EI E3}{a:EU}(I:Inv X J Y H s)(so:StoreOk X.w X.K A H S)(h:DC S i=ba ss)(ea:A[i]?=ba a):∃o,s.heap.get? a=ba o/\c9 X.w ss o:=by
 unfold DC at h;split at h
 ·rename_i xs hx;cases h;obtain⟨o,φ,q,r⟩:=so.obj i _ a hx ea;exact#[o,(show ObjOk X.prog X.w H s.heap a (.frz o (.ext φ))from I.hok a _ q).1,r]
 ·cases h
def lg:LCall X (.type "range") mQ:=by
 intro J s Y H A S xs vs us w S' I so rl rv e;unfold mQ at e;split at e
 ·rename_i j;split at e
  ·rename_i hb;cases e;cases rl with
   | cons r t=>
    cases t;cases r;cases rv with
    | cons ru rv=>
     cases rv;obtain⟨tk,rfl⟩:=ru;exact MT (eZ (dr:=s.drawn) (u:=.rng 0 j) I so (λb o e=>EM _ e) (E2 _) #[_,_,_,EX _ rfl] λ_=>az)
  ·cases e
 ·cases e
def lh (hh:X.A.handled=gV):LCall X (.type "list") jb:=by
 intro J s Y H A S xs vs us w S' I so rl rv e;unfold jb at e;split at e
 ·rename_i i;split at e
  ·rename_i lo hi hr;split at e
   ·rename_i hb;cases e;obtain⟨a,ea,rfl⟩:=gO (xs:=[]) rl rv;obtain⟨b1,b2,b3,b4,b5⟩:=hb;have hH:H a=ba (.rng lo hi):=by
     unfold vQ at hr;split at hr
     ·rename_i hx; cases hr; exact so.obj i _ a hx ea
     ·cases hr
    obtain⟨t,u,v,ho⟩:=I.hok a _ hH;have hn:GB lo hi 1=((hi - lo).toNat:EV):=by rw[KF]; split <;> omega
    show call_list_range hh ho (MO b1 b2 b3 b4) hn b5 λh' tk acc c hk hD hacc=>?_
    have hv:Vals ((Gn (hi - lo).toNat).map λ(k:EV)=>V.int (lo+(k:E5))) acc.toList:=by
     show jY (by rw[ER,HQ,Fe,hacc.1]) λi v u e1 e2=>?_
     rw[E1,EQ]at e1;obtain⟨k,e1,rfl⟩:=e1;obtain⟨hk,rfl⟩:=E9.mp e1;obtain⟨t,rfl⟩:=hacc.2 i u (by rw[<- F3]; exact e2)
     exact#[t,by simp]
    show eZ (dr:=s.drawn) (u:=.lst ((Gn (hi - lo).toNat).map λ(k:EV)=>V.int (lo+(k:E5)))) I so hk (E2 _) #[by simpa using b5,acc.toList,c,hv,by simpa using hD] λhn=>#[_,az,?_]
    exact jZ _
   ·cases e
  ·exact eM J s Y H A S _ vs us w S' I so rl rv e
 ·exact eM J s Y H A S _ vs us w S' I so rl rv e
end
mutual
inductive IsT (h:FN):T->EK->Prop
 | int {i:E5} {t:NA}:IsT h (.int i) (.int i t)
 | str {x:E3} {t:NA}:IsT h (.str x) (.str x t)
 | tup {ks:EI T} {a:EU} {o:Gm} {items:FM EK} {n:EV}:h.get? a=ba o->o.cls=.type "tuple"->o.data=.seq items n->IsTs h ks items.toList->IsT h (.tup ks) (.ref a)
inductive IsTs (h:FN):EI T->EI EK->Prop
 | nil:IsTs h [] []
 | cons {k:T} {v:EK} {ks:EI T} {vs:EI EK}:IsT h k v->IsTs h ks vs->IsTs h (k::ks) (v::vs)
end
mutual
theorem IsT.inj {h:FN}:∀ {x y:T} {v:EK},IsT h x v->IsT h y v->x=y
 | _,_,_,.int,h2=>by cases h2; rfl
 | _,_,_,.str,h2=>by cases h2; rfl
 | _,_,_,.tup a1 _ d1 t1,h2=>by
  cases h2 with
  | tup a2 _ d2 t2=>
   rw[a1]at a2; cases a2
   rw[d1]at d2; cases d2
   rw[IsTs.inj t1 t2]
theorem IsTs.inj {h:FN}:∀ {x y:EI T} {v:EI EK},IsTs h x v->IsTs h y v->x=y
 | _,_,_,.nil,h2=>by cases h2; rfl
 | _,_,_,.cons a b,h2=>by
  cases h2 with
  | cons c d=>rw[IsT.inj a c,IsTs.inj b d]
end
mutual
theorem IsT.keeps {h h':FN}{d:EU}{o:Gm}{es:FM G2}{ep:EV}(ho:h.get? d=ba o)(hd:o.data=.dict es ep)(hs:GY d h h'):∀ {x:T} {v:EK},IsT h x v->IsT h' x v
 | _,_,.int=>.int
 | _,_,.str=>.str
 | _,_,.tup (a:=a) a1 c1 d1 t1=>by
  have hne:a≠d:=by
   rintro rfl;rw[a1]at ho; cases ho
   rw[d1]at hd; cases hd
  exact .tup ((hs.2 a hne).trans a1) c1 d1 (IsTs.keeps ho hd hs t1)
theorem IsTs.keeps {h h':FN}{d:EU}{o:Gm}{es:FM G2}{ep:EV}(ho:h.get? d=ba o)(hd:o.data=.dict es ep)(hs:GY d h h'):∀ {x:EI T} {v:EI EK},IsTs h x v->IsTs h' x v
 | _,_,.nil=>.nil
 | _,_,.cons a b=>.cons (IsT.keeps ho hd hs a) (IsTs.keeps ho hd hs b)
end
def IsTs.length {h:FN}:∀ {x:EI T} {v:EI EK},IsTs h x v->x.length=v.length
 | _,_,.nil=>rfl
 | _,_,.cons _ b=>by simp[IsTs.length b]
def IsTs.get {h:FN}:∀ {x:EI T} {v:EI EK},IsTs h x v->∀(j:EV) (h1:j < x.length) (h2:j < v.length),IsT h x[j] v[j]
 | _,_,.cons a _,0,_,_=>a
 | _,_,.cons _ b,j+1,h1,h2=>IsTs.get b j (by simpa using h1) (by simpa using h2)
def cJ:∀ {ks:EI T} (j:EV) (h:j < ks.length),(ks[j]).depth<=T.depths ks
 | k::ks,0,_=>by simp only[T.depths,List.getElem_cons_zero]; omega
 | k::ks,j+1,h=>by
  have:=cJ (ks:=ks) j (by simpa using h)
  simp only[T.depths,List.getElem_cons_succ]; omega
section
variable{prog:Fn}{w:Fv}{E:EK->EN->Prop}
mutual
theorem li:∀(k:T) (v:EK) (A:Fs) (s:EN) (Q:E5->EN->Prop),IsT s.heap k v->A.units+k.depth < cLine->Q (kW w k) { s with toks:=s.toks+k.draws }->wpAny (model prog w) A (pyHash v) Q E s
 | .int i,_,A,s,Q,x,_,h=>by cases x; exact LA h
 | .str y,_,A,s,Q,x,_,h=>by cases x; exact JB h
 | .tup ks,_,A,s,Q,x,hu,h=>by
  cases x with
  | @tup _ a o items n hg hc hd hw=>
   simp only[T.depth]at hu;show PySem.W.pyHash_slot (T:="tuple") #[_,hg,hc] F.slot_tuple_hash F.entry_tuple_hash (F.args_tuple_hash_1 _) (beq_builtin_none _) (.inr ∅) ?_
   change wpAny _ _ (HS (.ref a) >>= _) _ _ s;show EJ (wpAny_tupleItemsOf hg hd ?_);show EJ ?_;rw[<- KZ];show hX ks items.toList A.in1 s #[] _ hw (by rw[aL]; omega) λb hb=>?_
   change wpAny _ _ (retInt (Jk b.toList)) _ _ _;rw[hb];show EJ (LU (ET #[_,_,rfl,?_]))
   simpa [T.draws,MD,kW]using h
theorem hX:∀(ks:EI T) (vs:EI EK) (A:Fs) (s:EN) (b:FM E5) (Q:FM E5->EN->Prop),IsTs s.heap ks vs->A.units+T.depths ks < cLine->
  (∀b',b'.toList=b.toList++gY w ks->Q b' { s with toks:=s.toks+T.drawss ks })->
  wpAny (model prog w) A (forIn vs b λx r=>do let h <- pyHash x; pure K1; pure (Gy (r.push h))) Q E s
 | [],_,A,s,b,Q,x,_,h=>by cases x; exact ET (h b (by simp[gY]))
 | k::ks,_,A,s,b,Q,x,hu,h=>by
  cases x with
  | cons x1 x2=>
   simp only[T.depths]at hu;rw[IT];show EJ (EJ (li k _ A s _ x1 ∅ ?_))
   show EJ (ET (ET ?_));show hX ks _ A _ _ Q x2 ∅ λb' hb=>?_
   have:=h b' (by simp[hb,gY])
   simpa [T.drawss,MD]using this
end
open SeqAt in
def pY:∀(d:EV) (x y:T) (u v:EK) (B:Fs) (s:EN),x.depth<=d->IsT s.heap x u->IsT s.heap y v->B.units+d < cLine->B.units+y.depth < cLine->EqAt B s u v (decide (x=y))
 | d,.int i,y,_,_,B,s,_,h1,h2,hu,hv=>by
  cases h1;cases h2 with
  | int=>
   rename_i j t2;have:decide (T.int i=T.int j)=(i==j):=by by_cases e:i=j <;> simp[e]
   rw[this]; exact .int_int _ _ _ _
  | str=>rw[Fq (by simp)]; exact .int_str _ _ _ _
  | tup a c dd t=>rw[Fq (by simp)]; exact .int_tuple _ _ #[_,a,c,_,dd] (by simp only[T.depth]at hv; omega)
 | d,.str z,y,_,_,B,s,_,h1,h2,hu,hv=>by
  cases h1;cases h2 with
  | int=>rw[Fq (by simp)]; exact .str_int _ _ _ _
  | str=>
   rename_i z2 t2;have:decide (T.str z=T.str z2)=(z==z2):=by by_cases e:z=z2 <;> simp[e]
   rw[this]; exact .str_str _ _ _ _
  | tup a c dd t=>rw[Fq (by simp)]; exact .str_tuple _ _ #[_,a,c,_,dd] (by simp only[T.depth]at hv; omega)
 | 0,.tup ks,y,_,_,B,s,hd,h1,h2,hu,hv=>by simp[T.depth]at hd
 | d+1,.tup ks,y,_,_,B,s,hd,h1,h2,hu,hv=>by
  have h1':=h1;cases h1 with
  | @tup _ a o items n a1 c1 d1 t1=>
   have hT:s.heap.IsTuple a items:=#[_,a1,c1,_,d1];simp only[T.depth]at hd;cases h2 with
   | int=>rw[Fq (by simp)]; exact .tuple_int _ _ hT ∅
   | str=>rw[Fq (by simp)]; exact .tuple_str _ _ hT ∅
   | @tup ks2 b o2 items2 n2 a2 c2 d2 t2=>
    have hT2:s.heap.IsTuple b items2:=#[_,a2,c2,_,d2]
    by_cases hab:a=b
    ·subst hab;have:T.tup ks=T.tup ks2:=h1'.inj (.tup a2 c2 d2 t2);rw[Gf this];exact EqAt.same _
    ·show EqAt.of_refs hab ?_;simp only[T.depth]at hv;have l1:items.size=ks.length:=by rw[<- Fe,t1.length]
     have l2:items2.size=ks2.length:=by rw[<- Fe,t2.length]
     let e:EV->Fk:=λj=>if h:j < ks.length/\j < ks2.length then decide (ks[j]'h.1=ks2[j]'h.2)else true
     have he:∀j (h1:j < items.size) (h2:j < items2.size),EqAt B.in1 s items[j] items2[j] (e j):=λj j1 j2=>by
      have g1:=t1.get j (l1 ▸ j1) (by simpa using j1)
      have g2:=t2.get j (l2 ▸ j2) (by simpa using j2)
      have q1:=cJ (ks:=ks) j (l1 ▸ j1);have q2:=cJ (ks:=ks2) j (l2 ▸ j2);have:=pY d _ _ _ _ B.in1 s ∅ g1 g2 (by rw[aL]; omega) (by rw[aL]; omega)
      change EqAt B.in1 s items[j] items2[j] (if h:j < ks.length/\j < ks2.length then decide (ks[j]'h.1=ks2[j]'h.2)else true)
      rw[Nu #[l1 ▸ j1,l2 ▸ j2]]
      simpa using this
     have:=RcAt.tuples hT hT2 ∅ he
     have hk:((Gn (min items.size items2.size)).all e&&items.size==items2.size)=decide (T.tup ks=T.tup ks2):=by
      rw[l1,l2]
      by_cases hl:ks.length=ks2.length
      ·by_cases hq:ks=ks2
       ·subst hq;simp only[Lp,FQ,KH,decide_true,Fu,Hz];intro j hj;show(if h:j < ks.length/\j < ks.length then decide (ks[j]'h.1=ks[j]'h.2)else true)=true
        rw[Nu #[hj,hj]]; simp
       ·rw[Fq (by simpa using hq)]
        have:∃j,∃h:j < ks.length,ks[j]≠ks2[j]'(hl ▸ h):=by
         apply Jl;intro hn;exact hq (LK hl λj h1 h2=>Jl λz=>hn #[j,h1,z])
        obtain⟨j,hj,hne⟩:=this;rw[J4];apply Or.inl;rw[List.all_eq_false];show#[j,by rw[Hz,<- hl,Lp]; exact hj,?_]
        show ¬ (if h:j < ks.length/\j < ks2.length then decide (ks[j]'h.1=ks2[j]'h.2)else true)=true
        rw[Nu #[hj,hl ▸ hj]]
        simpa using hne
      ·rw[Fq (by simp; intro z; exact hl (by rw[z])),J4]
       right
       simpa using hl
     rw[hk]at this;exact this
def jd {n:EV}{v:EK}(h:∀a,v≠.ref a):eqIsQuiet n v=pure true:=by
 cases v with
 | ref a=>exact absurd rfl (h a)
 | _=>first|rfl|simp[eqIsQuiet]|(unfold eqIsQuiet; rfl)
def nV:∀(d:EV) (k:T) (v:EK) (A:Fs) (s:EN) (Q:Fk->EN->Prop),k.depth<=d->IsT s.heap k v->Q true s->wpAny (model prog w) A (eqIsQuiet d v) Q E s
 | d,.int i,_,A,s,Q,_,x,h=>by cases x; rw[jd (λa=>by simp)]; exact ET h
 | d,.str i,_,A,s,Q,_,x,h=>by cases x; rw[jd (λa=>by simp)]; exact ET h
 | 0,.tup ks,_,A,s,Q,hd,x,h=>by simp[T.depth]at hd
 | d+1,.tup ks,_,A,s,Q,hd,x,h=>by
  cases x with
  | @tup _ a o items n ho hc hdt hi=>
   simp only[T.depth]at hd;have hT:s.TypeIs (.ref a) "tuple":=#[_,ho,hc];unfold eqIsQuiet;show EJ (wpAny_specialOf hT F.slot_tuple_eq.lookup ?_);change wpAny _ _ (isInstance (.ref a) (.type "tuple") >>= _) _ _ s;show EJ (II hT isSubtype_tuple_tuple ?_);simp only[KI,Gd,Hn];show EJ (GM ho hdt ?_);show EJ ?_;change wpAny _ _ (forIn items _ _) _ _ s;rw[<- KZ];show JD _ (λaY r s'=>r.1=gV/\s'=s/\∃kk,IsTs s.heap kk aY/\T.depths kk<=d) _ ?_ ?_ _ _ #[rfl,rfl,ks,hi,∅]
   ·rintro v aY r s' ⟨hr,rfl,kk,hall,hdk⟩;cases hall with
    | cons q1 q2=>
     simp only[T.depths]at hdk;show EJ (nV d _ v _ _ _ ∅ q1 ?_)
     simp only[KI,Gd,Hn];exact ET #[rfl,rfl,_,q2,∅]
   ·rintro⟨r1,r2⟩ s' ⟨hr,rfl,_⟩;simp only at hr;subst hr;exact ET h
end
abbrev bL (prog:Fn)(w:Fv):HeapKind prog w T where
 is:=λh k a=>IsT h k (.ref a)/\k.depth<=aF
 hash:=kW w
 draws:=T.draws
 room:=λA=>A.units+aF < cLine
 inj:=λhx hy=>hx.1.inj hy.1
 keeps:=λx ho hd hs=>#[x.1.keeps ho hd hs,x.2]
 pyHash:=λhu hk h=>li _ _ _ _ _ hk.1 (by have:=hk.2; omega) h
 eqBool:=λhu hx hy h=>pY aF _ _ _ _ _ _ hx.2 hx.1 hy.1 hu (by have:=hy.2; omega) _ _ _ _ h
 quiet:=λhk h=>nV 8 _ _ _ _ _ (by have:=hk.2; unfold aF at this; omega) hk.1 h
abbrev gH (S:aa)(i:EV):EO (EI (T×W)):=match S[i]? with
 | some (.dic U)=>ba U
 | some (.frd U)=>ba U
 | _=>gV
abbrev j3 (S:aa)(i:EV):EO (EI (T×W)):=match S[i]? with
 | some (.dic U)=>ba U
 | _=>gV
abbrev bB (U:EI (T×W))(k:T):EO W:=(U.find? λp=>decide (p.1=k)).map (·.2)
abbrev dc (U:EI (T×W))(k:T)(v:W):EI (T×W):=
 if (U.any λp=>decide (p.1=k))=true then U.map (λp=>if p.1=k then(p.1,v)else p)else U++[(k,v)]
abbrev eB (w:W):EO T:=match W.t w with
 | some k=>if k.isTup=true/\k.depth<=aF then ba k else gV
 | none=>gV
def cC {w:W}{k:T}(h:eB w=ba k):k.w=w/\k.isTup=true/\k.depth<=aF:=by
 unfold eB at h;split at h
 ·rename_i k' hk;split at h
  ·rename_i hc;cases h;exact#[W.t_w hk,hc.1,hc.2]
  ·cases h
 ·cases h
def b8 (U:EI (T×W))(k:T)(v:W):(dc U k v).length<=U.length+1:=by
 unfold dc;split
 ·rw[ER]; omega
 ·rw[E6,Fy,Gx]; omega
section
variable{X:Cx}{J:EI (EU×Gm)}{Y:L2.St}{H:Hp}{s:EN}{A:EI EU}{S:aa}
mutual
theorem fQ (I:Inv X J Y H s):∀(k:T) {v:V} {u:EK},Rel X.K A H k.w v->RelV v u->IsT s.heap k u
 | .int i,_,_,r,q=>by
  cases r;obtain⟨t,rfl⟩ : ∃t,_=JA _ t:=q;exact .int
 | .str x,_,_,r,q=>by
  cases r;obtain⟨t,rfl⟩ : ∃t,_=Iu _ t:=q;exact .str
 | .tup ks,_,_,r,q=>by
  simp only[T.w]at r;cases r with
  | tup sq rl=>
   obtain⟨its,rv,⟨o,h1,h2,n,h3⟩,hz⟩:=I.tuple sq;obtain rfl:_=FL _:=q;exact .tup h1 h2 h3 (ee I ks rl (by simpa using rv))
theorem ee (I:Inv X J Y H s):∀(ks:EI T) {vs:EI V} {us:EI EK},RelL X.K A H (T.ws ks) vs->Vals vs us->IsTs s.heap ks us
 | [],_,_,r,q=>by
  simp only[T.ws]at r;cases r; cases q; exact .nil
 | k::ks,_,_,r,q=>by
  simp only[T.ws]at r;cases r with
  | cons r1 r2=>
   cases q with
   | cons q1 q2=>exact .cons (fQ I k r1 q1) (ee I ks r2 q2)
end
def fR (I:Inv X J Y H s){k:T}{b:EU}(r:Rel X.K A H k.w (.ref b))(hd:k.depth<=aF):(bL X.prog X.w).is s.heap k b:=#[fQ I k r rfl,hd]
def ff {w:W}{k:T}{v:V}{u:EK}(hk:eB w=ba k)(r:Rel X.K A H w v)(q:RelV v u):∃b,v=.ref b/\u=.ref b/\Rel X.K A H k.w (.ref b):=by
 obtain⟨h1,h2,h3⟩:=cC hk;subst h1;cases k with
 | tup ks=>
  simp only[T.w]at r;cases r with
  | tup a b=>exact#[_,rfl,q,by simp only[T.w]; exact .tup a b]
 | _=>cases h2
def KRel.is {U:EI (T×W)}{xs:EI (T×EU×EK)}(I:Inv X J Y H s)(r:KRel X.K A H U xs):∀x∈xs,(bL X.prog X.w).is s.heap x.1 x.2.1:=by
 unfold KRel at r
 induction r with
 | nil=>intro x hx; exact nomatch hx
 | @cons p q ps qs h t ih=>
  intro x hx;rcases Fc.mp hx with e|hx
  ·subst e;obtain⟨h1,h2,h3,h4,_⟩:=h;rw[h1]at h3 h4;exact fR I h4 h3
  ·exact ih x hx
def KRel.length {U:EI (T×W)}{xs:EI (T×EU×EK)}(r:KRel X.K A H U xs):U.length=xs.length:=Jt r
def KRel.val {U:EI (T×W)}{xs:EI (T×EU×EK)}(r:KRel X.K A H U xs)(k:T) :
  (∀w,bB U k=ba w->∃p v,atKey xs k=ba p/\Rel X.K A H w v/\RelV v p.2)/\(bB U k=gV->atKey xs k=gV):=by
 unfold KRel at r
 induction r with
 | nil=>exact#[λw h=>(nomatch h),λ_=>rfl]
 | @cons p q ps qs h t ih=>
  obtain⟨h1,_,_,_,v,h5,h6⟩:=h
  by_cases e:p.1=k
  ·have e':q.1=k:=h1.symm.trans e;have a1:bB (p::ps) k=ba p.2:=by simp[bB,HJ,e]
   have a2:atKey (q::qs) k=ba q.2:=by simp[atKey,HJ,e']
   rw[a1,a2];exact#[λw hw=>(by cases hw; exact#[_,v,rfl,h5,h6]),λh=>nomatch h]
  ·have e':¬ q.1=k:=λz=>e (h1.trans z)
   have a1:bB (p::ps) k=bB ps k:=by simp[bB,HJ,e]
   have a2:atKey (q::qs) k=atKey qs k:=by simp[atKey,HJ,e']
   rw[a1,a2];exact ih
def KRel.repl {U:EI (T×W)}{xs:EI (T×EU×EK)}(r:KRel X.K A H U xs)(k:T){w:W}{v:V}{u:EK}(rw':Rel X.K A H w v)(rv:RelV v u) :
  KRel X.K A H (U.map λp=>if p.1=k then(p.1,w)else p) (xs.map (putAt k u)):=by
 unfold KRel at r ⊢
 induction r with
 | nil=>exact .nil
 | @cons p q ps qs h t ih=>
  rw[FV,FV];show .cons ?_ ih;obtain⟨h1,h2,h3,h4,h5⟩:=h;unfold putAt
  by_cases e:p.1=k
  ·rw[Fi e,Fi (h1.symm.trans e)]; exact#[h1,h2,h3,h4,v,rw',rv]
  ·rw[FJ e,FJ (λz=>e (h1.trans z))]; exact#[h1,h2,h3,h4,h5]
def lj (k:T):∀U:EI (T×W),(U.any λp=>decide (p.1=k))=(bB U k).isSome
 | []=>rfl
 | p::r=>by
  rw[Hc]
  by_cases e:p.1=k
  ·have a1:bB (p::r) k=ba p.2:=by simp[bB,HJ,e]
   rw[a1,Gf e]; rfl
  ·have a1:bB (p::r) k=bB r k:=by simp[bB,HJ,e]
   rw[a1,Fq e,Jv]; exact lj k r
def KRel.put {U:EI (T×W)}{xs:EI (T×EU×EK)}(r:KRel X.K A H U xs){k:T}{b:EU}{w:W}{v:V}{u:EK}(h1:k.isTup=true)(h2:k.depth<=aF)(h3:Rel X.K A H k.w (.ref b))(rw':Rel X.K A H w v)(rv:RelV v u) :
  KRel X.K A H (dc U k w) (storedH xs k b u):=by
 have e:(U.any λp=>decide (p.1=k))=(atKey xs k).isSome:=by
  rw[lj];cases q:bB U k with
  | none=>rw[(r.val k).2 q]; rfl
  | some x=>obtain⟨p,_,h,_⟩:=(r.val k).1 x q; rw[h]; rfl
 unfold dc storedH;rw[e]
 by_cases q:(atKey xs k).isSome=true
 ·rw[Fi q,Fi q]; exact r.repl k rw' rv
 ·rw[FJ q,FJ q]; exact Paired.snoc r #[rfl,h1,h2,h3,v,rw',rv]
def DicAt.of {h:FN}{a:EU}{xs:EI (T×EU×EK)}(hz:xs.length<=sizeLine)(hs:(a==sysModules)=false)(d:h.DictOfH (bL X.prog X.w) a xs):DicAt X.w a xs h:=
 let ⟨o,es,ep,h1,h2,h3,h4,_,h6⟩:=d; #[hz,hs,h6,o,es,ep,h1,h2,h3,h4]
def DicAt.stay {wd:Fv}{h h':FN}{a:EU}{xs:EI (T×EU×EK)}(d:DicAt wd a xs h)(k:∀o,h.get? a=ba o->h'.get? a=ba o):DicAt wd a xs h':=
 let ⟨h0,hs,hn,o,es,ep,h1,h2⟩:=d; #[h0,hs,hn,o,es,ep,k _ h1,h2]
def DicAt.ok {P:Fn}{h:FN}{wd:Fv}{a:EU}{xs:EI (T×EU×EK)}(d:DicAt wd a xs h):ObjOk P wd H h a (cG wd a xs):=
 #[d,let ⟨_,_,_,o,_,_,h1,_⟩:=d; #[o,h1],λ_ _ p k=>p.stay k]
def bz {a:EU}{xs:EI (T×EU×EK)}(I:Inv X J Y H s)(e:Rd H a (cG X.w a xs)):DicAt X.w a xs s.heap:=(show ObjOk X.prog X.w H s.heap a (cG X.w a xs)from e.ok I.hok).1
def DicAt.dict {U:EI (T×W)}{a:EU}{xs:EI (T×EU×EK)}(d:DicAt X.w a xs s.heap)(I:Inv X J Y H s)(r:KRel X.K A H U xs):s.heap.DictOfH (bL X.prog X.w) a xs:=
 let ⟨_,_,hn,o,es,ep,h1,h2,h3,h4⟩:=d; #[o,es,ep,h1,h2,h3,h4,r.is I,hn]
def dU {i:EV}{U:EI (T×W)}{a:EU}(so:StoreOk X.w X.K A H S)(e:gH S i=ba U)(ea:A[i]?=ba a):∃xs,Rd H a (cG X.w a xs)/\KRel X.K A H U xs:=by
 unfold gH at e;split at e
 ·rename_i k h;cases e;obtain⟨xs,q,r⟩:=so.obj i _ a h ea;exact#[xs,.inl q,r]
 ·rename_i k h;cases e;obtain⟨o,xs,q,r⟩:=so.obj i _ a h ea;exact#[xs,.inr #[o,q],r]
 ·cases e
def fg {i:EV}{U:EI (T×W)}(e:j3 S i=ba U):S[i]?=ba (.dic U):=by
 unfold j3 at e;split at e
 ·rename_i h; cases e; exact h
 ·cases e
def nW {i:EV}{U:EI (T×W)}{a:EU}(so:StoreOk X.w X.K A H S)(e:j3 S i=ba U)(ea:A[i]?=ba a):∃xs,H a=ba (cG X.w a xs)/\KRel X.K A H U xs:=
 so.obj i _ a (fg e) ea
def lm {B:Fs}(hu:B.units+10 < cLine):(bL X.prog X.w).room B.in1:=by
 change B.in1.units+aF < cLine;rw[aL]; unfold aF; omega
abbrev mr (x y:W)(S:aa):EO (W×aa):=match x,y with
 | .ref r,.tup ks=>match gH S r,eB (.tup ks)with
  | some U,ba k=>(bB U k).map λw=>(w,S)
  | _,_=>gV
 | x,y=>qL x y S
def DD (hu:X.A.units+10 < cLine):LIx X mr:=by
 intro value slice J s Y H A S x y a b u v w S' I so rx ru ry rv e hs
 by_cases hxy:∃r ks,x=.ref r/\y=.tup ks
 ·obtain⟨r,ks,rfl,rfl⟩:=hxy;simp only[mr]at e;split at e
  ·rename_i U k hk1 hk2;rw[EQ]at e;obtain⟨w',e1,e2⟩:=e;cases e2;cases rx with
   | ref ea=>
    obtain⟨xs,rd,kr⟩:=dU so hk1 ea;have d:=bz I rd;have dd:=d.dict I kr;obtain⟨bk,rfl,rfl,rk⟩:=ff hk2 ry rv;obtain⟨p,vv,h1,h2,h3⟩:=(kr.val k).1 _ e1;obtain rfl:u=FL _:=ru;show Iz (x:=p.2) dd.typeIs slot_dict_getitem.lookup
     (wpAny_getItem_heap (Q:=λr s'=>r=p.2/\PostE X J Y A H S w r s') (lm hu) (fR I rk (cC hk2).2.2) dd h1 #[rfl,vv,H,A,I.tok _,h3,.refl,so,h2]) hs
  ·cases e
 ·have:mr x y S=qL x y S:=by
   cases x <;> cases y <;> first|rfl|exact absurd #[_,_,rfl,rfl] hxy
  rw[this]at e;exact Ez hu value slice J s Y H A S x y a b u v w S' I so rx ru ry rv e hs
abbrev fj (o i v:W)(S:aa):EO aa:=match o,i with
 | .ref r,.tup ks=>match j3 S r,eB (.tup ks)with
  | some U,ba k=>if U.length < sizeLine then ba (S.set r (.dic (dc U k v)))else gV
  | _,_=>gV
 | o,i=>pQ o i v S
def By (hu:X.A.units+10 < cLine):LSet X fj:=by
 intro J s Y H A S o i x ao ai ax uo ui ux S' I so ro ruo ri rui rx rux e
 by_cases hxy:∃r ks,o=.ref r/\i=.tup ks
 ·obtain⟨r,ks,rfl,rfl⟩:=hxy;dsimp only[fj]at e;split at e
  ·rename_i U k hk1 hk2;split at e
   ·rename_i hl;cases e;cases ro with
    | ref ea=>
     obtain⟨xs,hH,kr⟩:=nW so hk1 ea;have d:=bz I (.inl hH);have dd:=d.dict I kr;obtain⟨bk,rfl,rfl,rk⟩:=ff hk2 ri rui;obtain⟨q1,q2,q3⟩:=cC hk2;obtain rfl:uo=FL _:=ruo;have hz:xs.length<=sizeLine:=by rw[<- kr.length]; omega
     show wpAny_setItem_heap (hsz:=hz) (lm hu) (fR I rk q3) dd λh' dd' hs=>?_
     have kr':=kr.put q2 q3 rk rx rux;have hz':(storedH xs k bk ux).length<=sizeLine:=by
      rw[<- kr'.length];have:=b8 U k x;omega
     have dn:DicAt X.w _ (storedH xs k bk ux) h':=.of hz' d.2.1 dd';obtain⟨so',ex⟩:=so.writeO (fg hk1) rfl ea (u:=cG X.w _ (storedH xs k bk ux)) (n:=.dic (dc U k x)) #[_,az,kr'.mono (bp (.ext hH))];exact#[_,A,jR I (by rw[hH]; exact IJ) hs (let ⟨q,_,_,hq,_⟩:=dd'; #[q,hq]) dn.ok,ex,so']
   ·cases e
  ·cases e
 ·have:fj o i x S=pQ o i x S:=by
   cases o <;> cases i <;> first|rfl|exact absurd #[_,_,rfl,rfl] hxy
  rw[this]at e;exact lset hu J s Y H A S o i x ao ai ax uo ui ux S' I so ro ruo ri rui rx rux e
abbrev nX (x:W)(xs:EI W)(S:aa):EO (W×aa):=match x,xs with
 | .ref r,[y,z]=>match gH S r,eB y with
  | some U,ba k=>ba ((bB U k).getD z,S)
  | _,_=>gV
 | _,_=>gV
def mR (hu:X.A.units+10 < cLine):LMeth X "dict.get" nX:=by
 intro J s Y H A S x a u xs vs us w S' I so rx ru rl rv e;cases rx with
 | ref ea=>
  cases rl with
  | nil=>cases e
  | cons r1 t1=>
   cases t1 with
   | nil=>cases e
   | cons r2 t2=>
    cases t2 with
    | cons _ _=>cases e
    | nil=>
     dsimp only[nX]at e;split at e
     ·rename_i U k hk1 hk2;cases e;obtain⟨xs,rd,kr⟩:=dU so hk1 ea;have d:=bz I rd;have dd:=d.dict I kr;cases rv with
      | cons v1 rv2=>
       cases rv2 with
       | cons v2 rv3=>
        cases rv3;obtain⟨bk,rfl,rfl,rk⟩:=ff hk2 r1 v1;obtain rfl:u=FL _:=ru;show call_meetsIn J5 dd.typeIs PySem.F.entry_dict_get (PySem.F.args_dict_get_3 _ _ _) (meetsH_dict_get_default (bL X.prog X.w) _ bk d.2.1 _) #[lm hu,k,xs,fR I rk (cC hk2).2.2,dd,?_];cases q:bB U k with
        | none=>
         rw[(kr.val k).2 q];exact#[_,H,A,I.tok _,v2,.refl,so,r2]
        | some w'=>
         obtain⟨p,vv,h1,h2,h3⟩:=(kr.val k).1 _ q;rw[h1];exact#[vv,H,A,I.tok _,h3,.refl,so,h2]
     ·cases e
 | _=>cases e
abbrev CS (x:W)(i:EV)(S:aa):EO Fk:=match W.t x,dL S i with
 | some k,ba ys=>match W.ts ys with
  | some ks=>if k.depth<=aF/\T.depths ks<=aF then ba (decide (k∈ks))else gV
  | none=>gV
 | _,_=>gV
abbrev zv (x:W)(ys:EI W):EO Fk:=match W.t x,W.ts ys with
 | some k,ba ks=>if k.depth<=aF/\T.depths ks<=aF then ba (decide (k∈ks))else gV
 | _,_=>gV
def j4 {h:FN}:∀ {ks:EI T} {vs:EI EK},IsTs h ks vs->∀v∈vs,∃k∈ks,IsT h k v
 | _,_,.cons a b,v,hv=>by
  rcases Fc.mp hv with rfl|hv
  ·exact#[_,.head _,a]
  ·obtain⟨k,hk,q⟩:=j4 b v hv;exact#[k,.tail _ hk,q]
abbrev uR (h:FN)(k:T)(v:EK):Fk:=@decide (IsT h k v) (MQ _)
def mS {h:FN}{k k':T}{v:EK}(x:IsT h k' v):uR h k v=decide (k'=k):=by
 unfold uR
 by_cases e:k'=k
 ·subst e; simp[x]
 ·have:¬ IsT h k v:=λy=>e (x.inj y)
  simp[e,this]
def j5 {h:FN}{k:T}:∀ {ks:EI T} {vs:EI EK},IsTs h ks vs->vs.any (uR h k)=decide (k∈ks)
 | _,_,.nil=>by simp
 | _,_,.cons (k:=k') a b=>by
  rw[Hc,mS a,j5 b]
  by_cases e:k'=k
  ·simp[e]
  ·have:¬ k=k':=λz=>e z.symm
   simp[e,this]
def hZ:∀ {ks:EI T} {k:T},k∈ks->k.depth<=T.depths ks
 | x::ks,k,h=>by
  simp only[T.depths];rcases Fc.mp h with rfl|h
  ·omega
  ·have:=hZ h; omega
def rS {x:W}{i:EV}{a b:V}{u v:EK}{c:Fk}(hu:X.A.units+10 < cLine)(I:Inv X J Y H s)(so:StoreOk X.w X.K A H S)(rx:Rel X.K A H x a)(ru:RelV a u)(ry:Rel X.K A H (.ref i) b)(rv:RelV b v)(e:CS x i S=ba c) :
  ∃l its k ks,v=.ref l/\s.heap.IsList l its/\(∀y,y∈its->IG X.A.in1 s y u (uR s.heap k y))/\its.any (uR s.heap k)=c/\c=decide (k∈(ks:EI T)):=by
 unfold CS at e;split at e
 ·rename_i k ys h1 h2;split at e
  ·rename_i ks h3;split at e
   ·rename_i h4;cases e;cases ry with
    | ref ea=>
     obtain⟨vs,g1,g2⟩:=aH so h2 ea;obtain⟨its,rv',p,_⟩:=I.list g1;obtain rfl:v=FL _:=rv;have hT:IsTs s.heap ks its:=ee I ks ((W.ts_w h3).symm ▸ g2) rv';have hk:IsT s.heap k u:=fQ I k ((W.t_w h1).symm ▸ rx) ru;show#[_,its.toArray,k,ks,rfl,p.isList,λy hy=>?_,by rw[LL]; exact j5 hT,rfl]
     obtain⟨k',hk',q⟩:=j4 hT y (by simpa using hy)
     rw[mS q];have:=hZ hk';have kl:aF=6:=rfl;exact pY aF k' k _ _ _ _ ∅ q hk (by rw[aL]; omega) (by rw[aL]; omega)
   ·cases e
  ·cases e
 ·cases e
def vR {x:W}{ys:EI W}{a b:V}{u v:EK}{c:Fk}(hu:X.A.units+10 < cLine)(I:Inv X J Y H s)(rx:Rel X.K A H x a)(ru:RelV a u)(ry:Rel X.K A H (.tup ys) b)(rv:RelV b v)(e:zv x ys=ba c) :
  ∃l its k,v=.ref l/\s.heap.IsTuple l its/\(∀y,y∈its->IG X.A.in1 s y u (uR s.heap k y))/\its.any (uR s.heap k)=c:=by
 unfold zv at e;split at e
 ·rename_i k ks h1 h3;split at e
  ·rename_i h4;cases e;cases ry with
   | @tup _ l vs g1 g2=>
    obtain⟨its,rv',p,_⟩:=I.tuple g1;obtain rfl:v=FL _:=rv;have hT:IsTs s.heap ks its:=ee I ks ((W.ts_w h3).symm ▸ g2) rv';have hk:IsT s.heap k u:=fQ I k ((W.t_w h1).symm ▸ rx) ru;show#[_,its.toArray,k,rfl,p,λy hy=>?_,by rw[LL]; exact j5 hT]
    obtain⟨k',hk',q⟩:=j4 hT y (by simpa using hy)
    rw[mS q];have:=hZ hk';have kl:aF=6:=rfl;exact pY aF k' k _ _ _ _ ∅ q hk (by rw[aL]; omega) (by rw[aL]; omega)
  ·cases e
 ·cases e
abbrev rT (o:COp)(x y:W)(S:aa):EO (W×aa):=match o,y with
 | .isin,.ref i=>match gH S i with
  | some U=>(eB x).map λk=>(.bl (bB U k).isSome,S)
  | none=>match x with
   | .tup xs=>(CS (.tup xs) i S).map λb=>(.bl (b),S)
   | x=>dq .isin x (.ref i) S
 | .notin,.ref i=>match gH S i with
  | some U=>(eB x).map λk=>(.bl (!(bB U k).isSome),S)
  | none=>match x with
   | .tup xs=>(CS (.tup xs) i S).map λb=>(.bl (!b),S)
   | x=>dq .notin x (.ref i) S
 | .isin,.tup ys=>match x with
  | .tup xs=>(zv (.tup xs) ys).map λb=>(.bl b,S)
  | x=>dq .isin x (.tup ys) S
 | o,y=>dq o x y S
def rV (hu:X.A.units+dA < cLine)(o:COp):LOp X (compareOp o.py) (rT o):=by
 intro J s Y H A S x y a b u v w S' I so rx ru ry rv e;have get:∀ {i:EV} {U:EI (T×W)} {k:T},y=.ref i->gH S i=ba U->eB x=ba k->∃d c xs,v=.ref d/\u=.ref c/\(d==sysModules)=false/\(bL X.prog X.w).is s.heap k c/\s.heap.DictOfH (bL X.prog X.w) d xs/\(bB U k).isSome=(atKey xs k).isSome:=by
  intro i U k hy hk1 hk2;subst hy;cases ry with
  | ref ea=>
   obtain⟨xs,rd,kr⟩:=dU so hk1 ea;have d:=bz I rd;obtain⟨bk,rfl,rfl,rk⟩:=ff hk2 rx ru;obtain rfl:v=FL _:=rv;show#[_,bk,xs,rfl,rfl,d.2.1,fR I rk (cC hk2).2.2,d.dict I kr,?_];cases q:bB U k with
   | none=>rw[(kr.val k).2 q]; rfl
   | some w'=>obtain⟨p,_,h1,_⟩:=(kr.val k).1 _ q; rw[h1]; rfl
 have old:dq o x y S=ba (w,S')->wpAny (model X.prog X.w) X.A (compareOp o.py u v) (PostE X J Y A H S' w) X.xe s:=λh=>eW hu o J s Y H A S x y a b u v w S' I so rx ru ry rv h
 have hu':X.A.units+10 < cLine:=by have:dA=20:=rfl; omega
 unfold rT at e;split at e
 ·split at e
  ·rename_i U hk1;rw[EQ]at e;obtain⟨k,hk2,e2⟩:=e;cases e2;obtain⟨d,c,xs,rfl,rfl,q1,q2,q3,q4⟩:=get rfl hk1 hk2;rw[q4];exact wpAny_in_heap (lm hu') q2 q1 q3 #[.bl _,H,A,I.tok _,rfl,.refl,so,.bl]
  ·split at e
   ·rw[EQ]at e;obtain⟨c,hc,e⟩:=e;cases e;obtain⟨l,its,k,ks,rfl,p1,p2,p3,_⟩:=rS hu' I so rx ru ry rv hc;show LX (uR s.heap k) p1 p2 ?_;rw[p3];exact#[.bl _,H,A,I,rfl,.refl,so,.bl]
   ·exact old e
 ·split at e
  ·rename_i U hk1;rw[EQ]at e;obtain⟨k,hk2,e2⟩:=e;cases e2;obtain⟨d,c,xs,rfl,rfl,q1,q2,q3,q4⟩:=get rfl hk1 hk2;rw[q4];exact wpAny_notIn_heap (lm hu') q2 q1 q3 #[.bl _,H,A,I.tok _,rfl,.refl,so,.bl]
  ·split at e
   ·rw[EQ]at e;obtain⟨c,hc,e⟩:=e;cases e;obtain⟨l,its,k,ks,rfl,p1,p2,p3,_⟩:=rS hu' I so rx ru ry rv hc;show KW (uR s.heap k) p1 p2 ?_;rw[p3];exact#[.bl _,H,A,I,rfl,.refl,so,.bl]
   ·exact old e
 ·split at e
  ·rw[EQ]at e;obtain⟨c,hc,e⟩:=e;cases e;obtain⟨l,its,k,rfl,p1,p2,p3⟩:=vR hu' I rx ru ry rv hc;show LH (uR s.heap k) p1 p2 ?_;rw[p3];exact#[.bl _,H,A,I,rfl,.refl,so,.bl]
  ·exact old e
 ·exact old e
end
abbrev RawD (d:EU)(es:FM G2)(ep:EV)(h:FN):Prop:=∃o,h.get? d=ba o/\o.ExactDict/\o.data=.dict es ep
def RawD.at {d:EU}{es:FM G2}{ep:EV}{h h':FN}(x:RawD d es ep h)(e:∀o,h.get? d=ba o->h'.get? d=ba o):RawD d es ep h':=let ⟨o,ho,r⟩:=x; #[o,e _ ho,r]
def RawD.lt {d:EU}{es:FM G2}{ep:EV}{h:FN}(x:RawD d es ep h):d < h.objs.size:=let ⟨_,ho,_⟩:=x; E4 ho
def RawD.type {d:EU}{es:FM G2}{ep:EV}{s:EN}(x:RawD d es ep s.heap):s.TypeIs (.ref d) "dict":=let ⟨o,ho,hc,_⟩:=x; #[o,ho,hc.1]
section
variable{prog:Fn}{w:Fv}{A:Fs}{E:EK->EN->Prop}{s:EN}{it d:EU}{i ep:EV}{es:FM G2}
def lq {Q:EK->EN->Prop}(hd:(d==sysModules)=false)(hm:RawD d es ep s.heap)
  (hQ:Q (.ref s.heap.objs.size) { s with heap:=s.heap.push { cls:=.type "dict_keyiterator",data:=.fields [.ref d,.int 0 0,.int es.size 0,.int ep 0].toArray } }):wpAny (model prog w) A (pyIter (.ref d)) Q E s:=by
 have hT:=hm.type;obtain⟨o,ho,hc,hdat⟩:=id hm;show wpAny_pyIter_slot hT F.slot_dict_iter (F5 F.slot_dict_iter hT F.entry_dict_iter ?_ (F.args_dict_iter_1 _));unfold Ip.«dict.__iter__» Mu;show EJ (EJ (wpAny_notOrdered_dict hT ?_));change wpAny _ _ (pure (FL d)) _ _ s;show ET ?_;change wpAny _ _ (J6 d >>= _) _ _ s;unfold J6;rw[FJ (by rw[hd]; exact E8)]
 show EJ (ET (EJ (IB ho hdat (EJ (JX ho hdat ?_)))));show EJ (FW (ET #[_,rfl,"dict_keyiterator",_,#[_,EX _ rfl,rfl],F.slot_dict_keyiterator_next.lookup,?_]))
 simpa [rawInt]using hQ
def lr {Q:EO EK->EN->Prop}(hit:s.heap.IsKeyIter it d i es.size ep)(hm:RawD d es ep s.heap)(hi:i < es.size)
  (hQ:∀h',h'.IsKeyIter it d (i+1) es.size ep->GY it s.heap h'->Q (ba es[i].key) { s with heap:=h' }):wpAny (model prog w) A (pyNext (.ref it)) Q E s:=by
 obtain⟨o,ho,hc,hd⟩:=id hit;obtain⟨od,hod,hcd,hdd⟩:=id hm;unfold pyNext;show EJ (Il (FU (name:=GK "__next__") hit.typeIs F.slot_dict_keyiterator_next
  (F5 F.slot_dict_keyiterator_next hit.typeIs F.entry_dict_keyiterator_next ?_ (F.args_dict_keyiterator_next_1 _))))
 show EJ (ET (EJ (EJ ?_)))
 first|refine EJ (G1 hit.typeIs (ET ?_))|refine EJ (Hu hit.typeIs (ET ?_))
 show EJ (Mn ho hd ?_);have hown:IU "dict_keyiterator" = false:=by decide
 simp only[hown,Gd,Hn];change wpAny _ _ (if (FL d==FY)=true then _ else _) _ _ s
 rw[FJ (show ¬ ((FL d==FY)=true)from E8)]
 show EJ (ET (EJ (IB hod hdd ?_)));rw[FJ (by simp)]
 show EJ (ET (EJ (JX hod hdd ?_)));rw[FJ (by simp)]
 show ET ?_;simp only[show ¬ ((i:E5) < 0)from by omega,Hn,Ff,Hk hi]
 show EJ ?_
 first|refine EJ (G1 hit.typeIs (ET ?_))|refine EJ (Hu hit.typeIs (ET ?_))
 show EJ (J7 hit.typeIs ?_);change wpAny _ _ (setField (.ref it) 1 (rawInt ((i:E5)+1)) >>= _) _ _ s;show EJ (Jd ho hd (by simp) ?_)
 have hit':(s.heap.update it (ME (·.setIfInBounds 1 (rawInt ((i:E5)+1))))).IsKeyIter it d (i+1) es.size ep:=
  #[_,GU _ ho (J8 (Ir hd _)),(Lq ..).trans hc,by rw[Ir hd]; simp[rawInt]]
 show EJ (Ga ?_);show EJ (J7 (s:={ s with heap:=s.heap.update it (ME (·.setIfInBounds 1 (rawInt ((i:E5)+1)))) }) hit'.typeIs ?_)
 change wpAny _ _ (pure es[i].key) _ _ _;exact ET (ET #[_,rfl,ET (hQ _ hit' (Hy ..))])
def nY {Q:EO EK->EN->Prop}(hh:A.handled=gV)(hit:s.heap.IsKeyIter it d i es.size ep)(hm:RawD d es ep s.heap)(hge:es.size<=i)
  (hQ:∀h',Kh it s.heap h'->Q gV { s with heap:=h' }):wpAny (model prog w) A (pyNext (.ref it)) Q E s:=by
 obtain⟨o,ho,hc,hd⟩:=id hit;obtain⟨od,hod,hcd,hdd⟩:=id hm;unfold pyNext;show EJ (Il (FU (name:=GK "__next__") hit.typeIs F.slot_dict_keyiterator_next
  (F5 F.slot_dict_keyiterator_next hit.typeIs F.entry_dict_keyiterator_next ?_ (F.args_dict_keyiterator_next_1 _))))
 show EJ (ET (EJ (EJ ?_)))
 first|refine EJ (G1 hit.typeIs (ET ?_))|refine EJ (Hu hit.typeIs (ET ?_))
 show EJ (Mn ho hd ?_);have hown:IU "dict_keyiterator" = false:=by decide
 simp only[hown,Gd,Hn];change wpAny _ _ (if (FL d==FY)=true then _ else _) _ _ s
 rw[FJ (show ¬ ((FL d==FY)=true)from E8)]
 show EJ (ET (EJ (IB hod hdd ?_)));rw[FJ (by simp)]
 show EJ (ET (EJ (JX hod hdd ?_)));rw[FJ (by simp)]
 show ET ?_;simp only[show ¬ ((i:E5) < 0)from by omega,Hn,Ff,JK hge]
 show EJ ?_
 first|refine EJ (G1 hit.typeIs (ET ?_))|refine EJ (Hu hit.typeIs (ET ?_))
 change wpAny _ _ (setField (.ref it) 0 .none >>= _) _ _ s;show EJ (Jd ho hd (by simp) ?_)
 change wpAny _ _ (newExc (.type "StopIteration") [] >>= _) _ _ _;show EJ ?_;simp only[newExc,newTuple];show EJ (FW ?_ (by size_fits))
 show EJ (m:=firstArgMember _ _) (Jq (a:=FY) (by first|rfl|(simp only[firstArgMember]; rfl)) ?_)
 show FW ?_ (by size_fits)
 simp only[raiseNew];show EJ (MF ?_);rw[show A.in1.handled=gV from hh]
 show EJ (ET (M5 ?_));show EJ (II (T:="StopIteration") (b:=true) #[_,EX _ rfl,rfl] Ki ?_);exact ET (hQ _ (((Hy ..).extBut.push _).push _))
def pZ (hh:A.handled=gV)(I d:EU)(hne:d≠I)(es:FM G2)(ep:EV) :
  NH prog w A I [I,d] [I] es.size (λi v=>∃e,es[i]?=ba e/\e.key=v) (λi h=>h.IsKeyIter I d i es.size ep/\RawD d es ep h) where
 sub:=λb hb=>by simp at hb; simp[hb]
 frame:=λ_ _ _ st hk=>#[st.1.at λo e=>hk I (by simp) o e,st.2.at λo e=>hk d (by simp) o e]
 item:=λi s Q E hi st hQ=>
  lr st.1 st.2 hi λh' hit' hs'=>hQ _ h' s.toks #[es[i],by simp[hi],rfl] #[hit',st.2.at λo e=>(hs'.2 d hne).trans e] λb o hb e=>hs'.extBut b o (λh=>hb (by simp[h])) e
 done:=λs Q E st hQ=>nY hh st.1 st.2 (E2 _) λh' he'=>hQ h' s.toks λb o hb e=>he' b o (λh=>hb (by simp[h])) e
 self:=λ_ _ _ _ st hQ=>Kj st.1 hQ
def nZ (lo:(d==sysModules)=false):Kk prog w "dict" d d es.size (λi v=>∃e,es[i]?=ba e/\e.key=v) (RawD d es ep) where
 type:=λ_ hm=>hm.type
 there:=λ_ hm=>#[hm.lt,hm.lt]
 keep:=λ_ _ hm hk=>hm.at λo e=>hk d (.inl rfl) o e
 notList:=by decide
 notTuple:=by decide
 hint:=λ_ _ _ _ hm hq=>PySem.W.kdl_hint_dict hm.type hq
 iter:=λ_ _ hh hm=>#[_,_,(λ_ _ hq=>lq lo hm hq),pZ hh _ d (Fg hm.lt) es ep,#[#[_,EX _ rfl,rfl,rfl],hm.at λo e=>EM _ e]]
def rW {T:Gc}{r d S:EU}{n:EV}{P:EV->EK->Prop}{OK:FN->Prop}{R:LD->EN->Prop}(K:Kk prog w T r d n P OK)(hh:A.handled=gV)(hok:OK s.heap)(hn:n<=sizeLine)(hSr:S≠r)(hSd:S≠d)
  (hS:s.heap.get? S=ba { cls:=.type "list",data:=.seq #[] 0 })
  (hR:∀h' tk acc' c',(∀b o,b≠S->s.heap.get? b=ba o->h'.get? b=ba o)->h'.get? S=ba { cls:=.type "list",dict:=gV,data:=.seq acc' c',slots:=#[] }->JL P acc' n->R (.ok (.ret (.ref S))) { s with heap:=h',toks:=tk }) :
  codeAny (model prog w) A (.builtin "list.__iadd__" #[[.ref S,.ref r],[]]) R s:=by
 show F7 F.entry_list_iadd ?_;rw[F0 F.plain_list_iadd _];change wpAny _ A.in1 (Ha (.ref S) (.ref r) (.ref S)) _ _ _;exact PySem.W.kdl_extend K hh hok S hSr hSd _ 0 hS hR hn
def lu {T:Gc}{r d:EU}{n:EV}{P:EV->EK->Prop}{OK:FN->Prop}{Q:EI EK->EN->Prop}(K:Kk prog w T r d n P OK)(hh:A.handled=gV)(hok:OK s.heap)(hn:n<=sizeLine)
  (hQ:∀h' tk acc,(∀b o,s.heap.get? b=ba o->h'.get? b=ba o)->s.heap.objs.size<=h'.objs.size->JL P acc n->Q acc.toList { s with heap:=h',toks:=tk }):wpAny (model prog w) A (collect (.ref r)) Q E s:=by
 unfold collect;show EJ (Jc (F7 F.entry_proto_collect ?_));rw[F0 F.plain_proto_collect _];change wpAny _ A.in1 (newList [] >>= λl=>again (.builtin "list.__iadd__" #[[l,.ref r],[]])) _ _ s
 show EJ (FW ?_);have hlt:=K.there _ hok;show ET #[He F.plain_list_iadd _,rW (s:={ s with heap:=s.heap.push { cls:=.type "list",data:=.seq ([]:EI EK).toArray } }) K hh (K.keep _ _ hok λb _ o e=>EM _ e) hn (Gw hlt.1) (Gw hlt.2) (EX _ rfl) λh' tk acc' c' hk hS' hacc=>?_]
 change wpAny (model prog w) A (do
   let o <- load s.heap.objs.size
   match o.data with
   | .seq xs _=>pure xs.toList
   | _=>unsupported "internal:collect") Q E { s with heap:=h',toks:=tk }
 show EJ (KS hS' ?_);exact ET (hQ h' tk acc' (λb o e=>hk b o (Fg (E4 e)) (EM _ e)) (Iw (E4 hS')) hacc)
end
mutual
def uS:T->T->EO Fk
 | .int a,.int b=>ba (decide (a < b))
 | .str a,.str b=>ba (decide (a.cps.toList < b.cps.toList))
 | .tup xs,.tup ys=>lv xs ys
 | _,_=>gV
def lv:EI T->EI T->EO Fk
 | [],[]=>ba false
 | [],_::_=>ba true
 | _::_,[]=>ba false
 | x::xs,y::ys=>if x=y then lv xs ys else uS x y
end
mutual
theorem IsT.kept {h h':FN}(hk:∀b o,o.cls=.type "tuple"->h.get? b=ba o->h'.get? b=ba o):∀ {x:T} {v:EK},IsT h x v->IsT h' x v
 | _,_,.int=>.int
 | _,_,.str=>.str
 | _,_,.tup a1 c1 d1 t1=>.tup (hk _ _ c1 a1) c1 d1 (IsTs.kept hk t1)
theorem IsTs.kept {h h':FN}(hk:∀b o,o.cls=.type "tuple"->h.get? b=ba o->h'.get? b=ba o):∀ {x:EI T} {v:EI EK},IsTs h x v->IsTs h' x v
 | _,_,.nil=>.nil
 | _,_,.cons a b=>.cons (IsT.kept hk a) (IsTs.kept hk b)
end
def Bz {B:Fs}{s:EN}{d:EV}(hu:B.units+d < cLine)(hl:∀(x y:T) (u v:EK) (k:Fk),x.depth<=d->y.depth<=d->IsT s.heap x u->IsT s.heap y v->uS x y=ba k->LtAt B s u v k) :
  ∀(xs ys:EI T) (us vs:EI EK) (k:Fk),T.depths xs<=d->T.depths ys<=d->IsTs s.heap xs us->IsTs s.heap ys vs->lv xs ys=ba k->LexR B s us vs k
 | [],[],_,_,k,_,_,h1,h2,e=>by cases h1; cases h2; cases e; exact .nn
 | [],y::ys,_,_,k,_,_,h1,h2,e=>by cases h1; cases h2; cases e; exact .nc
 | x::xs,[],_,_,k,_,_,h1,h2,e=>by cases h1; cases h2; cases e; exact .cn
 | x::xs,y::ys,_,_,k,d1,d2,h1,h2,e=>by
  simp only[T.depths]at d1 d2;cases h1 with
  | cons p1 q1=>
   cases h2 with
   | cons p2 q2=>
    have he:=pY d x y _ _ B s ∅ p1 p2 hu ∅
    dsimp only[lv]at e
    by_cases hxy:x=y
    ·rw[Fi hxy]at e;rw[Gf hxy]at he;exact .eq he (Bz hu hl xs ys _ _ k ∅ ∅ q1 q2 e)
    ·rw[FJ hxy]at e;rw[Fq hxy]at he;exact .ne he (hl x y _ _ k ∅ ∅ p1 p2 e)
def zw:∀(d:EV) (x y:T) (u v:EK) (B:Fs) (s:EN) (k:Fk),x.depth<=d->y.depth<=d->IsT s.heap x u->IsT s.heap y v->B.units+d < cLine->uS x y=ba k->LtAt B s u v k:=by
 intro d
 induction d with
 | zero=>
  intro x y u v B s k d1 d2 h1 h2 hu e;cases h1 with
  | int=>cases h2 with
   | int=>cases e; exact λprog w E Q h=>(KA h:wpAny (model prog w) B (compareOp .Lt _ _) Q E s)
   | _=>cases e
  | str=>cases h2 with
   | str=>cases e; exact λprog w E Q h=>(lt_str h:wpAny (model prog w) B (compareOp .Lt _ _) Q E s)
   | _=>cases e
  | tup _ _ _ _=>simp[T.depth]at d1
 | succ d ih=>
  intro x y u v B s k d1 d2 h1 h2 hu e;cases h1 with
  | int=>cases h2 with
   | int=>cases e; exact λprog w E Q h=>(KA h:wpAny (model prog w) B (compareOp .Lt _ _) Q E s)
   | _=>cases e
  | str=>cases h2 with
   | str=>cases e; exact λprog w E Q h=>(lt_str h:wpAny (model prog w) B (compareOp .Lt _ _) Q E s)
   | _=>cases e
  | tup a1 c1 e1 t1=>cases h2 with
   | tup a2 c2 e2 t2=>
    simp only[T.depth]at d1 d2;have hu1:B.in1.units+d < cLine:=by rw[aL]; omega
    exact LtAt.tuples #[_,a1,c1,_,e1] #[_,a2,c2,_,e2] ∅ (Bz hu1 (λx y u v k q1 q2 q3 q4 q5=>ih x y u v B.in1 s k q1 q2 q3 q4 hu1 q5) _ _ _ _ k ∅ ∅ t1 t2 e)
   | _=>cases e
section
variable{prog:Fn}{w:Fv}{A:Fs}{R:LD->EN->Prop}{I S:EU}{fp wr:EI EU}{n:EV}{P:EV->EK->Prop}{St:EV->FN->Prop}{Ok:FN->Prop}{bt:EV->EV->Fk}
abbrev rX (prog:Fn)(w:Fv)(A:Fs)(P:EV->EK->Prop)(Ok:FN->Prop)(bt:EV->EV->Fk):Prop:=
 ∀i j vi vj (s:EN) (Q:EK->EN->Prop) (E:EK->EN->Prop),Ok s.heap->P i vi->P j vj->Q (.bool (bt i j)) s->wpAny (model prog w) A (richCompare .Lt vi vj) Q E s
def rY (W:NH prog w A.in1 I fp wr n P St)(hcmp:rX prog w A.in1 P Ok bt)(hSf:S∉fp)(hok:∀h h',Ok h->(∀b o,b∉wr->b≠S->h.get? b=ba o->h'.get? b=ba o)->Ok h') :
  ∀(k j:EV) (s:EN) (vb:EK) (c:EV),n - (j+1)=k->j < n->St (j+1) s.heap->P (argBest bt j) vb->Ok s.heap->s.heap.get? S=ba { cls:=.type "list",dict:=gV,data:=.seq [vb,vb].toArray c,slots:=#[] }->
  (∀v h' tk,P (argBest bt (n - 1)) v->(∀b o,b∉wr->b≠S->s.heap.get? b=ba o->h'.get? b=ba o)->R (.ok (.ret v)) { s with heap:=h',toks:=tk })->
  codeAny (model prog w) A (.builtin "min.loop" #[[.ref I,.none,.ref S],[]]) R s:=by
 have hSw:S∉wr:=λh=>hSf (W.sub _ h)
 have hname:(toString "min" ++ toString ".loop" : Gc) = "min.loop":=by decide
 intro k
 induction k with
 | zero=>
  intro j s vb c hk hj hst hPb hO hS hR;have hin:j+1=n:=∅
  show F7 F.entry_min_loop ?_;rw[F0 F.plain_min_loop _];change wpAny _ A.in1 (seqItems? (.ref S) >>= _) _ _ s;show EJ (GM hS rfl ?_);change wpAny _ A.in1 (tryCatch (pyNext (.ref I)) _ >>= _) _ _ s;show EJ (Je (W.done s _ _ (hin ▸ hst) λh' tk hk'=>?_))
  have hS':=hk' S _ hSw hS;change wpAny _ A.in1 (updateSeq S (λ_=>#[]) >>= _) _ _ _
  show EJ (JY hS' rfl (EJ (HW (ET ?_))));have e:j=n - 1:=∅
  exact hR vb _ tk (e ▸ hPb) λb o hbw hbS e=>(FZ _ _ (Ne.symm hbS)).trans (hk' b o hbw e)
 | succ k ih=>
  intro j s vb c hk hj hst hPb hO hS hR;have hlt:j+1 < n:=∅
  show F7 F.entry_min_loop ?_;rw[F0 F.plain_min_loop _];change wpAny _ A.in1 (seqItems? (.ref S) >>= _) _ _ s;show EJ (GM hS rfl ?_);change wpAny _ A.in1 (tryCatch (pyNext (.ref I)) _ >>= _) _ _ s;show EJ (Je (W.item (j+1) s _ _ hlt hst λv h' tk hP hst' hk'=>?_))
  have hS':=hk' S _ hSw hS;have hO':Ok h':=hok _ _ hO λb o hb _ e=>hk' b o hb e
  change wpAny _ A.in1 (tryCatch (holding [v,v] (richCompare .Lt v vb >>= _)) _ >>= _) _ _ _;show EJ (Je (Ga (EJ (hcmp (j+1) (argBest bt j) v vb _ _ _ hO' hP hPb ?_))));show EJ (Ga (Gj ?_));show EJ (HW (ET ?_));cases hb:bt (j+1) (argBest bt j)with
  | true=>
   simp only[HX];show EJ (JY hS' rfl (EJ (HW ?_)));rw[hname];show ET #[He F.plain_min_loop _,ih (j+1) _ v _ ∅ hlt (W.frame _ _ _ hst' λb hbf o e=>?_) (by simp only[argBest,hb,HX]; exact hP) (hok _ _ hO' λb o _ hbS e=>(FZ _ _ (Ne.symm hbS)).trans e) (GU _ hS' rfl)
    λv' h'' tk'' hP' hk''=>?_]
   ·exact(FZ _ _ (λh:S=b=>hSf (by rw[h]; exact hbf))).trans e
   ·exact hR v' h'' tk'' hP' λb o hbw hbS e=>hk'' b o hbw hbS ((FZ _ _ (Ne.symm hbS)).trans (hk' b o hbw e))
  | false=>
   simp only[Gd,Hn];show EJ (HW ?_);rw[hname];show ET #[He F.plain_min_loop _,ih (j+1) _ vb c ∅ hlt hst' (by simp only[argBest,hb,Gd,Hn]; exact hPb) hO' hS' λv' h'' tk'' hP' hk''=>?_]
   exact hR v' h'' tk'' hP' λb o hbw hbS e=>hk'' b o hbw hbS (hk' b o hbw e)
def p4 (W:NH prog w A.in1 I fp wr n P St)(hcmp:rX prog w A.in1 P Ok bt)(hSf:S∉fp)(hok:∀h h',Ok h->(∀b o,b∉wr->b≠S->h.get? b=ba o->h'.get? b=ba o)->Ok h')(hn:0 < n){s:EN}{c:EV}(hst:St 0 s.heap)(hO:Ok s.heap)
  (hS:s.heap.get? S=ba { cls:=.type "list",dict:=gV,data:=.seq #[] c,slots:=#[] })
  (hR:∀v h' tk,P (argBest bt (n - 1)) v->(∀b o,b∉wr->b≠S->s.heap.get? b=ba o->h'.get? b=ba o)->R (.ok (.ret v)) { s with heap:=h',toks:=tk }) :
  codeAny (model prog w) A (.builtin "min.loop" #[[.ref I,.none,.ref S],[]]) R s:=by
 have hSw:S∉wr:=λh=>hSf (W.sub _ h)
 have hname:(toString "min" ++ toString ".loop" : Gc) = "min.loop":=by decide
 show F7 F.entry_min_loop ?_;rw[F0 F.plain_min_loop _];change wpAny _ A.in1 (seqItems? (.ref S) >>= _) _ _ s;show EJ (GM hS rfl ?_);change wpAny _ A.in1 (tryCatch (pyNext (.ref I)) _ >>= _) _ _ s;show EJ (Je (W.item 0 s _ _ hn hst λv h' tk hP hst' hk'=>?_))
 have hS':=hk' S _ hSw hS;change wpAny _ A.in1 (updateSeq S (λ_=>[v,v].toArray) >>= _) _ _ _
 show EJ (JY hS' rfl ?_);rw[hname];have hO':Ok h':=hok _ _ hO λb o hb _ e=>hk' b o hb e
 show ET #[He F.plain_min_loop _,rY W hcmp hSf hok _ 0 _ v _ rfl hn (W.frame _ _ _ hst' λb hbf o e=>?_) hP (hok _ _ hO' λb o _ hbS e=>(FZ _ _ (Ne.symm hbS)).trans e) (GU _ hS' rfl) λv' h'' tk'' hP' hk''=>?_]
 ·exact(FZ _ _ (λh:S=b=>hSf (by rw[h]; exact hbf))).trans e
 ·exact hR v' h'' tk'' hP' λb o hbw hbS e=>hk'' b o hbw hbS ((FZ _ _ (Ne.symm hbS)).trans (hk' b o hbw e))
end
section
variable{prog:Fn}{w:Fv}{A:Fs}{E:EK->EN->Prop}{s:EN}
def rZ {l:EU}{items:FM EK}{bt:EV->EV->Fk}{Q:EK->EN->Prop}(hh:A.handled=gV)(hl:s.heap.IsList l items)(hn:0 < items.size)
  (hcmp:rX prog w A.in1 (λi v=>items[i]?=ba v) (λh=>∀b o,s.heap.get? b=ba o->h.get? b=ba o) bt)
  (hQ:∀v h' tk,items[argBest bt (items.size - 1)]?=ba v->(∀b o,s.heap.get? b=ba o->h'.get? b=ba o)->Q v { s with heap:=h',toks:=tk }) :
  wpAny (model prog w) A (call (.builtin "min") [.ref l]) Q E s:=by
 have hname:(toString "min" ++ toString ".loop" : Gc) = "min.loop":=by decide
 show call_function_tree F.kind_min F.plain_min F.entry_min (F.args_min1 _) ?_;change wpAny _ A.in1 (IX "min" ["key","default"] 0 #[[],[]] >>= _) _ _ s;show EJ (Jq (show IX "min" ["key","default"] 0 #[[],[]]=pure [gV,gV]from rfl) ?_)
 show EJ (ET ?_);show EJ (HP hl ?_);show EJ (FW ?_);rw[hname];have hlt:l < s.heap.objs.size:=let ⟨_,ho,_⟩:=hl; E4 ho
 have hne:l≠s.heap.objs.size:=Fg hlt;have W:=Mm (prog:=prog) (w:=w) (A:=A.in1) hh s.heap.objs.size l hne items;have hsz:∀o:Gm,(s.heap.push o).objs.size=s.heap.objs.size+1:=λo=>by simp[Heap.push]
 show ET #[He F.plain_min_loop _,p4 (A:=A) (Ok:=λh=>∀b o,s.heap.get? b=ba o->h.get? b=ba o) W hcmp (λhm=>?_) (λh h' ho hk b o e=>?_) hn #[?_,?_] (λb o e=>EM _ (EM _ e)) (EX _ rfl) λv h' tk hv hk=>?_]
 ·rcases Fc.mp hm with e|hm
  ·exact absurd (show(s.heap.push _).objs.size=s.heap.objs.size from e) (by rw[hsz]; exact Nat.succ_ne_self _)
  ·have e:(s.heap.push _).objs.size=l:=Fb.mp hm;rw[hsz]at e;exact absurd hlt (by rw[<- e]; exact Mo.mpr (Hd _))
 ·have hb:=E4 e;show hk b o (λz=>?_) (λz=>?_) (ho b o e)
  ·rw[Fb.mp z]at hb; exact Gq _ hb
  ·have z':b=(s.heap.push _).objs.size:=z;rw[hsz]at z';rw[z']at hb;exact absurd hb (Mo.mpr (Hd _))
 ·exact#[_,EM _ (EX _ rfl),rfl,rfl]
 ·obtain⟨o,ho,hc⟩:=hl;exact#[o,EM _ (EM _ ho),hc]
 ·show hQ v h' tk hv λb o e=>hk b o (λz=>?_) (λz=>?_) (EM _ (EM _ e))
  ·have hb:=E4 e;rw[Fb.mp z]at hb; exact Gq _ hb
  ·have hb:=E4 e;have z':b=(s.heap.push _).objs.size:=z;rw[hsz]at z';rw[z']at hb;exact absurd hb (Mo.mpr (Hd _))
end
abbrev cV (o:COp)(x y:W)(S:aa):EO (W×aa):=match o,y with
 | .isin,.str j=>match x with
  | .str i=>ba (.bl (!(HA j i 0 j.length 1).isEmpty),S)
  | _=>gV
 | .lt,.tup ys=>match W.t x,W.t (.tup ys)with
  | some a,ba b=>if a.depth<=aF/\b.depth<=aF then(uS a b).map λk=>(.bl k,S)else gV
  | _,_=>gV
 | o,y=>rT o x y S
section
variable{X:Cx}
def lw (hu:X.A.units+dA < cLine)(o:COp):LOp X (compareOp o.py) (cV o):=by
 intro J s Y H A S x y a b u v w S' I so rx ru ry rv e;unfold cV at e;split at e
 ·split at e
  ·cases e;cases rx; cases ry
   exact OpR.go pA I ru rv #[_,_,rfl,rfl,.here so .bl]
  ·cases e
 ·split at e
  ·rename_i ys k1 k2 h1 h2;split at e
   ·rename_i hd;rw[EQ]at e;obtain⟨k,hk,e⟩:=e;cases e;have t1:=fQ I k1 (by rw[W.t_w h1]; exact rx) ru
    have t2:=fQ I k2 (by rw[W.t_w h2]; exact ry) rv
    exact zw aF k1 k2 u v X.A s k hd.1 hd.2 t1 t2 (by have:dA=20:=rfl; have:aF=6:=rfl; omega) hk _ _ _ _ (gN I so)
   ·cases e
  ·cases e
 ·exact rV hu _ J s Y H A S x y a b u v w S' I so rx ru ry rv e
abbrev Ec (x:E3):It:=#[λi _=>i < x.cps.size,λi H v H'=>H'=H/\∃c,x.cps[i]?=ba c/\v=.str #[[c].toArray],λi _=>x.cps.size<=i]
def r0 {P:Fn}{w:Fv}{K:EW}{tg:Fa}(x:E3)(t:NA)(it:EU):Turn P w K tg (Ec x) [it] it (λi h=>h.IsStrIter it "str_ascii_iterator" x t i) where
 mem:=by simp
 obj:=λi h st b hb=>by
  have e:b=it:=by simpa using hb
  subst e;obtain⟨o,e,c,d⟩:=st;exact#[o,e,λv z=>by rw[d]at z; cases z]
 keep:=λi h h' #[o,e,c] k=>#[o,k it (by simp) o e,c]
 item:=by
  intro X hP hw hK hc i J s Y H E I hf st hg;subst hP hw hK;obtain⟨f0,f1,f2,f3,f4,f5⟩:=hf it (by simp)
  obtain⟨c0,hx⟩ : ∃c,x.cps[i]?=ba c:=#[_,Hk hg];show wpAny_pyNext_ascii_item st hx λh' st' sb=>?_
  have I1:Inv X J Y H { s with heap:=h',toks:=s.toks+1 }:=I.turned (t':=s.toks+1) (λb o hb e=>(sb.2 b hb).trans e) f0 f1 f3 f4 f5
  obtain⟨o,e,c,d⟩:=id st';exact#[_,rfl,kO (s:={ s with heap:=h',toks:=s.toks+1 }) e c d #v[] #[.str #[[c0].toArray],H,I1,#[_,rfl],#[rfl,_,hx,rfl],st',λb hb=>(hf b hb).1]]
 done:=by
  intro X hP hw hK hc i J s Y H E I hf st hg;subst hP hw hK;obtain⟨f0,f1,f2,f3,f4,f5⟩:=hf it (by simp)
  exact wpAny_pyNext_ascii_end (I.ok.hd hc) st (JK hg) λh' eb=>#[rfl,I.turned (t':=s.toks) (λb o hb e=>eb b o hb e) f0 f1 f3 f4 f5]
 self:=λ_ _ _ _ _ st h=>wpAny_pyIter_striter_ascii st h
end
open PySem.W (KasT kas_sort kas_ask kas_cmp kas_item kas_asc kas_desc kas_tail3 kas_descPart kas_count kas_place kas_bin kas_rev)
abbrev lx {α:Type}(lt:EV->EV->Fk):KasT α->α
 | .ret a=>a
 | .ask i j k=>lx lt (k (lt i j))
abbrev OkK {α:Type}(n:EV)(P:α->Prop):KasT α->Prop
 | .ret a=>P a
 | .ask i j k=>i < n/\j < n/\∀b,OkK n P (k b)
def ly {α:Type}{n:EV}{P:α->Prop}{lt:EV->EV->Fk}:∀(t:KasT α),OkK n P t->P (lx lt t)
 | .ret _,h=>h
 | .ask i j k,h=>ly (k (lt i j)) (h.2.2 _)
def n0 {α:Type}{n:EV}{P:α->Prop}{lt:EV->EV->Fk}{t:KasT α}(h:OkK n P t):P (lx lt t):=ly t h
def OkK.bind {α β:Type}{n:EV}{P:α->Prop}{P':β->Prop}{f:α->KasT β}:∀ {t:KasT α},OkK n P t->(∀a,P a->OkK n P' (f a))->OkK n P' (t.bind f)
 | .ret a,h,hf=>hf a h
 | .ask _ _ _,h,hf=>#[h.1,h.2.1,λb=>OkK.bind (h.2.2 b) hf]
def je {α:Type}{n:EV}{P:α->Prop}{lt:EV->EV->Fk}{cmp:EV->EV->(Fk->EN->Prop)->EN->Prop}{Q:α->EN->Prop}{s:EN}(hc:∀i j,i < n->j < n->∀C:Fk->EN->Prop,C (lt i j) s->cmp i j C s) :
  ∀ {t:KasT α},OkK n P t->Q (lx lt t) s->t.kasWp cmp Q s
 | .ret _,_,h=>h
 | .ask i j k,h,hq=>hc i j h.1 h.2.1 _ (je hc (h.2.2 _) hq)
abbrev Pm (n:EV)(p:FM EV):Prop:=p.toList.Perm (Gn n)
def Pm.size {n:EV}{p:FM EV}(h:Pm n p):p.size=n:=by rw[<- Fe,h.length_eq,HQ]
def Pm.lt {n:EV}{p:FM EV}(h:Pm n p)(hn:0 < n)(i:EV):p.getD i 0 < n:=by
 by_cases hi:i < p.size
 ·have e:p.getD i 0=p[i]:=by simp[Nl,hi]
  rw[e];have:p[i]∈p.toList:=by simp
  exact Hz.mp (h.mem_iff.mp this)
 ·have e:p.getD i 0=0:=by simp[Nl,hi]
  rw[e]; exact hn
def Pm.rev {n:EV}{p:FM EV}(h:Pm n p)(i j:EV):Pm n (kas_rev p i j):=(Jf.mp (mirror_perm p i j _)).trans h
def Pm.bub {n:EV}{p:FM EV}(h:Pm n p)(i j:EV):Pm n (bubble p i j):=(Jf.mp (bubble_perm p i j)).trans h
section
variable{n:EV}(hn:0 < n)
include hn
def mT {p:FM EV}(h:Pm n p):∀(f m:EV),OkK n (λ_=>KP) (kas_asc p f m)
 | 0,_=>trivial
 | f+1,m=>#[h.lt hn _,h.lt hn _,λb=>by
  change OkK n _ (if b=true then _ else _)
  split
  ·trivial
  ·exact mT h f (m+1)]
def gP:∀(f:EV) (p:FM EV) (m q:EV),Pm n p->OkK n (λr=>Pm n r.1) (kas_desc f p m q)
 | 0,p,m,q,h=>h
 | f+1,p,m,q,h=>#[h.lt hn _,h.lt hn _,λb=>by
  change OkK n _ (if b=true then _ else _)
  split
  ·split
   ·exact gP f _ _ _ (h.rev _ _)
   ·exact gP f _ _ _ h
  ·show#[h.lt hn _,h.lt hn _,λc=>?_]
   change OkK n _ (if c=true then _ else _)
   split
   ·exact h
   ·exact gP f _ _ _ h]
def n6 {p:FM EV}(h:Pm n p)(m k:EV):OkK n (λr=>Pm n r.2) (kas_tail3 m k p):=by
 unfold kas_tail3;exact OkK.bind (mT hn (h.rev 0 m) _ _) λa _=>h.rev 0 m
def gp {p:FM EV}(h:Pm n p)(m k:EV):OkK n (λr=>Pm n r.2) (kas_descPart m k p):=by
 unfold kas_descPart;show OkK.bind (gP hn _ _ _ _ h) λr hr=>?_
 split
 ·exact n6 hn (hr.rev _ _) _ _
 ·exact n6 hn hr _ _
def r6 {p:FM EV}(h:Pm n p)(k:EV):OkK n (λr=>Pm n r.2) (kas_count k p):=by
 unfold kas_count;show OkK.bind (mT hn h _ _) λm _=>?_
 split
 ·exact h
 ·split
  ·show#[h.lt hn _,h.lt hn _,λc=>?_]
   change OkK n _ (if c=true then _ else _)
   split
   ·exact h
   ·exact gp hn (h.rev _ _) _ _
  ·exact gp hn h _ _
def ic {p:FM EV}(h:Pm n p)(k:EV):∀(f l r:EV),OkK n (λ_=>KP) (kas_place p k f l r)
 | 0,_,_=>trivial
 | f+1,l,r=>by
  unfold kas_place;split
  ·trivial
  ·show#[h.lt hn _,h.lt hn _,λc=>?_]
   change OkK n _ (if c=true then _ else _)
   split
   ·exact ic h k f _ _
   ·exact ic h k f _ _
def r8:∀(f:EV) (p:FM EV) (k:EV),Pm n p->OkK n (Pm n) (kas_bin f p k)
 | 0,p,k,h=>h
 | f+1,p,k,h=>by
  unfold kas_bin;exact OkK.bind (ic hn h k _ _ _) λl _=>r8 f _ _ (h.bub _ _)
def j6:OkK n (Pm n) (kas_sort n):=by
 unfold kas_sort;show OkK.bind (r6 hn (by unfold Pm; simp) _) λr hr=>?_
 split
 ·exact r8 hn _ _ _ hr
 ·exact hr
end
section
variable{prog:Fn}{w:Fv}{A:Fs}{E:EK->EN->Prop}{s:EN}{vs:EI EK}
abbrev dM (lt:EV->EV->Fk){β:Type}(d:β)(vs:EI β):EI β:=if vs.length < 2 then vs else(lx lt (kas_sort vs.length)).toList.map λi=>vs.getD i d
def lz {lt:EV->EV->Fk}{β:Type}{d:β}{vs:EI β}:(dM lt d vs).length=vs.length:=by
 unfold dM;split
 ·rfl
 ·rw[ER,Fe,(n0 (lt:=lt) (j6 (n:=vs.length) ∅)).size]
def p7 {a:EU}{n:EV}{lt:EV->EV->Fk}{κ:JE}{P:PySem.Fin->EN->Prop}(ho:s.heap.get? a=ba (seqObj "list" vs.toArray n))(h64:vs.length < 64)
  (hkind:2<=vs.length->∀h',(∀b o,b≠a->s.heap.get? b=ba o->h'.get? b=ba o)->∀Q:JE->EN->Prop,Q κ { s with heap:=h' }->wpAny (model prog w) A (keyKind' vs.toArray) Q (λ_ _=>F8) { s with heap:=h' })
  (hlt:2<=vs.length->∀h',(∀b o,b≠a->s.heap.get? b=ba o->h'.get? b=ba o)->∀i j,i < vs.length->j < vs.length->∀Q:Fk->EN->Prop,Q (lt i j) { s with heap:=h' }->
   wpAny (model prog w) A (keyLt' κ (vs.getD i FY) (vs.getD j FY)) Q (λ_ _=>F8) { s with heap:=h' })
  (h:∀h' c,(∀b o,b≠a->s.heap.get? b=ba o->h'.get? b=ba o)->h'.get? a=ba (seqObj "list" (dM lt FY vs).toArray c)->P (.done (.ret .none)) { s with heap:=h' }) :
  wpAny (model prog w) A (Ip.«list.sort» #[[.ref a],[]]) P E s:=by
 have ha:a < s.heap.objs.size:=E4 ho;obtain⟨e1,ho1⟩ : ∃e1,(s.heap.update a (Gp λ_=>(#[]:FM EK))).get? a=ba (seqObj "list" #[] e1):=#[_,JZ ho λ_=>#[]]
 have keep:∀b o,b≠a->s.heap.get? b=ba o->(((s.heap.update a (Gp λ_=>(#[]:FM EK))).push (seqObj "tuple" vs.toArray 0)).push (seqObj "list" #[] 0)).get? b=ba o:=λb o hb e=>
  EM _ (EM _ ((Ii _ _ _ _ hb).trans e))
 have ho3:(((s.heap.update a (Gp λ_=>(#[]:FM EK))).push (seqObj "tuple" vs.toArray 0)).push (seqObj "list" #[] 0)).get? a=ba (seqObj "list" #[] e1):=EM _ (EM _ ho1)
 have fin:∀(out:EI EK),out.length=vs.length->out=dM lt FY vs->P (.done (.ret .none)) { s with heap:=(((s.heap.update a (Gp λ_=>(#[]:FM EK))).push (seqObj "tuple" vs.toArray 0)).push (seqObj "list" #[] 0)).update a (Gp λ_=>out.toArray) }:=λout hl e=>by
  obtain⟨c2,hc2⟩ : ∃c2,((((s.heap.update a (Gp λ_=>(#[]:FM EK))).push (seqObj "tuple" vs.toArray 0)).push (seqObj "list" #[] 0)).update a (Gp λ_=>out.toArray)).get? a=ba (seqObj "list" out.toArray c2):=#[_,JZ ho3 λ_=>out.toArray]
  exact h _ c2 (λb o hb q=>(Ii _ _ _ _ hb).trans (keep b o hb q)) (e ▸ hc2)
 rw[list_sort_plain];show EJ (Lr ho rfl ?_);show EJ (Jw ho rfl ?_ (by rw[EY,FX]; omega) (GC _))
 show EJ (LV ho1 rfl ?_);show EJ (Kl ?_ (by change vs.length<=_; rw[FX]; omega))
 show EJ (KJ ?_ (GC _));show Ga ?_;change wpAny (model prog w) A _ P E { s with heap:=((s.heap.update a (Gp λ_=>(#[]:FM EK))).push (seqObj "tuple" vs.toArray 0)).push (seqObj "list" #[] 0) }
 dsimp only
 by_cases h2:vs.length < 2
 ·rw[Fi (by rw[EY]; exact h2),Fi (by rw[EY]; exact h2)]
  show EJ (ET (EJ ?_));rw[StateT.run_pure];show ET ?_;dsimp only;show EJ (LV ho3 rfl ?_);have hs:((arrOf (SortSt.mk' general' (vs.toArray.zip vs.toArray) #[] 7 gV)).map (·.2))=vs.toArray:=by
   show(vs.toArray.zip vs.toArray).map (·.2)=vs.toArray
   apply Array.toList_inj.mp;rw[Array.toList_map,Array.toList_zip];exact List.map_snd_zip (E2 _)
  rw[hs];show EJ (Jw ho3 rfl ?_ (GC _) (by rw[EY,FX]; omega))
  simp only[Ls,Gd,Hn];exact ET (fin vs rfl (by unfold dM; rw[Fi h2]))
 ·have hn2:¬ vs.toArray.size < 2:=by rw[EY]; exact h2
  have h2':2<=vs.length:=∅
  rw[FJ hn2,FJ hn2];show EJ (Gz (hkind h2' _ keep (λ(k:JE) (s':EN)=>k=κ/\s'={ s with heap:=((s.heap.update a (Gp λ_=>(#[]:FM EK))).push (seqObj "tuple" vs.toArray 0)).push (seqObj "list" #[] 0) }) #[rfl,rfl]) ?_ λ_ _ x=>x.elim)
  rintro _ _ ⟨rfl,rfl⟩;show EJ (Gz (PySem.W.kat_run (Q:=λst' s'=>∃p:FM EV,p.size=vs.length/\arrOf st'=p.map (kas_item (vs.toArray.zip vs.toArray))/\failedOf st'=gV/\p=lx lt (kas_sort vs.length)/\s'={ s with heap:=((s.heap.update a (Gp λ_=>(#[]:FM EK))).push (seqObj "tuple" vs.toArray 0)).push (seqObj "list" #[] 0) })
   (G:=λp s'=>p=lx lt (kas_sort vs.length)/\s'={ s with heap:=((s.heap.update a (Gp λ_=>(#[]:FM EK))).push (seqObj "tuple" vs.toArray 0)).push (seqObj "list" #[] 0) }) rfl h2' h64 (λp' st' s' a1 a2 a3 a4=>#[p',a1,a2,a3,a4])
   (je (lt:=lt) (λi j hi hj C hC=>hlt h2' _ keep i j hi hj C hC) (j6 (n:=vs.length) ∅) #[rfl,rfl])) ?_ λ_ _ e=>e)
  rintro⟨⟨⟩,st'⟩ s' ⟨p,hp,har,hf,ep,rfl⟩;dsimp only;have hout:=PySem.W.kat_snds rfl har;have hsz:(p.toList.map λi=>vs.getD i FY).length=vs.length:=by rw[ER,Fe,hp]
  rw[hout];show EJ (LV ho3 rfl ?_);show EJ (Jw ho3 rfl ?_ (GC _) (by rw[EY,hsz,FX]; omega))
  rw[hf];simp only[Ls,Gd,Hn];exact ET (fin _ hsz (by unfold dM; rw[FJ h2,ep]))
def p8 {x:EK}{lt:EV->EV->Fk}{κ:JE}{Q:EK->EN->Prop}(h64:vs.length < 64)
  (hcol:∀Q':EI EK->EN->Prop,(∀h' tk,(∀b o,s.heap.get? b=ba o->h'.get? b=ba o)->s.heap.objs.size<=h'.objs.size->Q' vs { s with heap:=h',toks:=tk })->wpAny (model prog w) A.in1 (collect x) Q' E s)
  (hkind:2<=vs.length->∀h' tk,(∀b o,s.heap.get? b=ba o->h'.get? b=ba o)->∀Q:JE->EN->Prop,Q κ { s with heap:=h',toks:=tk }->wpAny (model prog w) A.in1.in1 (keyKind' vs.toArray) Q (λ_ _=>F8) { s with heap:=h',toks:=tk })
  (hlt:2<=vs.length->∀h' tk,(∀b o,s.heap.get? b=ba o->h'.get? b=ba o)->∀i j,i < vs.length->j < vs.length->∀Q:Fk->EN->Prop,Q (lt i j) { s with heap:=h',toks:=tk }->
   wpAny (model prog w) A.in1.in1 (keyLt' κ (vs.getD i FY) (vs.getD j FY)) Q (λ_ _=>F8) { s with heap:=h',toks:=tk })
  (h:∀D h' tk c,(∀b o,s.heap.get? b=ba o->h'.get? b=ba o)->s.heap.objs.size<=D->h'.get? D=ba (seqObj "list" (dM lt FY vs).toArray c)->Q (.ref D) { s with heap:=h',toks:=tk }) :
  wpAny (model prog w) A (call (.builtin "sorted") [x]) Q E s:=by
 show Jm kind_sorted plain_sorted entry_sorted (args_sorted1 _) ?_;unfold Ip.«sorted»;show EJ (m:=checkCount "sorted" 1 1 _) (ET ?_);show EJ (hcol _ λh1 tk1 hk1 hle=>?_)
 show EJ (KJ ?_ (by rw[FX]; omega))
 have hoL:(h1.push (seqObj "list" vs.toArray 0)).get? h1.objs.size=ba (seqObj "list" vs.toArray 0):=EX _ rfl;have kp:∀b o,s.heap.get? b=ba o->(h1.push (seqObj "list" vs.toArray 0)).get? b=ba o:=λb o e=>EM _ (hk1 b o e)
 have hne:∀b o,s.heap.get? b=ba o->b≠h1.objs.size:=λb o e=>Fg (Fp (E4 e) hle)
 change wpAny _ _ _ _ _ { s with heap:=h1.push (seqObj "list" vs.toArray 0),toks:=tk1 }
 show EJ (Ga (F5 slot_list_sort #[_,hoL,rfl] entry_list_sort ?_ (args_list_sort _)));show p7 (s:={ s with heap:=h1.push (seqObj "list" vs.toArray 0),toks:=tk1 }) (lt:=lt) (κ:=κ) hoL h64 (λh2 h' hk Q hq=>hkind h2 h' tk1 (λb o e=>hk b o (hne b o e) (kp b o e)) Q hq)
  (λh2 h' hk i j hi hj Q hq=>hlt h2 h' tk1 (λb o e=>hk b o (hne b o e) (kp b o e)) i j hi hj Q hq) λh' c hk hD=>?_
 exact#[_,rfl,ET #[_,rfl,h _ h' tk1 c (λb o e=>hk b o (hne b o e) (kp b o e)) hle hD]]
end
end Mi
namespace Mi
open PySem PySem.Spec PyProof.Rows L2
abbrev dJ:T->Gc
 | .int _=>"int"|.str _=>"str"|.tup _=>"tuple"
abbrev aO:T->EO T
 | .tup (x::_)=>ba x
 | _=>gV
abbrev vS (ks:EI T):EO EV:=
 if ks.all (λk=>dJ k == "int")then ba 0
 else if ks.all (λk=>dJ k == "str")then ba 1
 else if ks.all (λk=>(aO k).any λf=>dJ f == "int")then ba 2
 else if ks.all (λk=>(aO k).any λf=>dJ f == "str")then ba 3
 else if ks.all (λk=>(aO k).any λf=>dJ f == "tuple")then ba 4
 else gV
abbrev r9:EV->JE
 | 0=>oneType'|1=>oneType'|2=>tuples' true|3=>tuples' true|_=>tuples' false
abbrev ie (ks:EI T):Fk:=ks.all λx=>ks.all λy=>(uS x y).isSome
abbrev xV (ks:EI T)(i j:EV):Fk:=(uS (ks.getD i (.int 0)) (ks.getD j (.int 0))).getD false
def sa {ks:EI T}(h:ie ks=true){i j:EV}(hi:i < ks.length)(hj:j < ks.length):uS (ks[i]) (ks[j])=ba (xV ks i j):=by
 unfold ie at h;rw[Fu]at h;have h1:=h ks[i] (Gh hi);rw[Fu]at h1;have h2:=h1 ks[j] (Gh hj);unfold xV;rw[show ks.getD i (.int 0)=ks[i] by simp[hi],show ks.getD j (.int 0)=ks[j] by simp[hj]]
 obtain⟨b,hb⟩:=Gb.mp h2;rw[hb]; rfl
abbrev Ed (c:EV)(x y:T):Prop:=match c with|0=>dJ x = "int"/\dJ y = "int"|1=>dJ x = "str"/\dJ y = "str"|2=>∃f g,aO x=ba f/\aO y=ba g/\dJ f = "int"/\dJ g = "int"|3=>∃f g,aO x=ba f/\aO y=ba g/\dJ f = "str"/\dJ g = "str"|_=>∃f g,aO x=ba f/\aO y=ba g
section
variable{prog:Fn}{w:Fv}{A:Fs}{E:EK->EN->Prop}{s:EN}
def og {h:FN}{k:T}{v:EK}(x:IsT h k v):MG (model prog w) h (typeOf v) (.type (dJ k)):=by
 cases x with
 | int=>exact .now
 | str=>exact .now
 | tup a c d t=>exact c ▸ ((Ny a).andThen .now:MG (model prog w) h (typeOf (.ref _)) _)
def IsTs.mem {h:FN}:∀ {ks:EI T} {vs:EI EK},IsTs h ks vs->∀v∈vs,∃k∈ks,IsT h k v
 | _,_,.cons a b,v,hv=>by
  rcases Fc.mp hv with rfl|hv
  ·exact#[_,.head _,a]
  ·obtain⟨k,hk,q⟩:=IsTs.mem b v hv;exact#[k,.tail _ hk,q]
def jf {h:FN}{p:T->Fk}:∀ {ks:EI T} {vs:EI EK},IsTs h ks vs->ks.all (λk=>(aO k).any p)=true->∃fs,PySem.W.KatTups h vs fs/\fs.length=vs.length/\∀v∈fs,∃k,p k=true/\IsT h k v
 | _,_,.nil,_=>#[[],.nil,rfl,λv hv=>nomatch hv]
 | k::ks,_,.cons a b,hp=>by
  rw[FK,ES]at hp;obtain⟨fs,h1,h2,h3⟩:=jf b hp.2;cases a with
  | int=>simp[aO]at hp
  | str=>simp[aO]at hp
  | @tup kk ad o items n a1 c1 d1 t1=>
   cases kk with
   | nil=>simp[aO]at hp
   | cons x xs=>
    have hx:p x=true:=by simpa [aO]using hp.1
    generalize hit:items.toList=its at t1;cases t1 with
    | @cons _ u _ us q1 q2=>
     show#[u::fs,.cons a1 c1 d1 (by rw[<- F3,hit]; rfl) h1,by simp[h2],λv hv=>?_]
     rcases Fc.mp hv with rfl|hv
     ·exact#[x,hx,q1]
     ·exact h3 v hv
def zx {ks:EI T}{vs:EI EK}{c:EV}{Q:JE->EN->Prop}(h:IsTs s.heap ks vs)(h2:2<=vs.length)(hc:vS ks=ba c)(hq:Q (r9 c) s):wpAny (model prog w) A (keyKind' vs.toArray) Q E s:=by
 have one:∀ty:Gc,(Hs ty != Hs "tuple")=true->ks.all (λk=>dJ k==ty)=true->Q oneType' s->wpAny (model prog w) A (keyKind' vs.toArray) Q E s:=λty hty hall hq=>
  PySem.W.kas_kind (T:=.type ty) h2 (λv hv=>by
   obtain⟨k,hk,x⟩:=h.mem v hv;have:=eq_of_beq (Fu.mp hall k hk);exact this ▸ og x) hty (by simp) hq
 have tup:∀ty:Gc,ks.all (λk=>(aO k).any λf=>dJ f==ty)=true->Q (tuples' (Hs ty != Hs "tuple")) s->wpAny (model prog w) A (keyKind' vs.toArray) Q E s:=λty hall hq=>by
  obtain⟨fs,h1,h3,h4⟩:=jf h hall;exact PySem.W.kat_kind (T:=.type ty) h1 ∅ (λv hv=>by
   obtain⟨k,hk,x⟩:=h4 v hv;have:=eq_of_beq hk;exact this ▸ og x) (by simp) hq
 unfold vS at hc;split at hc
 ·cases hc; exact one "int" #v[] (by assumption) hq
 ·split at hc
  ·cases hc; exact one "str" #v[] (by assumption) hq
  ·split at hc
   ·cases hc; exact tup "int" (by assumption) hq
   ·split at hc
    ·cases hc; exact tup "str" (by assumption) hq
    ·split at hc
     ·cases hc; exact tup "tuple" (by assumption) hq
     ·cases hc
def lA {b:Fk}{Q:Fk->EN->Prop}{d:EV}(hu:A.units+d < cLine):∀(xs ys:EI T) (us vs:EI EK) (i:EV) (k:Fk),T.depths xs<=d->T.depths ys<=d->IsTs s.heap xs us->IsTs s.heap ys vs->lv xs ys=ba k->
  (b=true->i=0->∀x y,xs.head?=ba x->ys.head?=ba y->(dJ x = "int"/\dJ y = "int")\/(dJ x = "str"/\dJ y = "str"))->Q k s->PySem.W.KatLex prog w A b (decide (us.length < vs.length)) Q (us.zip vs) i s
 | [],[],_,_,i,k,_,_,h1,h2,e,hb,hq=>by cases h1; cases h2; cases e; exact J0 (by simpa using hq)
 | [],y::ys,_,_,i,k,_,_,h1,h2,e,hb,hq=>by cases h1; cases h2; cases e; exact J0 (by simpa using hq)
 | x::xs,[],_,_,i,k,_,_,h1,h2,e,hb,hq=>by cases h1; cases h2; cases e; exact J0 (by simpa using hq)
 | x::xs,y::ys,_,_,i,k,d1,d2,h1,h2,e,hb,hq=>by
  simp only[T.depths]at d1 d2;cases h1 with
  | @cons _ u _ us p1 q1=>
   cases h2 with
   | @cons _ v _ vs p2 q2=>
    have he:=pY d x y _ _ A s ∅ p1 p2 hu ∅
    rw[HF];show PySem.W.kat_cons (he prog w _ _ ?_);simp only[lv]at e;have hlen:decide ((u::us).length < (v::vs).length)=decide (us.length < vs.length):=by simp
    rw[hlen]
    by_cases hxy:x=y
    ·rw[Fi hxy]at e;rw[Gf hxy];exact PySem.W.kat_yes (lA hu xs ys us vs (i+1) k ∅ ∅ q1 q2 e (λ_ z=>absurd z (Nat.succ_ne_zero _)) hq)
    ·rw[FJ hxy]at e;rw[Fq hxy];show PySem.W.kat_no ?_
     by_cases hb0:b=true/\i=0
     ·obtain⟨rfl,rfl⟩:=hb0;rcases hb rfl rfl x y rfl rfl with⟨hx,hy⟩|⟨hx,hy⟩
      ·cases p1 with
       | int=>cases p2 with
        | int=>cases e; exact oneLt_int hq
        | _=>exact absurd hy (by simp[dJ])
       | _=>exact absurd hx (by simp[dJ])
      ·cases p1 with
       | str=>cases p2 with
        | str=>cases e; exact oneLt_str hq
        | _=>exact absurd hy (by simp[dJ])
       | _=>exact absurd hx (by simp[dJ])
     ·have hf:(b&&i==0)=false:=by
       cases b with
       | false=>rfl
       | true=>
        have:i≠0:=λz=>hb0 #[rfl,z]
        simpa using this
      rw[hf];exact PySem.W.kat_one _ _ ((zw d x y _ _ A s k ∅ ∅ p1 p2 hu e) prog w _ _ hq)
def vT {c d:EV}{x y:T}{u v:EK}{k:Fk}{Q:Fk->EN->Prop}(hu:A.units+d < cLine)(d1:x.depth<=d)(d2:y.depth<=d)(h1:IsT s.heap x u)(h2:IsT s.heap y v)(e:uS x y=ba k)
  (hc:Ed c x y)
  (hq:Q k s):wpAny (model prog w) A (keyLt' (r9 c) u v) Q E s:=by
 have tup:∀b:Fk,(∃f g,aO x=ba f/\aO y=ba g/\(b=true->(dJ f = "int"/\dJ g = "int")\/(dJ f = "str"/\dJ g = "str")))->wpAny (model prog w) A (keyLt' (tuples' b) u v) Q E s:=by
  rintro b ⟨f,g,hf,hg,hb⟩;cases h1 with
  | int=>cases hf
  | str=>cases hf
  | @tup xs a o items n a1 c1 e1 t1=>
   cases h2 with
   | int=>cases hg
   | str=>cases hg
   | @tup ys a' o' items' n' a2 c2 e2 t2=>
    simp only[T.depth]at d1 d2;show PySem.W.kat_lt a1 e1 a2 e2 ?_;have:=lA (prog:=prog) (w:=w) (b:=b) (Q:=Q) hu xs ys items.toList items'.toList 0 k ∅ ∅ t1 t2 e (λhb' _ p q hp hq'=>by
     cases xs with
     | nil=>cases hp
     | cons x0 xs=>cases ys with
      | nil=>cases hq'
      | cons y0 ys=>cases hp; cases hq'; cases hf; cases hg; exact hb hb') hq
    simpa using this
 match c,hc with
 | 0,#[hx,hy]=>
  cases h1 with
  | int=>cases h2 with
   | int=>cases e; exact PySem.W.kat_lt_int hq
   | _=>exact absurd hy (by simp[dJ])
  | _=>exact absurd hx (by simp[dJ])
 | 1,#[hx,hy]=>
  cases h1 with
  | str=>cases h2 with
   | str=>cases e; exact PySem.W.kas_lt_str hq
   | _=>exact absurd hy (by simp[dJ])
  | _=>exact absurd hx (by simp[dJ])
 | 2,#[f,g,h1',h2',h3,h4]=>exact tup true #[f,g,h1',h2',λ_=>.inl #[h3,h4]]
 | 3,#[f,g,h1',h2',h3,h4]=>exact tup true #[f,g,h1',h2',λ_=>.inr #[h3,h4]]
 | n+4,#[f,g,h1',h2']=>exact tup false #[f,g,h1',h2',λz=>nomatch z]
end
def vU {ks:EI T}{c:EV}(h:vS ks=ba c){x y:T}(hx:x∈ks)(hy:y∈ks) :
  Ed c x y:=by
 have one:∀ {ty:Gc},ks.all (λk=>dJ k==ty)=true->dJ x=ty/\dJ y=ty:=λha=>#[eq_of_beq (Fu.mp ha x hx),eq_of_beq (Fu.mp ha y hy)]
 have fst:∀ {ty:Gc},ks.all (λk=>(aO k).any λf=>dJ f==ty)=true->∃f g,aO x=ba f/\aO y=ba g/\dJ f=ty/\dJ g=ty:=λ{ty} ha=>by
  have h1:=Fu.mp ha x hx;have h2:=Fu.mp ha y hy;cases e1:aO x with
  | none=>rw[e1]at h1; cases h1
  | some f=>
   cases e2:aO y with
   | none=>rw[e2]at h2; cases h2
   | some g=>
    rw[e1]at h1; rw[e2]at h2
    exact#[f,g,rfl,rfl,eq_of_beq (by simpa using h1),eq_of_beq (by simpa using h2)]
 unfold vS at h;split at h
 ·cases h; exact one (by assumption)
 ·split at h
  ·cases h; exact one (by assumption)
  ·split at h
   ·cases h; exact fst (by assumption)
   ·split at h
    ·cases h; exact fst (by assumption)
    ·split at h
     ·cases h;obtain⟨f,g,h1,h2,_⟩:=fst (by assumption)
      exact#[f,g,h1,h2]
     ·cases h
abbrev cK (S:aa):W->EO (EI W)
 | .tup xs=>ba xs
 | .ref i=>match dL S i with
  | some xs=>ba xs
  | none=>(gH S i).map λU=>U.map λp=>p.1.w
 | _=>gV
abbrev cX:EV:=8
abbrev j7 (ks:EI T):Fk:=decide (ks.length < 64)&&decide (T.depths ks<=cX)&&(decide (ks.length < 2)||((vS ks).isSome&&ie ks))
abbrev fm (xs:EI W)(S:aa):EO (W×aa):=match xs with
 | [x]=>match cK S x with
  | some ws=>match W.ts ws with
   | some ks=>if j7 ks then ba (.ref S.length,S++[.lst (dM (xV ks) .non ws)])else gV
   | none=>gV
  | none=>gV
 | _=>gV
abbrev jg (xs:EI W)(S:aa):EO (W×aa):=match xs with
 | [.ref i]=>match gH S i with
  | some U=>ba (.ref S.length,S++[.lst (U.map λp=>p.1.w)])
  | none=>eX [.ref i] S
 | xs=>eX xs S
abbrev p9 (xs:EI W)(S:aa):EO (W×aa):=match xs with
 | [.ref i]=>match gH S i with
  | some U=>ba (.int U.length,S)
  | none=>mN [.ref i] S
 | xs=>mN xs S
abbrev mU (ks:EI T):EV:=argBest (xV ks) (ks.length - 1)
abbrev vV (xs:EI W)(S:aa):EO (W×aa):=match xs with
 | [.ref i]=>match dL S i with
  | some ws=>match W.ts ws with
   | some ks=>if T.depths ks<=cX/\ie ks=true then(ws[mU ks]?).map λw=>(w,S)else gV
   | none=>gV
  | none=>gV
 | _=>gV
abbrev dC:EI W->EO (EI Fk)
 | []=>ba []
 | .bl b::ws=>(dC ws).map (b :: ·)
 | _::_=>gV
abbrev vW (xs:EI W)(S:aa):EO (W×aa):=match xs with
 | [.ref i]=>match dL S i with
  | some ws=>(dC ws).map λbs=>(.bl (bs.all id),S)
  | none=>gV
 | _=>gV
section
variable{X:Cx}{J:EI (EU×Gm)}{Y:L2.St}{H:Hp}{s:EN}{A:EI EU}{S:aa}
def RelL.pick {K:EW}{ws:EI W}{vs:EI V}(r:RelL K A H ws vs)(d:W)(d':V):∀(is:EI EV),(∀i∈is,i < ws.length)->RelL K A H (is.map λi=>ws.getD i d) (is.map λi=>vs.getD i d')
 | [],_=>.nil
 | i::is,h=>by
  have hi:=h i (.head _);obtain⟨v,h1,h2⟩:=r.get (EZ hi);show .cons ?_ (RelL.pick r d d' is λj hj=>h j (.tail _ hj))
  have e1:ws.getD i d=ws[i]:=by simp[hi]
  have e2:vs.getD i d'=v:=by simp[h1]
  change Rel K A H (ws.getD i d) (vs.getD i d');rw[e1,e2]; exact h2
def Vals.pick {vs:EI V}{us:EI EK}(r:Vals vs us)(d:V)(d':EK):∀(is:EI EV),(∀i∈is,i < vs.length)->Vals (is.map λi=>vs.getD i d) (is.map λi=>us.getD i d')
 | [],_=>.nil
 | i::is,h=>by
  have hi:=h i (.head _);obtain⟨v,h1,h2⟩:=L2.Vals.get r (EZ hi);show .cons ?_ (Vals.pick r d d' is λj hj=>h j (.tail _ hj))
  have e1:vs.getD i d=vs[i]:=by simp[hi]
  have e2:us.getD i d'=v:=by simp[h1]
  change L2.RelV (vs.getD i d) (us.getD i d');rw[e1,e2]; exact h2
def j8 {n:EV}{lt:EV->EV->Fk}(hn:0 < n):∀i∈(lx lt (PySem.W.kas_sort n)).toList,i < n:=λi hi=>Hz.mp ((n0 (lt:=lt) (j6 hn)).mem_iff.mp hi)
def sd {K:EW}{lt:EV->EV->Fk}{ws:EI W}{vs:EI V}(r:RelL K A H ws vs):RelL K A H (dM lt .non ws) (dM lt .non vs):=by
 unfold dM;rw[r.length];split
 ·exact r
 ·exact r.pick _ _ _ λi hi=>by rw[r.length]; exact j8 ∅ i hi
def qa {lt:EV->EV->Fk}{vs:EI V}{us:EI EK}(r:Vals vs us):Vals (dM lt .non vs) (dM lt .none us):=by
 unfold dM;rw[L2.Vals.length r];split
 ·exact r
 ·exact Vals.pick r _ _ _ λi hi=>by rw[L2.Vals.length r]; exact j8 ∅ i hi
def lB {prog:Fn}{w:Fv}{B:Fs}{E:EK->EN->Prop}{l:EU}{vs:EI EK}{Q:EI EK->EN->Prop}(hl:La s.heap l vs.toArray)(hsz:vs.length<=sizeLine)
  (h:∀h' tk,(∀b o,s.heap.get? b=ba o->h'.get? b=ba o)->s.heap.objs.size<=h'.objs.size->Q vs { s with heap:=h',toks:=tk }):wpAny (model prog w) B (collect (.ref l)) Q E s:=by
 obtain⟨o,ho,hc,n,hd⟩:=id hl;unfold collect;show EJ (Jc (F7 entry_proto_collect' ?_));change wpAny _ _ (do again (.builtin "list.__iadd__" #[[<- newList [],.ref l],[]])) _ _ s
 show EJ (KJ (ET #[KY _ (by decide +kernel),F7 entry_list_iadd' ?_]))
 change wpAny _ _ (Ha (.ref s.heap.objs.size) (.ref l) (.ref s.heap.objs.size)) _ _ { s with heap:=s.heap.push (seqObj "list" #[] 0) }
 unfold Ha;have ho':(s.heap.push (seqObj "list" #[] 0)).get? l=ba o:=EM _ ho;show EJ (IW (T:="tuple") #[o,ho',hc] ?_);have ht:(Hs "tuple" == Hs "tuple")=true:=by rfl
 rw[Fi (by rw[ht]; simp)]
 show EJ (Lr ho' hd ?_);show EJ (Lr (xs:=#[]) (n:=0) (EX _ rfl) rfl ?_);rw[FJ (by simp)]
 show EJ (Jw (xs:=#[]) (n:=0) (EX _ rfl) rfl ?_ (GC _) (by show(#[]++vs.toArray).size<=sizeLine+1; simp only[Array.size_append,EY,Gx]; omega))
 show ET ?_;change wpAny (model prog w) B (do
   let o <- load s.heap.objs.size
   match o.data with
   | .seq xs _=>pure xs.toList
   | _=>unsupported "internal:collect") Q E { s with heap:=(s.heap.push (seqObj "list" #[] 0)).update s.heap.objs.size (Gp (· ++ vs.toArray)) }
 show EJ (KS (JZ (EX _ rfl) _) ?_);change wpAny _ _ (pure ((#[]:FM EK)++vs.toArray).toList) Q E _;rw[show((#[]:FM EK)++vs.toArray).toList=vs by simp]
 show ET (h _ s.toks (λb o' e=>(Ii _ _ _ _ (Fg (E4 e))).trans (EM _ e)) ?_)
 rw[LM,size_push'];exact Hd _
def DicAt.raw {wd:Fv}{a:EU}{xs:EI (T×EU×EK)}{h:FN}(d:DicAt wd a xs h):∃es ep,RawD a es ep h/\es.toList=xs.map (rC wd):=
 let ⟨_,_,_,o,es,ep,h1,h2,h3,h4⟩:=d; #[es,ep,#[o,h1,h2,h3],h4]
def KRel.keysL {U:EI (T×W)}{xs:EI (T×EU×EK)}(r:KRel X.K A H U xs):RelL X.K A H (U.map λp=>p.1.w) (xs.map λq=>V.ref q.2.1):=by
 unfold KRel at r
 induction r with
 | nil=>exact .nil
 | cons h t ih=>exact .cons h.2.2.2.1 ih
def jh (xs:EI (T×EU×EK)):Vals (xs.map λq=>V.ref q.2.1) (xs.map λq=>FL q.2.1):=by
 induction xs with
 | nil=>exact .nil
 | cons x xs ih=>exact .cons rfl ih
def ig {wd:Fv}{es:FM G2}{xs:EI (T×EU×EK)}(he:es.toList=xs.map (rC wd)){acc:FM EK}(ha:JL (λi v=>∃e,es[i]?=ba e/\e.key=v) acc es.size):acc.toList=xs.map λq=>FL q.2.1:=by
 have hl:es.size=xs.length:=by rw[<- Fe,he,ER]
 apply LK
 ·rw[Fe,ha.1,ER,hl]
 ·intro i h1 h2;rw[Fe]at h1;obtain⟨e,q1,q2⟩:=ha.2 i acc[i] (by simp[h1])
  rw[<- F3,he,E1]at q1;rw[ER]at h2;rw[EZ h2]at q1;simp only[FP,Fj]at q1;subst q1;rw[List.getElem_map,Array.getElem_toList];exact q2.symm
def qb {x:W}{a:V}{u:EK}{ws:EI W}(hh:X.A.handled=gV)(I:Inv X J Y H s)(so:StoreOk X.w X.K A H S)(rx:Rel X.K A H x a)(ru:RelV a u)(e:cK S x=ba ws):∃vs us,RelL X.K A H ws vs/\Vals vs us/\us.length<=sizeLine/\
  ∀(B:Fs) (hB:B.handled=gV) (E:EK->EN->Prop) (Q':EI EK->EN->Prop),(∀h' tk,(∀b o,s.heap.get? b=ba o->h'.get? b=ba o)->s.heap.objs.size<=h'.objs.size->Q' us { s with heap:=h',toks:=tk })->wpAny (model X.prog X.w) B (collect u) Q' E s:=by
 cases rx with
 | tup h1 r1=>
  cases e;obtain⟨its,rv,ht,hz⟩:=I.tuple h1;obtain rfl:u=FL _:=ru;exact#[_,its,r1,rv,by rw[<- L2.Vals.length rv]; exact hz,λB hB E Q' h=>lB ht (by rw[<- L2.Vals.length rv]; exact hz) h]
 | ref ea=>
  dsimp only[cK]at e;split at e
  ·rename_i xs hx;cases e;obtain⟨vs,h1,r1⟩:=aH so hx ea;obtain⟨its,rv,p,hz⟩:=I.list h1;obtain rfl:u=FL _:=ru;show#[_,its,r1,rv,by rw[<- L2.Vals.length rv]; exact hz,λB hB E Q' h=>collect_list p.isList (h _ s.toks (λb o' e=>(Ii _ _ _ _ (Fg (E4 e))).trans (EM _ e)) ?_) (by rw[<- L2.Vals.length rv]; exact hz)]
   rw[LM,size_push'];exact Hd _
  ·rw[EQ]at e;obtain⟨U,hk,rfl⟩:=e;obtain⟨xs,rd,kr⟩:=dU so hk ea;have d:=bz I rd;obtain⟨es,ep,raw,he⟩:=d.raw;obtain rfl:u=FL _:=ru;have hl:es.size=xs.length:=by rw[<- Fe,he,ER]
   show#[_,_,kr.keysL,jh xs,by rw[ER]; exact d.1,λB hB E Q' h=>lu (nZ d.2.1) hB raw (by rw[hl]; exact d.1) λh' tk acc hk' hle ha=>?_]
   rw[ig he ha];exact h h' tk hk' hle
 | _=>cases e
def ji {h':FN}{tk c:EV}{D:EU}{ws:EI W}{vs:EI V}{us:EI EK}(I:Inv X J Y H s)(so:StoreOk X.w X.K A H S)(r:RelL X.K A H ws vs)(rv:Vals vs us)(hz:us.length<=sizeLine)(hk:∀b o,s.heap.get? b=ba o->h'.get? b=ba o)(hD:s.heap.objs.size<=D)
  (ho:h'.get? D=ba { cls:=.type "list",data:=.seq us.toArray c }):PostE X J Y A H (S++[.lst ws]) (.ref S.length) (.ref D) { s with heap:=h',toks:=tk }:=by
 have hn:H D=gV:=I.hok.fresh hD;show#[.ref D,_,A++[D],I.laid (a:=D) (o:=.lst vs) (t':=tk) hk hD #[by rw[L2.Vals.length rv]; exact hz,us,c,rv,ho],rfl,cH hn,so.push hn r,.ref ?_]
 rw[<- so.len]; simp
def j9 (hh:X.A.handled=gV)(hu:X.A.units+12 < cLine):LCall X (.builtin "sorted") fm:=by
 intro J s Y H A S xs vs us w S' I so rl rv e;cases rl with
 | nil=>cases e
 | cons r t=>
  cases t with
  | cons _ _=>cases e
  | nil=>
   cases rv with
   | cons ru rv2=>
    cases rv2;dsimp only[fm]at e;split at e
    ·rename_i ws hw;split at e
     ·rename_i ks hk;split at e
      ·rename_i hok;cases e;obtain⟨vs',us',r1,rv1,hz,hcol⟩:=qb hh I so r ru hw
       (dsimp only[j7]at hok; simp only[ES,Ft]at hok)
       obtain⟨⟨h64,hd⟩,hok⟩:=hok;have hws:T.ws ks=ws:=W.ts_w hk;have hT:IsTs s.heap ks us':=ee I ks (hws ▸ r1) rv1;have hl:us'.length=ks.length:=hT.length.symm;have sk:2<=us'.length->(vS ks).isSome=true/\ie ks=true:=λh2=>by
        rcases GQ _ _ ▸ hok with h|h
        ·simp only[Ft]at h; omega
        ·simpa using h
       show p8 (vs:=us') (lt:=xV ks) (κ:=r9 ((vS ks).getD 0)) ∅ (λQ' hQ'=>hcol X.A.in1 hh _ Q' hQ') (λh2 h' tk hk' Q hq=>?_) (λh2 h' tk hk' i j hi hj Q hq=>?_) λD h' tk c hk' hD ho=>?_
       ·obtain⟨q1,q2⟩:=sk h2;obtain⟨c,hc⟩:=Gb.mp q1;rw[hc]at hq;exact zx (s:={ s with heap:=h',toks:=tk }) (hT.kept λb o _ e=>hk' b o e) h2 hc hq
       ·obtain⟨q1,q2⟩:=sk h2;obtain⟨c,hc⟩:=Gb.mp q1;rw[hc];have hi':i < ks.length:=∅
        have hj':j < ks.length:=∅
        have g:=(hT.kept (h':=h') λb o _ e=>hk' b o e)
        have e1:us'.getD i FY=us'[i]:=by simp[hi]
        have e2:us'.getD j FY=us'[j]:=by simp[hj]
        rw[e1,e2];have b1:=cJ (ks:=ks) i hi';have b2:=cJ (ks:=ks) j hj';exact vT (s:={ s with heap:=h',toks:=tk }) (d:=cX) (c:=c) (by rw[aL,aL]; unfold cX; omega) ∅ ∅ (g.get i hi' hi) (g.get j hj' hj) (sa q2 hi' hj') (vU hc (Gh hi') (Gh hj')) hq
       ·exact ji I so (sd r1) (qa rv1) (by rw[lz]; exact hz) hk' hD ho
      ·cases e
     ·cases e
    ·cases e
def lC (hh:X.A.handled=gV):LCall X (.type "list") jg:=by
 intro J s Y H A S xs vs us w S' I so rl rv e
 by_cases hd:∃i U,xs=[.ref i]/\gH S i=ba U
 ·obtain⟨i,U,rfl,hk⟩:=hd
  (dsimp only[jg]at e; simp only[hk]at e)
  cases e;cases rl with
  | cons r t=>
   cases t;cases rv with
   | cons ru rv2=>
    cases rv2;cases r with
    | ref ea=>
     obtain⟨xs,rd,kr⟩:=dU so hk ea;have d:=bz I rd;obtain⟨es,ep,raw,he⟩:=d.raw;obtain rfl:_=FL _:=ru;have hl:es.size=xs.length:=by rw[<- Fe,he,ER]
     show PySem.W.kdl_call (nZ d.2.1) hh raw (by rw[hl]; exact d.1) λh' tk acc' c' hk' hD ha=>?_
     have ea':=ig he ha;show ji (us:=acc'.toList) I so kr.keysL (ea' ▸ jh xs) (by rw[ea',ER]; exact d.1) hk' (E2 _) (c:=c') ?_
     simpa using hD
 ·have:jg xs S=eX xs S:=by
   unfold jg;split
   ·rename_i i;split
    ·rename_i U hk;exact absurd #[i,U,rfl,hk] hd
    ·rfl
   ·rfl
  rw[this]at e;exact eM J s Y H A S xs vs us w S' I so rl rv e
end
open PySem.W (KasT kas_sort kas_asc kas_desc kas_tail3 kas_descPart kas_count kas_place kas_bin kas_rev)
abbrev gt (p:FM EV)(i:EV):EV:=p.getD i 0
end Mi
namespace Mi
open PySem PySem.Spec PyProof.Rows L2
abbrev ii (xs:EI W)(S:aa):EO (W×aa):=match xs with
 | [.ref i]=>match vQ S i with
  | some (lo,hi)=>if -(2 ^ 62)<=lo/\lo < 2 ^ 62/\-(2 ^ 62)<=hi/\hi < 2 ^ 62/\(hi - lo).toNat<=sizeLine then ba (.tup (Bx lo (hi - lo).toNat),S)else gV
  | none=>hG [.ref i] S
 | xs=>hG xs S
section
variable{prog:Fn}{w:Fv}{A:Fs}{E:EK->EN->Prop}{s:EN}
def iS {Q:EI EK->EN->Prop}{r:EU}{a b c:E5}{t u v:NA}{n:EV}(hh:A.handled=gV)(hr:Nv s.heap r a b c t u v)(hsmall:IV a b c=true)
  (hn:GB a b c=n) (hlen:n<=2 ^ 24)
  (hQ:∀h' tk (acc:FM EK),(∀b o,s.heap.get? b=ba o->h'.get? b=ba o)->s.heap.objs.size<=h'.objs.size->JL (λi v=>∃t,v=.int (a+i*c) t) acc n->Q acc.toList { s with heap:=h',toks:=tk }):wpAny (model prog w) A (collect (.ref r)) Q E s:=by
 unfold collect;show EJ (Jc (F7 F.entry_proto_collect ?_));rw[F0 F.plain_proto_collect _];change wpAny _ A.in1 (newList [] >>= λl=>again (.builtin "list.__iadd__" #[[l,.ref r],[]])) _ _ s
 show EJ (FW ?_);show ET #[He F.plain_list_iadd _,F7 F.entry_list_iadd ?_];rw[F0 F.plain_list_iadd _];change wpAny _ A.in1 (Ha (.ref s.heap.objs.size) (.ref r) (.ref s.heap.objs.size)) _ _ _;have hS:(s.heap.push { cls:=.type "list",data:=.seq ([]:EI EK).toArray }).get? s.heap.objs.size=ba { cls:=.type "list",data:=.seq #[] 0 }:=EX _ rfl;have fin':∀s',(∃h' tk acc c',s'={ s with heap:=h',toks:=tk }/\(∀b o,s.heap.get? b=ba o->h'.get? b=ba o)/\h'.get? s.heap.objs.size=ba { cls:=.type "list",dict:=gV,data:=.seq acc c',slots:=#[] }/\JL (λi v=>∃t,v=.int (a+i*c) t) acc n)->wpAny (model prog w) A (do
   let o <- load s.heap.objs.size
   match o.data with
   | .seq xs _=>pure xs.toList
   | _=>unsupported "internal:collect") Q E s':=by
  rintro s' ⟨h',tk,acc,c',rfl,hk,hS',hacc⟩;exact EJ (KS hS' (ET (hQ h' tk acc hk (Iw (E4 hS')) hacc)))
 show Gz (wpAny_extend_range (A:=A) (s:={ s with heap:=s.heap.push { cls:=.type "list",data:=.seq ([]:EI EK).toArray } }) (R:=λr s'=>r=.ok (.ret (.ref s.heap.objs.size))/\∃h' tk acc c',s'={ s with heap:=h',toks:=tk }/\(∀b o,s.heap.get? b=ba o->h'.get? b=ba o)/\h'.get? s.heap.objs.size=ba { cls:=.type "list",dict:=gV,data:=.seq acc c',slots:=#[] }/\JL (λi v=>∃t,v=.int (a+i*c) t) acc n) hh (EM _ hr) hsmall hn hlen _ _ 0 hS λh' tk acc' c' hk hS' hacc=>#[rfl,h',tk,acc',c',rfl,λb o e=>hk b o (Fg (E4 e)) (EM _ e),hS',hacc]) (λfin s' h=>?_) (λe s' h=>?_)
 ·cases fin with
  | done f=>
   obtain⟨e,h⟩:=h;cases e;exact fin' s' h
  | again c'=>exact#[h.1,Ix h.2 λr s'' hr=>by obtain⟨rfl,hr⟩:=hr; exact fin' s'' hr]
 ·exact absurd h.1 (by simp)
def fS {Q₁:EK->EN->Prop}{r:EU}{a b c:E5}{t u v:NA}{n:EV}(hh:A.handled=gV)(hr:Nv s.heap r a b c t u v)(hsmall:IV a b c=true)
  (hn:GB a b c=n) (hlen:n<=2 ^ 24)
  (h:∀(h':FN) (tk:EV) (acc:FM EK),(∀b o,s.heap.get? b=ba o->h'.get? b=ba o)->s.heap.objs.size<=h'.objs.size->JL (λi v=>∃t,v=.int (a+i*c) t) acc n->Q₁ (.ref h'.objs.size) { s with heap:=h'.push { cls:=.type "tuple",data:=.seq acc },toks:=tk }) :
  codeAny (model prog w) A (.call (.builtin "tuple.__new__") #[[.type "tuple",.ref r],[]]) (wants Q₁ E) s:=by
 show JW ?_;change wpAny _ A.in1 (do checkBuiltinCall "tuple.__new__" #[[.type "tuple",.ref r],[]]; again (.builtin "tuple.__new__" #[[.type "tuple",.ref r],[]])) _ _ s
 show EJ (Jq (F.newCall_tuple_1 _) (ET #[He F.plain_tuple_new _,F7 F.entry_tuple_new ?_]));rw[F0 F.plain_tuple_new _];have hsub:=PySem.sub_tuple_self;have hinit:=PySem.init_tuple_lookup;have hmh:=PySem.madeHere_tuple;have hTI:s.TypeIs (.ref r) "range":=#[_,hr,rfl];have hh1:A.in1.handled=gV:=by simp[hh]
 wp_walk using IW hTI,iS (A:=A.in1) hh1 hr hsmall hn hlen
 intro h' tk acc hk hle hacc;change wpAny _ _ (Gs acc.toList.toArray >>= λv=>ret v) _ _ _
 unfold Gs;show EJ (FW ?_ (by change acc.toList.toArray.size<=sizeLine; simp only[Array.toArray_toList]; rw[hacc.1,FX]; omega))
 show ET ?_;have e:acc.toList.toArray=acc:=by simp
 rw[e];exact h h' tk acc hk hle hacc
def fT {Q:EK->EN->Prop}{r:EU}{a b c:E5}{t u v:NA}{n:EV}(hh:A.handled=gV)(hr:Nv s.heap r a b c t u v)(hsmall:IV a b c=true)
  (hn:GB a b c=n) (hlen:n<=2 ^ 24)
  (hQ:∀(h':FN) (tk:EV) (acc:FM EK),(∀b o,s.heap.get? b=ba o->h'.get? b=ba o)->s.heap.objs.size<=h'.objs.size->JL (λi v=>∃t,v=.int (a+i*c) t) acc n->Q (.ref h'.objs.size) { s with heap:=h'.push { cls:=.type "tuple",data:=.seq acc },toks:=tk }) :
  wpAny (model prog w) A (call (.type "tuple") [.ref r]) Q E s:=by
 show callType_codes (Q₁:=λobj s₁=>s₁.TypeIs obj "tuple"/\Q obj s₁) F.called_tuple (F.typeCall_tuple_1 _) F.entry_object_init
  (fS (by simp[hh]) hr hsmall hn hlen λh' tk acc hk hle hacc=>#[#[_,EX _ rfl,rfl],hQ h' tk acc hk hle hacc]) λobj s₁ h₁=>?_
 exact#[h₁.1,F.args_object_init_2 obj _,object_init_meets F.called_tuple.init.lookup F.called_tuple.made #v[] prog w A.in1 _ s₁ #[h₁.1,rfl,h₁.2]]
end
section
variable{X:Cx}{J:EI (EU×Gm)}{Y:L2.St}{H:Hp}{s:EN}{A:EI EU}{S:aa}
def ke (hh:X.A.handled=gV):LCall X (.type "tuple") ii:=by
 intro J s Y H A S xs vs us w S' I so rl rv e;unfold ii at e;split at e
 ·rename_i i;split at e
  ·rename_i lo hi hr;split at e
   ·rename_i hb;cases e;obtain⟨a,ea,rfl⟩:=gO (xs:=[]) rl rv;obtain⟨b1,b2,b3,b4,b5⟩:=hb;have hH:H a=ba (.rng lo hi):=by
     unfold vQ at hr;split at hr
     ·rename_i hx; cases hr; exact so.obj i _ a hx ea
     ·cases hr
    obtain⟨t,u,v,ho⟩:=I.hok a _ hH;have hn:GB lo hi 1=((hi - lo).toNat:EV):=by rw[KF]; split <;> omega
    show fT hh ho (MO b1 b2 b3 b4) hn b5 λh' tk acc hk hle hacc=>?_
    have hv:Vals ((Gn (hi - lo).toNat).map λ(k:EV)=>V.int (lo+(k:E5))) acc.toList:=by
     show jY (by rw[ER,HQ,Fe,hacc.1]) λi v u e1 e2=>?_
     rw[E1,EQ]at e1;obtain⟨k,e1,rfl⟩:=e1;obtain⟨hk,rfl⟩:=E9.mp e1;obtain⟨t,rfl⟩:=hacc.2 i u (by rw[<- F3]; exact e2)
     exact#[t,by simp]
    have hnn:H h'.objs.size=gV:=I.hok.fresh hle;show#[.ref h'.objs.size,_,A,I.laid (a:=h'.objs.size) (o:=.tup ((Gn (hi - lo).toNat).map λ(k:EV)=>V.int (lo+(k:E5)))) (t':=tk) (λb o e=>EM _ (hk b o e)) hle #[#[by simpa using b5,NoD.new _ _ _],acc.toList,hv,?_],rfl,bp (.inl hnn),so.lay hnn,.tup (.inl (.inl az)) (jZ _)]
    exact#[_,EX _ rfl,rfl,0,by simp]
   ·cases e
  ·exact gl J s Y H A S _ vs us w S' I so rl rv e
 ·exact gl J s Y H A S _ vs us w S' I so rl rv e
def qc (hh:X.A.handled=gV)(hu:X.A.units+12 < cLine):LCall X (.builtin "min") vV:=by
 intro J s Y H A S xs vs us w S' I so rl rv e;cases rl with
 | nil=>cases e
 | cons r t=>
  cases t with
  | cons _ _=>cases r <;> cases e
  | nil=>
   cases rv with
   | cons ru rv2=>
    cases rv2;cases r with
    | ref ea=>
     dsimp only[vV]at e;split at e
     ·rename_i ws hw;split at e
      ·rename_i ks hk;split at e
       ·rename_i hc;rw[EQ]at e;obtain⟨w',e1,e2⟩:=e;cases e2;obtain⟨vs',h1,r1⟩:=aH so hw ea;obtain⟨its,rv1,p,hz⟩:=I.list h1;obtain rfl:_=FL _:=ru;have hws:T.ws ks=ws:=W.ts_w hk;have hT:IsTs s.heap ks its:=ee I ks (hws ▸ r1) rv1;have hl:its.length=ks.length:=hT.length.symm;have hlw:ws.length=ks.length:=by rw[r1.length,L2.Vals.length rv1,hl]
        have hn:0 < ks.length:=by
         have:=(E9.mp e1).1;omega
        show rZ (items:=its.toArray) (bt:=xV ks) hh p.isList (by simpa [hl]using hn) (λi j vi vj s' Q E hk' hi hj hq=>?_) λv h' tk hv hk'=>?_
        ·have hi':i < ks.length:=by
          have:=(GN.mp hi).1
          simpa [hl]using this
         have hj':j < ks.length:=by
          have:=(GN.mp hj).1
          simpa [hl]using this
         have g:=hT.kept (h':=s'.heap) λb o _ e=>hk' b o e
         have e1:vi=its[i]'∅:=by
          have:=(GN.mp hi).2
          simpa using this.symm
         have e2:vj=its[j]'∅:=by
          have:=(GN.mp hj).2
          simpa using this.symm
         subst e1 e2;have b1:=cJ (ks:=ks) i hi';have b2:=cJ (ks:=ks) j hj';exact zw cX _ _ _ _ X.A.in1 s' _ ∅ ∅ (g.get i hi' ∅) (g.get j hj' ∅) (by rw[aL]; unfold cX; omega) (sa hc.2 hi' hj') X.prog X.w _ _ hq
        ·have hv':its[mU ks]?=ba v:=by
          have:its.toArray.size=ks.length:=by simpa using hl
          rw[this]at hv
          simpa [mU]using hv
         obtain⟨v',q1,q2⟩:=r1.get e1;obtain⟨u',q3,q4⟩:=L2.Vals.get rv1 q1;rw[hv']at q3;cases q3;exact#[v',H,A,I.kept hk',q4,.refl,so,q2]
       ·cases e
      ·cases e
     ·cases e
    | _=>cases e
def jj:∀ {ws:EI W} {bs:EI Fk},dC ws=ba bs->ws=bs.map W.bl
 | [],bs,h=>by cases h; rfl
 | .bl b::ws,bs,h=>by
  (dsimp only[dC]at h; simp only[EQ]at h)
  obtain⟨r,h1,h2⟩:=h;subst h2;rw[jj h1]; rfl
 | .non::_,_,h|.int _::_,_,h|.str _::_,_,h|.tup _::_,_,h|.ref _::_,_,h=>by cases h
def mV {bs:EI Fk}{vs:EI V}{us:EI EK}(r:RelL X.K A H (bs.map W.bl) vs)(rv:Vals vs us):us=bs.map G4:=by
 induction bs generalizing vs us with
 | nil=>cases r; cases rv; rfl
 | cons b bs ih=>
  cases r with
  | cons r1 r2=>
   cases rv with
   | cons v1 v2=>
    cases r1;obtain rfl:_=G4 b:=v1;rw[ih r2 v2]; rfl
def qd (bs:EI Fk):(Gn bs.length).all (λi=>bs.getD i false)=bs.all id:=by
 induction bs with
 | nil=>rfl
 | cons b bs ih=>simp[JJ,Ln,Lu]at ih ⊢; rw[ih]
def zy {id:Gc}{fb:EI Fk->Fk}{g:EI W->aa->EO (W×aa)}(hg:∀xs S,g xs S=match xs with|[.ref i]=>(match dL S i with|some ws=>(dC ws).map λbs=>(.bl (fb bs),S)|none=>gV)|_=>gV)
  (hcall:∀ {s:EN} {x:EK} {Q:EK->EN->Prop} {E:EK->EN->Prop} {bs:EI Fk},wpAny (model X.prog X.w) X.A.in1 (pyIter x) (λit s₂=>∃I fp wr P St,it=.ref I/\NH X.prog X.w X.A.in1 I fp wr bs.length P St/\St 0 s₂.heap/\TruthOf X.prog X.w X.A.in1 P (λi=>bs.getD i false)/\
   ∀h' tk,(∀b o,b∉wr->s₂.heap.get? b=ba o->h'.get? b=ba o)->Q (.bool (fb bs)) { s₂ with heap:=h',toks:=tk }) E s->wpAny (model X.prog X.w) X.A (call (.builtin id) [x]) Q E s)
  (hh:X.A.handled=gV):LCall X (.builtin id) g:=by
 intro J s Y H A S xs vs us w S' I so rl rv e;rw[hg]at e;cases rl with
 | nil=>cases e
 | cons r t=>
  cases t with
  | cons _ _=>cases r <;> cases e
  | nil=>
   cases rv with
   | cons ru rv2=>
    cases rv2;cases r with
    | @ref ri ad ea=>
     simp only at e;split at e
     ·rename_i ws hw;rw[EQ]at e;obtain⟨bs,e1,e2⟩:=e;cases e2;obtain⟨vs',h1,r1⟩:=aH so hw ea;obtain⟨its,rv1,p,hz⟩:=I.list h1;obtain rfl:_=FL _:=ru;rw[jj e1]at r1;have hits:=mV r1 rv1;show hcall (bs:=bs) ?_;show HP p.isList ?_;have hlt:ad < s.heap.objs.size:=by obtain⟨_,ho,_⟩:=p.isList; exact E4 ho
      have W:=Mm (prog:=X.prog) (w:=X.w) (A:=X.A.in1) hh s.heap.objs.size ad (Fg hlt) its.toArray;have hsz:its.toArray.size=bs.length:=by rw[EY,hits,ER]
      rw[hsz]at W;show#[_,_,_,_,_,rfl,W,#[#[_,EX _ rfl,rfl,rfl],?_],λi v s' Q E hi hq=>?_,λh' tk hk=>?_]
      ·obtain⟨o,ho,hc⟩:=p.isList;exact#[o,EM _ ho,hc]
      ·have hb:bs[i]?.map G4=ba v:=by rw[<- E1,<- hits]; simpa using hi
       cases q:bs[i]? with
       | none=>rw[q]at hb; cases hb
       | some b=>
        rw[q]at hb;cases hb;have eb:bs.getD i false=b:=by simp[q]
        have hq:Q (bs.getD i false) s':=hq;rw[eb]at hq;exact Gj hq
      ·show#[.bl (fb bs),H,A,I.kept (λb o e=>hk b o (λz=>?_) (EM _ e)),rfl,.refl,so,.bl]
       have hb:=E4 e;rw[Fb.mp z]at hb;exact Gq _ hb
     ·cases e
    | _=>cases e
def qe (hh:X.A.handled=gV):LCall X (.builtin "all") vW:=
 zy (fb:=λbs=>bs.all id) (λxs S=>rfl) (λ{s x Q E bs} h=>call_all_walk (Gz h (λit s₂ #[I,fp,wr,P,St',a,b,c,d,f]=>#[I,fp,wr,_,P,St',_,a,b,c,d,λh' tk hk=>by rw[qd]; exact f h' tk hk]) λ_ _ e=>e)) hh
end
noncomputable abbrev FA:=Fm->aa->EO (EI W×aa)
noncomputable abbrev FT:=Fm->aa->EO (Fk×aa)
inductive Out where
 | nx (Z:Fm)|rt (w:W)|bk (Z:Fm)|ct (Z:Fm)
noncomputable abbrev FS:=Fm->aa->EO (Out×aa)
section
variable (X:Cx)
inductive tE (f:FE)(Y:L2.St)(H:Hp)(Q:VK):Prop
 | mk (A:EI EU) (Z:Fm) (S:aa) (w:W) (S':aa) (er:EnvRel X.K A H Z Y) (so:StoreOk X.w X.K A H S) (e:f Z S=ba (w,S')) (q:∀v H',EndV X.w X.K A H S' w v H'->Q v H'):tE f Y H Q
abbrev EndB (A:EI EU)(H:Hp)(S':aa)(k:Fk):Fk->Hp->Prop:=λb H'=>b=k/\∃A',Ext X.K A H A' H'/\StoreOk X.w X.K A' H' S'
inductive tT (f:FT)(Y:L2.St)(H:Hp)(Q:Fk->Hp->Prop):Prop
 | mk (A:EI EU) (Z:Fm) (S:aa) (k:Fk) (S':aa) (er:EnvRel X.K A H Z Y) (so:StoreOk X.w X.K A H S) (e:f Z S=ba (k,S')) (q:∀b H',EndB X A H S' k b H'->Q b H'):tT f Y H Q
inductive EndA (A:EI EU)(H:Hp)(S':aa)(ws:EI W)(vs:EI V)(H':Hp):Prop
 | mk (A':EI EU) (e:Ext X.K A H A' H') (so:StoreOk X.w X.K A' H' S') (r:RelL X.K A' H' ws vs):EndA A H S' ws vs H'
inductive tA (f:FA)(Y:L2.St)(H:Hp)(Q:EI V->Hp->Prop):Prop
 | mk (A:EI EU) (Z:Fm) (S:aa) (ws:EI W) (S':aa) (er:EnvRel X.K A H Z Y) (so:StoreOk X.w X.K A H S) (e:f Z S=ba (ws,S')) (q:∀vs H',EndA X A H S' ws vs H'->Q vs H'):tA f Y H Q
inductive EndF (A:EI EU)(H:Hp)(o:Out)(S':aa)(c:Fm->Out)(Y':L2.St)(H':Hp):Prop
 | mk (Z':Fm) (A':EI EU) (eo:o=c Z') (e:Ext X.K A H A' H') (so:StoreOk X.w X.K A' H' S') (er:EnvRel X.K A' H' Z' Y'):EndF A H o S' c Y' H'
inductive EndR (A:EI EU)(H:Hp)(o:Out)(S':aa)(v:V)(H':Hp):Prop
 | mk (w:W) (A':EI EU) (eo:o=.rt w) (e:Ext X.K A H A' H') (so:StoreOk X.w X.K A' H' S') (r:Rel X.K A' H' w v):EndR A H o S' v H'
abbrev EndS (A:EI EU)(H:Hp)(o:Out)(S':aa):Ends where
 nx:=EndF X A H o S' .nx
 rt:=EndR X A H o S'
 bk:=EndF X A H o S' .bk
 ct:=EndF X A H o S' .ct
structure Imp (E D:Ends):Prop where
 nx:∀Y H,E.nx Y H->D.nx Y H
 rt:∀v H,E.rt v H->D.rt v H
 bk:∀Y H,E.bk Y H->D.bk Y H
 ct:∀Y H,E.ct Y H->D.ct Y H
inductive tS (f:FS)(D:Ends)(Y:L2.St)(H:Hp):Prop
 | mk (A:EI EU) (Z:Fm) (S:aa) (o:Out) (S':aa) (er:EnvRel X.K A H Z Y) (so:StoreOk X.w X.K A H S) (e:f Z S=ba (o,S')) (d:Imp (EndS X A H o S') D):tS f D Y H
noncomputable abbrev GE (e:Fa)(f:FE):Prop:=PE X e (tE X f)
noncomputable abbrev GT (e:Fa)(f:FT):Prop:=PT X e (tT X f)
noncomputable abbrev GW (e:Fa)(f:FT):Prop:=PW X e (tT X f)
noncomputable abbrev GA (es:EI Fa)(f:FA):Prop:=PA X es (tA X f)
noncomputable abbrev GS (st:Hv)(f:FS):Prop:=PS X st (tS X f)
noncomputable abbrev GSs (sts:EI Hv)(f:FS):Prop:=PSs X sts (tS X f)
end
def Imp.trans {E D F:Ends}(a:Imp E D)(b:Imp D F):Imp E F:=#[λ_ _ h=>b.nx _ _ (a.nx _ _ h),λ_ _ h=>b.rt _ _ (a.rt _ _ h),λ_ _ h=>b.bk _ _ (a.bk _ _ h),λ_ _ h=>b.ct _ _ (a.ct _ _ h)]
section
variable{X:Cx}
def GE.of {e:Fa}{t:TE}{f:FE}(h:PE X e t)(hf:∀(Y:L2.St) (H:Hp) (A:EI EU) (Z:Fm) (S:aa) (w:W) (S':aa),EnvRel X.K A H Z Y->StoreOk X.w X.K A H S->f Z S=ba (w,S')->∀Q:VK,(∀v H',EndV X.w X.K A H S' w v H'->Q v H')->t Y H Q):GE X e f:=
 λJ s Y H Q I #[A,Z,S,w,S',er,so,e1,hq]=>h J s Y H Q I (hf Y H A Z S w S' er so e1 Q hq)
def GT.of {e:Fa}{t:TT}{f:FT}(h:PT X e t)(hf:∀(Y:L2.St) (H:Hp) (A:EI EU) (Z:Fm) (S:aa) (k:Fk) (S':aa),EnvRel X.K A H Z Y->StoreOk X.w X.K A H S->f Z S=ba (k,S')->∀Q:Fk->Hp->Prop,(∀b H',EndB X A H S' k b H'->Q b H')->t Y H Q):GT X e f:=
 λJ s Y H Q I #[A,Z,S,w,S',er,so,e1,hq]=>h J s Y H Q I (hf Y H A Z S w S' er so e1 Q hq)
def GW.of {e:Fa}{t:TT}{f:FT}(h:PW X e t)(hf:∀(Y:L2.St) (H:Hp) (A:EI EU) (Z:Fm) (S:aa) (k:Fk) (S':aa),EnvRel X.K A H Z Y->StoreOk X.w X.K A H S->f Z S=ba (k,S')->∀Q:Fk->Hp->Prop,(∀b H',EndB X A H S' k b H'->Q b H')->t Y H Q):GW X e f:=
 λwh J s Y H Q I #[A,Z,S,w,S',er,so,e1,hq]=>h wh J s Y H Q I (hf Y H A Z S w S' er so e1 Q hq)
def GA.of {es:EI Fa}{t:TA}{f:FA}(h:PA X es t)(hf:∀(Y:L2.St) (H:Hp) (A:EI EU) (Z:Fm) (S:aa) (ws:EI W) (S':aa),EnvRel X.K A H Z Y->StoreOk X.w X.K A H S->f Z S=ba (ws,S')->∀Q:EI V->Hp->Prop,(∀vs H',EndA X A H S' ws vs H'->Q vs H')->t Y H Q):GA X es f:=
 λpos J s Y H Q I #[A,Z,S,w,S',er,so,e1,hq]=>h pos J s Y H Q I (hf Y H A Z S w S' er so e1 Q hq)
def GS.of {st:Hv}{t:TS}{f:FS}(h:PS X st t)(hf:∀(Y:L2.St) (H:Hp) (A:EI EU) (Z:Fm) (S:aa) (o:Out) (S':aa),EnvRel X.K A H Z Y->StoreOk X.w X.K A H S->f Z S=ba (o,S')->∀D:Ends,Imp (EndS X A H o S') D->t D Y H):GS X st f:=
 λJ s Y H D I #[A,Z,S,o,S',er,so,e1,hq]=>h J s Y H D I (hf Y H A Z S o S' er so e1 D hq)
def GSs.of {st:EI Hv}{t:TS}{f:FS}(h:PSs X st t)(hf:∀(Y:L2.St) (H:Hp) (A:EI EU) (Z:Fm) (S:aa) (o:Out) (S':aa),EnvRel X.K A H Z Y->StoreOk X.w X.K A H S->f Z S=ba (o,S')->∀D:Ends,Imp (EndS X A H o S') D->t D Y H):GSs X st f:=
 λJ s Y H D I #[A,Z,S,o,S',er,so,e1,hq]=>h J s Y H D I (hf Y H A Z S o S' er so e1 D hq)
def EndV.after {A A1:EI EU}{H H1:Hp}{S':aa}{w:W}{v:V}{H':Hp}(e:Ext X.K A H A1 H1)(h:EndV X.w X.K A1 H1 S' w v H'):EndV X.w X.K A H S' w v H':=by
 obtain⟨A',x,y,z⟩:=h;exact#[A',e.trans x,y,z]
def EndB.after {A A1:EI EU}{H H1:Hp}{S':aa}{k b:Fk}{H':Hp}(e:Ext X.K A H A1 H1)(h:EndB X A1 H1 S' k b H'):EndB X A H S' k b H':=by
 obtain⟨h1,A',x,y⟩:=h;exact#[h1,A',e.trans x,y]
def EndS.after {A A1:EI EU}{H H1:Hp}{S':aa}{o:Out}(e:Ext X.K A H A1 H1):Imp (EndS X A1 H1 o S') (EndS X A H o S'):=
 #[λ_ _ #[Z',A',a,b,c,d]=>#[Z',A',a,e.trans b,c,d],λ_ _ #[Z',A',a,b,c,d]=>#[Z',A',a,e.trans b,c,d],λ_ _ #[Z',A',a,b,c,d]=>#[Z',A',a,e.trans b,c,d],λ_ _ #[Z',A',a,b,c,d]=>#[Z',A',a,e.trans b,c,d]]
abbrev fC (w:W):FE:=λ_ S=>ba (w,S)
abbrev fV (i:EV):FE:=λZ S=>match Z[i]? with
 | some (ba w)=>ba (w,S)
 | _=>gV
def kh {e:Fa}{v:V}{w:W}(h:PE X e (tC v))(r:∀A H,Rel X.K A H w v):GE X e (fC w):=
 GE.of h λY H A Z S w' S' er so e Q hq=>by cases e; exact hq _ _ (.here so (r A H))
def DE {i:EV}{e:Fa}(h:PE X e (yD i)):GE X e (fV i):=GE.of h λY H A Z S w S' er so e Q hq=>by
 unfold fV at e;split at e
 ·rename_i w' hw;cases e;obtain⟨v,h1,h2⟩:=er.2 i _ hw;exact#[v,h1,hq _ _ (.here so h2)]
 ·cases e
abbrev vX (g:W->W->aa->EO (W×aa))(fa fb:FE):FE:=λZ S=>match fa Z S with
 | some (x,S1)=>match fb Z S1 with
  | some (y,S2)=>g x y S2
  | none=>gV
 | none=>gV
def CT {fa fb:FE}{g:W->W->aa->EO (W×aa)}{Z:Fm}{S:aa}{r:W×aa}(e:vX g fa fb Z S=ba r):∃x S1 y S2,fa Z S=ba (x,S1)/\fb Z S1=ba (y,S2)/\g x y S2=ba r:=by
 unfold vX at e;split at e
 ·rename_i x S1 h1;split at e
  ·rename_i y S2 h2;exact#[x,S1,y,S2,h1,h2,e]
  ·cases e
 ·cases e
def dW {fa fb:FE}{Z:Fm}{S S1 S2:aa}{x y:W}{Y:L2.St}{H:Hp}{A:EI EU}{R:V->V->Hp->Prop}(er:EnvRel X.K A H Z Y)(so:StoreOk X.w X.K A H S)(h1:fa Z S=ba (x,S1))(h2:fb Z S1=ba (y,S2))
  (h:∀a b H2 A2,Ext X.K A H A2 H2->StoreOk X.w X.K A2 H2 S2->Rel X.K A2 H2 x a->Rel X.K A2 H2 y b->R a b H2):tE X fa Y H λa H1=>tE X fb Y H1 λb H2=>R a b H2:=by
 show#[A,Z,S,x,S1,er,so,h1,λa H1 #[A1,e1,o1,r1]=>?_]
 show#[A1,Z,S1,y,S2,er.mono e1,o1,h2,λb H2 #[A2,e2,o2,r2]=>?_]
 exact h a b H2 A2 (e1.trans e2) o2 (r1.mono e2) r2
inductive rOp (X:Cx)(g:W->W->aa->EO (W×aa))(a b:V)(H:Hp)(Q:VK):Prop
 | mk (A:EI EU) (S:aa) (x y w:W) (S':aa) (so:StoreOk X.w X.K A H S) (rx:Rel X.K A H x a) (ry:Rel X.K A H y b) (e:g x y S=ba (w,S')) (q:∀v H',EndV X.w X.K A H S' w v H'->Q v H'):rOp X g a b H Q
inductive rCall (X:Cx)(g:EI W->aa->EO (W×aa))(vs:EI V)(H:Hp)(Q:VK):Prop
 | mk (A:EI EU) (S:aa) (ws:EI W) (w:W) (S':aa) (so:StoreOk X.w X.K A H S) (rl:RelL X.K A H ws vs) (e:g ws S=ba (w,S')) (q:∀v H',EndV X.w X.K A H S' w v H'->Q v H'):rCall X g vs H Q
def LOp.opr {f:EK->EK->MR EK}{g:W->W->aa->EO (W×aa)}(h:LOp X f g):OpR X f (rOp X g):=by
 intro J s Y H a b u v Q I ru rv ⟨A,S,x,y,w,S',so,rx,ry,e,hq⟩;exact aK (h J s Y H A S x y a b u v w S' I so rx ru ry rv e) λu' s' #[v',H',A',I',r',e1,o1,z1]=>#[v',H',I',r',hq v' H' #[A',e1,o1,z1]]
def xW {a b:Fa}{op:Le}{pos:G5}{fa fb:FE}{g:W->W->aa->EO (W×aa)}(ho:LOp X (binaryOp op) g)(ha:GE X a fa)(hb:GE X b fb):GE X (.BinOp a op b pos) (vX g fa fb):=
 GE.of (Bd ho.opr ha hb) λY H A Z S w S' er so e Q hq=>by
  obtain⟨x,S1,y,S2,h1,h2,h3⟩:=CT e;exact dW er so h1 h2 λa b H2 A2 e2 o2 r1 r2=>#[A2,S2,x,y,w,S',o2,r1,r2,h3,λv H' z=>hq v H' (z.after e2)]
abbrev se (fa:FE):FE:=λZ S=>match fa Z S with
 | some (.int i,S1)=>ba (.int (-i),S1)
 | _=>gV
def sf {a:Fa}{pos:G5}{fa:FE}(ha:GE X a fa):GE X (.UnaryOp .USub a pos) (se fa):=
 GE.of (Be y8 ha) λY H A Z S w S' er so e Q hq=>by
  unfold se at e;split at e
  ·rename_i i S1 h1;cases e;show#[A,Z,S,_,_,er,so,h1,λv H1 #[A1,e1,o1,r1]=>?_]
   cases r1;exact#[_,rfl,hq _ _ #[A1,e1,o1,.int]]
  ·cases e
abbrev vY (o:COp)(fa fb:FE):FE:=vX (cV o) fa fb
def zz {a b:Fa}{o:COp}{pos:G5}{fa fb:FE}(hu:X.A.units+dA < cLine)(ha:GE X a fa)(hb:GE X b fb)(hm:behindInMarks o.py b=false):GE X (.Compare a [o.py] [b] pos) (vY o fa fb):=
 GE.of (vd (lw hu o).opr ha hb hm) λY H A Z S w S' er so e Q hq=>by
  obtain⟨x,S1,y,S2,h1,h2,h3⟩:=CT e;exact dW er so h1 h2 λa b H2 A2 e2 o2 r1 r2=>#[A2,S2,x,y,w,S',o2,r1,r2,h3,λv H' z=>hq v H' (z.after e2)]
abbrev lD (f:FE):FT:=λZ S=>match f Z S with
 | some (.bl k,S')=>ba (k,S')
 | _=>gV
def zA {a b:Fa}{o:COp}{pos:G5}{fa fb:FE}(hu:X.A.units+dA < cLine)(ha:GE X a fa)(hb:GE X b fb)(hm:behindInMarks o.py b=false):GT X (.Compare a [o.py] [b] pos) (lD (vY o fa fb)):=
 GT.of (ve (lw hu o).opr ha hb hm) λY H A Z S k S' er so e Q hq=>by
  unfold lD at e;split at e
  ·rename_i k' S'' h0;cases e;obtain⟨x,S1,y,S2,h1,h2,h3⟩:=CT h0;show dW er so h1 h2 λa b H2 A2 e2 o2 r1 r2=>#[A2,S2,x,y,_,_,o2,r1,r2,h3,λv H' #[A',z1,z2,z3]=>?_]
   cases z3;exact#[k,rfl,hq _ _ #[rfl,A',e2.trans z1,z2]]
  ·cases e
abbrev dX (o o':COp)(fa fb fc:FE):FE:=λZ S=>match fa Z S with
 | some (x,S1)=>match fb Z S1 with
  | some (y,S2)=>match vN o x y S2 with
   | some true=>match fc Z S2 with
    | some (z,S3)=>dq o' y z S3
    | none=>gV
   | some false=>ba (.bl false,S2)
   | none=>gV
  | none=>gV
 | none=>gV
def ik {o o':COp}{fa fb fc:FE}{Y:L2.St}{H:Hp}{A:EI EU}{Z:Fm}{S:aa}{w:W}{S':aa}(er:EnvRel X.K A H Z Y)(so:StoreOk X.w X.K A H S)(e:dX o o' fa fb fc Z S=ba (w,S'))(Q:VK)(hq:∀v H',EndV X.w X.K A H S' w v H'->Q v H') :
  mB (rOp X (dq o))
   (rOp X (dq o')) (tE X fa) (tE X fb) (tE X fc) Y H Q:=by
 unfold dX at e;split at e
 ·rename_i x S1 h1;split at e
  ·rename_i y S2 h2;show dW er so h1 h2 λa b H2 A2 e2 o2 r1 r2=>?_
   split at e
   ·rename_i hc;split at e
    ·rename_i z S3 h3;show#[A2,S2,x,y,.bl true,S2,o2,r1,r2,by simp[dq,hc],λv H3 #[A3,z1,z2,z3]=>?_]
     cases z3;show#[true,rfl,?_];rw[Fi rfl];show#[A3,Z,S2,z,S3,er.mono (e2.trans z1),z2,h3,λc H4 #[A4,y1,y2,y3]=>?_]
     exact#[A4,S3,y,z,w,S',y2,(r2.mono z1).mono y1,y3,e,λv H' q=>hq v H' (q.after ((e2.trans z1).trans y1))]
    ·cases e
   ·rename_i hc;cases e;show#[A2,S',x,y,.bl false,S',o2,r1,r2,by simp[dq,hc],λv H3 #[A3,z1,z2,z3]=>?_]
    cases z3;show#[false,rfl,?_];rw[FJ E8];exact hq _ _ #[A3,e2.trans z1,z2,.bl]
   ·cases e
  ·cases e
 ·cases e
def sg {a b c:Fa}{o o':COp}{pos:G5}{fa fb fc:FE}(hu:X.A.units+dA < cLine)(ha:GE X a fa)(hb:GE X b fb)(hc:GE X c fc)(hm:lastMarks [o.py,o'.py] [b,c]=false):GE X (.Compare a [o.py,o'.py] [b,c] pos) (dX o o' fa fb fc):=
 GE.of (qZ (eW hu o).opr (eW hu o').opr ha hb hc hm) λY H A Z S w S' er so e Q hq=>ik er so e Q hq
def sh {a b c:Fa}{o o':COp}{pos:G5}{fa fb fc:FE}(hu:X.A.units+dA < cLine)(ha:GE X a fa)(hb:GE X b fb)(hc:GE X c fc)(hm:lastMarks [o.py,o'.py] [b,c]=false):GT X (.Compare a [o.py,o'.py] [b,c] pos) (lD (dX o o' fa fb fc)):=
 GT.of (q8 (eW hu o).opr (eW hu o').opr ha hb hc hm) λY H A Z S k S' er so e Q hq=>by
  unfold lD at e;split at e
  ·rename_i k' S'' h0;cases e;show ik er so h0 (λx H'=>∃k,x=.bl k/\Q k H') λv H' #[A',z1,z2,z3]=>?_
   cases z3;exact#[_,rfl,hq _ _ #[rfl,A',z1,z2]]
  ·cases e
abbrev dY (f:FE):FT:=λZ S=>match f Z S with
 | some (w,S')=>(dB S' w).map λk=>(k,S')
 | none=>gV
def bj {e:Fa}{f:FE}(h:GE X e f)(he:∀whole,isTrue e X.env whole=(do let v <- whole; standAt e.pos; holding [v] (truthy v))):GT X e (dY f):=by
 intro J s Y H Q I ⟨A,Z,S,k,S',er,so,e1,hq⟩;unfold dY at e1;split at e1
 ·rename_i w S1 h1;rw[EQ]at e1;obtain⟨k',ek,e2⟩:=e1;cases e2;show isTrue_plain (aK (h J s Y H (EndV X.w X.K A H _ w) I #[A,Z,S,w,_,er,so,h1,λ_ _ z=>z]) λv s1 #[x,H1,I1,r1,A1,e1,o1,z1]=>?_) (he _)
  exact DB I1 o1 z1 r1 ek λs' I'=>#[H1,I',hq _ _ #[rfl,A1,e1,o1]]
 ·cases e1
abbrev si (f g:FT):FT:=λZ S=>match f Z S with
 | some (true,S1)=>g Z S1
 | some (false,S1)=>ba (false,S1)
 | none=>gV
abbrev BA (f g:FT):FT:=λZ S=>match f Z S with
 | some (true,S1)=>ba (true,S1)
 | some (false,S1)=>g Z S1
 | none=>gV
abbrev vZ (f:FT):FT:=λZ S=>match f Z S with
 | some (k,S1)=>ba (!k,S1)
 | none=>gV
def sj {f g:FT}{Y:L2.St}{H:Hp}{A:EI EU}{Z:Fm}{S:aa}{k:Fk}{S':aa}(er:EnvRel X.K A H Z Y)(so:StoreOk X.w X.K A H S)(e:si f g Z S=ba (k,S'))(Q:Fk->Hp->Prop)(hq:∀b H',EndB X A H S' k b H'->Q b H') :
  AR (tT X f) (tT X g) Y H Q:=by
 unfold si at e;split at e
 ·rename_i S1 h1;show#[A,Z,S,true,S1,er,so,h1,λb H1 #[z0,A1,z1,z2]=>?_]
  subst z0;rw[Fi rfl];exact#[A1,Z,S1,k,S',er.mono z1,z2,e,λb H' q=>hq b H' (q.after z1)]
 ·rename_i S1 h1;cases e;show#[A,Z,S,false,_,er,so,h1,λb H1 #[z0,A1,z1,z2]=>?_]
  subst z0;rw[FJ E8];exact hq _ _ #[rfl,A1,z1,z2]
 ·cases e
def v6 {f g:FT}{Y:L2.St}{H:Hp}{A:EI EU}{Z:Fm}{S:aa}{k:Fk}{S':aa}(er:EnvRel X.K A H Z Y)(so:StoreOk X.w X.K A H S)(e:BA f g Z S=ba (k,S'))(Q:Fk->Hp->Prop)(hq:∀b H',EndB X A H S' k b H'->Q b H') :
  Ea (tT X f) (tT X g) Y H Q:=by
 unfold BA at e;split at e
 ·rename_i S1 h1;cases e;show#[A,Z,S,true,_,er,so,h1,λb H1 #[z0,A1,z1,z2]=>?_]
  subst z0;rw[Fi rfl];exact hq _ _ #[rfl,A1,z1,z2]
 ·rename_i S1 h1;show#[A,Z,S,false,S1,er,so,h1,λb H1 #[z0,A1,z1,z2]=>?_]
  subst z0;rw[FJ E8];exact#[A1,Z,S1,k,S',er.mono z1,z2,e,λb H' q=>hq b H' (q.after z1)]
 ·cases e
def wa {a:Fa}{pos:G5}{f:FT}(h:GT X a f):GW X (.BoolOp .And [a] pos) f:=uY h
def zB {a:Fa}{pos:G5}{f:FT}(h:GT X a f):GW X (.BoolOp .Or [a] pos) f:=yE h
def zC {a b:Fa}{r:EI Fa}{pos:G5}{f g:FT}(h:GT X a f)(h2:GW X (.BoolOp .And (b::r) pos) g):GW X (.BoolOp .And (a::b::r) pos) (si f g):=
 GW.of (yF h h2) λY H A Z S k S' er so e Q hq=>sj er so e Q hq
def BB {a b:Fa}{r:EI Fa}{pos:G5}{f g:FT}(h:GT X a f)(h2:GW X (.BoolOp .Or (b::r) pos) g):GW X (.BoolOp .Or (a::b::r) pos) (BA f g):=
 GW.of (AS h h2) λY H A Z S k S' er so e Q hq=>v6 er so e Q hq
def zD {a:Fa}{pos:G5}{f:FT}(h:GT X a f):GT X (.UnaryOp .Not a pos) (vZ f):=
 GT.of (yG h) λY H A Z S k S' er so e Q hq=>by
  unfold vZ at e;split at e
  ·rename_i k1 S1 h1;cases e;show#[A,Z,S,k1,_,er,so,h1,λb H1 #[z0,A1,z1,z2]=>?_]
   subst z0;exact hq _ _ #[rfl,A1,z1,z2]
  ·cases e
abbrev oh (f g:FE):FE:=λZ S=>match f Z S with
 | some (.bl true,S1)=>g Z S1
 | some (.bl false,S1)=>ba (.bl false,S1)
 | _=>gV
abbrev wb (f g:FE):FE:=λZ S=>match f Z S with
 | some (.bl true,S1)=>ba (.bl true,S1)
 | some (.bl false,S1)=>g Z S1
 | _=>gV
abbrev ol (f:FE):FE:=λZ S=>match f Z S with
 | some (.bl k,S1)=>ba (.bl (!k),S1)
 | _=>gV
def zE {a:Fa}{op:Nm}{pos:G5}{f:FE}(h:GE X a f):GE X (.BoolOp op [a] pos) f:=yH h
def zF {a b:Fa}{r:EI Fa}{pos:G5}{f g:FE}(h:GE X a f)(h2:GE X (.BoolOp .And (b::r) pos) g):GE X (.BoolOp .And (a::b::r) pos) (oh f g):=
 GE.of (yI h h2) λY H A Z S w S' er so e Q hq=>by
  unfold oh at e;split at e
  ·rename_i S1 h1;show#[A,Z,S,_,S1,er,so,h1,λv H1 #[A1,z1,z2,z3]=>?_]
   cases z3;show#[true,rfl,?_];rw[Fi rfl];exact#[A1,Z,S1,w,S',er.mono z1,z2,e,λb H' q=>hq b H' (q.after z1)]
  ·rename_i S1 h1;cases e;show#[A,Z,S,_,_,er,so,h1,λv H1 #[A1,z1,z2,z3]=>?_]
   cases z3;show#[false,rfl,?_];rw[FJ E8];exact hq _ _ #[A1,z1,z2,.bl]
  ·cases e
def BC {a b:Fa}{r:EI Fa}{pos:G5}{f g:FE}(h:GE X a f)(h2:GE X (.BoolOp .Or (b::r) pos) g):GE X (.BoolOp .Or (a::b::r) pos) (wb f g):=
 GE.of (AV h h2) λY H A Z S w S' er so e Q hq=>by
  unfold wb at e;split at e
  ·rename_i S1 h1;cases e;show#[A,Z,S,_,_,er,so,h1,λv H1 #[A1,z1,z2,z3]=>?_]
   cases z3;show#[true,rfl,?_];rw[Fi rfl];exact hq _ _ #[A1,z1,z2,.bl]
  ·rename_i S1 h1;show#[A,Z,S,_,S1,er,so,h1,λv H1 #[A1,z1,z2,z3]=>?_]
   cases z3;show#[false,rfl,?_];rw[FJ E8];exact#[A1,Z,S1,w,S',er.mono z1,z2,e,λb H' q=>hq b H' (q.after z1)]
  ·cases e
def zG {a:Fa}{pos:G5}{f:FE}(h:GE X a f):GE X (.UnaryOp .Not a pos) (ol f):=
 GE.of (yJ h) λY H A Z S w S' er so e Q hq=>by
  unfold ol at e;split at e
  ·rename_i k1 S1 h1;cases e;show#[A,Z,S,_,_,er,so,h1,λb H1 #[A1,z1,z2,z3]=>?_]
   cases z3;exact#[_,rfl,hq _ _ #[A1,z1,z2,.bl]]
  ·cases e
abbrev wc (c:FT)(f g:FE):FE:=λZ S=>match c Z S with
 | some (true,S1)=>f Z S1
 | some (false,S1)=>g Z S1
 | none=>gV
def zH {c a b:Fa}{pos:G5}{fc:FT}{f g:FE}(hc:GT X c fc)(ha:GE X a f)(hb:GE X b g):GE X (.IfExp c a b pos) (wc fc f g):=
 GE.of (qT hc ha hb) λY H A Z S w S' er so e Q hq=>by
  unfold wc at e;split at e
  ·rename_i S1 h1;show#[A,Z,S,_,S1,er,so,h1,λb H1 #[z0,A1,z1,z2]=>?_]
   subst z0;rw[Fi rfl];exact#[A1,Z,S1,w,S',er.mono z1,z2,e,λb H' q=>hq b H' (q.after z1)]
  ·rename_i S1 h1;show#[A,Z,S,_,S1,er,so,h1,λb H1 #[z0,A1,z1,z2]=>?_]
   subst z0;rw[FJ E8];exact#[A1,Z,S1,w,S',er.mono z1,z2,e,λb H' q=>hq b H' (q.after z1)]
  ·cases e
abbrev eN:FA:=λ_ S=>ba ([],S)
abbrev b9 (f:FE)(g:FA):FA:=λZ S=>match f Z S with
 | some (w,S1)=>match g Z S1 with
  | some (ws,S2)=>ba (w::ws,S2)
  | none=>gV
 | none=>gV
def sm:GA X [] eN:=GA.of q9 λY H A Z S ws S' er so e Q hq=>by cases e; exact hq _ _ #[A,.refl,so,.nil]
def om {e:Fa}{es:EI Fa}{f:FE}{g:FA}(h:GE X e f)(h2:GA X es g)(hs:starEach (e::es) X.env=(false,eval e X.env)::starEach es X.env):GA X (e::es) (b9 f g):=
 GA.of (jK h h2 hs) λY H A Z S ws S' er so e Q hq=>by
  unfold b9 at e;split at e
  ·rename_i w S1 h1;split at e
   ·rename_i ws2 S2 h2;cases e;show#[A,Z,S,w,S1,er,so,h1,λv H1 #[A1,z1,z2,z3]=>?_]
    show#[A1,Z,S1,ws2,_,er.mono z1,z2,h2,λvs H2 #[A2,y1,y2,y3]=>?_]
    exact hq _ _ #[A2,z1.trans y1,y2,.cons (z3.mono y1) y3]
   ·cases e
  ·cases e
abbrev sn (f:FA):FE:=λZ S=>match f Z S with
 | some (ws,S1)=>mK S1 ws
 | none=>gV
abbrev sr (f:FA):FE:=λZ S=>match f Z S with
 | some (ws,S1)=>gZ S1 ws
 | none=>gV
def su {es:EI Fa}{k:EV}{pos:G5}{f:FA}(h:GA X es f):GE X (.Tuple es k pos) (sn f):=
 GE.of (ze h) λY H A Z S w S' er so e Q hq=>by
  unfold sn at e;split at e
  ·rename_i ws S1 h1;obtain⟨hl,rfl,rfl⟩:=nP e;show#[A,Z,S,ws,_,er,so,h1,λvs H1 #[A1,z1,z2,z3]=>#[by rw[<- z3.length]; exact hl,λp hp=>?_]]
   exact hq _ _ (EndV.after z1 (.tup z2 z3 hp))
  ·cases e
def sv {es:EI Fa}{pos:G5}{f:FA}(h:GA X es f):GE X (.List es pos) (sr f):=
 GE.of (zf h) λY H A Z S w S' er so e Q hq=>by
  unfold sr at e;split at e
  ·rename_i ws S1 h1;obtain⟨hl,rfl,rfl⟩:=gM e;show#[A,Z,S,ws,_,er,so,h1,λvs H1 #[A1,z1,z2,z3]=>#[by rw[<- z3.length]; exact hl,λp hp=>?_]]
   exact hq _ _ (EndV.after z1 (.lst z2 z3 hp))
  ·cases e
abbrev gq (g:EI W->aa->EO (W×aa))(f:FA):FE:=λZ S=>match f Z S with
 | some (ws,S1)=>g ws S1
 | none=>gV
def LCall.callr {v:EK}{g:EI W->aa->EO (W×aa)}(h:LCall X v g):CallR X v (rCall X g):=by
 intro J s Y H vs us Q I rv ⟨A,S,ws,w,S',so,rl,e,hq⟩;exact aK (h J s Y H A S ws vs us w S' I so rl rv e) λu' s' #[v',H',A',I',r',e1,o1,z1]=>#[v',H',I',r',hq v' H' #[A',e1,o1,z1]]
def jk {g:EI W->aa->EO (W×aa)}{f:FA}{Y:L2.St}{H:Hp}{A:EI EU}{Z:Fm}{S:aa}{w:W}{S':aa}(er:EnvRel X.K A H Z Y)(so:StoreOk X.w X.K A H S)(e:gq g f Z S=ba (w,S'))(Q:VK)(hq:∀v H',EndV X.w X.K A H S' w v H'->Q v H') :
  tA X f Y H λvs H1=>rCall X g vs H1 Q:=by
 unfold gq at e;split at e
 ·rename_i ws S1 h1;exact#[A,Z,S,ws,S1,er,so,h1,λvs H1 #[A1,z1,z2,z3]=>#[A1,S1,ws,w,S',z2,z3,e,λv H' q=>hq v H' (q.after z1)]]
 ·cases e
def on {id:Gc}{x:E3}{e:Fa}{es:EI Fa}{p pos:G5}{f:FA}{g:EI W->aa->EO (W×aa)}(hc:LCall X (.builtin id) g)(hg:Gl X x)(hm:X.mg x=gV)(hv:bootBuiltins x=ba (.builtin id))(ha:GA X (e::es) f)
  (hn:x≠"__name__") (hdb:(x==("__debug__" : E3))=false) (hs:starEach (e::es) X.env=(false,eval e X.env)::starEach es X.env) (hpl:(backTo pos (starEach es X.env)).any (·.1)=false):GE X (.Call (.Name x p) (e::es) [] pos) (gq g f):=
 GE.of (kR hc.callr hg hm hv ha hn hdb hs hpl) λY H A Z S w S' er so e Q hq=>jk er so e Q hq
def lE {id:Gc}{x:E3}{e:Fa}{es:EI Fa}{p pos:G5}{f:FA}{g:EI W->aa->EO (W×aa)}(hc:LCall X (.type id) g)(hg:Gl X x)(hm:X.mg x=gV)(hv:bootBuiltins x=ba (.type id))(ha:GA X (e::es) f)
  (hn:x≠"__name__") (hdb:(x==("__debug__" : E3))=false) (hs:starEach (e::es) X.env=(false,eval e X.env)::starEach es X.env) (hpl:(backTo pos (starEach es X.env)).any (·.1)=false):GE X (.Call (.Name x p) (e::es) [] pos) (gq g f):=
 GE.of (pG hc.callr hg hm hv ha hn hdb hs hpl) λY H A Z S w S' er so e Q hq=>jk er so e Q hq
end
abbrev tyOk (T:Gc)(S:aa):W->Fk
 | .str _=>T == "str"
 | .tup _=>T == "tuple"
 | .ref i=>(T == "list" && (dL S i).isSome)||(T == "dict" && (gH S i).isSome)
 | _=>false
abbrev xX (T:Gc)(g:W->EI W->aa->EO (W×aa))(fo:FE)(f:FA):FE:=λZ S=>match fo Z S with
 | some (x,S1)=>if tyOk T S1 x then match f Z S1 with
  | some (ws,S2)=>g x ws S2
  | none=>gV
  else gV
 | none=>gV
abbrev DF (fa fb:FE):FE:=vX mr fa fb
noncomputable abbrev FO:=Fm->aa->EO (EO E5×aa)
abbrev zI:FO:=λ_ S=>ba (gV,S)
abbrev oo (f:FE):FO:=λZ S=>match f Z S with
 | some (.int i,S1)=>ba (ba i,S1)
 | _=>gV
abbrev BE (fa:FE)(fl fh:FO):FE:=λZ S=>match fa Z S with
 | some (x,S1)=>match fl Z S1 with
  | some (lo,S2)=>match fh Z S2 with
   | some (hi,S3)=>la x lo hi S3
   | none=>gV
  | none=>gV
 | none=>gV
section
variable{X:Cx}
inductive rMeth (X:Cx)(g:W->EI W->aa->EO (W×aa))(a:V)(vs:EI V)(H:Hp)(Q:VK):Prop
 | mk (A:EI EU) (S:aa) (x:W) (ws:EI W) (w:W) (S':aa) (so:StoreOk X.w X.K A H S) (rx:Rel X.K A H x a) (rl:RelL X.K A H ws vs) (e:g x ws S=ba (w,S')) (q:∀v H',EndV X.w X.K A H S' w v H'->Q v H'):rMeth X g a vs H Q
def LMeth.mtr {id:Gc}{g:W->EI W->aa->EO (W×aa)}(h:LMeth X id g):MtR X id (rMeth X g):=by
 intro J s Y H a vs u us Q I ru rv ⟨A,S,x,ws,w,S',so,rx,rl,e,hq⟩;exact aK (h J s Y H A S x a u ws vs us w S' I so rx ru rl rv e) λu' s' #[v',H',A',I',r',e1,o1,z1]=>#[v',H',I',r',hq v' H' #[A',e1,o1,z1]]
def zJ {J:EI (EU×Gm)}{Y:L2.St}{s:EN}{H:Hp}{a:EU}{xs:EI V}(I:Inv X J Y H s)(h:SqT X.K H a xs):s.TypeIs (.ref a) "tuple"/\∃o,s.heap.get? a=ba o/\o.dict=gV:=by
 rcases h with h|⟨o,its,n,hk,hc,hd,_⟩
 ·obtain⟨z,its,r,p⟩:=h.ok I.hok;exact#[p.typeIs,z.2]
 ·exact#[#[o,I.kIn a o hk,hc],o,I.kIn a o hk,hd]
def tyOk.is {J:EI (EU×Gm)}{Y:L2.St}{s:EN}{A:EI EU}{H:Hp}{S:aa}{T:Gc}{x:W}{a:V}{v:EK}(I:Inv X J Y H s)(so:StoreOk X.w X.K A H S)(r:Rel X.K A H x a)(rv:RelV a v)(h:tyOk T S x=true) :
  s.TypeIs v T/\∀b,v=.ref b->∃ob,s.heap.get? b=ba ob/\ob.dict=gV:=by
 cases r with
 | str=>exact rq I rv (show Dw X.K T (.str _) H from eq_of_beq h)
 | tup hq r1=>
  obtain⟨h1,h2⟩:=zJ I hq;have e:=eq_of_beq (show(T == "tuple")=true from h)
  subst e;obtain rfl:v=FL _:=rv;exact#[h1,λb e=>by cases e; exact h2]
 | ref ea=>
  simp only[tyOk,GQ,ES]at h;rcases h with⟨h1,h2⟩|⟨h1,h2⟩
  ·obtain⟨xs,hx⟩:=Gb.mp h2;obtain⟨vs,h3,_⟩:=aH so hx ea;exact rq I rv (show Dw X.K T (.ref _) H from .inl #[eq_of_beq h1,vs,h3])
  ·obtain⟨U,hx⟩:=Gb.mp h2;obtain⟨xs,rd,_⟩:=dU so hx ea;obtain⟨_,_,_,o,es,ep,q1,q2,q3,q4⟩:=bz I rd;have e:=eq_of_beq h1;subst e;obtain rfl:v=FL _:=rv;exact#[#[o,q1,q2.1],λb e=>by cases e; exact#[o,q1,q2.2.1]]
 | _=>cases h
def gr {o e:Fa}{es:EI Fa}{name:E3}{apos cpos:G5}{T id:Gc}{g:W->EI W->aa->EO (W×aa)}{fo:FE}{f:FA}(pa:PlainAttrs T)(slot:Slot T name id)(hty:typeOf (.builtin id)=pure (.type "method_descriptor"))(hm:LMeth X id g)
  (ho:GE X o fo) (ha:GA X (e::es) f) (hbase:attributeBase o name X.env (eval o X.env)=eval o X.env)
  (hfew:((backTo cpos (starEach (e::es) X.env)).all (λx=>!x.1)&&(backToKw cpos (keywordEach [] X.env)).all (λx=>x.1.isSome)
   && decide ((e::es).length+([]:EI Kx).length+(if ([]:EI Kx).isEmpty then 0 else 1) < 30))=true)
  (hline:(apos.endLine==cpos.line)=true) (hs:starEach (e::es) X.env=(false,eval e X.env)::starEach es X.env) (hplain:(backTo cpos (starEach es X.env)).any (·.1)=false) :
  GE X (.Call (.Attribute o name apos) (e::es) [] cpos) (xX T g fo f):=by
 intro J s Y H Q I ⟨A,Z,S,w,S',er,so,e,hq⟩;unfold xX at e;split at e
 ·rename_i x S1 h1;split at e
  ·rename_i ht;split at e
   ·rename_i ws S2 h2;show wpAny_Call_method_late hbase hfew hline rfl (aK (ho J s Y H (EndV X.w X.K A H S1 x) I #[A,Z,S,_,_,er,so,h1,λ_ _ z=>z]) λv s1 #[a,H1,I1,r1,A1,e1,o1,z1]=>?_)
    obtain⟨t1,t2⟩:=tyOk.is I1 o1 z1 r1 ht;show#[T,id,pa,slot,hty,t1,t2,?_];have hA:=ha cpos J s1 Y H1 (EndA X A1 H1 S2 ws) I1 #[A1,Z,S1,ws,S2,er.mono e1,o1,h2,λ_ _ z=>z]
    rw[hs]at hA ⊢;show Calls.callWith_builtin (by show(false||(backTo cpos (starEach es X.env)).any (·.1))=false; rw[hplain] <;> rfl) (Calls.evalArgs_plain ?_)
    show aK hA λus s2 #[vs,H2,I2,r2,A2,e2,o2,z2]=>?_
    show aK (hm J s2 Y H2 A2 S2 x a v ws vs us w S' I2 o2 (z1.mono e2) r1 z2 r2 e) λu' s' #[v',H',A',I',r',e3,o3,z3]=>?_
    exact#[v',H',I',r',hq v' H' #[A',(e1.trans e2).trans e3,o3,z3]]
   ·cases e
  ·cases e
 ·cases e
def LIx.ixr {g:W->W->aa->EO (W×aa)}(h:LIx X g):IxR X (rOp X g):=by
 intro value slice J s Y H a b u v Q I ru rv ⟨A,S,x,y,w,S',so,rx,ry,e,hq⟩ hs;exact aK (h value slice J s Y H A S x y a b u v w S' I so rx ru ry rv e hs) λu' s' #[v',H',A',I',r',e1,o1,z1]=>#[v',H',I',r',hq v' H' #[A',e1,o1,z1]]
def BF {a b:Fa}{pos:G5}{fa fb:FE}(hu:X.A.units+10 < cLine)(ha:GE X a fa)(hb:GE X b fb)(hs:jN b):GE X (.Subscript a b pos) (DF fa fb):=
 GE.of (Br (DD hu).ixr ha hb hs) λY H A Z S w S' er so e Q hq=>by
  obtain⟨x,S1,y,S2,h1,h2,h3⟩:=CT e;exact dW er so h1 h2 λa b H2 A2 e2 o2 r1 r2=>#[A2,S2,x,y,w,S',o2,r1,r2,h3,λv H' z=>hq v H' (z.after e2)]
inductive tO (X:Cx)(f:FO)(Y:L2.St)(H:Hp)(Q:EO E5->Hp->Prop):Prop
 | mk (A:EI EU) (Z:Fm) (S:aa) (k:EO E5) (S':aa) (er:EnvRel X.K A H Z Y) (so:StoreOk X.w X.K A H S) (e:f Z S=ba (k,S')) (q:∀H' A',Ext X.K A H A' H'->StoreOk X.w X.K A' H' S'->Q k H'):tO X f Y H Q
noncomputable abbrev GO (X:Cx)(e:EO Fa)(f:FO):Prop:=PO X e (tO X f)
def we:GO X gV zI:=λJ s Y H Q I #[A,Z,S,k,S',er,so,e,hq]=>by
 cases e;exact vk J s Y H Q I (hq H A .refl so)
def wf {e:Fa}{f:FE}(h:GE X e f):GO X (ba e) (oo f):=λJ s Y H Q I #[A,Z,S,k,S',er,so,e,hq]=>by
 unfold oo at e;split at e
 ·rename_i i S1 h1;cases e;show vm h J s Y H Q I #[A,Z,S,_,_,er,so,h1,λv H1 #[A1,z1,z2,z3]=>?_]
  cases z3;exact#[i,rfl,hq H1 A1 z1 z2]
 ·cases e
inductive rSl (X:Cx)(g:W->EO E5->EO E5->aa->EO (W×aa))(a:V)(lo hi:EO E5)(H:Hp)(Q:VK):Prop
 | mk (A:EI EU) (S:aa) (x w:W) (S':aa) (so:StoreOk X.w X.K A H S) (rx:Rel X.K A H x a) (e:g x lo hi S=ba (w,S')) (q:∀v H',EndV X.w X.K A H S' w v H'->Q v H'):rSl X g a lo hi H Q
def LSl.slr {g:W->EO E5->EO E5->aa->EO (W×aa)}(h:LSl X g):Bq X (rSl X g):=by
 intro J s Y H a v vl vu lo hi sl Q I rv hs pl pu ⟨A,S,x,w,S',so,rx,e,hq⟩;obtain⟨T,id,h1,h2,h3⟩:=h J s Y H A S x a v vl vu lo hi sl w S' I so rx rv hs pl pu e;exact#[T,id,h1,h2,aK h3 λu' s' #[v',H',A',I',r',e1,o1,z1]=>#[v',H',I',r',hq v' H' #[A',e1,o1,z1]]]
def BG {a:Fa}{lo hi:EO Fa}{p2 pos:G5}{fa:FE}{fl fh:FO}(ha:GE X a fa)(hl:GO X lo fl)(hh:GO X hi fh):GE X (.Subscript a (.Slice lo hi gV p2) pos) (BE fa fl fh):=
 GE.of (rm EA.slr ha hl hh) λY H A Z S w S' er so e Q hq=>by
  unfold BE at e;split at e
  ·rename_i x S1 h1;split at e
   ·rename_i l S2 h2;split at e
    ·rename_i h S3 h3;show#[A,Z,S,x,S1,er,so,h1,λv H1 #[A1,z1,z2,z3]=>?_]
     show#[A1,Z,S1,l,S2,er.mono z1,z2,h2,λH2 A2 y1 y2=>?_]
     show#[A2,Z,S2,h,S3,er.mono (z1.trans y1),y2,h3,λH3 A3 x1 x2=>?_]
     exact#[A3,S3,x,w,S',x2,(z3.mono y1).mono x1,e,λv H' q=>hq v H' (q.after ((z1.trans y1).trans x1))]
    ·cases e
   ·cases e
  ·cases e
noncomputable abbrev FF:=EI W->aa->EO (W×aa)
inductive spF (wd:Fv)(K:EW)(n:EV)(g:FF)(vs:EI V)(H:Hp)(Q:VK)(E:XK):Prop
 | mk (A:EI EU) (S:aa) (ws:EI W) (w:W) (S':aa) (so:StoreOk wd K A H S) (rl:RelL K A H ws vs) (hl:ws.length=n) (e:g ws S=ba (w,S')) (q:∀v H',EndV wd K A H S' w v H'->Q v H'):spF wd K n g vs H Q E
abbrev lF (n:EV)(g:FF)(f:FA):FE:=λZ S=>match f Z S with
 | some (ws,S1)=>if ws.length=n then g ws S1 else gV
 | none=>gV
def lG {n:EV}{g:FF}{f:FA}{Y:L2.St}{H:Hp}{A:EI EU}{Z:Fm}{S:aa}{w:W}{S':aa}{E:XK}(er:EnvRel X.K A H Z Y)(so:StoreOk X.w X.K A H S)(e:lF n g f Z S=ba (w,S'))(Q:VK)(hq:∀v H',EndV X.w X.K A H S' w v H'->Q v H') :
  re (spF X.w X.K n g) [] E (tA X f) Y H Q:=by
 unfold lF at e;split at e
 ·rename_i ws S1 h1;split at e
  ·rename_i hl;show#[A,Z,S,ws,S1,er,so,h1,λvs H1 #[A1,z1,z2,z3]=>?_]
   change spF X.w X.K n g (vs++[]) H1 Q E;rw[HH];exact#[A1,S1,ws,w,S',z2,z3,hl,e,λv H' q=>hq v H' (q.after z1)]
  ·cases e
 ·cases e
def zK {k n:EV}{fa:EU}{fd:Hg}{ps:EI E3}{g:FF}{x:E3}{e:Fa}{es:EI Fa}{p pos:G5}{f:FA}(F:FnOk X.prog X.w X.K X.mg X.base qK k fa fd ps (spF X.w X.K n g))(hr:Room k X.A)(hg:Gl X x)(hm:X.mg x=ba (.ref fa))(hk:Ge X.K (.ref fa)=true)
  (hb:Binds X.K fd ps []) (ha:GA X (e::es) f) (hdb:(x==("__debug__" : E3))=false) (he:starEach (e::es) X.env=(false,eval e X.env)::starEach es X.env) (hpl:(backTo pos (starEach es X.env)).any (·.1)=false) :
  GE X (.Call (.Name x p) (e::es) [] pos) (lF n g f):=
 GE.of (vf F hr hg hm hk hb .nil xS ha hdb he hpl) λY H A Z S w S' er so e Q hq=>lG er so e Q hq
def wg {k n:EV}{fa:EU}{fd:Hg}{ps:EI E3}{g:FF}{x:E3}{p pos:G5}(F:FnOk X.prog X.w X.K X.mg X.base qK k fa fd ps (spF X.w X.K n g))(hr:Room k X.A)(hg:Gl X x)(hm:X.mg x=ba (.ref fa))(hk:Ge X.K (.ref fa)=true)
  (hb:Binds X.K fd ps []) (hdb:(x==("__debug__" : E3))=false):GE X (.Call (.Name x p) [] [] pos) (lF n g eN):=
 GE.of (rh F hr hg hm hk hb .nil xS hdb) λY H A Z S w S' er so e Q hq=>by
  obtain⟨A1,S1,ws,w1,S1',a1,a2,a3,a4,a5⟩:=lG (f:=eN) (E:=E0) er so e Q hq |> λ#[A,Z,S,ws,S',b1,b2,b3,b4]=>b4 [] H (by cases b3; exact#[A,.refl,b2,.nil])
  exact#[A1,S1,ws,w1,S1',a1,a2,a3,a4,a5]
def wj:GSs X [] (λZ S=>ba (.nx Z,S)):=GSs.of uZ λY H A Z S o S' er so e D hd=>by cases e; exact hd.nx _ _ #[Z,A,rfl,.refl,so,er]
abbrev wl (f g:FS):FS:=λZ S=>match f Z S with
 | some (.nx Z',S1)=>g Z' S1
 | some (.rt w,S1)=>ba (.rt w,S1)
 | some (.bk Z',S1)=>ba (.bk Z',S1)
 | some (.ct Z',S1)=>ba (.ct Z',S1)
 | none=>gV
def sw {st:Hv}{sts:EI Hv}{f g:FS}(h:GS X st f)(h2:GSs X sts g):GSs X (st::sts) (wl f g):=GSs.of (qV h h2) λY H A Z S o S' er so e D hd=>by
 unfold wl at e;split at e
 ·rename_i Z1 S1 h1;show#[A,Z,S,_,_,er,so,h1,#[λY' H' #[Z',A',e1,e2,e3,e4]=>?_,λv H' #[w,A',e1,_,_,_]=>(by cases e1),λv H' #[w,A',e1,_,_,_]=>(by cases e1),λv H' #[w,A',e1,_,_,_]=>(by cases e1)]]
  cases e1;exact#[A',_,S1,o,S',e4,e3,e,(EndS.after e2).trans hd]
 ·rename_i w S1 h1;cases e;exact#[A,Z,S,_,_,er,so,h1,#[λY' H' #[w,A',e1,_,_,_]=>(by cases e1),hd.rt,hd.bk,hd.ct]]
 ·rename_i w S1 h1;cases e;exact#[A,Z,S,_,_,er,so,h1,#[λY' H' #[w,A',e1,_,_,_]=>(by cases e1),hd.rt,hd.bk,hd.ct]]
 ·rename_i w S1 h1;cases e;exact#[A,Z,S,_,_,er,so,h1,#[λY' H' #[w,A',e1,_,_,_]=>(by cases e1),hd.rt,hd.bk,hd.ct]]
 ·cases e
abbrev wm (f:FE):FS:=λZ S=>match f Z S with
 | some (_,S1)=>ba (.nx Z,S1)
 | none=>gV
def BH {e:Fa}{pos:G5}{f:FE}(h:GE X e f)(hs:swapsWith e gV pos.line X.env=pure false):GS X (.Expr e pos) (wm f):=GS.of (u5 h hs) λY H A Z S o S' er so e D hd=>by
 unfold wm at e;split at e
 ·rename_i w S1 h1;cases e;exact#[A,Z,S,w,_,er,so,h1,λv H1 #[A1,z1,z2,z3]=>hd.nx _ _ #[Z,A1,rfl,z1,z2,er.mono z1]]
 ·cases e
abbrev sx:FS:=λZ S=>ba (.nx Z,S)
def zL {x:E3}{j:EV}{pos pos':G5}:GS X (.Expr (.Constant (.str x) j pos) pos') sx:=GS.of yL λY H A Z S o S' er so e D hd=>by cases e; exact hd.nx _ _ #[Z,A,rfl,.refl,so,er]
def wn {pos:G5}:GS X (.Pass pos) sx:=GS.of u4 λY H A Z S o S' er so e D hd=>by cases e; exact hd.nx _ _ #[Z,A,rfl,.refl,so,er]
def sy {pos:G5}:GS X (.Break pos) (λZ S=>ba (.bk Z,S)):=GS.of qW λY H A Z S o S' er so e D hd=>by cases e; exact hd.bk _ _ #[Z,A,rfl,.refl,so,er]
def wo {pos:G5}:GS X (.Continue pos) (λZ S=>ba (.ct Z,S)):=GS.of kN λY H A Z S o S' er so e D hd=>by cases e; exact hd.ct _ _ #[Z,A,rfl,.refl,so,er]
abbrev wp (f:FE):FS:=λZ S=>match f Z S with
 | some (w,S1)=>ba (.rt w,S1)
 | none=>gV
def zM {e:Fa}{pos:G5}{f:FE}(h:GE X e f):GS X (.Return (ba e) pos) (wp f):=GS.of (yM h) λY H A Z S o S' er so e D hd=>by
 unfold wp at e;split at e
 ·rename_i w S1 h1;cases e;exact#[A,Z,S,w,_,er,so,h1,λv H1 #[A1,z1,z2,z3]=>hd.rt _ _ #[w,A1,rfl,z1,z2,z3]]
 ·cases e
def wq {pos:G5}:GS X (.Return gV pos) (λZ S=>ba (.rt .non,S)):=GS.of u6 λY H A Z S o S' er so e D hd=>by cases e; exact hd.rt _ _ #[_,A,rfl,.refl,so,.non]
abbrev wt (c:FT)(f g:FS):FS:=λZ S=>match c Z S with
 | some (true,S1)=>f Z S1
 | some (false,S1)=>g Z S1
 | none=>gV
def BI {c:Fa}{a b:EI Hv}{pos:G5}{fc:FT}{f g:FS}(hc:GT X c fc)(ha:GSs X a f)(hb:GSs X b g):GS X (.If c a b pos) (wt fc f g):=GS.of (AZ hc ha hb) λY H A Z S o S' er so e D hd=>by
 unfold wt at e;split at e
 ·rename_i S1 h1;show#[A,Z,S,_,S1,er,so,h1,λb H1 #[z0,A1,z1,z2]=>?_]
  subst z0;rw[Fi rfl];exact#[A1,Z,S1,o,S',er.mono z1,z2,e,(EndS.after z1).trans hd]
 ·rename_i S1 h1;show#[A,Z,S,_,S1,er,so,h1,λb H1 #[z0,A1,z1,z2]=>?_]
  subst z0;rw[FJ E8];exact#[A1,Z,S1,o,S',er.mono z1,z2,e,(EndS.after z1).trans hd]
 ·cases e
noncomputable abbrev FG:=W->Fm->aa->EO (Fm×aa)
inductive tG (X:Cx)(f:FG)(v:V)(Y:L2.St)(H:Hp)(Q:L2.St->Hp->Prop):Prop
 | mk (A:EI EU) (Z:Fm) (S:aa) (w:W) (Z':Fm) (S':aa) (er:EnvRel X.K A H Z Y) (so:StoreOk X.w X.K A H S) (r:Rel X.K A H w v) (e:f w Z S=ba (Z',S')) (q:∀Y' H' A',Ext X.K A H A' H'->StoreOk X.w X.K A' H' S'->EnvRel X.K A' H' Z' Y'->Q Y' H'):tG X f v Y H Q
noncomputable abbrev GG (X:Cx)(tg:Fa)(f:FG):Prop:=PG X tg (tG X f)
abbrev xY (i:EV):FG:=λw Z S=>ba (Z.set i (ba w),S)
def oq {i:EV}{x:E3}{pos:G5}(hN:X.N.Nodup)(hi:X.N[i]?=ba x)(hx:uV X.env.scope x)(hf:X.fn x=true\/X.env.scope.names.lookup x=ba .local):GG X (.Name x pos) (xY i):=by
 intro J s Y H v u Q I r ⟨A,Z,S,w,Z',S',er,so,rw',e,hq⟩;cases e;exact nJ hN hi hx hf J s Y H v u Q I r (hq _ _ A .refl so (er.set rw' i))
abbrev ci:EI EV->EI W->Fm->EO Fm
 | [],[],Z=>ba Z
 | i::is,w::ws,Z=>ci is ws (Z.set i (ba w))
 | _,_,_=>gV
abbrev AK (is:EI EV):FG:=λw Z S=>match w with
 | .tup ws=>(ci is ws Z).map λZ'=>(Z',S)
 | _=>gV
def qf:∀ {ts:EI Fa} {is:EI EV},(∀x∈ts,∃y p,x=.Name y p)->JG (λ(t:Fa) (i:EV)=>∃x p,t=Ky x p/\X.N[i]?=ba x/\uV X.env.scope x/\(X.fn x=true\/X.env.scope.names.lookup x=ba .local)) ts is->X.N.Nodup->
  A6 X ts (λvs Y H Q=>∃A Z ws Z' S,EnvRel X.K A H Z Y/\StoreOk X.w X.K A H S/\RelL X.K A H ws vs/\ci is ws Z=ba Z'/\∀Y',EnvRel X.K A H Z' Y'->Q Y' H):=by
 intro ts
 induction ts with
 | nil=>
  intro is _ h hN;cases h;intro J s Y H vs us Q I r ⟨A,Z,ws,Z',S,er,so,rl,e,hq⟩;cases rl with
  | nil=>cases e; exact u7 J s Y H [] us Q I r #[rfl,hq _ er]
  | cons _ _=>cases e
 | cons t ts ih=>
  intro is hs h hN;cases h with
  | cons h1 h2=>
   obtain⟨x,p,rfl,hi,hl,hf⟩:=h1;have:=ih (λy hy=>hs y (FC _ hy)) h2 hN
   intro J s Y H vs us Q I r ⟨A,Z,ws,Z',S,er,so,rl,e,hq⟩;cases rl with
   | nil=>cases e
   | cons r1 r2=>
    show qX (nJ hN hi hl hf) this rfl J s Y H _ us Q I r #[_,_,rfl,?_];exact#[A,_,_,Z',S,er.set r1 _,so,r2,e,hq]
def zN {ts:EI Fa}{is:EI EV}{k:EV}{pos:G5}(hc:X.calm=true)(hs:∀x∈ts,∃y p,x=.Name y p)(h:JG (λ(t:Fa) (i:EV)=>∃x p,t=Ky x p/\X.N[i]?=ba x/\uV X.env.scope x/\(X.fn x=true\/X.env.scope.names.lookup x=ba .local)) ts is)(hN:X.N.Nodup)
  (hn:(assignEach ts X.env).length=ts.length) (hst:(assignEach ts X.env).findIdx? (·.1)=gV):GG X (.Tuple ts k pos) (AK is):=by
 intro J s Y H v u Q I r ⟨A,Z,S,w,Z',S',er,so,rw',e,hq⟩;unfold AK at e;split at e
 ·rw[EQ]at e;obtain⟨Z1,e1,e2⟩:=e;cases e2;cases rw' with
  | tup h1 r1=>
   have hl:∀(is:EI EV) (ws:EI W) (Z Z':Fm),ci is ws Z=ba Z'->is.length=ws.length:=by
    intro is
    induction is with
    | nil=>intro ws Z Z' e; cases ws <;> first|rfl|cases e
    | cons i is ih=>intro ws Z Z' e; cases ws <;> first|cases e|(simp; exact ih _ _ _ e)
   exact yQ hc (qf hs h hN) hn hst J s Y H _ u Q I r #[_,_,rfl,h1,by rw[<- r1.length,<- hl _ _ _ _ e1,<- Jt h],A,Z,_,_,_,er,so,r1,e1,λY' z=>hq _ _ A .refl so z]
 ·cases e
abbrev wu (fo fi:FE):FG:=λw Z S=>match fo Z S with
 | some (o,S1)=>match fi Z S1 with
  | some (i,S2)=>match fj o i w S2 with
   | some S3=>ba (Z,S3)
   | none=>gV
  | none=>gV
 | none=>gV
inductive rSet (X:Cx)(g:W->W->W->aa->EO aa)(ao ai av:V)(H:Hp)(Q:Hp->Prop):Prop
 | mk (A:EI EU) (S:aa) (o i w:W) (S':aa) (so:StoreOk X.w X.K A H S) (r1:Rel X.K A H o ao) (r2:Rel X.K A H i ai) (r3:Rel X.K A H w av) (e:g o i w S=ba S') (q:∀H' A',Ext X.K A H A' H'->StoreOk X.w X.K A' H' S'->Q H'):rSet X g ao ai av H Q
def LSet.pset {g:W->W->W->aa->EO aa}(h:LSet X g):yP X (rSet X g):=by
 intro J s Y H ao ai av uo ui uv Q I ro ri rv ⟨A,S,o,i,w,S',so,r1,r2,r3,e,hq⟩;exact aK (h J s Y H A S o i w ao ai av uo ui uv S' I so r1 ro r2 ri r3 rv e) λ_ s' #[H',A',I',e1,o1]=>#[H',I',hq H' A' e1 o1]
def zO {o i:Fa}{pos:G5}{fo fi:FE}(hu:X.A.units+10 < cLine)(ho:GE X o fo)(hi:GE X i fi)(ha:∀v,assign (.Subscript o i pos) X.env v=(do
   let ov <- holding [v] (eval o X.env)
   let iv <- holding [v,ov] (eval i X.env)
   standAt pos
   holding [v,ov,iv] (setItem ov iv v)
   release [v,ov,iv] [])):GG X (.Subscript o i pos) (wu fo fi):=by
 intro J s Y H v u Q I r ⟨A,Z,S,w,Z',S',er,so,rw',e,hq⟩;unfold wu at e;split at e
 ·rename_i o' S1 h1;split at e
  ·rename_i i' S2 h2;split at e
   ·rename_i S3 h3;cases e;show yR ho hi (By hu).pset ha J s Y H v u Q I r ?_;show#[A,Z,S,o',S1,er,so,h1,λa H1 #[A1,e1,o1,r1]=>?_]
    show#[A1,Z,S1,i',S2,er.mono e1,o1,h2,λb H2 #[A2,e2,o2,r2]=>?_]
    exact#[A2,S2,o',i',w,_,o2,r1.mono e2,r2,rw'.mono (e1.trans e2),h3,λH' A' z1 z2=>hq Y H' A' ((e1.trans e2).trans z1) z2 (er.mono ((e1.trans e2).trans z1))]
   ·cases e
  ·cases e
 ·cases e
abbrev im (f:FE)(g:FG):FS:=λZ S=>match f Z S with
 | some (w,S1)=>match g w Z S1 with
  | some (Z',S2)=>ba (.nx Z',S2)
  | none=>gV
 | none=>gV
def mW {tg e:Fa}{pos:G5}{f:FE}{g:FG}(h:GE X e f)(hg:GG X tg g)(hs:swapsWithSole [tg] e pos.line X.env=pure false)(hw:swappedStores [tg] e X.env=pure gV)(h1:(assignEach [tg] X.env).map (·.2)=[assign tg X.env]) :
  GS X (.Assign [tg] e pos) (im f g):=GS.of (yS h hg hs hw h1) λY H A Z S o S' er so e D hd=>by
 unfold im at e;split at e
 ·rename_i w S1 h1;split at e
  ·rename_i Z1 S2 h2;cases e;show#[A,Z,S,w,S1,er,so,h1,λv H1 #[A1,z1,z2,z3]=>?_]
   exact#[A1,Z,S1,w,Z1,_,er.mono z1,z2,z3,h2,λY' H' A' y1 y2 y3=>hd.nx _ _ #[Z1,A',rfl,z1.trans y1,y2,y3]]
  ·cases e
 ·cases e
abbrev ww (i j:EV)(f:FA):FS:=λZ S=>match f Z S with
 | some ([x,y],S1)=>ba (.nx ((Z.set i (ba x)).set j (ba y)),S1)
 | _=>gV
def zP {i j:EV}{x y:E3}{a b:Fa}{f:FA}{px py pt pos:G5}{kt k2:EV}{pt2:G5}(hc:X.calm=true)(hN:X.N.Nodup)(hi:X.N[i]?=ba x)(hj:X.N[j]?=ba y)(hij:i≠j)
  (hx:X.env.scope.names.lookup x=ba .local) (hy:X.env.scope.names.lookup y=ba .local) (ha:GA X [a,b] f)
  (hw:swappedStores [.Tuple [.Name x px,.Name y py] kt pt] (.Tuple [a,b] k2 pt2) X.env=pure (ba [x,y]))
  (hs:swapsWithSole [.Tuple [.Name x px,.Name y py] kt pt] (.Tuple [a,b] k2 pt2) pos.line X.env=pure false) :
  GS X (.Assign [.Tuple [.Name x px,.Name y py] kt pt] (.Tuple [a,b] k2 pt2) pos) (ww i j f):=GS.of (yT hc hN hi hj hij hx hy ha hw hs) λY H A Z S o S' er so e D hd=>by
 unfold ww at e;split at e
 ·rename_i x y S1 h1;cases e;show#[A,Z,S,_,_,er,so,h1,λvs H1 #[A1,z1,z2,z3]=>?_]
  cases z3 with
  | cons r1 t=>
   cases t with
   | cons r2 t=>
    cases t;exact#[_,_,rfl,hd.nx _ _ #[_,A1,rfl,z1,z2,((er.mono z1).set r1 i).set r2 j]]
 ·cases e
abbrev ki (c:FT)(b:FS):EV->FS
 | 0,_,_=>gV
 | n+1,Z,S=>match c Z S with
  | some (true,S1)=>match b Z S1 with
   | some (.nx Z',S2)=>ki c b n Z' S2
   | some (.ct Z',S2)=>ki c b n Z' S2
   | some (.bk Z',S2)=>ba (.nx Z',S2)
   | some (.rt w,S2)=>ba (.rt w,S2)
   | none=>gV
  | some (false,S1)=>ba (.nx Z,S1)
  | none=>gV
def sA {c:Fa}{body:EI Hv}{pos:G5}{fc:FT}{fb:FS}(n:EV)(hp:Kw (model X.prog X.w) X.A X.env X.xe)(hc:GT X c fc)(hb:GSs X body fb):GS X (.While c body [] pos) (ki fc fb n):=GS.of (qY hp hc hb) λY H A Z S o S' er so e D hd=>by
 show#[λm Y1 H1=>∃A1 Z1 S1,Ext X.K A H A1 H1/\EnvRel X.K A1 H1 Z1 Y1/\StoreOk X.w X.K A1 H1 S1/\ki fc fb m Z1 S1=ba (o,S'),#[n,A,Z,S,.refl,er,so,e],?_]
 rintro m Y1 H1 ⟨A1,Z1,S1,e1,er1,so1,w1⟩;cases m with
 | zero=>cases w1
 | succ m=>
  dsimp only[ki]at w1;split at w1
  ·rename_i S2 h1;show#[A1,Z1,S1,_,S2,er1,so1,h1,λb H2 #[z0,A2,z1,z2]=>?_]
   subst z0;rw[Fi rfl];show#[λY3 H3=>∃A3 Z3 S3,Ext X.K A H A3 H3/\EnvRel X.K A3 H3 Z3 Y3/\StoreOk X.w X.K A3 H3 S3/\ki fc fb m Z3 S3=ba (o,S'),λY' H' h=>#[m,HY _,h],?_]
   split at w1
   ·rename_i Z3 S3 h3;show#[A2,Z1,S2,_,S3,er1.mono z1,z2,h3,#[λY' H' #[Z',A',y0,y1,y2,y3]=>?_,λv H' #[w,A',y0,_,_,_]=>(by cases y0),λv H' #[w,A',y0,_,_,_]=>(by cases y0),λv H' #[w,A',y0,_,_,_]=>(by cases y0)]]
    cases y0;exact#[A',_,S3,(e1.trans z1).trans y1,y3,y2,w1]
   ·rename_i Z3 S3 h3;show#[A2,Z1,S2,_,S3,er1.mono z1,z2,h3,#[λv H' #[w,A',y0,_,_,_]=>(by cases y0),λv H' #[w,A',y0,_,_,_]=>(by cases y0),λv H' #[w,A',y0,_,_,_]=>(by cases y0),λY' H' #[Z',A',y0,y1,y2,y3]=>?_]]
    cases y0;exact#[A',_,S3,(e1.trans z1).trans y1,y3,y2,w1]
   ·rename_i Z3 S3 h3;cases w1;show#[A2,Z1,S2,_,_,er1.mono z1,z2,h3,#[λv H' #[w,A',y0,_,_,_]=>(by cases y0),λv H' #[w,A',y0,_,_,_]=>(by cases y0),λY' H' #[Z',A',y0,y1,y2,y3]=>?_,λv H' #[w,A',y0,_,_,_]=>(by cases y0)]]
    cases y0;exact hd.nx _ _ #[_,A',rfl,(e1.trans z1).trans y1,y2,y3]
   ·rename_i w3 S3 h3;cases w1;show#[A2,Z1,S2,_,_,er1.mono z1,z2,h3,#[λv H' #[w,A',y0,_,_,_]=>(by cases y0),λv H' #[w,A',y0,y1,y2,y3]=>?_,λv H' #[w,A',y0,_,_,_]=>(by cases y0),λv H' #[w,A',y0,_,_,_]=>(by cases y0)]]
    cases y0;exact hd.rt _ _ #[_,A',rfl,(e1.trans z1).trans y1,y2,y3]
   ·cases w1
  ·rename_i S2 h1;cases w1;show#[A1,Z1,S1,_,_,er1,so1,h1,λb H2 #[z0,A2,z1,z2]=>?_]
   subst z0;rw[FJ E8];exact hd.nx _ _ #[_,A2,rfl,e1.trans z1,z2,er1.mono z1]
  ·cases w1
end
inductive MI where
 | its (ws:EI W)
 | live (r:EV)
 | zl (r q:EV)
 | el (r:EV)
abbrev lH (xs ys:EI W):EI W:=Fd (λx y=>.tup [x,y]) xs ys
abbrev MI.at (S:aa)(i:EV):MI->EO (EO W)
 | .its ws=>ba ws[i]?
 | .live r=>match dL S r with
  | some xs=>ba xs[i]?
  | none=>gV
 | .zl r q=>match dL S r,dL S q with
  | some xs,ba ys=>ba (lH xs ys)[i]?
  | _,_=>gV
 | .el r=>match dL S r with
  | some xs=>ba (xs[i]?.map λx=>.tup [.int (i:EV),x])
  | none=>gV
abbrev MI.len (S:aa):MI->EO EV
 | .its ws=>ba ws.length
 | .live r=>(dL S r).map (·.length)
 | .zl r q=>match dL S r,dL S q with
  | some xs,ba ys=>ba (lH xs ys).length
  | _,_=>gV
 | .el r=>(dL S r).map (·.length)
noncomputable abbrev FI:=Fm->aa->EO (MI×aa)
structure MIt (wd:Fv)(K:EW)(mi:MI)(td:It)(A0:EI EU)(H0:Hp):Prop where
 go:∀A H S i w,Ext K A0 H0 A H->StoreOk wd K A H S->mi.at S i=ba (ba w)->td.go i H/\∀x H',td.yld i H x H'->Ext K A H A H'/\StoreOk wd K A H' S/\Rel K A H' w x
 stop:∀A H S i,Ext K A0 H0 A H->StoreOk wd K A H S->mi.at S i=ba gV->td.stop i H
inductive tI (X:Cx)(f:FI)(Y:L2.St)(H:Hp)(R:It->Hp->Prop):Prop
 | mk (A:EI EU) (Z:Fm) (S:aa) (mi:MI) (S':aa) (er:EnvRel X.K A H Z Y) (so:StoreOk X.w X.K A H S) (e:f Z S=ba (mi,S')) (q:∀td H' A',Ext X.K A H A' H'->StoreOk X.w X.K A' H' S'->MIt X.w X.K mi td A' H'->R td H'):tI X f Y H R
noncomputable abbrev GI (X:Cx)(tg iter:Fa)(f:FI):Prop:=PI X tg iter (tI X f)
abbrev wx (f:FE):FI:=λZ S=>match f Z S with
 | some (.tup ws,S1)=>ba (.its ws,S1)
 | some (.ref r,S1)=>match dL S1 r with
  | some _=>ba (.live r,S1)
  | none=>gV
 | _=>gV
abbrev cj (lo:E5)(n:EV):EI W:=(Gn n).map λ(k:EV)=>.int (lo+(k:E5))
abbrev qh (f:FA):FI:=λZ S=>match f Z S with
 | some ([.int j],S1)=>if -(2 ^ 62)<=j/\j < 2 ^ 62 then ba (.its (cj 0 j.toNat),S1)else gV
 | _=>gV
abbrev iRng2 (f:FA):FI:=λZ S=>match f Z S with
 | some ([.int i,.int j],S1)=>if -(2 ^ 62)<=i/\i < 2 ^ 62/\-(2 ^ 62)<=j/\j < 2 ^ 62 then ba (.its (cj i (j - i).toNat),S1)else gV
 | _=>gV
abbrev dZ (mi:MI)(g:FG)(b:FS):EV->EV->FS
 | 0,i,Z,S=>match mi.at S i with
  | some gV=>ba (.nx Z,S)
  | _=>gV
 | n+1,i,Z,S=>match mi.at S i with
  | some (ba w)=>match g w Z S with
   | some (Z1,S1)=>match b Z1 S1 with
    | some (.nx Z2,S2)=>dZ mi g b n (i+1) Z2 S2
    | some (.ct Z2,S2)=>dZ mi g b n (i+1) Z2 S2
    | some (.bk Z2,S2)=>ba (.nx Z2,S2)
    | some (.rt w,S2)=>ba (.rt w,S2)
    | none=>gV
   | none=>gV
  | _=>gV
abbrev sB (fi:FI)(g:FG)(b:FS):FS:=λZ S=>match fi Z S with
 | some (mi,S1)=>match mi.len S1 with
  | some n=>dZ mi g b n 0 Z S1
  | none=>gV
 | none=>gV
section
variable{X:Cx}
def wy {A:EI EU}{H:Hp}{ws:EI W}{a:EU}{vs:EI V}(h:SqT X.K H a vs)(r:RelL X.K A H ws vs):MIt X.w X.K (.its ws) (AI X.K a) A H:=by
 show#[λA' H' S i w e so hi=>?_,λA' H' S i e so hi=>?_]
 ·simp only[MI.at,Fj]at hi;obtain⟨v,h1,h2⟩:=(r.mono e).get hi;show#[#[vs,v,e.tp _ _ h,h1],λx H2 #[z1,z2]=>?_]
  subst z1;have:=z2 vs (e.tp _ _ h);rw[h1]at this; cases this
  exact#[.refl,so,h2]
 ·simp only[MI.at,Fj]at hi;show#[vs,e.tp _ _ h,?_];rw[<- r.length];exact F4.mp hi
def wz {A:EI EU}{H:Hp}{r:EV}{a:EU}(ea:A[r]?=ba a):MIt X.w X.K (.live r) (Dg X.K a) A H:=by
 show#[λA' H' S i w e so hi=>?_,λA' H' S i e so hi=>?_]
 ·simp only[MI.at]at hi;split at hi
  ·rename_i xs hx;simp only[Fj]at hi;obtain⟨vs,h1,r1⟩:=aH so hx (e.ad _ _ ea);obtain⟨v,h2,h3⟩:=r1.get hi;show#[#[vs,v,h1,h2],λx H2 #[z1,z2]=>?_]
   subst z1;have:=z2 vs h1;rw[h2]at this; cases this
   exact#[.refl,so,h3]
  ·cases hi
 ·simp only[MI.at]at hi;split at hi
  ·rename_i xs hx;simp only[Fj]at hi;obtain⟨vs,h1,r1⟩:=aH so hx (e.ad _ _ ea);show#[vs,h1,?_];rw[<- r1.length];exact F4.mp hi
  ·cases hi
def cL {lo:E5}{n i:EV}:(cj lo n)[i]?=if i < n then ba (.int (lo+i))else gV:=by
 unfold cj;rw[E1]
 by_cases h:i < n
 ·rw[Fi h,KC h]; rfl
 ·rw[FJ h,F4.mpr (by simp; omega)]; rfl
def ou {A:EI EU}{H:Hp}{lo:E5}{n:EV}:MIt X.w X.K (.its (cj lo n)) (Bb lo n) A H:=by
 show#[λA' H' S i w e so hi=>?_,λA' H' S i e so hi=>?_]
 ·simp only[MI.at,Fj]at hi;rw[cL]at hi;split at hi
  ·cases hi;show#[by assumption,λx H2 #[z1,z2]=>?_]
   subst z1 z2;exact#[.refl,so,.int]
  ·cases hi
 ·simp only[MI.at,Fj]at hi;rw[cL]at hi;split at hi
  ·cases hi
  ·change n<=i;omega
def lI {tg:Fa}{J:EI (EU×Gm)}{Y:L2.St}{H1:Hp}{s1:EN}{R:It->Hp->Prop}{a:EU}{xs:EI V}{v:EK}(I1:Inv X J Y H1 s1)(r1:RelV (.ref a) v)(hq:SqL X.K H1 a xs)(q:R (Dg X.K a) H1) :
  wpAny (model X.prog X.w) X.A (pyIter v) (AH X J Y tg R) X.xe s1:=by
 cases r1;obtain⟨its,rv,p,hz⟩:=I1.list hq;show HP p.isList ?_;show#[s1.heap.objs.size,[s1.heap.objs.size],_,_,H1,rfl,I1.kept (t':=s1.toks) λb o e=>EM _ e,ph a _,#[_,EX _ rfl,rfl,rfl],λb hb=>?_,q]
 have e:b=s1.heap.objs.size:=by simpa using hb
 subst e;exact I1.fpOk (E2 _) (I1.hok.fresh (E2 _))
def mX {tg:Fa}{J:EI (EU×Gm)}{Y:L2.St}{H1:Hp}{s1:EN}{R:It->Hp->Prop}{a:EU}{xs:EI V}{v:EK}(I1:Inv X J Y H1 s1)(r1:RelV (.ref a) v)(hq:SqT X.K H1 a xs)(q:R (AI X.K a) H1) :
  wpAny (model X.prog X.w) X.A (pyIter v) (AH X J Y tg R) X.xe s1:=by
 cases r1;obtain⟨its,rv,p,hz⟩:=I1.tuple hq;show K2 (show s1.heap.IsTuple a its.toArray from p) ?_
 show#[s1.heap.objs.size,[s1.heap.objs.size],_,_,H1,rfl,I1.kept (t':=s1.toks) λb o e=>EM _ e,mx a _,#[_,EX _ rfl,rfl,rfl],λb hb=>?_,q]
 have e:b=s1.heap.objs.size:=by simpa using hb
 subst e;exact I1.fpOk (E2 _) (I1.hok.fresh (E2 _))
def wD {tg a:Fa}{f:FA}{p pos:G5}(hg:Gl X "range")(hm:X.mg "range" = gV)(ha:GA X [a] f)(hs:starEach [a] X.env=[(false,eval a X.env)]):GI X tg (.Call (.Name "range" p) [a] [] pos) (qh f):=by
 intro J s Y H R I ⟨A,Z,S,mi,S',er,so,e,hq⟩;unfold qh at e;split at e
 ·rename_i j S1 h1;split at e
  ·rename_i hj;cases e;show pk hg hm ha hs J s Y H R I #[A,Z,S,_,_,er,so,h1,λvs H1 #[A1,z1,z2,z3]=>?_]
   cases z3 with
   | cons r1 t=>
    cases t;cases r1;exact#[j,rfl,hj.1,hj.2,hq _ _ A1 z1 z2 ou]
  ·cases e
 ·cases e
def wF {tg a b:Fa}{f:FA}{p pos:G5}(hg:Gl X "range")(hm:X.mg "range" = gV)(ha:GA X [a,b] f)(hs:starEach [a,b] X.env=[(false,eval a X.env),(false,eval b X.env)])(hs2:starEach [b] X.env=[(false,eval b X.env)]):GI X tg (.Call (.Name "range" p) [a,b] [] pos) (iRng2 f):=by
 intro J s Y H R I ⟨A,Z,S,mi,S',er,so,e,hq⟩;unfold iRng2 at e;split at e
 ·rename_i i j S1 h1;split at e
  ·rename_i hj;cases e;show po hg hm ha hs hs2 J s Y H R I #[A,Z,S,_,_,er,so,h1,λvs H1 #[A1,z1,z2,z3]=>?_]
   cases z3 with
   | cons r1 t=>
    cases t with
    | cons r2 t=>
     cases t;cases r1;cases r2;exact#[i,j,rfl,hj,hq _ _ A1 z1 z2 ou]
  ·cases e
 ·cases e
def zQ {tg l:Fa}{f:FE}(h:GE X l f):GI X tg l (wx f):=by
 intro J s Y H R I ⟨A,Z,S,mi,S',er,so,e,hq⟩;unfold wx at e;split at e
 ·rename_i ws S1 h1;cases e;show aK (h J s Y H (EndV X.w X.K A H _ (.tup ws)) I #[A,Z,S,_,_,er,so,h1,λ_ _ z=>z]) λv s1 #[x,H1,I1,r1,A1,e1,o1,z1]=>?_
  cases z1 with
  | tup hq1 rl=>
   show mX I1 r1 hq1 (hq _ _ A1 e1 o1 (wy hq1 rl))
 ·rename_i r S1 h1;split at e
  ·rename_i ys hy;cases e;show aK (h J s Y H (EndV X.w X.K A H _ (.ref r)) I #[A,Z,S,_,_,er,so,h1,λ_ _ z=>z]) λv s1 #[x,H1,I1,r1,A1,e1,o1,z1]=>?_
   cases z1 with
   | ref ea=>
    obtain⟨vs,hl,_⟩:=aH o1 hy ea;exact lI I1 r1 hl (hq _ _ A1 e1 o1 (wz ea))
  ·cases e
 ·cases e
def zR {tg iter:Fa}{body:EI Hv}{pos:G5}{fi:FI}{g:FG}{fb:FS}(hp:Kw (model X.prog X.w) X.A X.env X.xe)(hc:X.calm=true)(hi:GI X tg iter fi)(hg:GG X tg g)(hb:GSs X body fb)
  (hs:∀x,foldedSetIterable iter X.env x=pure x):GS X (.For tg iter body [] pos) (sB fi g fb):=GS.of (yV hp hc hi hg hb hs) λY H A Z S o S' er so e D hd=>by
 unfold sB at e;split at e
 ·rename_i mi S1 h1;split at e
  ·rename_i n hn;show#[A,Z,S,mi,S1,er,so,h1,λtd H1 A1 z1 z2 mit=>?_]
   show#[λi m Y2 H2=>∃A2 Z2 S2,Ext X.K A1 H1 A2 H2/\EnvRel X.K A2 H2 Z2 Y2/\StoreOk X.w X.K A2 H2 S2/\dZ mi g fb m i Z2 S2=ba (o,S'),#[n,A1,Z,S1,.refl,er.mono z1,z2,e],?_]
   rintro i m Y2 H2 ⟨A2,Z2,S2,e2,er2,so2,w2⟩;cases m with
   | zero=>
    dsimp only[dZ]at w2;split at w2
    ·rename_i hs;cases w2;exact .inl #[mit.stop A2 H2 _ i e2 so2 hs,hd.nx _ _ #[_,A2,rfl,z1.trans e2,so2,er2]]
    ·cases w2
   | succ m=>
    dsimp only[dZ]at w2;split at w2
    ·rename_i w hw;obtain⟨go,yl⟩:=mit.go A2 H2 S2 i w e2 so2 hw;show .inr #[go,λY3 H3=>∃A3 Z3 S3,Ext X.K A1 H1 A3 H3/\EnvRel X.K A3 H3 Z3 Y3/\StoreOk X.w X.K A3 H3 S3/\dZ mi g fb m (i+1) Z3 S3=ba (o,S'),λY' H' h=>#[m,HY _,h],λx H3 hy=>?_]
     obtain⟨x1,x2,x3⟩:=yl x H3 hy;split at w2
     ·rename_i Z3 S3 h3;show#[A2,Z2,S2,w,Z3,S3,er2.mono x1,x2,x3,h3,λY4 H4 A4 y1 y2 y3=>?_]
      have ex:Ext X.K A1 H1 A4 H4:=(e2.trans x1).trans y1;split at w2
      ·rename_i Z5 S5 h5;show#[A4,Z3,S3,_,S5,y3,y2,h5,#[λY' H' #[Z',A',u0,u1,u2,u3]=>?_,λv H' #[w,A',y0,_,_,_]=>(by cases y0),λv H' #[w,A',y0,_,_,_]=>(by cases y0),λv H' #[w,A',y0,_,_,_]=>(by cases y0)]]
       cases u0;exact#[A',_,S5,ex.trans u1,u3,u2,w2]
      ·rename_i Z5 S5 h5;show#[A4,Z3,S3,_,S5,y3,y2,h5,#[λv H' #[w,A',y0,_,_,_]=>(by cases y0),λv H' #[w,A',y0,_,_,_]=>(by cases y0),λv H' #[w,A',y0,_,_,_]=>(by cases y0),λY' H' #[Z',A',u0,u1,u2,u3]=>?_]]
       cases u0;exact#[A',_,S5,ex.trans u1,u3,u2,w2]
      ·rename_i Z5 S5 h5;cases w2;show#[A4,Z3,S3,_,_,y3,y2,h5,#[λv H' #[w,A',y0,_,_,_]=>(by cases y0),λv H' #[w,A',y0,_,_,_]=>(by cases y0),λY' H' #[Z',A',u0,u1,u2,u3]=>?_,λv H' #[w,A',y0,_,_,_]=>(by cases y0)]]
       cases u0;exact hd.nx _ _ #[_,A',rfl,(z1.trans ex).trans u1,u2,u3]
      ·rename_i w5 S5 h5;cases w2;show#[A4,Z3,S3,_,_,y3,y2,h5,#[λv H' #[w,A',y0,_,_,_]=>(by cases y0),λv H' #[w,A',u0,u1,u2,u3]=>?_,λv H' #[w,A',y0,_,_,_]=>(by cases y0),λv H' #[w,A',y0,_,_,_]=>(by cases y0)]]
       cases u0;exact hd.rt _ _ #[_,A',rfl,(z1.trans ex).trans u1,u2,u3]
      ·cases w2
     ·cases w2
    ·cases w2
  ·cases e
 ·cases e
end
section
variable{prog:Fn}{w:Fv}{B:Fs}{E:EK->EN->Prop}{s:EN}
def wH {d:EU}{es:FM G2}{ep:EV}{Q:EK->EN->Prop}(hd:(d==sysModules)=false)(hm:RawD d es ep s.heap)(hfit:(es.size:E5) < 2 ^ 63)
  (h:Q (.int es.size (s.toks+1)) { s with toks:=s.toks+1+1 }):wpAny (model prog w) B (call (.builtin "len") [.ref d]) Q E s:=by
 have hT:=hm.type;obtain⟨o,ho,hc,hdat⟩:=id hm;show Jm kind_len plain_len entry_len (args_len1 _) ?_;unfold Ip.«len»;show EJ (m:=oneArg "len" _) (ET ?_);show EJ (m:=callSpecial? (.ref d) (GK "__len__")) (FU (name:=GK "__len__") hT F.slot_dict_len (F5 F.slot_dict_len hT F.entry_dict_len ?_ (F.args_dict_len_1 _)));change wpAny _ _ (dictSize d >>= _) _ _ s;unfold dictSize;show EJ (EJ (IB ho hdat (ET ?_)));change wpAny _ _ (Mv d >>= _) _ _ s;show EJ (wpAny_pendingCount_other hd ?_);show wpAny_ret_mkInt ?_;rw[Nat.add_zero];change wpAny _ _ _ _ _ { s with toks:=s.toks+1 }
 show EJ (Ga (ET ?_));show EJ (HW ?_);change wpAny _ _ (if ((es.size:EV):E5) < 0 then _ else _) _ _ _
 rw[FJ ∅]
 change wpAny _ _ (if ((es.size:EV):E5)>=2 ^ 63 then _ else _) _ _ _
 rw[FJ ∅]
 exact EJ (LU (ET #[_,rfl,h]))
end
section
variable{X:Cx}{J:EI (EU×Gm)}{Y:L2.St}{H:Hp}{s:EN}{A:EI EU}{S:aa}
def mY:LCall X (.builtin "len") p9:=by
 intro J s Y H A S xs vs us w S' I so rl rv e
 by_cases hd:∃i U,xs=[.ref i]/\gH S i=ba U
 ·obtain⟨i,U,rfl,hk⟩:=hd
  (dsimp only[p9]at e; simp only[hk]at e)
  cases e;cases rl with
  | cons r t=>
   cases t;cases rv with
   | cons ru rv2=>
    cases rv2;cases r with
    | ref ea=>
     obtain⟨xs,rd,kr⟩:=dU so hk ea;have d:=bz I rd;obtain⟨es,ep,raw,he⟩:=d.raw;obtain rfl:_=FL _:=ru;have hl:es.size=xs.length:=by rw[<- Fe,he,ER]
     have hz:=d.1;have hs:sizeLine=16777216:=FX;show wH d.2.1 raw ∅ #[.int U.length,H,A,I.tok _,#[_,by rw[kr.length,hl]],.refl,so,.int]
 ·have:p9 xs S=mN xs S:=by
   unfold p9;split
   ·rename_i i;split
    ·rename_i U hk;exact absurd #[i,U,rfl,hk] hd
    ·rfl
   ·rfl
  rw[this]at e;exact pR J s Y H A S xs vs us w S' I so rl rv e
abbrev Ee (S:aa):W->EO Gc
 | .non=>ba "NoneType"|.bl _=>ba "bool"|.int _=>ba "int"|.str _=>ba "str"|.tup _=>ba "tuple"
 | .ref i=>match dL S i with
  | some _=>ba "list"
  | none=>(gH S i).map λ_=>"dict"
abbrev ox:EI Gc:=["bool","int","str","tuple","list","dict"]
abbrev qM (S:aa)(x:W)(c:Gc):EO Fk:=match Ee S x with
 | some t=>if ox.contains c then ba (t==c||(t == "bool" && c == "int"))else gV
 | none=>gV
def eO {K:EW}{t c:Gc}(ht:t∈["NoneType","bool","int","str","tuple","list","dict"])(hc:c∈ox):PySem.W.kitOne K (.type t) (.type c)=ba (t==c||(t == "bool" && c == "int")):=by
 simp only[ox,Fc,FH,GV]at ht hc;rcases ht with rfl|rfl|rfl|rfl|rfl|rfl|rfl <;> rcases hc with rfl|rfl|rfl|rfl|rfl|rfl <;> rfl
def sC:CallR X (.builtin "isinstance") (λvs H Q=>∃A S x v c b,vs=[v,.ty c]/\StoreOk X.w X.K A H S/\Rel X.K A H x v/\qM S x c=ba b/\Q (.bl b) H):=by
 intro J s Y H vs us Q I rv ⟨A,S,x,v,c,b,e1,so,rx,e2,hq⟩;subst e1;cases rv with
 | cons r1 rv2=>cases rv2 with
  | cons r2 rv3=>
   cases rv3;obtain rfl:_=Hs c:=r2;unfold qM at e2;split at e2
   ·rename_i t ht;split at e2
    ·rename_i hc;cases e2;have hc':c∈ox:=by simpa using hc
     have fin:∀tk,EP X J Y Q (.bool (t==c||(t == "bool" && c == "int"))) { s with toks:=tk }:=λtk=>#[.bl _,H,I.tok _,rfl,hq]
     cases rx with
     | non=>cases ht; cases(show _=FY from r1); exact Hm PySem.W.kitx_none I.kIn IJ (eO (by simp) hc') (λz=>nomatch z) fin
     | bl=>cases ht; cases(show _=G4 _ from r1); exact Hm PySem.W.kitx_bool I.kIn IJ (eO (by simp) hc') (λz=>nomatch z) fin
     | int=>cases ht; obtain⟨t',q⟩:=(show ∃t,_=JA _ t from r1); cases q; exact Hm PySem.W.kitx_int I.kIn IJ (eO (by simp) hc') (λz=>nomatch z) fin
     | str=>cases ht; obtain⟨t',q⟩:=(show ∃t,_=Iu _ t from r1); cases q; exact Hm PySem.W.kitx_str I.kIn IJ (eO (by simp) hc') (λz=>nomatch z) fin
     | tup h1 r1'=>
      cases ht;obtain⟨its,rv,⟨o,q1,q2,_⟩,hz⟩:=I.tuple h1;cases(show _=FL _ from r1)
      exact Hm PySem.W.kitx_tuple I.kIn #[o,q1,q2] (eO (by simp) hc') (λz=>nomatch z) fin
     | ref ea=>
      cases(show _=FL _ from r1)
      dsimp only[Ee]at ht;split at ht
      ·rename_i ws hw;cases ht;obtain⟨vs,h1,_⟩:=aH so hw ea;obtain⟨its,rv,p,hz⟩:=I.list h1;obtain⟨o,q1,q2,_⟩:=p.isList;exact Hm PySem.W.kitx_list I.kIn #[o,q1,q2] (eO (by simp) hc') (λz=>nomatch z) fin
      ·rw[EQ]at ht;obtain⟨U,hk,rfl⟩:=ht;obtain⟨xs,rd,kr⟩:=dU so hk ea;obtain⟨es,ep,⟨o,q1,q2,_⟩,he⟩:=(bz I rd).raw;exact Hm PySem.W.kitx_dict I.kIn #[o,q1,q2.1] (eO (by simp) hc') (λz=>nomatch z) fin
    ·cases e2
   ·cases e2
abbrev sD (c:Gc)(f:FE):FE:=λZ S=>match f Z S with
 | some (x,S1)=>(qM S1 x c).map λb=>(.bl b,S1)
 | none=>gV
def zS {cn:E3}{c:Gc}{e:Fa}{p p2 pos:G5}{f:FE}(hg:Gl X "isinstance")(hm:X.mg "isinstance" = gV)(hg2:Gl X cn)(hm2:X.mg cn=gV)(hv2:bootBuiltins cn=ba (.type c))(hn2:cn≠"__name__")(hd2:(cn==("__debug__" : E3))=false)
  (he:GE X e f) (hs:starEach [e,.Name cn p2] X.env=(false,eval e X.env)::starEach [.Name cn p2] X.env):GE X (.Call (.Name "isinstance" p) [e,.Name cn p2] [] pos) (sD c f):=
 GE.of (kR (sC) hg hm rfl (jK he (jK (uX (v:=.ty c) hg2 hm2 hv2 rfl hn2 hd2) q9) hs) #v[] #v[] hs rfl) λY H A Z S w S' er so e Q hq=>by
  unfold sD at e;split at e
  ·rename_i x1 S1 h1;rw[EQ]at e;obtain⟨b,e1,e2⟩:=e;cases e2;exact#[A,Z,S,x1,_,er,so,h1,λv H1 #[A1,z1,z2,z3]=>#[A1,_,x1,v,c,b,rfl,z2,z3,e1,hq _ _ #[A1,z1,z2,.bl]]]
  ·cases e
end
abbrev cm:EI (T×W)->EI W->EO (EI (T×W))
 | U,[]=>ba U
 | U,k::v::ws=>match eB k with
  | some t=>cm (dc U t v) ws
  | none=>gV
 | _,[_]=>gV
abbrev xZ:FE:=λ_ S=>ba (.ref S.length,S++[.dic []])
abbrev lJ (f:FA):FE:=λZ S=>match f Z (S++[.dic []])with
 | some (ws,S1)=>match S1[S.length]? with
  | some (.dic [])=>match cm [] ws with
   | some U=>ba (.ref S.length,S1.set S.length (.dic U))
   | none=>gV
  | _=>gV
 | none=>gV
section
variable (K:EW) (A:EI EU) (H:Hp)
inductive RelP:EI W->EI (V×V)->Prop
 | nil:RelP [] []
 | cons {k v:W} {a b:V} {ws:EI W} {ps:EI (V×V)}:Rel K A H k a->Rel K A H v b->RelP ws ps->RelP (k::v::ws) ((a,b)::ps)
end
def RelP.mono {K:EW}{A A':EI EU}{H H':Hp}(e:Ext K A H A' H'){ws:EI W}{ps:EI (V×V)}(h:RelP K A H ws ps):RelP K A' H' ws ps:=by
 induction h with
 | nil=>exact .nil
 | cons a b c ih=>exact .cons (a.mono e) (b.mono e) ih
section
variable{X:Cx}{J:EI (EU×Gm)}{Y:L2.St}{H:Hp}{s:EN}{A:EI EU}{S:aa}
abbrev DH (X:Cx)(A:EI EU)(H:Hp)(S':aa)(ws:EI W):EI (V×V)->Hp->Prop:=λps H'=>∃A',Ext X.K A H A' H'/\StoreOk X.w X.K A' H' S'/\RelP X.K A' H' ws ps
abbrev BJ (X:Cx)(pos:G5)(keys:EI (EO Fa))(values:EI Fa)(f:FA):Prop:=
 ∀(J:EI (EU×Gm)) (s:EN) (Y:L2.St) (H:Hp) (A:EI EU) (Z:Fm) (S:aa) (ws:EI W) (S':aa),Inv X J Y H s->EnvRel X.K A H Z Y->StoreOk X.w X.K A H S->f Z S=ba (ws,S')->
  wpAny (model X.prog X.w) X.A (evalPairs (pairTrees keys values X.env pos)) (λvs s'=>∃ps H',Inv X J Y H' s'/\VV ps vs/\DH X A H S' ws ps H') X.xe s
def wI {pos:G5}:BJ X pos [] [] eN:=λJ s Y H A Z S ws S' I er so e=>by
 cases e;exact pairTrees_nil_walk #[[],H,I,.nil,A,.refl,so,.nil]
def sE {pos:G5}{k v:Fa}{ks:EI (EO Fa)}{vs:EI Fa}{fk fv:FE}{f:FA}(hk:GE X k fk)(hv:GE X v fv)(hr:BJ X pos ks vs f):BJ X pos (ba k::ks) (v::vs) (b9 fk (b9 fv f)):=λJ s Y H A Z S ws S' I er so e=>by
 unfold b9 at e;split at e
 ·rename_i w1 S1 h1;split at e
  ·rename_i w2 S2 h2;cases e;split at h2
   ·rename_i w3 S3 h3;split at h2
    ·rename_i w4 S4 h4;cases h2;show pairTrees_cons_walk (aK (hk J s Y H (EndV X.w X.K A H S1 w1) I #[A,Z,S,_,_,er,so,h1,λ_ _ z=>z]) λu s1 #[x,H1,I1,r1,A1,e1,o1,z1]=>
      aK (hv J s1 Y H1 (EndV X.w X.K A1 H1 S3 w3) I1 #[A1,Z,S1,_,_,er.mono e1,o1,h3,λ_ _ z=>z]) λu2 s2 #[x2,H2,I2,r2,A2,e2,o2,z2]=>
      aK (hr J s2 Y H2 A2 Z S3 _ _ I2 (er.mono (e1.trans e2)) o2 h4) λvs' s3 #[ps,H3,I3,rel,A3,e3,o3,z3]=>?_)
     exact#[(x,x2)::ps,H3,I3,.cons #[r1,r2] rel,A3,e1.trans (e2.trans e3),o3,.cons (z1.mono (e2.trans e3)) (z2.mono e3) z3]
    ·cases h2
   ·cases h2
  ·cases e
 ·cases e
def jm {r:EV}{d:EU}{E:EK->EN->Prop}(hu:X.A.units+10 < cLine):∀(vs:EI (EK×EK)) (ps:EI (V×V)) (ws:EI W) (U U':EI (T×W)) (s:EN) (H:Hp) (S:aa) (Q:PUnit->EN->Prop),
  Inv X J Y H s->StoreOk X.w X.K A H S->j3 S r=ba U->A[r]?=ba d->RelP X.K A H ws ps->VV ps vs->cm U ws=ba U'->U.length+vs.length<=30->
  (∀s' H',Inv X J Y H' s'->Ext X.K A H A H'->StoreOk X.w X.K A H' (S.set r (.dic U'))->Q K1 s')->
  wpAny (model X.prog X.w) X.A (forIn vs K1 λ(x:EK×EK) (_:PUnit)=>(do dictSet d x.1 x.2; pure (Gy K1):MR (ForInStep PUnit))) Q E s
 | [],_,_,U,U',s,H,S,Q,I,so,hr,ea,rp,vv,e,hl,hq=>by
  cases vv;cases rp;cases e;rw[Km];show ET (hq s H I .refl ?_);have hS:=fg hr;have:S.set r (.dic U)=S:=by
   apply Js;intro j;rw[GL];split
   ·rename_i e; subst e
    split
    ·exact hS.symm
    ·rename_i h; exact absurd (E9.mp hS).1 h
   ·rfl
  rw[this]; exact so
 | (ku,vu)::vs,_,_,U,U',s,H,S,Q,I,so,hr,ea,rp,vv,e,hl,hq=>by
  cases vv with
  | cons hv vv2=>
   cases rp with
   | @cons wk wv va vb ws2 ps2 rk rv' rp2=>
    dsimp only[cm]at e;split at e
    ·rename_i t ht;rw[IT];obtain⟨xs,hH,kr⟩:=nW so hr ea;have dd0:=bz I (.inl hH);have dd:=dd0.dict I kr;obtain⟨bk,e1,e2,rkk⟩:=ff ht rk hv.1;have e2:ku=FL bk:=e2;subst e2;obtain⟨q1,q2,q3⟩:=cC ht;rw[Fy]at hl;have hz:xs.length<=sizeLine:=dd0.1;show EJ (EJ (wpAny_dictSet_heap (hsz:=hz) (show X.A.units+aF < cLine by unfold aF; omega) (fR I rkk q3) dd λh' dd' hs=>ET ?_))
     have kr':=kr.put q2 q3 rkk rv' hv.2;have hz':(storedH xs t bk vu).length<=sizeLine:=by
      rw[<- kr'.length];have h2:=b8 U t wv;rw[FX];omega
     have dn:DicAt X.w d (storedH xs t bk vu) h':=.of hz' dd0.2.1 dd';obtain⟨so',ex⟩:=so.writeO (fg hr) rfl ea (u:=cG X.w d (storedH xs t bk vu)) (n:=.dic (dc U t wv)) #[_,az,kr'.mono (bp (.ext hH))];have I':Inv X J Y (aR H d (cG X.w d (storedH xs t bk vu))) { s with heap:=h',toks:=s.toks+(bL X.prog X.w).draws t }:=jR I (by rw[hH]; exact IJ) hs (let ⟨q,_,_,hq,_⟩:=dd'; #[q,hq]) dn.ok
     have hl':(S.set r (.dic (dc U t wv)))[r]?=ba (.dic (dc U t wv)):=by
      rw[GL,Fi rfl,Fi (E9.mp (fg hr)).1]
     show jm hu vs _ _ (dc U t wv) U' _ _ _ Q I' so' (by unfold j3; rw[hl']) ea (rp2.mono ex) vv2 e (by have:=b8 U t wv; omega) λs' H' I2 ex2 so2=>?_
     rw[List.set_set]at so2;exact hq s' H' I2 (ex.trans ex2) so2
    ·cases e
def wJ {pos:G5}:GE X (.Dict [] [] pos) xZ:=λJ s Y H Q I #[A,Z,S,w,S',er,so,e,hq]=>by
 cases e;have hn:=I.hok.fresh (E2 s.heap.objs.size);have dn:DicAt X.w s.heap.objs.size [] (s.heap.push { cls:=.type "dict",data:=.dict #[] }):=#[GC _,Hw.mpr (Ne.symm (Fg I.big)),Kn,_,#[],0,EX _ rfl,#[rfl,rfl,rfl],rfl,rfl];show wpAny_Dict_empty #[.ref s.heap.objs.size,_,I.laid (a:=s.heap.objs.size) (o:=cG X.w s.heap.objs.size []) (t':=s.toks) (λ_ _ q=>EM _ q) (E2 _) dn.ok,rfl,hq _ _ #[A++[s.heap.objs.size],cH hn,so.pushO hn #[[],az,.nil],.ref ?_]]
 rw[<- so.len]; simp
def wK {pos:G5}{keys:EI (EO Fa)}{values:EI Fa}{f:FA}(hu:X.A.units+10 < cLine)(h:BJ X pos keys values f)(hall:keys.all (·.isSome)=true)(hl:keys.length=values.length)(h0:keys≠[])(h15:keys.length<=15):GE X (.Dict keys values pos) (lJ f):=by
 intro J s Y H Q I ⟨A,Z,S,w,S',er,so,e,hq⟩;unfold lJ at e;split at e
 ·rename_i ws S1 h1;split at e
  ·rename_i hS1;split at e
   ·rename_i U hp;cases e;have hn:=I.hok.fresh (E2 s.heap.objs.size);have dn:DicAt X.w s.heap.objs.size [] (s.heap.push { cls:=.type "dict",data:=.dict #[] }):=#[GC _,Hw.mpr (Ne.symm (Fg I.big)),Kn,_,#[],0,EX _ rfl,#[rfl,rfl,rfl],rfl,rfl];have I1:=I.laid (a:=s.heap.objs.size) (o:=cG X.w s.heap.objs.size []) (h':=s.heap.push { cls:=.type "dict",data:=.dict #[] }) (t':=s.toks) (λ_ _ q=>EM _ q) (E2 _) dn.ok
    have ex0:Ext X.K A H (A++[s.heap.objs.size]) (aR H s.heap.objs.size (cG X.w s.heap.objs.size [])):=cH hn;have so0:StoreOk X.w X.K (A++[s.heap.objs.size]) (aR H s.heap.objs.size (cG X.w s.heap.objs.size [])) (S++[.dic []]):=so.pushO hn #[[],az,.nil];have hlen:=pairTrees_length keys values X.env pos hall hl;have hne:pairTrees keys values X.env pos≠[]:=λhe=>by
     rw[he]at hlen;exact h0 (HD.mp hlen.symm)
    rw[arm_eval_Dict,zip_pairTrees keys values X.env pos hall hl,dictDisplay_pairs _ hne ∅]
    show EJ (IM (EJ ?_));unfold subDict;show EJ (M4 ?_);show EJ (Ga ?_);rw[Fi ∅]
    show EJ (Gz (wpAny_evalPairs_len (h J _ Y _ _ Z _ _ _ I1 (er.mono ex0) so0 h1)) (λvs s₁ h₁=>?_) λ_ _ e=>e)
    obtain⟨hvl,ps,H2,I2,vv,A2,ex2,so2,rp⟩:=h₁;show Ga ?_;have ea:A2[S.length]?=ba s.heap.objs.size:=ex2.ad _ _ (by rw[<- so.len]; simp)
    show EJ (jm hu vs ps ws [] U s₁ H2 S1 _ I2 so2 (by unfold j3; rw[hS1]) ea rp vv hp (by rw[Gx]; omega) λs' H' I3 ex3 so3=>?_)
    exact ET (ET (ET #[.ref s.heap.objs.size,H',I3,rfl,hq _ _ #[A2,ex0.trans (ex2.trans ex3),so3,.ref ea]]))
   ·cases e
  ·cases e
 ·cases e
end
abbrev Ef (wd:Fv)(a:EU)(o:Gm)(xs:EI (T×EU×EK)):It:=
 #[λi H=>H a=ba (.frz o (cG wd a xs))/\i < xs.length,λi H x H'=>H'=H/\∃q,xs[i]?=ba q/\x=.ref q.2.1,λi H=>H a=ba (.frz o (cG wd a xs))/\xs.length<=i]
def qk {P:Fn}{w:Fv}{K:EW}{tg:Fa}(a it:EU){o:Gm}{es:FM G2}{ep:EV}{xs:EI (T×EU×EK)}(hx:o.ExactDict)(hd:o.data=.dict es ep)(he:es.toList=xs.map (rC w)) :
  Turn P w K tg (Ef w a o xs) [it] it (λi h=>h.IsKeyIter it a i es.size ep) where
 mem:=by simp
 obj:=λi h st b hb=>by
  have e:b=it:=by simpa using hb
  subst e;obtain⟨o,e,c,d⟩:=st;exact#[o,e,λv z=>by rw[d]at z; cases z]
 keep:=λi h h' st k=>st.at λo e=>k it (by simp) o e
 item:=by
  intro X hP hw hK hc i J s Y H E I hf st hg;subst hP hw hK;obtain⟨hH,hi⟩:=hg;have ho:s.heap.get? a=ba o:=(show ObjOk X.prog X.w H s.heap a (.frz o (cG X.w a xs))from I.hok a _ hH).1
  have hl:es.size=xs.length:=by rw[<- Fe,he,ER]
  have hi':i < es.size:=∅
  obtain⟨f0,f1,f2,f3,f4,f5⟩:=hf it (by simp)
  have hk:es[i].key=.ref (xs[i]).2.1:=by
   have:es.toList[i]?=ba (rC X.w xs[i]):=by rw[he,E1,EZ hi]; rfl
   rw[F3,Hk hi']at this;have:=Gv this;rw[this]; rfl
  show lr st #[o,ho,hx,hd] hi' λh' st' sb=>?_
  have I1:Inv X J Y H { s with heap:=h' }:=I.turned (t':=s.toks) (λb o hb e=>(sb.2 b hb).trans e) f0 f1 f3 f4 f5
  obtain⟨o',e,c,d⟩:=id st';exact#[_,rfl,kO (s:={ s with heap:=h' }) e c d #v[] #[.ref (xs[i]).2.1,H,I1,hk,#[rfl,xs[i],EZ hi,rfl],st',λb hb=>(hf b hb).1]]
 done:=by
  intro X hP hw hK hc i J s Y H E I hf st hg;subst hP hw hK;obtain⟨hH,hi⟩:=hg;have ho:s.heap.get? a=ba o:=(show ObjOk X.prog X.w H s.heap a (.frz o (cG X.w a xs))from I.hok a _ hH).1
  have hl:es.size=xs.length:=by rw[<- Fe,he,ER]
  obtain⟨f0,f1,f2,f3,f4,f5⟩:=hf it (by simp)
  exact nY (I.ok.hd hc) st #[o,ho,hx,hd] ∅ λh' eb=>#[rfl,I.turned (t':=s.toks) (λb o hb e=>eb b o hb e) f0 f1 f3 f4 f5]
 self:=λ_ _ _ _ _ st h=>Kj st h
abbrev cM (f:FE):FI:=λZ S=>match f Z S with
 | some (.tup ws,S1)=>ba (.its ws,S1)
 | some (.str x,S1)=>if (x.cps.all λc=>decide (c < 128))=true then ba (.its (x.cps.toList.map λc=>.str #[[c].toArray]),S1)else gV
 | some (.ref r,S1)=>match dL S1 r with
  | some _=>ba (.live r,S1)
  | none=>match gH S1 r with
   | some U=>ba (.its (U.map λp=>p.1.w),S1.set r (.frd U))
   | none=>gV
 | _=>gV
section
variable{X:Cx}{J:EI (EU×Gm)}{Y:L2.St}{H:Hp}{s:EN}{A:EI EU}{S:aa}
def sF {a:EU}{o:Gm}{U:EI (T×W)}{xs:EI (T×EU×EK)}(hH:H a=ba (.frz o (cG X.w a xs)))(kr:KRel X.K A H U xs):MIt X.w X.K (.its (U.map λp=>p.1.w)) (Ef X.w a o xs) A H:=by
 show#[λA' H' S i w e so hi=>?_,λA' H' S i e so hi=>?_]
 ·simp only[MI.at,Fj]at hi;obtain⟨v,h1,h2⟩:=((kr.mono e).keysL).get hi;rw[E1,EQ]at h1;obtain⟨q,q1,q2⟩:=h1;show#[#[e.fz _ _ _ hH,(E9.mp q1).1],λx H2 #[z1,q',z2,z3]=>?_]
  subst z1 z3;rw[q1]at z2; cases z2
  exact#[.refl,so,by rw[q2]; exact h2]
 ·simp only[MI.at,Fj]at hi;show#[e.fz _ _ _ hH,?_];have:=F4.mp hi;rw[ER,kr.length]at this;exact this
def wL {x:E3}:MIt X.w X.K (.its (x.cps.toList.map λc=>.str #[[c].toArray])) (Ec x) A H:=by
 show#[λA' H' S i w e so hi=>?_,λA' H' S i e so hi=>?_]
 ·simp only[MI.at,Fj]at hi;rw[E1,EQ]at hi;obtain⟨c,hc,rfl⟩:=hi;rw[F3]at hc;show#[(GN.mp hc).1,λv H2 #[z1,c',z2,z3]=>?_]
  subst z1 z3;rw[hc]at z2; cases z2
  exact#[.refl,so,.str]
 ·simp only[MI.at,Fj]at hi;rw[E1,JM,F3]at hi;exact Array.getElem?_eq_none_iff.mp hi
def wM {tg l:Fa}{f:FE}(h:GE X l f):GI X tg l (cM f):=by
 intro J s Y H R I ⟨A,Z,S,mi,S',er,so,e,hq⟩
 by_cases hs:∃x S1,f Z S=ba (.str x,S1)
 ·obtain⟨x,S1,h1⟩:=hs;simp only[cM,h1]at e;split at e
  ·rename_i ha;cases e;show aK (h J s Y H (EndV X.w X.K A H _ (.str x)) I #[A,Z,S,_,_,er,so,h1,λ_ _ z=>z]) λv s1 #[x',H1,I1,r1,A1,e1,o1,z1]=>?_
   cases z1;obtain⟨tk,rfl⟩:=r1;show K4 ha ?_;show#[s1.heap.objs.size,[s1.heap.objs.size],_,_,H1,rfl,I1.kept (t':=s1.toks) λb o e=>EM _ e,r0 x tk _,#[_,EX _ rfl,rfl,rfl],λb hb=>?_,hq _ _ A1 e1 o1 wL]
   have e:b=s1.heap.objs.size:=by simpa using hb
   subst e;exact I1.fpOk (E2 _) (I1.hok.fresh (E2 _))
  ·cases e
 by_cases hd:∃r S1 U,f Z S=ba (.ref r,S1)/\dL S1 r=gV/\gH S1 r=ba U
 ·obtain⟨r,S1,U,h1,h2,h3⟩:=hd;simp only[cM,h1,h2,h3]at e;cases e;show aK (h J s Y H (EndV X.w X.K A H S1 (.ref r)) I #[A,Z,S,_,_,er,so,h1,λ_ _ z=>z]) λv s1 #[x,H1,I1,r1,A1,e1,o1,z1]=>?_
  cases z1 with
  | @ref _ a ea=>
   obtain rfl:v=FL a:=r1;have fz:∃o xs H2,Inv X J Y H2 s1/\Ext X.K A1 H1 A1 H2/\StoreOk X.w X.K A1 H2 (S1.set r (.frd U))/\H2 a=ba (.frz o (cG X.w a xs))/\KRel X.K A1 H2 U xs:=by
    unfold gH at h3;split at h3
    ·rename_i k hk;cases h3;obtain⟨xs,hH,kr⟩:=o1.obj r _ a hk ea;have d:=bz I1 (.inl hH);obtain⟨_,_,_,o,es,ep,q1,q2,q3,q4⟩:=id d;obtain⟨so',ex⟩:=o1.writeO hk rfl ea (u:=.frz o (cG X.w a xs)) (n:=.frd U) #[o,xs,az,kr.mono (bp (.ext hH))];exact#[o,xs,_,jR (h':=s1.heap) (t':=s1.toks) (ob:=.frz o (cG X.w a xs)) I1 (by rw[hH]; exact IJ) (Lm _ _) #[o,q1] #[q1,d.ok],ex,so',az,kr.mono ex]
    ·rename_i k hk;cases h3;obtain⟨o,xs,hH,kr⟩:=o1.obj r _ a hk ea;have:S1.set r (.frd U)=S1:=by
      apply Js;intro j;rw[GL];split
      ·rename_i e; subst e
       split
       ·exact hk.symm
       ·rename_i h; exact absurd (E9.mp hk).1 h
      ·rfl
     rw[this];exact#[o,xs,H1,I1,.refl,o1,hH,kr]
    ·cases h3
   obtain⟨o,xs,H2,I2,ex,so2,hH,kr⟩:=fz;have d:=bz I2 (.inr #[o,hH]);have ho:s1.heap.get? a=ba o:=(show ObjOk X.prog X.w H2 s1.heap a (.frz o (cG X.w a xs))from I2.hok a _ hH).1
   obtain⟨_,hsm,_,o',es,ep,q1,q2,q3,q4⟩:=id d;rw[ho]at q1;cases q1;show lq hsm #[o,ho,q2,q3] ?_;show#[s1.heap.objs.size,[s1.heap.objs.size],_,_,H2,rfl,I2.kept (t':=s1.toks) λb o e=>EM _ e,qk a _ q2 q3 q4,#[_,EX _ rfl,rfl,rfl],λb hb=>?_,hq _ _ A1 (e1.trans ex) so2 (sF hH kr)]
   have e:b=s1.heap.objs.size:=by simpa using hb
   subst e;exact I2.fpOk (E2 _) (I2.hok.fresh (E2 _))
 ·have:cM f Z S=wx f Z S:=by
   unfold cM wx;cases hf:f Z S with
   | none=>rfl
   | some p=>
    obtain⟨w,S1⟩:=p;cases w with
    | ref r=>
     cases h2:dL S1 r with
     | some _=>simp only[h2]
     | none=>
      cases h3:gH S1 r with
      | none=>simp only[h2,h3]
      | some U=>exact absurd #[r,S1,U,hf,h2,h3] hd
    | str x=>exact absurd #[x,S1,hf] hs
    | _=>rfl
  rw[this]at e;exact zQ h J s Y H R I #[A,Z,S,mi,S',er,so,e,hq]
end
abbrev zT (xs:EI W)(S:aa):EO (W×aa):=match xs with
 | [.ref i]=>match DC S i with
  | some ss=>ba (.int ss.length,S)
  | none=>gV
 | _=>gV
section
variable{X:Cx}
def mZ:LCall X (.builtin "len") zT:=by
 intro J s Y H A S xs vs us w S' I so rl rv e;unfold zT at e;split at e
 ·rename_i i;obtain⟨a,ea,rfl⟩:=gO (xs:=[]) rl rv;split at e
  ·rename_i ss hs;cases e;obtain⟨o,ho,hex,es,ep,t,hd,tb⟩:=zu I so hs ea;have hz:es.size=ss.length:=by
    have:=tb.pm.length_eq
    rwa [ER,Fe]at this
   have hf:=tb.few;exact call_len_set ho hex hd tb.fit (by rw[hz]; have h2:scanBound<=2 ^ 40:=#v[]; omega) #[.int ss.length,H,A,I.tok _,#[_,by rw[hz]],.refl,so,.int]
  ·cases e
 ·cases e
end
abbrev kj (x:W)(xs:EI W)(S:aa):EO (W×aa):=match x,xs with
 | .str x,[.str y]=>if (y.length==0)=false/\x.length+2<=sizeLine then ba (.ref S.length,S++[.lst ((GF x y).map .str)])else gV
 | _,_=>gV
def ql (x y:E3):(GF x y).length<=x.length+2:=by
 unfold GF;split
 ·exact L0 1 (x.length+1)
 ·split
  ·exact L0 1 (x.length+1)
  ·rw[length_partsBetween];have:=StrLaws.occ_length_le x y 0 x.length (x.length+1);omega
def jn:∀(zs:EI E3) (t:EV),Vals (zs.map V.str) (strsFrom t zs)
 | [],_=>.nil
 | _::zs,t=>.cons #[_,rfl] (jn zs _)
section
variable{X:Cx}{J:EI (EU×Gm)}{Y:L2.St}{H:Hp}{s:EN}{A:EI EU}{S:aa}
def oy:∀zs:EI E3,RelL X.K A H (zs.map W.str) (zs.map V.str)
 | []=>.nil
 | _::zs=>.cons .str (oy zs)
def qm {zs:EI E3}{its:EI EK}{tk:EV}(I:Inv X J Y H s)(so:StoreOk X.w X.K A H S)(hl:zs.length<=sizeLine)(rv:Vals (zs.map V.str) its) :
  PostE X J Y A H (S++[.lst (zs.map .str)]) (.ref S.length) (.ref s.heap.objs.size) { s with heap:=s.heap.push { cls:=.type "list",data:=.seq its.toArray },toks:=tk }:=
 eZ (dr:=s.drawn) (u:=.lst (zs.map V.str)) I so (λb o e=>EM _ e) (E2 _) #[by rw[ER]; exact hl,its,0,rv,EX _ rfl] λhn=>#[zs.map V.str,az,oy zs]
def lK:LMeth X "str.split" kj:=by
 intro J s Y H A S x a u xs vs us w S' I so rx ru rl rv e;unfold kj at e;split at e
 ·rename_i x y;split at e
  ·rename_i hc;cases e;cases rx;obtain⟨t,rfl⟩:=ru;cases rl with
   | cons r1 r2=>
    cases r2;cases r1;cases rv with
    | cons q1 q2=>
     cases q2;obtain⟨t2,rfl⟩:=q1;have few:=ql x y;have fin:∀(its:EI EK) (tk:EV),Vals ((GF x y).map V.str) its->PostE X J Y A H (S++[.lst ((GF x y).map .str)]) (.ref S.length) (.ref s.heap.objs.size) { s with heap:=s.heap.push { cls:=.type "list",data:=.seq its.toArray },toks:=tk }:=λits tk rv=>qm I so ∅ rv
     have go:∀ {Sp:G3},Meets (Ip.«str.split» #[[.str x t,.str y t2],[]]) Sp->Sp X.A (wants (PostE X J Y A H (S++[.lst ((GF x y).map .str)]) (.ref S.length)) X.xe) s->wpAny (model X.prog X.w) X.A (call (.builtin "str.split") [.str x t,.str y t2]) (PostE X J Y A H (S++[.lst ((GF x y).map .str)]) (.ref S.length)) X.xe s:=λm h=>HV F.slot_str_split (Ma s x t) F.entry_str_split (F.args_str_split_2 _ _) m h
     cases h1:(decide (x.length < y.length)||decide (G6 x < G6 y))with
     | true=>
      have es:GF x y=[x]:=by unfold GF; rw[Fi h1]
      exact go (meets_str_split_cannot_occur x y t t2 h1) (fin [.str x t] s.toks (by rw[es]; exact .cons #[_,rfl] .nil))
     | false=>
      cases h2:(HA x y 0 x.length (x.length+1)).isEmpty with
      | true=>
       have es:GF x y=[x]:=by unfold GF; rw[FJ (by rw[h1]; exact E8),Fi h2]
       exact go (meets_str_split_not_found x y t t2 h1 hc.1 h2) (fin [.str x t] s.toks (by rw[es]; exact .cons #[_,rfl] .nil))
      | false=>
       have es:GF x y=MH x (HA x y 0 x.length (x.length+1)) y.length:=by unfold GF; rw[FJ (by rw[h1]; exact E8),FJ (by rw[h2]; exact E8)]
       show go (meets_str_split_sep x y t t2 h1 hc.1 h2 ∅ (by rw[<- es]; omega)) ?_
       rw[<- es];exact fin _ _ (jn _ _)
  ·cases e
 ·cases e
abbrev sG (xs:EI W)(S:aa):EO (W×aa):=match xs with
 | [.int i,.int j]=>ba (.int (if j < i then j else i),S)
 | _=>gV
def nh (hc:X.calm=true):LCall X (.builtin "min") sG:=by
 intro J s Y H A S xs vs us w S' I so rl rv e;unfold sG at e;split at e
 ·rename_i i j;cases e;cases rl with
  | cons r1 r2=>cases r2 with
   | cons r3 r4=>
    cases r4; cases r1; cases r3
    exact CallR.go (pB hc) I rv #[i,j,rfl,.here so .int]
 ·cases e
end
def fU {tv:Np}{A:Fs}{E:EK->EN->Prop}{s:EN}{β:Type}{m:EV}(f:EV->β->MR (ForInStep β))(I:EV->β->EN->Prop)(Q:β->EN->Prop)
  (turn:∀i b s,i < m->I i b s->wpAny tv A (f i b) (λr s'=>match r with|.yield b'=>I (i+1) b' s'|.done b'=>Q b' s') E s)
  (fin:∀b s,I m b s->Q b s) (b:β) (h:I 0 b s):wpAny tv A (forIn [0:m] b f) Q E s:=by
 rw[Ko];simp only[MX,MV,Nat.add_sub_cancel,Nat.div_one];show JD _ (λaY b s'=>∃i,i<=m/\aY=M6 i (m - i)/\I i b s') _ ?_ ?_ _ _ #[0,GC _,by simp,h]
 ·rintro x aY b s' ⟨i,hi,hr,hI⟩;have hlt:i < m:=by
   rcases Lv i m with h|h
   ·exact h
   ·rw[Nat.sub_eq_zero_of_le h]at hr; simp at hr
  obtain⟨rfl,hrest⟩ : x=i/\aY=M6 (i+1) (m - (i+1)):=by
   have e:m - i=(m - (i+1))+1:=∅
   rw[e,LN]at hr;injection hr with h1 h2
   exact#[h1,h2]
  show Gz (turn x b s' hlt hI) (λr s2 hr2=>?_) λ_ _ e=>e
  cases r with
  | yield b'=>exact#[x+1,hlt,hrest,hr2]
  | done b'=>exact hr2
 ·rintro b s' ⟨i,hi,hr,hI⟩;have:i=m:=by
   rcases Lv i m with h|h
   ·have e:m - i=(m - (i+1))+1:=∅
    rw[e,LN]at hr; cases hr
   ·omega
  exact fin b s' (this ▸ hI)
open SeqAt in
def iT (l:EU)(items:FM EK)(n:EV)(dd:EO EU)(sl:FM (EO EK))(x:EK)(e:EK->Fk)(j:EV)(hj:j < items.size)
  (hit:e items[j]=true) (hno:∀m (hm:m < items.size),m < j->e items[m]=false) :
  Meets (Ip.«tuple.index» #[[.ref l,x],[]])
   (λA R s=>s.heap.get? l=ba { cls:=.type "tuple",dict:=dd,data:=.seq items n,slots:=sl }/\(∀y,y∈items->EqAt A.in1 s y x (e y))/\R (.ok (.ret (.int j s.toks))) { s with toks:=s.toks+1 }):=
 .of_wp λprog w A R s h=>by
  obtain⟨hp,g,d,tk,os⟩:=s; obtain⟨hl,he,h⟩:=h
  wp_walk using Io hl,fU _ (λi b s'=>b.1=gV/\s'=#[hp,g,d,tk,os]/\i<=j) _
  case turn=>
   rintro i b s' hi ⟨hb,rfl,hij⟩;have hi2:i < items.size:=∅
   rw[Hk hi2];show EJ (he _ (Array.getElem_mem hi2) prog w _ _ ?_)
   by_cases ej:i=j
   ·subst ej;rw[hit]
    wp_walk
    exact#[_,rfl,h]
   ·rw[hno i hi2 ∅]
    wp_walk
    exact#[rfl,rfl,∅]
  case fin=>
   rintro b s' ⟨hb,rfl,hij⟩;rw[Lp]at hij;omega
  case h=>exact#[rfl,rfl,GC _]
abbrev de (w x:W)(S:aa):EO (W×aa):=match bQ S w with
 | some ys=>if (aZ x&&ys.all aZ)&&decide (ys.length<=1000000)then(ys.findIdx? λz=>mM z x).map λj=>(.int (j:EV),S)else gV
 | none=>gV
abbrev zU (w:W)(xs:EI W)(S:aa):EO (W×aa):=match xs with
 | [x]=>de w x S
 | _=>gV
section
variable{X:Cx}
def fq {A:EI EU}{H:Hp}{x:W}{v:V}(rx:Rel X.K A H x v)(fx:aZ x=true):∀ {ws:EI W} {vs:EI V} {us:EI EK},RelL X.K A H ws vs->Vals vs us->ws.all aZ=true->∀(j:EV) (h:j < us.length) (h':j < ws.length),kK v us[j]=mM ws[j] x
 | _,_,_,.nil,.nil,_,j,h,_=>absurd h (Nat.not_lt_zero _)
 | _,_,_,.cons r t,.cons q p,f,j,h,h'=>by
  rw[FK,ES]at f;cases j with
  | zero=>exact(mI q (dR r f.1)).trans (nS r rx f.1 fx)
  | succ j=>exact fq rx fx t p f.2 j (JN h) (JN h')
def gw (id:Gc)(hid:(id = "tuple.index")\/(id = "list.index")):LMeth X id (λw xs S=>match w with|.tup _=>if id = "tuple.index" then zU w xs S else gV|.ref _=>if id = "list.index" then zU w xs S else gV|_=>gV):=by
 intro J s Y H A S x a u xs vs us w S' I so rx ru rl rv ek;have key:zU x xs S=ba (w,S')->∃(b:V) (y:W) (v:EK) (ys:EI W) (j:EV),vs=[b]/\us=[v]/\xs=[y]/\Rel X.K A H y b/\RelV b v/\aZ y=true/\ys.all aZ=true/\ys.length<=1000000/\bQ S x=ba ys/\(ys.findIdx? λz=>mM z y)=ba j/\w=.int (j:EV)/\S'=S:=λe=>by
  clear ek
  match xs,rl,e with
  | [],_,e=>cases e
  | _::_::_,_,e=>cases e
  | [y],rl,e=>
   replace e:de x y S=ba (w,S'):=e;unfold de at e;split at e
   ·rename_i ys hy;split at e
    ·rename_i hf;rw[EQ]at e;obtain⟨j,hj,e⟩:=e;cases e;rw[ES,ES,Ft]at hf;cases rl with
     | cons r t=>cases t; cases rv with
      | cons q p=>cases p; exact#[_,y,_,ys,j,rfl,rfl,rfl,r,q,hf.1.1,hf.1.2,hf.2,hy,hj,rfl,rfl]
    ·cases e
   ·cases e
 have e:=ek;clear ek;cases rx with
 | tup hq r1=>
  dsimp only at e;split at e
  ·rename_i hi;subst hi;obtain⟨b,y,v,ys,j,rfl,rfl,rfl,ry,rb,fy,fs,hl0,hs,hj,rfl,rfl⟩:=key e;cases hs;cases ru;obtain⟨its,r2,⟨⟨cls,dd,data,sl⟩,eo,hc,n,hd⟩,hz⟩:=I.tuple hq;dsimp only at hc hd;subst hc hd;have hl:its.length=_:=r2.length.symm.trans r1.length.symm;obtain⟨hj1,hj2,hj3⟩:=GH.mp hj;show HV Jx #[_,eo,rfl] PySem.F.entry_tuple_index (PySem.F.args_tuple_index_2 _ _) (iT _ its.toArray n dd sl v (kK b) j (by rw[EY,hl]; exact hj1) ?_ λm hm h=>?_) #[eo,λz hz=>cF rb (dR ry fy) r2 (ec r1 fs) z (by simpa using hz),#[.int _,H,A,I.tok _,#[_,rfl],.refl,so,.int]]
   ·exact(fq ry fy r1 r2 fs j (by rw[hl]; exact hj1) hj1).trans hj2
   ·have hm':m < its.length:=by simpa using hm
    exact(fq ry fy r1 r2 fs m hm' (by rw[<- hl]; exact hm')).trans (by simpa using hj3 m h)
  ·cases e
 | ref ea=>
  dsimp only at e;split at e
  ·rename_i hi;subst hi;obtain⟨b,y,v,ys,j,rfl,rfl,rfl,ry,rb,fy,fs,hl0,hs,hj,rfl,rfl⟩:=key e;obtain⟨ws',hq,r1⟩:=aH so hs ea;cases ru;obtain⟨its,r2,p,hz⟩:=I.list hq;obtain⟨⟨cls,dd,data,sl⟩,n,eo,hc,hdn,hd⟩:=p;dsimp only at hc hd hdn;subst hc hd hdn;have hl:its.length=ys.length:=r2.length.symm.trans r1.length.symm;obtain⟨hj1,hj2,hj3⟩:=GH.mp hj;show HV JF #[_,eo,rfl] PySem.F.entry_list_index (PySem.F.args_list_index_2 _ _) (SeqAt.list_indexAt _ its.toArray n gV sl v (kK b) j (by rw[EY,hl]; exact hj1) ∅ ?_ λm hm h=>?_) #[eo,λz hz=>cF rb (dR ry fy) r2 (ec r1 fs) z (by simpa using hz),#[.int _,H,A,I.tok _,#[_,rfl],.refl,so,.int]]
   ·exact(fq ry fy r1 r2 fs j (by rw[hl]; exact hj1) hj1).trans hj2
   ·have hm':m < its.length:=by simpa using hm
    exact(fq ry fy r1 r2 fs m hm' (by rw[<- hl]; exact hm')).trans (by simpa using hj3 m h)
  ·cases e
 | _=>cases e
end
abbrev aS (mi:MI)(g:FG)(c:FT)(f:FE):EV->EV->Fm->aa->EO (EI W×aa)
 | 0,i,_,S=>match mi.at S i with
  | some gV=>ba ([],S)
  | _=>gV
 | n+1,i,Z,S=>match mi.at S i with
  | some (ba w)=>match g w Z S with
   | some (Z1,S1)=>match c Z1 S1 with
    | some (true,S2)=>match f Z1 S2 with
     | some (y,S3)=>match aS mi g c f n (i+1) Z1 S3 with
      | some (ys,S4)=>ba (y::ys,S4)
      | none=>gV
     | none=>gV
    | some (false,S2)=>aS mi g c f n (i+1) Z1 S2
    | none=>gV
   | none=>gV
  | _=>gV
abbrev cN (cap:EI (EO EV))(Z:Fm):Fm:=cap.map λo=>match o with
 | some j=>(Z[j]?).join
 | none=>gV
abbrev io (fi:FI)(g:FG)(c:FT)(f:FE)(cap:EI (EO EV)):FE:=λZ S=>match fi Z S with
 | some (mi,S1)=>match mi.len S1 with
  | some n=>match aS mi g c f n 0 (cN cap Z) S1 with
   | some (ys,S2)=>gZ S2 ys
   | none=>gV
  | none=>gV
 | none=>gV
abbrev ya:FT:=λ_ S=>ba (true,S)
abbrev iQ (X:Cx)(scope:HM)(cl:EI (E3×EU))(C:EU)(N:EI E3)(s0:EN)(H0:Hp)(ex:EI EU):Cx:=
 { X with env:=compEnvC scope cl C X.env,N:=N,s₀:=s0,H₀:=H0,outer:=X.stack,stack:=X.stack,ex:=ex,fn:=λ_=>false,pn:=[],xe:=λ_ _=>F8 }
structure CompOk (X:Cx)(scope:HM)(cl:EI (E3×EU))(N:EI E3)(cap:EI (EO EV)):Prop where
 clos:closureFor scope X.env=pure cl
 kind:scope.kind=.function
 names:∀y∈scope.names,y.2=.local->scope.names.lookup y.1=ba .local
 nocell:∀y∈scope.names,y.2≠.cell
 sub:∀x c,cl.lookup x=ba c->X.env.cells.lookup x=ba c
 has:∀x,((relabel scope X.env).names.lookup x=ba .cell\/(relabel scope X.env).names.lookup x=ba .free)->∃c,cl.lookup x=ba c
 len:cap.length=N.length
 cap:∀(i j:EV) (x:E3),cap[i]?=ba (ba j)->N[i]?=ba x->X.N[j]?=ba x/\(X.env.kindOf x=ba .cell\/X.env.kindOf x=ba .free)/\((relabel scope X.env).names.lookup x=ba .cell\/(relabel scope X.env).names.lookup x=ba .free)
def eC {prog:Fn}{w:Fv}{A:Fs}{R:LD->EN->Prop}{s:EN}{elt target iter:Fa}{ifs:EI Fa}{scope:HM}{pos:G5}{it acc:EK}{env:Lb}(I:EV->EN->Prop)
    (turn:∀n s,I n s->wpAny (model prog w) A (pyNext it) (λr s₁=>match r with
      | none=>R (.ok .next) s₁
      | some v=>wpAny (model prog w) A (letOwnedTupleGo target it v) (λ_ s₁=>wpAny (model prog w) A (assign target env v) (λ_ s₂=>
          wpAny (model prog w) A (forIn ifs true λc r=>if r=true then do let ok <- isTrue c env (eval c env); pure (Gy ok)else pure (Gy r)) (λok s₃=>
            if ok=true then wpAny (model prog w) A (eval elt env) (λx s₄=>
              wpAny (model prog w) A (call (.builtin "list.append") [acc,x]) (λ_ s₅=>∃m,m < n/\I m s₅) (λ_ _=>F8) s₄) (λ_ _=>F8) s₃
            else ∃m,m < n/\I m s₃) (λ_ _=>F8) s₂) (λ_ _=>F8) s₁) (λ_ _=>F8) s₁) (λ_ _=>F8) s)
    (n:EV) (h:I n s) :
    codeAny (model prog w) A (.compLoop (.ListComp elt [#[target,iter,ifs,0]] scope pos) 0 it acc env) R s:=by
  show codeAny_loop rfl I (λn s hI=>?_) n h
  change wpAny _ A ((compTurn (.ListComp elt [#[target,iter,ifs,0]] scope pos) 0 it acc env).onRaise (λx=>do noteFrame x env; theTreesLotGoes x)) _ _ s
  show wpAny_noted ?_;rw[compTurn_list];show EJ (IM (EJ (Gz (turn n s hI) (λr s₁ h₁=>?_) λ_ _ h'=>h'.elim)))
  cases r with
  | none=>exact ET h₁
  | some v=>
    show EJ (Gz h₁ (λ_ s₁ h₁=>?_) λ_ _ h'=>h'.elim)
    show EJ (Gz h₁ (λ_ s₂ h₂=>EJ (Gz h₂ (λok s₃ h₃=>?_) λ_ _ h'=>h'.elim)) λ_ _ h'=>h'.elim)
    cases ok with
    | false=>exact ET #[rfl,h₃]
    | true=>
      exact EJ (EJ (Gz h₃ (λx s₄ h₄=>EJ (Gz h₄ (λ_ s₅ h₅=>ET (ET #[rfl,h₅])) λ_ _ h'=>h'.elim)) λ_ _ h'=>h'.elim))
section
variable{X:Cx}{J:EI (EU×Gm)}{Y:L2.St}{H:Hp}{s:EN}
def Inv.adopt {D:EU}{o:HO}(I:Inv X J Y H s)(hn:H D=gV)(h1:D∈X.ex\/X.s₀.heap.objs.size<=D)(hL:D≠X.env.locals)(h2:∀x c,X.env.cells.lookup x=ba c->c≠D)(h3:∀p∈X.pn++J,p.1≠D)
  (new:ObjOk X.prog X.w (aR H D o) s.heap D o):Inv X J Y (aR H D o) s:=by
 have nit:∀b u,H b=ba u->b≠D:=λb u e z=>by rw[z,hn]at e; cases e
 have key:Inv X J Y (aR H D o) { s with heap:=s.heap,gens:=s.gens,drawn:=s.drawn,toks:=s.toks }:=by
  show I.step (g':=s.gens) (d':=s.drawn) (t':=s.toks) (h':=s.heap) (ch:=[D]) (λb hb=>?_) (λb o _ _ hc e _=>e) (λb o _ _ hc e _=>#[o.slots,e]) (λb o hc e n=>?_)
   (λb o hc e=>#[o,e]) (λb xs e=>?_) (λb o xs e=>?_) (λb ps e=>#[#[],?_]) (λm hm=>hm) (λb u e=>?_) I.bare
  ·have e:b=D:=by simpa using hb
   subst e;exact#[h1,hL,h2,h3]
  ·rw[au (λz=>hc (by simp[z]))]; exact n
  ·rw[au (nit b _ e)]; exact e
  ·rw[au (nit b _ e)]; exact e
  ·rw[au (nit b _ e),e]; simp
  ·by_cases hb:b=D
   ·subst hb; rw[az]at e; cases e; exact new
   ·rw[au hb]at e;show(I.hok b u e).stay (λc v hc q=>q) (λc q=>?_) λc xs q=>?_
    ·rw[au (nit c _ q)]; exact q
    ·rw[au (nit c _ q)]; exact q
 exact key
def zV {scope:HM}{cl:EI (E3×EU)}{N:EI E3}{cap:EI (EO EV)}{C:EU}{s0:EN}{ex:EI EU}(I:Inv X J Y H s)(ck:CompOk X scope cl N cap)(hs:s.heap.objs.size<=s0.heap.objs.size)(hC:s0.heap.objs.size<=C)
  (hk:∀b o,s.heap.get? b=ba o->s0.heap.get? b=ba o) (hex:∀b∈ex,(b≠C)/\(∀x c,X.env.cells.lookup x=ba c->c≠b)/\(∀o,X.base.get? b≠ba o)/\b∉mw X.stack) :
  (iQ X scope cl C N s0 H ex).Ok where
 mod:=I.ok.mod
 kind:=ck.kind
 glob:=I.ok.glob
 blt:=I.ok.blt
 above:=hC
 inj:=λx y c h1 h2=>I.ok.inj x y c (ck.sub x c h1) (ck.sub y c h2)
 has:=λx h=>ck.has x h
 cab:=λx c h=>by cases h
 hd:=I.ok.hd
 frames:=I.ok.frames
 stk:=.inl rfl
 exf:=λb hb=>#[(hex b hb).1,λx c h=>(hex b hb).2.1 x c (ck.sub x c h)]
 bs:=λb o e=>#[hk b o (I.bk b o e),(I.bs b o e).2]
 bsz:=F2 (F2 I.ok.bsz I.sz) hs
 noex:=λb o e hb=>(hex b hb).2.2.1 o e
 exfs:=λb hb=>(hex b hb).2.2.2
 funs:=I.stack.of_keeps λb o e _=>#[o,hk b o e,rfl]
 frf:=I.stkFree
structure BlockOk (X:Cx)(scope:HM)(cl:EI (E3×EU))(N:EI E3)(tg elt:Fa)(ifs:EI Fa)(g:FG)(c:FT)(f:FE):Prop where
 tgt:∀C s0 H0 ex,GG (iQ X scope cl C N s0 H0 ex) tg g
 tst:∀C s0 H0 ex J s Y H Q,Inv (iQ X scope cl C N s0 H0 ex) J Y H s->tT (iQ X scope cl C N s0 H0 ex) c Y H Q->
  wpAny (model X.prog X.w) X.A (forIn ifs true λc r=>if r=true then do let ok <- isTrue c (compEnvC scope cl C X.env) (eval c (compEnvC scope cl C X.env)); pure (Gy ok)else pure (Gy r)) (TP (iQ X scope cl C N s0 H0 ex) J Y Q) (λ_ _=>F8) s
 elt:∀C s0 H0 ex,GE (iQ X scope cl C N s0 H0 ex) elt f
def km {prog:Fn}{w:Fv}{B:Fs}{s:EN}{E:EK->EN->Prop}{Q:EK->EN->Prop}{D:EU}{its:EI EK}{n:EV}{u:EK}(e:s.heap.get? D=ba { cls:=.type "list",data:=.seq its.toArray n })(hz:its.length < sizeLine)
  (h:∀h' n',h'.get? D=ba { cls:=.type "list",data:=.seq (its++[u]).toArray n' }->(∀b o,b≠D->s.heap.get? b=ba o->h'.get? b=ba o)->Q .none { s with heap:=h' }) :
  wpAny (model prog w) B (call (.builtin "list.append") [.ref D,u]) Q E s:=by
 show HV F.slot_list_append #[_,e,rfl] F.entry_list_append (F.args_list_append_2 _ _) (Lk D its.toArray n u (by rw[EY]; omega)) #[e,?_]
 have q:=LI e (λa=>a.push u)
 have e2:its.toArray.push u=(its++[u]).toArray:=by simp
 rw[e2]at q;exact h _ _ q (λb o hb ho=>(FZ s.heap (Gp λa=>a.push u) (Ne.symm hb)).trans ho)
def jo {scope:HM}{cl:EI (E3×EU)}{N:EI E3}{cap:EI (EO EV)}{tg elt iter:Fa}{ifs:EI Fa}{g:FG}{c:FT}{f:FE}{pos:G5}{A:EI EU}{Z:Fm}{S S':aa}{mi:MI}{n:EV}{ws:EI W}{E:EK->EN->Prop}
  {it:EU} {fp:EI EU} {tn:EV->FN->Prop} {td:It} {RR:EK->EU->LD->EN->Prop}
  (I:Inv X J Y H s) (hc:X.calm=true) (er:EnvRel X.K A H Z Y) (so:StoreOk X.w X.K A H S) (ck:CompOk X scope cl N cap) (bk:BlockOk X scope cl N tg elt ifs g c f)
  (T:Turn X.prog X.w X.K tg td fp it tn) (t0:tn 0 s.heap) (hfp:∀b∈fp,eL X J H b) (mit:MIt X.w X.K mi td A H) (e:aS mi g c f n 0 (cN cap Z) S=ba (ws,S')) (hz:ws.length<=sizeLine)
  (fin:∀D C s' H' A' vs m,s'.heap.Ns C m->H' D=gV->D≠C->C≠X.env.locals->C∉X.fs->H' C=gV->X.s₀.heap.objs.size<=C->(∀x c,X.env.cells.lookup x=ba c->c≠C)->(∀p∈X.pn++J,p.1≠C)->
   Inv X J Y (aR H' D (.lst vs)) s'->Ext X.K A H A' H'->StoreOk X.w X.K A' H' S'->RelL X.K A' H' ws vs->RR (.ref D) C (.ok .next) s') :
  wpAny (model X.prog X.w) X.A (newList []) (λacc s₃=>wpAny (model X.prog X.w) X.A (newFunctionEnv scope X.env.globals cl [] X.env.qual gV .none (ba X.env)) (λcenv s₄=>
   codeAny (model X.prog X.w) X.A (.compStart (.ListComp elt [#[tg,iter,ifs,0]] scope pos) 0 (.ref it) acc { cenv with scope:=relabel scope X.env }) (RR acc cenv.locals) s₄) E s₃) E s:=by
 show FW (wpAny_newFunctionEnv ck.nocell (by intro y hy; simp at hy) (λh₁ hns₁ hsb₁=>?_) ck.kind)
 dsimp only at hns₁ hsb₁ ⊢;generalize hH2:s.heap.push { cls:=.type "list",dict:=gV,data:=.seq ([]:EI EK).toArray }=h2 at hns₁ hsb₁ ⊢;have hCs:h2.objs.size=s.heap.objs.size+1:=by rw[<- hH2,Hh]
 have k2:∀b o,s.heap.get? b=ba o->h2.get? b=ba o:=λb o z=>hH2 ▸ EM _ z
 have lt2:∀b o,h2.get? b=ba o->b < h2.objs.size:=λb o z=>E4 z
 have k1:∀b o,h2.get? b=ba o->h₁.get? b=ba o:=λb o z=>hsb₁.extBut b o (Fg (lt2 b o z)) (EM _ z)
 have hD2:h2.get? s.heap.objs.size=ba { cls:=.type "list",data:=.seq ([]:EI EK).toArray }:=hH2 ▸ EX _ rfl;have hDC:s.heap.objs.size≠h2.objs.size:=by rw[hCs]; omega
 have fresh:∀a,s.heap.objs.size<=a->H a=gV:=λa ha=>I.hok.fresh ha
 have cellLt:∀x c,X.env.cells.lookup x=ba c->c < s.heap.objs.size:=λx c z=>let ⟨_,q⟩:=I.cell x c z; q.lt
 have fpLt:∀b∈fp,b < s.heap.objs.size:=λb hb=>let ⟨_,q,_⟩:=T.obj 0 s.heap t0 b hb; E4 q
 have stkLt:∀b∈mw X.stack,b < s.heap.objs.size:=λb hb=>let ⟨_,o,q,_⟩:=I.stack.mem hb; E4 q
 have baseLt:∀b o,X.base.get? b=ba o->b < s.heap.objs.size:=λb o z=>E4 (I.bk b o z)
 have fpStk:∀b∈fp,b∉mw X.stack:=λb hb z=>by
  rcases Fc.mp (I.stkSub b z)with q|q
  ·exact(hfp b hb).2.1 q
  ·exact(hfp b hb).2.2.1 q
 have fpBase:∀b∈fp,∀o,X.base.get? b≠ba o:=λb hb o z=>by
  rcases(hfp b hb).2.2.2.1 with q|q
  ·exact I.ok.noex b o z q
  ·exact absurd (Fp (E4 (I.ok.bs b o z).1) q) (Gq _)
 have ltC:∀ {b:EU},b < s.heap.objs.size->b≠h2.objs.size:=λhb=>by rw[hCs]; exact Fg (Jr hb)
 let s3:EN:={ s with heap:=h2 }
 have ok':(iQ X scope cl h2.objs.size N s3 H (fp++[s.heap.objs.size])).Ok:=by
  show zV I ck (show s.heap.objs.size<=h2.objs.size by rw[hCs]; omega) (E2 _) k2 λb hb=>?_
  rcases FR.mp hb with hb|hb
  ·exact#[ltC (fpLt b hb),(hfp b hb).2.2.2.2.1,fpBase b hb,fpStk b hb]
  ·have eb:b=s.heap.objs.size:=by simpa using hb
   subst eb;exact#[hDC,λx c z=>Fg (cellLt x c z),λo z=>Gq _ (baseLt _ o z),λz=>Gq _ (stkLt _ z)]
 obtain⟨m0,hn0,hl0⟩:=I.loc;have I0:Inv (iQ X scope cl h2.objs.size N s3 H (fp++[s.heap.objs.size])) [] (cap.map λo=>match o with|some j=>(Y[j]?).join|none=>gV) H { s3 with heap:=h₁,toks:=s3.toks+([]:EI (E3×EK)).length }:=by
  show#[ok',rfl,I.bare,Un.kept k1,#[_,hns₁,λi x v e1 e2 e3=>?_],λx cc z=>?_,fresh _ (show s.heap.objs.size<=h2.objs.size by rw[hCs]; exact Hd _),λx cc z=>I.freeC x cc (ck.sub x cc z),λp hp=>absurd hp (by simp[iQ]),(I.hok.kept k2).kept k1,by rw[ER]; exact ck.len]
  ·rw[E1]at e2;cases q:cap[i]? with
   | none=>rw[q]at e2; cases e2
   | some oj=>
    rw[q]at e2;cases oj with
    | none=>cases e2
    | some j=>
     obtain⟨z1,z2,z3⟩:=ck.cap i j x q e1;have e2':(Y[j]?).join=ba v:=by simpa using e2
     have e2'':Y[j]?=ba (ba v):=by
      cases r:Y[j]? with
      | none=>rw[r]at e2'; cases e2'
      | some y=>rw[r]at e2'; exact congrArg ba e2'
     obtain⟨u,ru,lk⟩:=hl0 j x v z1 e2'' (by
      rcases z2 with z|z
      ·exact .inr (.inl z)
      ·exact .inr (.inr z))
     show#[u,ru,?_];rcases lk with⟨zk,_⟩|⟨_,cc,zc,zi⟩
     ·rcases z2 with z|z <;> (rw[zk]at z; cases z)
     ·obtain⟨c2,hc2⟩:=ck.has x z3;have:=ck.sub x c2 hc2;rw[zc]at this; cases this
      show .inr #[z3,cc,hc2,?_];obtain⟨o,ho,hd⟩:=zi;exact#[o,k1 _ _ (k2 _ _ ho),hd]
  ·obtain⟨v,o,ho,hd⟩:=I.cell x cc (ck.sub x cc z);exact#[v,o,k1 _ _ (k2 _ _ ho),hd]
 have er0:EnvRel X.K A H (cN cap Z) (cap.map λo=>match o with|some j=>(Y[j]?).join|none=>gV):=by
  show#[by simp[cN],λi w q=>?_]
  unfold cN at q;rw[E1]at q ⊢;cases r:cap[i]? with
  | none=>rw[r]at q; cases q
  | some oj=>
   rw[r]at q;cases oj with
   | none=>cases q
   | some j=>
    have q':(Z[j]?).join=ba w:=by simpa using q
    have q'':Z[j]?=ba (ba w):=by
     cases z:Z[j]? with
     | none=>rw[z]at q'; cases q'
     | some y=>rw[z]at q'; exact congrArg ba q'
    obtain⟨v,z1,z2⟩:=er.2 j w q'';exact#[v,by simp[z1],z2]
 have t1:tn 0 h₁:=T.keep 0 s.heap h₁ t0 λb hb o z=>k1 b o (k2 b o z)
 have fpOk':∀ {H':Hp} {pp:EI (EU×Gm)},(∀b∈fp,H' b=gV)->(∀p∈pp,p.1=s.heap.objs.size)->∀b∈fp,eL (iQ X scope cl h2.objs.size N s3 H (fp++[s.heap.objs.size])) pp H' b:=λhn hp b hb=>
  #[hn b hb,ltC (fpLt b hb),fpStk b hb,.inl (G0 _ hb),λx cc z=>(hfp b hb).2.2.2.2.1 x cc (ck.sub x cc z),λp hpp=>by
   rw[hp p (by simpa [iQ]using hpp)]
   exact(Fg (fpLt b hb)).symm]
 have DinEx:s.heap.objs.size∈fp++[s.heap.objs.size]:=Fo _ (by simp)
 have cellD:∀x c,cl.lookup x=ba c->c≠s.heap.objs.size:=λx cc z=>Fg (cellLt x cc (ck.sub x cc z))
 have fpD:∀b∈fp,b≠s.heap.objs.size:=λb hb=>Fg (fpLt b hb)
 have theEnd:∀s' Y' H' A' vs its nn,Inv (iQ X scope cl h2.objs.size N s3 H (fp++[s.heap.objs.size])) [] Y' H' s'->s'.heap.get? s.heap.objs.size=ba { cls:=.type "list",data:=.seq its nn }->∀(hits:∃l:EI EK,its=l.toArray/\Vals vs l),H' s.heap.objs.size=gV->Ext X.K A H A' H'->StoreOk X.w X.K A' H' S'->RelL X.K A' H' ws vs->
   RR (.ref s.heap.objs.size) h2.objs.size (.ok .next) s':=by
  intro s' Y' H' A' vs its nn I' hD hits hDn ex so' rl;obtain⟨l,rfl,rv⟩:=hits;obtain⟨m,hn,_⟩:=id I'.loc;have un:Un (mw X.stack) (fp++[s.heap.objs.size]) H H' s.heap s'.heap:=(Un.kept k2).trans I'.base;have hch:∀b∈fp++[s.heap.objs.size],(b∈X.ex\/X.s₀.heap.objs.size<=b)/\b≠X.env.locals/\(∀x c,X.env.cells.lookup x=ba c->c≠b)/\∀p∈X.pn++J,p.1≠b:=λb hb=>by
   rcases FR.mp hb with hb|hb
   ·exact#[(hfp b hb).2.2.2.1,(hfp b hb).2.1,(hfp b hb).2.2.2.2.1,(hfp b hb).2.2.2.2.2]
   ·have eb:b=s.heap.objs.size:=by simpa using hb
    subst eb;exact#[.inr I.sz,(Fg I.lt).symm,λx cc z=>Fg (cellLt x cc z),λp hp=>Fg (E4 (I.pin p hp).1)]
  have I2:Inv X J Y H' s':=I.call' (show s'.os=s.os from I'.os) un I'.hok I'.bare hch
  have I3:Inv X J Y (aR H' s.heap.objs.size (.lst vs)) s':=Inv.adopt I2 hDn (hch _ DinEx).1 (hch _ DinEx).2.1 (hch _ DinEx).2.2.1 (hch _ DinEx).2.2.2 #[by rw[<- rl.length]; exact hz,l,nn,rv,hD]
  have hCle:s.heap.objs.size<=h2.objs.size:=by rw[hCs]; exact Hd _
  exact fin _ _ s' H' A' vs m hn hDn hDC (Gw (Fp I.lt hCle)) (I.nofs hCle) I'.free (F2 I.sz hCle) (λx cc z=>Fg (Fp (cellLt x cc z) hCle))
   (λp hp=>Fg (Fp (E4 (I.pin p hp).1) hCle)) I3 ex so' rl
 have loop:∀s4:EN,s4={ s3 with heap:=h₁,toks:=s3.toks+([]:EI (E3×EK)).length }->
   codeAny (model X.prog X.w) X.A (.compLoop (.ListComp elt [#[tg,iter,ifs,0]] scope pos) 0 (.ref it) (.ref s.heap.objs.size) (compEnvC scope cl h2.objs.size X.env)) (RR (.ref s.heap.objs.size) h2.objs.size) s4:=by
  rintro s4 rfl;show eC (λk s5=>∃i Y5 H5 A5 Z5 S5 done its nn vs ys,Inv (iQ X scope cl h2.objs.size N s3 H (fp++[s.heap.objs.size])) [] Y5 H5 s5/\tn i s5.heap/\(∀b∈fp,H5 b=gV)/\s5.heap.get? s.heap.objs.size=ba { cls:=.type "list",data:=.seq (its:EI EK).toArray nn }/\H5 s.heap.objs.size=gV/\Vals vs its/\
   Ext X.K A H A5 H5/\EnvRel X.K A5 H5 Z5 Y5/\StoreOk X.w X.K A5 H5 S5/\RelL X.K A5 H5 done vs/\ws=done++ys/\aS mi g c f k i Z5 S5=ba (ys,S')) ?_ n
   #[0,_,H,A,_,S,[],[],0,[],ws,I0,t1,λb hb=>(hfp b hb).1,k1 _ _ hD2,fresh _ (E2 _),.nil,.refl,er0,so,.nil,rfl,e]
  rintro k s5 ⟨i,Y5,H5,A5,Z5,S5,done,its,nn,vs,ys,I5,t5,f5,d5,n5,v5,e5,er5,so5,rl5,hw5,w5⟩;have pinD:Inv (iQ X scope cl h2.objs.size N s3 H (fp++[s.heap.objs.size])) [(s.heap.objs.size,{ cls:=.type "list",data:=.seq its.toArray nn })] Y5 H5 s5:=I5.pins_of λp hp=>by
   have hp':p=(s.heap.objs.size,{ cls:=.type "list",data:=.seq its.toArray nn }):=by simpa using hp
   subst hp';exact#[d5,n5,hDC,λz=>Gq _ (stkLt _ z),λv z=>by cases z]
  have oneD:∀p∈[(s.heap.objs.size,({ cls:=.type "list",data:=.seq its.toArray nn }:Gm))],p.1=s.heap.objs.size:=λp hp=>by
   have hp':p=(s.heap.objs.size,{ cls:=.type "list",data:=.seq its.toArray nn }):=by simpa using hp
   rw[hp']
  cases k with
  | zero=>
   dsimp only[aS]at w5;split at w5
   ·rename_i hst;cases w5;rw[HH]at hw5;subst hw5;show aK (T.done (iQ X scope cl h2.objs.size N s3 H (fp++[s.heap.objs.size])) rfl rfl rfl hc i _ s5 Y5 H5 _ pinD (fpOk' f5 oneD) t5 (mit.stop A5 H5 _ i e5 so5 hst)) λr s6 #[hr,I6]=>?_
    subst hr;have p6:=I6.pin _ (Fo _ (Fb.mpr rfl));exact theEnd s6 Y5 H5 A5 vs _ nn (I6.pins_of λp hp=>absurd hp (by simp)) p6.1 #[its,rfl,v5] n5 e5 so5 rl5
   ·cases w5
  | succ k=>
   dsimp only[aS]at w5;split at w5
   ·rename_i w hw;obtain⟨go,yl⟩:=mit.go A5 H5 S5 i w e5 so5 hw;show aK (T.item (iQ X scope cl h2.objs.size N s3 H (fp++[s.heap.objs.size])) rfl rfl rfl hc i _ s5 Y5 H5 _ pinD (fpOk' f5 oneD) t5 go) λr s6 #[u,hr,h6]=>?_
    subst hr;show aK h6 λ_ s7 #[x,H7,I7,r7,y7,t7,f7]=>?_
    obtain⟨x1,x2,x3⟩:=yl x H7 y7;have I7':=I7.pinned (fpOk' f7 oneD) (T.obj _ _ t7);split at w5
    ·rename_i Z8 S8 h8;show aK (bk.tgt _ _ _ _ _ s7 Y5 H7 x u (λY' H'=>∃A',Ext X.K A5 H5 A' H'/\StoreOk X.w X.K A' H' S8/\EnvRel X.K A' H' Z8 Y') I7' r7 #[A5,Z5,S5,w,Z8,S8,er5.mono x1,x2,x3,h8,λY' H' A' q1 q2 q3=>#[A',x1.trans q1,q2,q3]]) λ_ s8 #[Y8,H8,I8,A8,e58,so8,er8]=>?_
     have e8:Ext X.K A H A8 H8:=e5.trans e58;have pD:∀ {Y':L2.St} {H':Hp} {s':EN},Inv (iQ X scope cl h2.objs.size N s3 H (fp++[s.heap.objs.size])) ([(s.heap.objs.size,{ cls:=.type "list",data:=.seq its.toArray nn })]++fN fp s7.heap) Y' H' s'->s'.heap.get? s.heap.objs.size=ba { cls:=.type "list",data:=.seq its.toArray nn }/\H' s.heap.objs.size=gV:=λI'=>
      let q:=I'.pin _ (Fo _ (G0 _ (Fb.mpr rfl)))
      #[q.1,q.2.1]
     have pF:∀ {Y':L2.St} {H':Hp} {s':EN},Inv (iQ X scope cl h2.objs.size N s3 H (fp++[s.heap.objs.size])) ([(s.heap.objs.size,{ cls:=.type "list",data:=.seq its.toArray nn })]++fN fp s7.heap) Y' H' s'->(∀b∈fp,H' b=gV)/\∀b∈fp,∀o,s7.heap.get? b=ba o->s'.heap.get? b=ba o:=λI'=>
      #[λb hb=>by
       obtain⟨o,eo,_⟩:=T.obj _ _ t7 b hb;exact(I'.pin (b,o) (Fo _ (Fo _ (dz hb eo)))).2.1,
       λb hb o eo=>(I'.pin (b,o) (Fo _ (Fo _ (dz hb eo)))).1]
     split at w5
     ·rename_i S9 h9;show aK (bk.tst _ _ _ _ _ s8 Y8 H8 (λb H'=>b=true/\∃A',Ext X.K A8 H8 A' H'/\StoreOk X.w X.K A' H' S9) I8 #[A8,Z8,S8,true,S9,er8,so8,h9,λb H' #[z0,A',z1,z2]=>#[z0,A',z1,z2]]) λb s9 #[H9,I9,z0,A9,e9,so9]=>?_
      subst z0;rw[Fi rfl];split at w5
      ·rename_i y S10 h10;split at w5
       ·rename_i ys' S4 h11;cases w5;show aK (bk.elt _ _ _ _ _ s9 Y8 H9 (EndV X.w X.K A9 H9 S10 y) I9 #[A9,Z8,S9,y,S10,er8.mono e9,so9,h10,λ_ _ z=>z]) λu10 s10 #[v10,H10,I10,r10,A10,e10,so10,rl10]=>?_
        obtain⟨d10,n10⟩:=pD I10;obtain⟨f10,k10⟩:=pF I10;have hlen:its.length < sizeLine:=by
         have l1:=v5.length;have l2:=rl5.length;rw[hw5,E6,Fy]at hz;omega
        show km d10 hlen λh' n' hd' hk'=>?_
        have Ib:Inv (iQ X scope cl h2.objs.size N s3 H (fp++[s.heap.objs.size])) [] Y8 H10 { s10 with heap:=h' }:=by
         have Ia:Inv (iQ X scope cl h2.objs.size N s3 H (fp++[s.heap.objs.size])) [] Y8 H10 s10:=I10.pins_of λp hp=>absurd hp (by simp)
         exact Ia.turned (t':=s10.toks) (it:=s.heap.objs.size) hk' n10 hDC (.inl DinEx) cellD (λp hp=>absurd hp (by simp[iQ]))
        show#[k,HY k,i+1,Y8,H10,A10,Z8,S10,done++[y],its++[u10],n',vs++[v10],ys',Ib,?_,f10,hd',n10,v5.append #v[r10],(e8.trans e9).trans e10,(er8.mono e9).mono e10,so10,?_,?_,h11]
        ·exact T.keep (i+1) s7.heap h' t7 λb hb o eo=>hk' b o (fpD b hb) (k10 b hb o eo)
        ·exact(rl5.mono ((e58.trans e9).trans e10)).append #v[rl10]
        ·rw[hw5,Hq]; rfl
       ·cases w5
      ·cases w5
     ·rename_i S9 h9;show aK (bk.tst _ _ _ _ _ s8 Y8 H8 (λb H'=>b=false/\∃A',Ext X.K A8 H8 A' H'/\StoreOk X.w X.K A' H' S9) I8 #[A8,Z8,S8,false,S9,er8,so8,h9,λb H' #[z0,A',z1,z2]=>#[z0,A',z1,z2]]) λb s9 #[H9,I9,z0,A9,e9,so9]=>?_
      subst z0;rw[FJ E8];obtain⟨d9,n9⟩:=pD I9;obtain⟨f9,k9⟩:=pF I9;show#[k,HY k,i+1,Y8,H9,A9,Z8,S9,done,its,nn,vs,ys,I9.pins_of λp hp=>absurd hp (by simp),T.keep (i+1) s7.heap _ t7 k9,f9,d9,n9,v5,e8.trans e9,er8.mono e9,so9,rl5.mono (e58.trans e9),hw5,w5]
     ·cases w5
    ·cases w5
   ·cases w5
 exact codeAny_compStart_list (loop _ rfl) (T.self X.A 0 _ _ _ t1 (loop _ rfl))
def lL {fi:FI}{g:FG}{c:FT}{f:FE}{cap:EI (EO EV)}{Z:Fm}{S:aa}{w:W}{S':aa}(e:io fi g c f cap Z S=ba (w,S')) :
  ∃mi S1 n ys S2,fi Z S=ba (mi,S1)/\mi.len S1=ba n/\aS mi g c f n 0 (cN cap Z) S1=ba (ys,S2)/\ys.length<=sizeLine/\w=.ref S2.length/\S'=S2++[.lst ys]:=by
 unfold io at e;split at e
 ·rename_i mi S1 h1;split at e
  ·rename_i n h2;split at e
   ·rename_i ys S2 h3;obtain⟨h4,h5,h6⟩:=gM e;exact#[mi,S1,n,ys,S2,h1,h2,h3,h4,h5,h6]
   ·cases e
  ·cases e
 ·cases e
def wQ {scope:HM}{N:EI E3}{cap:EI (EO EV)}{tg elt iter:Fa}{ifs:EI Fa}{fi:FI}{g:FG}{c:FT}{f:FE}{pos:G5}(hc:X.calm=true)(hi:GI X tg iter fi)(hck:X.Ok->∃cl,CompOk X scope cl N cap/\BlockOk X scope cl N tg elt ifs g c f)
  (hs:∀x,foldedSetIterable iter X.env x=pure x):GE X (.ListComp elt [#[tg,iter,ifs,0]] scope pos) (io fi g c f cap):=by
 intro J s Y H Q I ⟨A,Z,S,w,S',er,so,e,hq⟩;obtain⟨mi,S1,n,ys,S2,h1,h2,h3,h4,rfl,rfl⟩:=lL e;obtain⟨cl,ck,bk⟩:=hck I.ok;rw[eval_ListComp];show Jy (use:=gV) rfl hs ck.clos ck.kind ck.names (aK (hi J s Y H (λtd H'=>∃A',Ext X.K A H A' H'/\StoreOk X.w X.K A' H' S1/\MIt X.w X.K mi td A' H') I #[A,Z,S,mi,S1,er,so,h1,λtd H' A' z1 z2 z3=>#[A',z1,z2,z3]]) λv s1 q1=>aK q1 λitv s2 q2=>?_)
 obtain⟨it,fp,tn,td,H2,rfl,I2,T,t0,hfp,A2,e2,so2,mit⟩:=q2;show jo (RR:=λacc C=>compPost (model X.prog X.w) X.A X.xe gV (EP X J Y Q) acc C) I2 hc (er.mono e2) so2 ck bk T t0 hfp mit h3 h4 ?_
 intro D C s' H' A' vs m hn hDn hDC hCL hCf hCn hCs hCc hCp I3 ex so3 rl;show#[m,hn,λh' hs'=>?_]
 have I4:Inv X J Y (aR H' D (.lst vs)) { s' with heap:=h' }:=I3.turned (t':=s'.toks) (it:=C) (λb o hb eo=>hs'.extBut b o hb eo) (by rw[au (Ne.symm hDC)]; exact hCn) hCL (.inr hCs) hCc hCp
 exact#[.ref D,_,I4,rfl,hq _ _ (EndV.after (e2.trans ex) (.lst so3 rl hDn))]
def ni {scope:HM}{N:EI E3}{cap:EI (EO EV)}{tg elt iter:Fa}{ifs:EI Fa}{fi:FI}{g:FG}{c:FT}{f:FE}{pos py spos:G5}{y:E3}{i:EV}(hc:X.calm=true)(hi:GI X tg iter fi)(hck:X.Ok->∃cl,CompOk X scope cl N cap/\BlockOk X scope cl N tg elt ifs g c f)
  (hs:∀x,foldedSetIterable iter X.env x=pure x) (hsw:swapsWith (.ListComp elt [#[tg,iter,ifs,0]] scope pos) (ba (.Name y py)) spos.line X.env=pure true) (hN:X.N.Nodup) (hy:X.N[i]?=ba y) (hl:X.env.scope.names.lookup y=ba .local) :
  GS X (.Assign [.Name y py] (.ListComp elt [#[tg,iter,ifs,0]] scope pos) spos) (im (io fi g c f cap) (xY i)):=by
 intro J s Y H Dd I ⟨A,Z,S,o,S',er,so,e,hd⟩;unfold im at e;split at e
 ·rename_i w S0 h0;simp only[xY]at e;cases e;obtain⟨mi,S1,n,ys,S2,h1,h2,h3,h4,rfl,rfl⟩:=lL h0;obtain⟨cl,ck,bk⟩:=hck I.ok;rw[exec_Assign_Name_used _ _ _ _ hsw];show EJ (IM (EJ ?_));change wpAny _ X.A (do let _ <- comprehension (.ListComp elt [⟨tg,iter,ifs,0⟩] scope pos) scope X.env _ (newList []) false (eval iter X.env) (ba (assign (.Name y py) X.env))) _ _ s
  show EJ (Gz (Jy (use:=ba (assign (.Name y py) X.env)) (Q:=λ_ s'=>SP X J Dd .next s') rfl hs ck.clos ck.kind ck.names
   (aK (hi J s Y H (λtd H'=>∃A',Ext X.K A H A' H'/\StoreOk X.w X.K A' H' S1/\MIt X.w X.K mi td A' H') I #[A,Z,S,mi,S1,er,so,h1,λtd H' A' z1 z2 z3=>#[A',z1,z2,z3]]) λv s1 q1=>aK q1 λitv s2 q2=>?_)) (λ_ s' hq=>ET (ET hq)) λ_ _ e=>e)
  obtain⟨it,fp,tn,td,H2,rfl,I2,T,t0,hfp,A2,e2,so2,mit⟩:=q2;show jo (RR:=λacc C=>compPost (model X.prog X.w) X.A X.xe (ba (assign (.Name y py) X.env)) (λ_ s'=>SP X J Dd .next s') acc C) I2 hc (er.mono e2) so2 ck bk T t0 hfp mit h3 h4 ?_
  intro D C s' H' A' vs m hn hDn hDC hCL hCf hCn hCs hCc hCp I3 ex so3 rl;obtain⟨oC,esC,epC,hoC,hdC,hrC⟩:=id hn;have I3':Inv X (J++[(C,oC)]) Y (aR H' D (.lst vs)) s':=I3.pins_of λp hp=>by
   rcases FR.mp hp with hp|hp
   ·exact I3.pin p (Fo _ hp)
   ·have hp':p=(C,oC):=by simpa using hp
    subst hp';exact#[hoC,by rw[au (Ne.symm hDC)]; exact hCn,hCL,hCf,λv z=>by rw[hdC]at z; cases z]
  change wpAny _ X.A (assign (.Name y py) X.env (.ref D)) _ _ _;show Lc (eT I3' hN hy (.inl hl) (v:=.ref D) rfl (λs4 I4=>?_) (.inr hl))
  have pC:=I4.pin (C,oC) (Fo _ (Fo _ (Fb.mpr rfl)));show#[m,#[oC,esC,epC,pC.1,hdC,hrC],λh' hs'=>?_]
  have I5:Inv X J (Y.set i (ba (.ref D))) (aR H' D (.lst vs)) s4:=I4.pins_of λp hp=>I4.pin p (Fo _ (G0 _ hp))
  have I6:Inv X J (Y.set i (ba (.ref D))) (aR H' D (.lst vs)) { s4 with heap:=h' }:=I5.turned (t':=s4.toks) (it:=C) (λb o hb eo=>hs'.extBut b o hb eo) (by rw[au (Ne.symm hDC)]; exact hCn) hCL (.inr hCs) hCc hCp
  obtain⟨Af,f1,f2,f3⟩:=EndV.after (e2.trans ex) (EndV.lst so3 rl hDn);exact#[_,_,I6,hd.nx _ _ #[_,Af,rfl,f1,f2,(er.mono f1).set f3 i]]
 ·cases e
end
open PySem.Builtin.SmallTypes (nextOf)
structure Zap (z p q i j:EU):Prop where
 pz:p≠z
 qz:q≠z
 iz:i≠z
 jz:j≠z
 pq:p≠q
 pi:p≠i
 pj:p≠j
 qi:q≠i
 qj:q≠j
 ij:i≠j
section
variable{prog:Fn}{w:Fv}
structure Zit (prog:Fn)(w:Fv)(it:EU)(T:EV->FN->Prop)(C:FN->Prop)(i:EV)(Uq:EO (EK->Prop)):Prop where
 keep:∀j h h',T j h->(∀o,h.get? it=ba o->h'.get? it=ba o)->T j h'
 next:∀V,Uq=ba V->∀(B:Fs) (s:EN) (Q:EK->EN->Prop) (E:EK->EN->Prop),T i s.heap->C s.heap->(∀u h' tk,V u->T (i+1) h'->GY it s.heap h'->Q u { s with heap:=h',toks:=tk })->wpAny (model prog w) B (nextOf (.ref it)) Q E s
 stop:Uq=gV->∀(B:Fs) (s:EN) (Q:EK->EN->Prop) (E:EK->EN->Prop),B.handled=gV->T i s.heap->C s.heap->(∀h' e,Kh it s.heap h'->(∃o,h'.get? e=ba o/\o.cls=.type "StopIteration")->E (.ref e) { s with heap:=h' })->wpAny (model prog w) B (nextOf (.ref it)) Q E s
variable{B:Fs}{E:EK->EN->Prop}{s:EN}{z p q i1 i2:EU}{T1 T2:EV->FN->Prop}{C1 C2:FN->Prop}{i:EV}{a b:EK}
abbrev Zc (z q i1 i2:EU)(C:FN->Prop):Prop:=∀h h',C h->(∀c o,c≠z->c≠q->c≠i1->c≠i2->h.get? c=ba o->h'.get? c=ba o)->C h'
def ip {U1 U2:EO (EK->Prop)}{Q:EK->EN->Prop}(D:Zap z p q i1 i2)(Zq:Zit prog w i1 T1 C1 i U1)(Z2':∀V1,U1=ba V1->Zit prog w i2 T2 C2 i U2)(k1:Zc z q i1 i2 C1)(k2:Zc z q i1 i2 C2)(hh:B.handled=gV)
  (hz:KL s.heap z p q .none) (hp:IK s.heap p (.ref i1) (.ref i2)) (hq:IK s.heap q a b) (t1:T1 i s.heap) (t2:T2 i s.heap) (c1:C1 s.heap) (c2:C2 s.heap)
  (hI:∀V1 V2,U1=ba V1->U2=ba V2->∀u v h' tk,V1 u->V2 v->KL h' z p q (rawInt s.heap.objs.size)->IK h' q u v->T1 (i+1) h'->T2 (i+1) h'->IK h' s.heap.objs.size u v->
   (∀c o,c≠z->c≠q->c≠i1->c≠i2->s.heap.get? c=ba o->h'.get? c=ba o)->Q (.ref s.heap.objs.size) { s with heap:=h',toks:=tk })
  (hE:U1=gV\/U2=gV->∀h' tk e,(∀c o,c≠z->c≠q->c≠i1->c≠i2->s.heap.get? c=ba o->h'.get? c=ba o)->(∃o,h'.get? e=ba o/\o.cls=.type "StopIteration")->E (.ref e) { s with heap:=h',toks:=tk }) :
  wpAny (model prog w) B (Ip.«zip.__next__» #[[.ref z],[]]) (λfin s'=>∃v,fin=.done (.ret v)/\Q v s') E s:=by
 change wpAny _ _ (field (.ref z) 2 >>= _) _ _ s;show EJ (Go hz rfl (x:=.bool false) rfl ?_);change wpAny _ _ (field (.ref z) 3 >>= _) _ _ s;show EJ (Go hz rfl (x:=.ref p) rfl (EJ (GM hp rfl ?_)));change wpAny _ _ (Gu (.ref z) >>= _) _ _ s;unfold Gu;show EJ (EJ (Go hz rfl (x:=.none) rfl (ET ?_)));simp only[HX];show EJ (IF (EJ (Go hz rfl (x:=.ref q) rfl ?_)));show EJ (HG hz (by simp) λg1 zz1 s1=>?_)
 replace zz1:KL g1 z p q .ellipsis:=zz1;show EJ ?_;simp only[List.zipIdx_cons,List.zipIdx_nil,IT,Km];show EJ (EJ (MJ ?_));change wpAny _ _ (nextOf (.ref i1) >>= _) _ _ _;have up1:∀c o,c≠z->s.heap.get? c=ba o->g1.get? c=ba o:=λc o hc e=>s1.extBut c o hc e
 have t1':T1 i g1:=Zq.keep _ _ _ t1 λo e=>up1 _ _ D.iz e
 have c1':C1 g1:=k1 _ _ c1 λc o hc _ _ _ e=>up1 c o hc e
 have fin:∀(g:FN) (tk:EV) (it e:EU),(it=i1\/it=i2)->U1=gV\/U2=gV->KL g z p q .ellipsis->(∀c o,c≠z->c≠q->c≠i1->c≠i2->s.heap.get? c=ba o->g.get? c=ba o)->(∃o,g.get? e=ba o/\o.cls=.type "StopIteration")->
   wpAny (model prog w) B (setField (.ref z) 0 .none) (λ_ s''=>E (.ref e) s'') E { s with heap:=g,toks:=tk }:=λg tk it e _ hu gz kg #[oe,he,hc]=>by
  have ne:e≠z:=λx=>by subst x; rw[gz]at he; cases he; simp at hc
  exact HG gz (by simp) λg' _ sb=>hE hu g' tk e (λc o a1 a2 a3 a4 x=>sb.extBut _ _ a1 (kg c o a1 a2 a3 a4 x)) #[oe,sb.extBut _ _ ne he,hc]
 cases hu1:U1 with
 | none=>
  show EJ (Zq.stop hu1 _ _ _ _ hh t1' c1' λg2 e eb he=>?_)
  exact fin g2 s.toks i1 e (.inl rfl) (.inl hu1) (eb _ _ D.iz.symm zz1) (λc o a1 _ a3 _ x=>eb _ _ a3 (up1 c o a1 x)) he
 | some V1=>
  have Zz:=Z2' V1 hu1;show EJ (Zq.next V1 hu1 _ _ _ _ t1' c1' λu g2 tk2 hu t12 s2=>ET ?_)
  have q2:IK g2 q a b:=s2.extBut _ _ D.qi (up1 _ _ D.qz hq);show EJ (GM q2 rfl (EJ (Kq q2 λg3 q3 s3=>?_)))
  replace q3:IK g3 q u b:=q3;show EJ (HW (ET ?_));show EJ (EJ (MJ ?_));change wpAny _ _ (nextOf (.ref i2) >>= _) _ _ _;have up3:∀c o,c≠z->c≠q->c≠i1->s.heap.get? c=ba o->g3.get? c=ba o:=λc o a1 a2 a3 x=>s3.extBut _ _ a2 (s2.extBut _ _ a3 (up1 c o a1 x))
  have zz3:KL g3 z p q .ellipsis:=s3.extBut _ _ D.qz.symm (s2.extBut _ _ D.iz.symm zz1);have t2':T2 i g3:=Zz.keep _ _ _ t2 λo e=>up3 _ _ D.jz D.qj.symm D.ij.symm e
  have c2':C2 g3:=k2 _ _ c2 λc o a1 a2 a3 _ e=>up3 c o a1 a2 a3 e
  cases hu2:U2 with
  | none=>
   show EJ (Zz.stop hu2 _ _ _ _ hh t2' c2' λg4 e eb he=>?_)
   exact fin g4 tk2 i2 e (.inr rfl) (.inr hu2) (eb _ _ D.jz.symm zz3) (λc o a1 a2 a3 a4 x=>eb _ _ a4 (up3 c o a1 a2 a3 x)) he
  | some V2=>
   show EJ (Zz.next V2 hu2 _ _ _ _ t2' c2' λv g4 tk4 hv t24 s4=>ET ?_)
   have q4:IK g4 q u b:=s4.extBut _ _ D.qj q3;show EJ (GM q4 rfl (EJ (Kq q4 λg5 q5 s5=>?_)))
   replace q5:IK g5 q u v:=q5;show EJ (HW (ET (ET ?_)));show EJ (GM q5 rfl (EJ (Kl ?_)));have sz:g5.objs.size=s.heap.objs.size:=by rw[s5.1,s4.1,s3.1,s2.1,s1.1]
   have zz5:KL g5 z p q .ellipsis:=s5.extBut _ _ D.qz.symm (s4.extBut _ _ D.jz.symm zz3);have t15:T1 (i+1) g5:=Zq.keep _ _ _ t12 λo e=>s5.extBut _ _ D.qi.symm (s4.extBut _ _ D.ij (s3.extBut _ _ D.qi.symm e))
   have t25:T2 (i+1) g5:=Zz.keep _ _ _ t24 λo e=>s5.extBut _ _ D.qj.symm e
   have zlt:z < g5.objs.size:=E4 zz5;change wpAny _ _ (G7 (.ref z) (.ref g5.objs.size) >>= _) _ _ _;show EJ ?_;unfold G7;have zz6:KL (g5.push { cls:=.type "tuple",data:=.seq [u,v].toArray }) z p q .ellipsis:=EM _ zz5;show EJ (HG zz6 (by simp) λg7 zz7 s7=>?_)
   replace zz7:KL g7 z p q (rawInt g5.objs.size):=zz7;show HG zz7 (by simp) λg8 zz8 s8=>?_
   replace zz8:KL g8 z p q (rawInt g5.objs.size):=zz8;have up8:∀c o,c≠z->g5.get? c=ba o->g8.get? c=ba o:=λc o hc e=>s8.extBut _ _ hc (s7.extBut _ _ hc (EM _ e))
   have n8:IK g8 g5.objs.size u v:=s8.extBut _ _ (Gw zlt) (s7.extBut _ _ (Gw zlt) (EX _ rfl));rw[sz]at zz8 n8;show ET #[_,rfl,?_];change Q (.ref g5.objs.size) _;rw[sz];exact hI V1 V2 hu1 hu2 u v g8 tk4 hu hv zz8 (up8 _ _ D.qz q5) (Zq.keep _ _ _ t15 λo e=>up8 _ _ D.iz e) (Zz.keep _ _ _ t25 λo e=>up8 _ _ D.jz e) n8 λc o a1 a2 a3 a4 e=>up8 c o a1 (s5.extBut _ _ a2 (s4.extBut _ _ a4 (up3 c o a1 a2 a3 e)))
end
end Mi
namespace Mi
open PySem PySem.Spec PyProof.Rows L2
open PySem.Builtin.SmallTypes (nextOf)
abbrev cO (prog:Fn)(w:Fv)(v:EK)(o:Gm)(C:FN->Prop):Prop:=∀(B:Fs) (s:EN) (Q:EK->EN->Prop) (E:EK->EN->Prop),C s.heap->Q (.ref s.heap.objs.size) { s with heap:=s.heap.push o }->wpAny (model prog w) B (pyIter v) Q E s
abbrev BK (h:FN)(o1 o2:Gm):FN:=(h.push o1).push o2
abbrev BL (h:FN)(o1 o2:Gm):FN:=(BK h o1 o2).push { cls:=.type "tuple",data:=.seq [.ref h.objs.size,.ref (h.push o1).objs.size].toArray }
abbrev BM (h:FN)(o1 o2:Gm):FN:=(BL h o1 o2).push { cls:=.type "tuple",data:=.seq [.none,.none].toArray }
abbrev yb (h:FN)(o1 o2:Gm):FN:=(BM h o1 o2).push { cls:=.type "zip",data:=.fields [.none,.bool false,.bool false,.ref (BK h o1 o2).objs.size,.ref (BL h o1 o2).objs.size].toArray }
section
variable{prog:Fn}{w:Fv}{B:Fs}{E:EK->EN->Prop}{s:EN}{v1 v2:EK}{o1 o2:Gm}{C1 C2:FN->Prop}
def nj (h1:cO prog w v1 o1 C1)(h2:cO prog w v2 o2 C2)(k2:∀h o,C2 h->C2 (h.push o)) :
  MeetsIn prog w (Ip.«zip.__new__» #[[.type "zip",v1,v2],[]]) (λ_ R s=>C1 s.heap/\C2 s.heap/\R (.ok (.ret (.ref (BM s.heap o1 o2).objs.size))) { s with heap:=yb s.heap o1 o2 }):=
 .of_wp λA R s h=>by
  obtain⟨hp,g,d,tk,os⟩:=s;obtain⟨c1,c2,h⟩:=h;have hsub:=sub_zip;have d1:∀(B:Fs) (Q:EK->EN->Prop) (E:EK->EN->Prop),Q (.ref hp.objs.size) #[hp.push o1,g,d,tk,os]->wpAny (model prog w) B (pyIter v1) Q E #[hp,g,d,tk,os]:=λB Q E q=>h1 B #[hp,g,d,tk,os] Q E c1 q
  have d2:∀(B:Fs) (Q:EK->EN->Prop) (E:EK->EN->Prop),Q (.ref (hp.push o1).objs.size) #[(hp.push o1).push o2,g,d,tk,os]->wpAny (model prog w) B (pyIter v2) Q E #[hp.push o1,g,d,tk,os]:=λB Q E q=>h2 B #[hp.push o1,g,d,tk,os] Q E (k2 _ _ c2) q
  wp_walk using d1 _ _ _,d2 _ _ _
  exact#[_,rfl,h]
def sH {Q:EK->EN->Prop}(h1:cO prog w v1 o1 C1)(h2:cO prog w v2 o2 C2)(k2:∀h o,C2 h->C2 (h.push o))(c1:C1 s.heap)(c2:C2 s.heap)(n1:o1.isFreed=false)(n2:o2.isFreed=false)
  (h:∀h',KL h' (s.heap.objs.size+4) (s.heap.objs.size+2) (s.heap.objs.size+3) .none->IK h' (s.heap.objs.size+2) (.ref s.heap.objs.size) (.ref (s.heap.objs.size+1))->IK h' (s.heap.objs.size+3) .none .none->
   h'.get? s.heap.objs.size=ba o1->h'.get? (s.heap.objs.size+1)=ba o2->h'.objs.size=s.heap.objs.size+5->(∀c o,s.heap.get? c=ba o->h'.get? c=ba o)->Q (.ref (s.heap.objs.size+4)) { s with heap:=h' }) :
  wpAny (model prog w) B (call (.type "zip") [v1,v2]) Q E s:=by
 show Mp F.called_zip #v[] (F.typeCall_zip_2 _ _) (F.newCall_zip_2 _ _) (λobj=>F.args_object_init_3 obj _ _) F.entry_zip_new (nj h1 h2 k2) #[c1,c2,?_]
 have e1:(s.heap.push o1).objs.size=s.heap.objs.size+1:=Hh ..;have e2:(BK s.heap o1 o2).objs.size=s.heap.objs.size+2:=by unfold BK; rw[Hh,e1]
 have e3:(BL s.heap o1 o2).objs.size=s.heap.objs.size+3:=by unfold BL; rw[Hh,e2]
 have e4:(BM s.heap o1 o2).objs.size=s.heap.objs.size+4:=by unfold BM; rw[Hh,e3]
 have e5:(yb s.heap o1 o2).objs.size=s.heap.objs.size+5:=by unfold yb; rw[Hh,e4]
 have g5:(yb s.heap o1 o2).get? (BM s.heap o1 o2).objs.size=ba _:=EX _ rfl;have g4:(yb s.heap o1 o2).get? (BL s.heap o1 o2).objs.size=ba _:=EM _ (EX _ rfl);have g3:(yb s.heap o1 o2).get? (BK s.heap o1 o2).objs.size=ba _:=EM _ (EM _ (EX _ rfl));have g2:(yb s.heap o1 o2).get? (s.heap.push o1).objs.size=ba o2:=EM _ (EM _ (EM _ (EX _ n2)));have g1:(yb s.heap o1 o2).get? s.heap.objs.size=ba o1:=EM _ (EM _ (EM _ (EM _ (EX _ n1))));rw[e2,e3,e4]at g5;rw[e1,e2]at g3;rw[e3]at g4;rw[e1]at g2;change _/\_;rw[e4];exact#[#[_,g5,rfl],h _ g5 g3 g4 g1 g2 e5 λc o x=>EM _ (EM _ (EM _ (EM _ (EM _ x))))]
end
end Mi
namespace Mi
open PySem PySem.Spec PyProof.Rows L2
open PySem.Builtin.SmallTypes (nextOf)
section
variable{prog:Fn}{w:Fv}{A:Fs}{E:EK->EN->Prop}{s:EN}
def BN {it t:EU}{i:EV}{items:FM EK}{x:EK}{Q:EK->EN->Prop}(hit:s.heap.IsTupleIter it t i)(ht:s.heap.IsTuple t items)(hx:items[i]?=ba x)
  (hQ:∀h',h'.IsTupleIter it t (i+1)->GY it s.heap h'->Q x { s with heap:=h' }):wpAny (model prog w) A (nextOf (.ref it)) Q E s:=by
 obtain⟨o,ho,hc,hd⟩:=id hit;obtain⟨ot,hot,_,nt,hdt⟩:=ht;unfold Jn;show EJ (FU (name:=GK "__next__") hit.typeIs F.slot_tuple_iterator_next (F5 F.slot_tuple_iterator_next hit.typeIs F.entry_tuple_iterator_next ?_ (F.args_tuple_iterator_next_1 _)));change wpAny _ _ (field (.ref it) 0 >>= _) _ _ s;show EJ (Go ho hd (x:=.ref t) rfl ?_);change wpAny _ _ (if (FL t==FY)=true then _ else _) _ _ s
 rw[FJ (show ¬ ((FL t==FY)=true)from E8)]
 change wpAny _ _ (field (.ref it) 1 >>= _) _ _ s;show EJ (Go ho hd (x:=.int i 0) rfl (EJ (GM hot hdt ?_)));simp only[Ff,hx];show EJ (Jd ho hd (by simp) (ET #[x,rfl,ET (hQ _ #[_,GU _ ho (J8 (Ir hd _)),(Lq ..).trans hc,?_] (Hy ..))]))
 rw[Ir hd]; simp[rawInt]
def BO {it t:EU}{i:EV}{items:FM EK}{Q:EK->EN->Prop}(hh:A.handled=gV)(hit:s.heap.IsTupleIter it t i)(ht:s.heap.IsTuple t items)(hx:items[i]?=gV)
  (hE:∀h' e,Kh it s.heap h'->(∃o,h'.get? e=ba o/\o.cls=.type "StopIteration")->E (.ref e) { s with heap:=h' }):wpAny (model prog w) A (nextOf (.ref it)) Q E s:=by
 obtain⟨o,ho,hc,hd⟩:=id hit;obtain⟨ot,hot,_,nt,hdt⟩:=ht;unfold Jn;show EJ (FU (name:=GK "__next__") hit.typeIs F.slot_tuple_iterator_next (F5 F.slot_tuple_iterator_next hit.typeIs F.entry_tuple_iterator_next ?_ (F.args_tuple_iterator_next_1 _)));change wpAny _ _ (field (.ref it) 0 >>= _) _ _ s;show EJ (Go ho hd (x:=.ref t) rfl ?_);change wpAny _ _ (if (FL t==FY)=true then _ else _) _ _ s
 rw[FJ (show ¬ ((FL t==FY)=true)from E8)]
 change wpAny _ _ (field (.ref it) 1 >>= _) _ _ s;show EJ (Go ho hd (x:=.int i 0) rfl (EJ (GM hot hdt ?_)));simp only[Ff,hx];show EJ (IF (EJ (Jd ho hd (by simp) ?_)))
 change wpAny _ _ (newExc (.type "StopIteration") [] >>= _) _ _ _;show EJ ?_;simp only[newExc,newTuple];show EJ (FW ?_ (by size_fits))
 show EJ (m:=firstArgMember _ _) (Jq (a:=FY) (by first|rfl|(simp only[firstArgMember]; rfl)) (FW ?_ (by size_fits)))
 simp only[raiseNew];show EJ (MF ?_)
 first|rw[show A.in1.handled=gV from hh]|rw[hh]
 exact EJ (ET (M5 (hE _ _ (((Hy ..).extBut.push _).push _) #[_,EX _ rfl,rfl])))
end
inductive Zs where|tup (a:EU)|lst (a:EU)|txt (x:E3)
abbrev Zs.T (it:EU):Zs->EV->FN->Prop
 | .tup a,i,h=>h.IsTupleIter it a i
 | .lst a,i,h=>h.IsListIter it a i
 | .txt x,i,h=>∃t,h.IsStrIter it "str_ascii_iterator" x t i\/h.IsStrIter it "str_iterator" x t i
abbrev Zs.at (K:EW)(H:Hp)(i:EV)(v:V):Zs->Prop
 | .tup a=>∃xs,SqT K H a xs/\xs[i]?=ba v
 | .lst a=>∃xs,SqL K H a xs/\xs[i]?=ba v
 | .txt x=>∃c,x.cps[i]?=ba c/\v=.str #[[c].toArray]
abbrev Zs.out (K:EW)(H:Hp)(i:EV):Zs->Prop
 | .tup a=>∃xs,SqT K H a xs/\xs.length<=i
 | .lst a=>∃xs,SqL K H a xs/\xs.length<=i
 | .txt x=>x.cps.size<=i
def Zs.keep {S:Zs}{it:EU}{j:EV}{h h':FN}(t:S.T it j h)(k:∀o,h.get? it=ba o->h'.get? it=ba o):S.T it j h':=by
 cases S with
 | tup a=>exact t.at k
 | lst a=>exact t.at k
 | txt x=>
  obtain⟨tk,t⟩:=t;exact#[tk,t.imp (λ#[o,e,r]=>#[o,k _ e,r]) λ#[o,e,r]=>#[o,k _ e,r]]
section
variable{X:Cx}{J:EI (EU×Gm)}{Y:L2.St}{H:Hp}{s:EN}
def sI (I:Inv X J Y H s){a b:EU}{o:Gm}(h:X.K.lookup a=ba o)(f:eL X J H b):a≠b:=λz=>by
 subst z;have hb:=I.ok.mod.kin a o h;rcases f.2.2.2.1 with q|q
 ·exact I.ok.noex a o hb q
 ·exact absurd (Fp (E4 (I.ok.bs a o hb).1) q) (Gq _)
end
end Mi
namespace Mi
open PySem PySem.Spec PyProof.Rows L2
open PySem.Builtin.SmallTypes (nextOf)
section
variable{X:Cx}{J:EI (EU×Gm)}{Y:L2.St}{H:Hp}{s:EN}{h':FN}
def sJ {a b:EU}{u:HO}(h:Rd H a u)(f:H b=gV):a≠b:=λz=>by
 subst z;rcases h with h|⟨o,h⟩ <;> (rw[f]at h; cases h)
def Inv.turnedL {t':EV}{ch:EI EU}(I:Inv X J Y H s)(k:∀b o,b∉ch->s.heap.get? b=ba o->h'.get? b=ba o)(hf:∀b∈ch,eL X J H b):Inv X J Y H { s with heap:=h',toks:=t' }:=by
 have nit:∀b u,H b=ba u->b∉ch:=λb u e z=>by have:=(hf b z).1; rw[e]at this; cases this
 show I.step (g':=s.gens) (d':=s.drawn) (ch:=ch) (λb hb=>?_) (λb o _ _ hc e _=>k b o hc e) (λb o _ _ hc e _=>#[o.slots,k b o hc e]) (λ_ _ _ _ n=>n) (λb o hc e=>#[o,k b o hc e]) (λ_ _ e=>e) (λ_ _ _ e=>e) (λb ps e=>#[#[],by rw[e]; simp]) (λm hm=>?_) (λb u e=>?_) I.bare
 ·obtain⟨_,f1,_,f3,f4,f5⟩:=hf b hb;exact#[f3,f1,f4,f5]
 ·obtain⟨o,es,ep,ho,r⟩:=hm;exact#[o,es,ep,k _ o (λz=>(hf _ z).2.1 rfl) ho,r]
 ·show(I.hok b u e).stay (λc v hc q=>k c v ?_ q) (λ_ q=>q) λ_ _ q=>q
  rcases hc with z|z
  ·rw[z]; exact nit b u e
  ·exact nit c _ z
def Zs.zit {S:Zs}{it z q i1 i2:EU}{i:EV}{Uq:EO V}(I:Inv X J Y H s)(hf:∀b∈[z,q,i1,i2],eL X J H b)(g:match Uq with|some v=>S.at X.K H i v|none=>S.out X.K H i) :
  ∃C,Zit X.prog X.w it (S.T it) C i (Uq.map λv u=>RelV v u)/\C s.heap/\Zc z q i1 i2 C:=by
 have zc:∀(a:EU) (P:FN->Prop),(∀h h',P h->(∀o,h.get? a=ba o->h'.get? a=ba o)->P h')->(∀b∈[z,q,i1,i2],a≠b)->Zc z q i1 i2 P:=λa P hP hn h h' p k=>
  hP h h' p λo e=>k a o (hn z (by simp)) (hn q (by simp)) (hn i1 (by simp)) (hn i2 (by simp)) e
 have sep:∀ {a:EU} {u:HO} {o:Gm} {b:EU},(Rd H a u\/X.K.lookup a=ba o)->b∈[z,q,i1,i2]->a≠b:=λh hb=>h.elim (λr=>sJ r (hf _ hb).1) λr=>sI I r (hf _ hb)
 cases S with
 | tup a=>
  obtain⟨xs,hq,hx⟩ : ∃xs,SqT X.K H a xs/\(match Uq with|some v=>xs[i]?=ba v|none=>xs.length<=i):=by
   cases Uq <;> exact g
  obtain⟨its,rv,p,_⟩:=I.tuple hq;have hne:∀b∈[z,q,i1,i2],a≠b:=λb hb=>by
   rcases hq with r|⟨o,_,_,r,_⟩
   ·exact sJ r (hf b hb).1
   ·exact sI I r (hf b hb)
  show#[λh=>h.IsTuple a its.toArray,#[λj h h' t k=>Zs.keep (S:=.tup a) t k,λV hV B s2 Q E t c hQ=>?_,λhU B s2 Q E hh t c hE=>?_],p,zc a _ (λh h' #[o,e,r] k=>#[o,k _ e,r]) hne]
  ·cases Uq with
   | none=>cases hV
   | some v=>
    cases hV;obtain⟨u,hu,ru⟩:=rv.get hx;exact BN t c (x:=u) (by simpa using hu) λh' t' sb=>hQ u h' s2.toks ru t' sb
  ·cases Uq with
   | some v=>cases hU
   | none=>
    have:=L2.Vals.length rv;have hx':xs.length<=i:=hx;exact BO hh t c (by simp; omega) hE
 | lst a=>
  obtain⟨xs,hq,hx⟩ : ∃xs,SqL X.K H a xs/\(match Uq with|some v=>xs[i]?=ba v|none=>xs.length<=i):=by
   cases Uq <;> exact g
  obtain⟨its,rv,p,_⟩:=I.list hq;have hne:∀b∈[z,q,i1,i2],a≠b:=λb hb=>by
   rcases hq with r|⟨o,_,_,r,_⟩
   ·exact sJ r (hf b hb).1
   ·exact sI I r (hf b hb)
  show#[λh=>h.IsList a its.toArray,#[λj h h' t k=>Zs.keep (S:=.lst a) t k,λV hV B s2 Q E t c hQ=>?_,λhU B s2 Q E hh t c hE=>?_],p.isList,zc a _ (λh h' #[o,e,r] k=>#[o,k _ e,r]) hne]
  ·cases Uq with
   | none=>cases hV
   | some v=>
    cases hV;obtain⟨u,hu,ru⟩:=rv.get hx;exact wpAny_nextOf_list_item t c (x:=u) (by simpa using hu) λh' t' sb=>hQ u h' s2.toks ru t' sb
  ·cases Uq with
   | some v=>cases hU
   | none=>
    have:=L2.Vals.length rv;have hx':xs.length<=i:=hx;exact wpAny_nextOf_list_end hh t c (by simp; omega) hE
 | txt x=>
  show#[λ_=>KP,#[λj h h' t k=>Zs.keep (S:=.txt x) t k,λV hV B s2 Q E t _ hQ=>?_,λhU B s2 Q E hh t _ hE=>?_],trivial,λ_ _ _ _=>trivial]
  ·cases Uq with
   | none=>cases hV
   | some v=>
    cases hV;obtain⟨c,hc,rfl⟩ : ∃c,x.cps[i]?=ba c/\v=.str #[[c].toArray]:=g;obtain⟨tk,t|t⟩:=t
    ·exact wpAny_nextOf_ascii_item t hc λh' t' sb=>hQ _ h' _ #[_,rfl] #[tk,.inl t'] sb
    ·exact wpAny_nextOf_wide_item t hc λh' t' sb=>hQ _ h' _ #[_,rfl] #[tk,.inr t'] sb
  ·cases Uq with
   | some v=>cases hU
   | none=>
    have hx:x.cps[i]?=gV:=by simpa using(show x.cps.size<=i from g)
    obtain⟨tk,t|t⟩:=t
    ·exact wpAny_nextOf_ascii_end hh t hx hE
    ·exact wpAny_nextOf_wide_end hh t hx hE
end
abbrev Zs.is (K:EW)(H:Hp)(i:EV)(v:V):Zs->Prop
 | .tup a=>∀xs,SqT K H a xs->xs[i]?=ba v
 | .lst a=>∀xs,SqL K H a xs->xs[i]?=ba v
 | .txt x=>∃c,x.cps[i]?=ba c/\v=.str #[[c].toArray]
def Zs.at_is {S:Zs}{X:Cx}{J:EI (EU×Gm)}{Y:L2.St}{H:Hp}{s:EN}{i:EV}{v:V}(I:Inv X J Y H s)(h:S.at X.K H i v):S.is X.K H i v:=by
 cases S with
 | tup a=>obtain⟨xs,hq,hx⟩:=h; exact λys hy=>by rw[I.tuple_inj hy hq]; exact hx
 | lst a=>obtain⟨xs,hq,hx⟩:=h; exact λys hy=>by rw[I.list_inj hy hq]; exact hx
 | txt x=>exact h
abbrev CU (K:EW)(S1 S2:Zs):It:=
 #[λi H=>∃x y,S1.at K H i x/\S2.at K H i y,λi H v H'=>∃p x y,S1.is K H i x/\S2.is K H i y/\v=.ref p/\H p=gV/\H'=aR H p (.tup [x,y]),λi H=>S1.out K H i\/(∃x,S1.at K H i x)/\S2.out K H i]
def sK {P:Fn}{w:Fv}{K:EW}{els:EI Fa}{k0:EV}{tp:G5}{S1 S2:Zs}{z p q i1 i2:EU}(D:Zap z p q i1 i2) :
  Turn P w K (.Tuple els k0 tp) (CU K S1 S2) [z,p,q,i1,i2] z (λi h=>KL h z p q .none/\IK h p (.ref i1) (.ref i2)/\(∃a b,IK h q a b)/\S1.T i1 i h/\S2.T i2 i h) where
 mem:=by simp
 obj:=λi h #[a,b,#[u,v,c],d,e] b' hb=>by
  have it:∀ {S:Zs} {it:EU},S.T it i h->∃o,h.get? it=ba o/\∀v,o.data≠.cell v:=λ{S it} t=>by
   cases S with
   | tup a=>obtain⟨o,e,_,d⟩:=t; exact#[o,e,λv z=>by rw[d]at z; cases z]
   | lst a=>obtain⟨o,e,_,d⟩:=t; exact#[o,e,λv z=>by rw[d]at z; cases z]
   | txt x=>obtain⟨tk,⟨o,e,_,d⟩|⟨o,e,_,d⟩⟩:=t <;> exact#[o,e,λv z=>by rw[d]at z; cases z]
  simp only[Fc,FH,GV]at hb;rcases hb with rfl|rfl|rfl|rfl|rfl
  ·exact#[_,a,λv z=>by cases z]
  ·exact#[_,b,λv z=>by cases z]
  ·exact#[_,c,λv z=>by cases z]
  ·exact it d
  ·exact it e
 keep:=λi h h' #[a,b,#[u,v,c],d,e] k=>#[k z (by simp) _ a,k p (by simp) _ b,#[u,v,k q (by simp) _ c],Zs.keep d (k i1 (by simp)),Zs.keep e (k i2 (by simp))]
 item:=by
  intro X hP hw hK hc i J s Y H E I hf st hg;subst hP hw hK;obtain⟨x,y,g1,g2⟩:=hg;obtain⟨a,b,⟨u,v,c⟩,d,e⟩:=st;have hf4:∀b∈[z,q,i1,i2],eL X J H b:=λb hb=>hf b (by simp only[Fc,FH,GV]at hb ⊢; rcases hb with h|h|h|h <;> simp[h])
  obtain⟨C1,Zq,c1,k1⟩:=Zs.zit (it:=i1) (Uq:=ba x) I hf4 g1;obtain⟨C2,Zz,c2,k2⟩:=Zs.zit (it:=i2) (Uq:=ba y) I hf4 g2;have hT:s.TypeIs (.ref z) "zip":=#[_,a,rfl];unfold pyNext;show EJ (Il (FU (name:=GK "__next__") hT F.slot_zip_next (F5 F.slot_zip_next hT F.entry_zip_next ?_ (F.args_zip_next_1 _))));show ip D Zq (λ_ _=>Zz) k1 k2 (I.ok.hd hc) a b c d e c1 c2 (λV1 V2 e1 e2 u1 u2 g tk r1 r2 zg qg t1 t2 ng kp=>?_) (λz=>by rcases z with z|z <;> cases z)
  cases e1;cases e2;show ET #[_,rfl,?_];show wpAny_letOwnedTupleGo_zip (s:={ s with heap:=g,toks:=tk }) zg λg' zg' sb=>?_
  have N0:H s.heap.objs.size=gV:=I.hok.fresh (E2 _);have lt:∀ {b:EU},b∈[z,p,q,i1,i2]->s.heap.objs.size≠b:=λ{b} hb=>by
   have:∃o,s.heap.get? b=ba o:=by
    have it:∀ {S:Zs} {it:EU},S.T it i s.heap->∃o,s.heap.get? it=ba o:=λ{S it} t=>by
     cases S with
     | tup a=>obtain⟨o,e,_⟩:=t; exact#[o,e]
     | lst a=>obtain⟨o,e,_⟩:=t; exact#[o,e]
     | txt x=>obtain⟨tk,⟨o,e,_⟩|⟨o,e,_⟩⟩:=t <;> exact#[o,e]
    simp only[Fc,FH,GV]at hb;rcases hb with rfl|rfl|rfl|rfl|rfl
    ·exact#[_,a]
    ·exact#[_,b]
    ·exact#[_,c]
    ·exact it d
    ·exact it e
   obtain⟨o,e⟩:=this;exact Gw (E4 e)
  have up:∀b o,b∉[z,q,i1,i2]->s.heap.get? b=ba o->g'.get? b=ba o:=λb o hb e=>by
   simp only[Fc,FH,GV,LJ]at hb;exact sb.extBut _ _ hb.1 (kp b o hb.1 hb.2.1 hb.2.2.1 hb.2.2.2 e)
  have I1:Inv X J Y H { s with heap:=g',toks:=tk }:=Mi.Inv.turnedL I up hf4
  have ng':IK g' s.heap.objs.size u1 u2:=sb.extBut _ _ (lt (by simp)) ng
  have I2:Inv X J Y (aR H s.heap.objs.size (.tup [x,y])) { s with heap:=g',toks:=tk }:=by
   show Mi.Inv.adopt I1 N0 (.inr I.sz) (Gw I.lt) (λw c e=>?_) (λp hp=>?_) #[#[by change 2<=sizeLine; decide,#[_,ng',rfl]],[u1,u2],.cons r1 #v[r2],#[_,ng',rfl,0,rfl]]
   ·obtain⟨v,q⟩:=I.cell w c e;exact Fg q.lt
   ·exact Fg (E4 (I.pin p hp).1)
  show#[.ref s.heap.objs.size,_,I2,rfl,#[s.heap.objs.size,x,y,Zs.at_is I g1,Zs.at_is I g2,rfl,N0,rfl],#[zg',up p _ ?_ b,#[u1,u2,sb.extBut _ _ D.qz qg],Zs.keep t1 λo e=>sb.extBut _ _ D.iz e,Zs.keep t2 λo e=>sb.extBut _ _ D.jz e],λb hb=>?_]
  ·simp only[Fc,FH,GV,LJ];exact#[D.pz,D.pq,D.pi,D.pj]
  ·rw[au (Ne.symm (lt hb))];exact(hf b hb).1
 done:=by
  intro X hP hw hK hc i J s Y H E I hf st hg;subst hP hw hK;obtain⟨a,b,⟨u,v,c⟩,d,e⟩:=st;have hf4:∀b∈[z,q,i1,i2],eL X J H b:=λb hb=>hf b (by simp only[Fc,FH,GV]at hb ⊢; rcases hb with h|h|h|h <;> simp[h])
  have hT:s.TypeIs (.ref z) "zip":=#[_,a,rfl];unfold pyNext;show EJ (Il (FU (name:=GK "__next__") hT F.slot_zip_next (F5 F.slot_zip_next hT F.entry_zip_next ?_ (F.args_zip_next_1 _))));have ends:∀h' tk e,(∀c o,c≠z->c≠q->c≠i1->c≠i2->s.heap.get? c=ba o->h'.get? c=ba o)->(∃o,h'.get? e=ba o/\o.cls=.type "StopIteration")->
    wpAny (model X.prog X.w) X.A (do if <- isInstance (.ref e) (.type "StopIteration")then pure (gV:EO EK)else throw (.ref e)) (λr s1=>r=gV/\Inv X J Y H s1) E { s with heap:=h',toks:=tk }:=λh' tk e k #[o,ho,hc]=>
   EJ (II (T:="StopIteration") (b:=true) #[o,ho,hc] Ki (ET #[rfl,Mi.Inv.turnedL I (λb o hb e=>by
    simp only[Fc,FH,GV,LJ]at hb;exact k b o hb.1 hb.2.1 hb.2.2.1 hb.2.2.2 e) hf4]))
  rcases hg with g1|⟨⟨x,g1⟩,g2⟩
  ·obtain⟨C1,Zq,c1,k1⟩:=Zs.zit (it:=i1) (Uq:=gV) I hf4 g1;exact ip (U2:=gV) D Zq (λV1 e1=>by cases e1) k1 (C2:=λ_=>KP) (λ_ _ _ _=>trivial) (I.ok.hd hc) a b c d e c1 trivial (λV1 V2 e1 _=>by cases e1) λ_ h' tk e k he=>ends h' tk e k he
  ·obtain⟨C1,Zq,c1,k1⟩:=Zs.zit (it:=i1) (Uq:=ba x) I hf4 g1;obtain⟨C2,Zz,c2,k2⟩:=Zs.zit (it:=i2) (Uq:=gV) I hf4 g2;exact ip D Zq (λ_ _=>Zz) k1 k2 (I.ok.hd hc) a b c d e c1 c2 (λV1 V2 _ e2=>by cases e2) λ_ h' tk e k he=>ends h' tk e k he
 self:=λ_ _ _ _ _ st h=>LO st.1 h
end Mi
namespace Mi
open PySem PySem.Spec PyProof.Rows L2
abbrev BP:W->EO (EI W)
 | .tup xs=>ba xs
 | .str x=>ba (x.cps.toList.map λc=>.str #[[c].toArray])
 | _=>gV
abbrev zW (f:FA):FI:=λZ S=>match f Z S with
 | some ([x,y],S1)=>match BP x,BP y with
  | some xs,ba ys=>ba (.its (lH xs ys),S1)
  | _,_=>match x,y with
   | .ref r,.ref q=>match dL S1 r,dL S1 q with
    | some _,ba _=>ba (.zl r q,S1)
    | _,_=>gV
   | _,_=>gV
 | _=>gV
section
variable{X:Cx}{J:EI (EU×Gm)}{Y:L2.St}{H:Hp}{s:EN}{A:EI EU}
abbrev ZRel (K:EW)(A:EI EU)(H:Hp)(xs:EI W):Zs->Prop
 | .tup a=>∃vs,SqT K H a vs/\RelL K A H xs vs
 | .lst a=>F8
 | .txt x=>xs=x.cps.toList.map λc=>.str #[[c].toArray]
def ZRel.mono {K:EW}{A A':EI EU}{H H':Hp}{xs:EI W}{S:Zs}(e:Ext K A H A' H')(h:ZRel K A H xs S):ZRel K A' H' xs S:=by
 cases S with
 | tup a=>obtain⟨vs,h1,h2⟩:=h; exact#[vs,e.tp _ _ h1,h2.mono e]
 | lst a=>exact h
 | txt x=>exact h
def ZRel.at {K:EW}{xs:EI W}{S:Zs}{i:EV}{w:W}(h:ZRel K A H xs S)(hi:xs[i]?=ba w):∃v,S.at K H i v/\Rel K A H w v:=by
 cases S with
 | tup a=>obtain⟨vs,h1,h2⟩:=h; obtain⟨v,h3,h4⟩:=h2.get hi; exact#[v,#[vs,h1,h3],h4]
 | lst a=>exact h.elim
 | txt x=>
  have h:xs=x.cps.toList.map λc=>.str #[[c].toArray]:=h
  subst h;rw[E1,EQ]at hi;obtain⟨c,hc,rfl⟩:=hi;exact#[.str #[[c].toArray],#[c,by rw[<- F3]; exact hc,rfl],.str]
def ZRel.is {K:EW}{xs:EI W}{S:Zs}{i:EV}{w:W}{v:V}(h:ZRel K A H xs S)(hi:xs[i]?=ba w)(z:S.is K H i v):Rel K A H w v:=by
 obtain⟨v',h1,h2⟩:=h.at hi;cases S with
 | tup a=>
  obtain⟨vs,q,e⟩:=h1;have:=z vs q;rw[e]at this; cases this
  exact h2
 | lst a=>exact h.elim
 | txt x=>
  obtain⟨c,e,rfl⟩:=h1;obtain⟨c',e',rfl⟩:=z;rw[e]at e'; cases e'
  exact h2
def ZRel.out {K:EW}{xs:EI W}{S:Zs}{i:EV}(h:ZRel K A H xs S)(hi:xs.length<=i):S.out K H i:=by
 cases S with
 | tup a=>obtain⟨vs,h1,h2⟩:=h; exact#[vs,h1,by rw[<- h2.length]; exact hi]
 | lst a=>exact h.elim
 | txt x=>
  have h:xs=x.cps.toList.map λc=>.str #[[c].toArray]:=h
  subst h;change x.cps.size<=i
  simpa using hi
def lM {xs ys:EI W}{i:EV}{w:W}(h:(lH xs ys)[i]?=ba w):∃x y,xs[i]?=ba x/\ys[i]?=ba y/\w=.tup [x,y]:=by
 unfold lH at h;rw[ID]at h;split at h
 ·rename_i x y e1 e2;cases h;exact#[x,y,e1,e2,rfl]
 ·cases h
def wR {S1 S2:Zs}{xs ys:EI W}(z1:ZRel X.K A H xs S1)(z2:ZRel X.K A H ys S2):MIt X.w X.K (.its (lH xs ys)) (CU X.K S1 S2) A H:=by
 show#[λA' H' S i w e so hi=>?_,λA' H' S i e so hi=>?_]
 ·simp only[MI.at,Fj]at hi;obtain⟨x,y,e1,e2,rfl⟩:=lM hi;obtain⟨v,g1,r1⟩:=(z1.mono e).at e1;obtain⟨u,g2,r2⟩:=(z2.mono e).at e2;show#[#[v,u,g1,g2],λp H2 #[a,v',u',q1,q2,hp,hn,hH]=>?_]
  subst hp hH;have ex:Ext X.K A' H' A' (aR H' a (.tup [v',u'])):=bp (.inl hn);exact#[ex,so.lay hn,.tup (.of az) #v[((z1.mono e).is e1 q1).mono ex,((z2.mono e).is e2 q2).mono ex]]
 ·simp only[MI.at,Fj,F4,lH,G8]at hi
  by_cases h1:xs.length<=i
  ·exact .inl ((z1.mono e).out h1)
  ·have hx:i < xs.length:=∅
   obtain⟨v,g1,_⟩:=(z1.mono e).at (EZ hx);exact .inr #[#[v,g1],(z2.mono e).out ∅]
def sL {r q:EV}{a b:EU}(ea:A[r]?=ba a)(eb:A[q]?=ba b):MIt X.w X.K (.zl r q) (CU X.K (.lst a) (.lst b)) A H:=by
 show#[λA' H' S i w e so hi=>?_,λA' H' S i e so hi=>?_]
 ·simp only[MI.at]at hi;split at hi
  ·rename_i xs ys hx hy;simp only[Fj]at hi;obtain⟨x,y,e1,e2,rfl⟩:=lM hi;obtain⟨vs,h1,r1⟩:=aH so hx (e.ad _ _ ea);obtain⟨us,h2,r2⟩:=aH so hy (e.ad _ _ eb);obtain⟨v,g1,q1⟩:=r1.get e1;obtain⟨u,g2,q2⟩:=r2.get e2;show#[#[v,u,#[vs,h1,g1],#[us,h2,g2]],λp H2 #[c,v',u',z1,z2,hp,hn,hH]=>?_]
   subst hp hH;have t1:=z1 vs h1;rw[g1]at t1; cases t1
   have t2:=z2 us h2;rw[g2]at t2; cases t2
   have ex:Ext X.K A' H' A' (aR H' c (.tup [v,u])):=bp (.inl hn);exact#[ex,so.lay hn,.tup (.of az) #v[q1.mono ex,q2.mono ex]]
  ·cases hi
 ·simp only[MI.at]at hi;split at hi
  ·rename_i xs ys hx hy;simp only[Fj,F4,lH,G8]at hi;obtain⟨vs,h1,r1⟩:=aH so hx (e.ad _ _ ea);obtain⟨us,h2,r2⟩:=aH so hy (e.ad _ _ eb)
   by_cases hl:xs.length<=i
   ·exact .inl #[vs,h1,by rw[<- r1.length]; exact hl]
   ·have hx':i < xs.length:=∅
    obtain⟨v,g1,_⟩:=r1.get (EZ hx');exact .inr #[#[v,vs,h1,g1],us,h2,by rw[<- r2.length]; omega]
  ·cases hi
def kn {x:W}{v:V}{u:EK}{xs:EI W}(I:Inv X J Y H s)(r:Rel X.K A H x v)(ru:RelV v u)(e:BP x=ba xs) :
  ∃(S:Zs) (o:Gm) (C:FN->Prop),ZRel X.K A H xs S/\cO X.prog X.w u o C/\C s.heap/\(∀h o,C h->C (h.push o))/\o.isFreed=false/\∀it h,h.get? it=ba o->S.T it 0 h:=by
 cases r with
 | @tup ws a vs hq rl=>
  cases e;obtain⟨its,rv,p,_⟩:=I.tuple hq;obtain rfl:u=FL a:=ru;exact#[.tup a,{ cls:=.type "tuple_iterator",data:=.fields [.ref a,.int 0 0].toArray },λh=>h.IsTuple a its.toArray,#[vs,hq,rl],λB s Q E c hQ=>K2 c hQ,p,λh o #[ot,e,r]=>#[ot,EM _ e,r],rfl,λit h e=>#[_,e,rfl,rfl]]
 | @str x=>
  cases e;obtain⟨t,rfl⟩:=ru;cases ha:x.cps.all (· < 128)with
  | false=>exact#[.txt x,{ cls:=.type "str_iterator",data:=.fields [.str x t,.int 0 0].toArray },λ_=>KP,rfl,λB s Q E _ hQ=>wpAny_pyIter_wide ha hQ,trivial,λ_ _ _=>trivial,rfl,λit h e=>#[t,.inr #[_,e,rfl,rfl]]]
  | true=>exact#[.txt x,{ cls:=.type "str_ascii_iterator",data:=.fields [.str x t,.int 0 0].toArray },λ_=>KP,rfl,λB s Q E _ hQ=>K4 ha hQ,trivial,λ_ _ _=>trivial,rfl,λit h e=>#[t,.inl #[_,e,rfl,rfl]]]
 | _=>cases e
def sM:bootBuiltins "zip" = ba (.type "zip"):=rfl
def ko {a:EU}{xs:EI V}{u:EK}(I:Inv X J Y H s)(ru:RelV (.ref a) u)(hq:SqL X.K H a xs) :
  ∃(o:Gm) (C:FN->Prop),cO X.prog X.w u o C/\C s.heap/\(∀h o,C h->C (h.push o))/\o.isFreed=false/\∀it h,h.get? it=ba o->(Zs.lst a).T it 0 h:=by
 obtain⟨its,rv,p,_⟩:=I.list hq;obtain rfl:u=FL a:=ru;exact#[{ cls:=.type "list_iterator",data:=.fields [.ref a,.int 0 0].toArray },λh=>h.IsList a its.toArray,λB s Q E c hQ=>HP c hQ,p.isList,λh o #[ot,e,r]=>#[ot,EM _ e,r],rfl,λit h e=>#[_,e,rfl,rfl]]
def zX {els:EI Fa}{k0:EV}{tp:G5}{a b:Fa}{f:FA}{p pos:G5}(hg:Gl X "zip")(hm:X.mg "zip" = gV)(ha:GA X [a,b] f)(hs:starEach [a,b] X.env=[(false,eval a X.env),(false,eval b X.env)])(hs2:starEach [b] X.env=[(false,eval b X.env)]) :
  GI X (.Tuple els k0 tp) (.Call (.Name "zip" p) [a,b] [] pos) (zW f):=by
 intro J s Y H R I ⟨A,Z,S,mi,S',er,so,e,hq⟩;have fin:∀ {s1:EN} {H1:Hp} {u v:EK} {Sa Sb:Zs} {oa ob:Gm} {Ca Cb:FN->Prop},Inv X J Y H1 s1->cO X.prog X.w u oa Ca->Ca s1.heap->oa.isFreed=false->(∀it h,h.get? it=ba oa->Sa.T it 0 h)->cO X.prog X.w v ob Cb->Cb s1.heap->(∀h o,Cb h->Cb (h.push o))->ob.isFreed=false->(∀it h,h.get? it=ba ob->Sb.T it 0 h)->R (CU X.K Sa Sb) H1->
   wpAny (model X.prog X.w) X.A (call (.type "zip") [u,v]) (λv s=>wpAny (model X.prog X.w) X.A (pyIter v) (AH X J Y (.Tuple els k0 tp) R) X.xe s) X.xe s1:=λ{s1 H1 u v Sa Sb oa ob Ca Cb} I1 ia ca na ta ib cb kb nb tb hR=>by
  show sH ia ib kb ca cb na nb λh' hz hp hq' g1 g2 hsz kp=>?_
  have I2:Inv X J Y H1 { s1 with heap:=h' }:=I1.kept (t':=s1.toks) kp
  show LO (s:={ s1 with heap:=h' }) hz ?_
  have D:Zap (s1.heap.objs.size+4) (s1.heap.objs.size+2) (s1.heap.objs.size+3) s1.heap.objs.size (s1.heap.objs.size+1):=by constructor <;> (intro z; simp at z)
  show#[s1.heap.objs.size+4,_,_,_,H1,rfl,I2,sK (S1:=Sa) (S2:=Sb) D,#[hz,hp,#[_,_,hq'],ta _ _ g1,tb _ _ g2],λb hb=>?_,hR]
  have hb':s1.heap.objs.size<=b:=by
   simp only[Fc,FH,GV]at hb;rcases hb with rfl|rfl|rfl|rfl|rfl
   ·exact HZ _ _
   ·exact HZ _ _
   ·exact HZ _ _
   ·exact E2 _
   ·exact HZ _ _
  exact I1.fpOk hb' (I1.hok.fresh hb')
 unfold zW at e;split at e
 ·rename_i x y S1 h1;show Nq (dO I hg hm sM (Gk (aK (ha pos J s Y H _ I #[A,Z,S,_,_,er,so,h1,λ_ _ z=>z]) λus s1 #[vs,H1,I1,r1,A1,z1,z2,z3]=>?_) (by rw[hs,hs2]) (by rw[hs2]; rfl)))
  cases z3 with
  | cons ra t=>
   cases t with
   | cons rb t=>
    cases t;cases r1 with
    | cons ua t=>
     cases t with
     | cons ub t=>
      cases t;split at e
      ·rename_i xs ys e1 e2;cases e;obtain⟨Sa,oa,Ca,za,ia,ca,ka,na,ta⟩:=kn I1 ra ua e1;obtain⟨Sb,ob,Cb,zb,ib,cb,kb,nb,tb⟩:=kn I1 rb ub e2;exact fin I1 ia ca na ta ib cb kb nb tb (hq _ _ A1 z1 z2 (wR za zb))
      ·split at e
       ·rename_i r q;split at e
        ·rename_i xs ys hx hy;cases e;cases ra with
         | @ref _ a ea=>
          cases rb with
          | @ref _ b eb=>
           obtain⟨va,q1,_⟩:=aH z2 hx ea;obtain⟨vb,q2,_⟩:=aH z2 hy eb;obtain⟨oa,Ca,ia,ca,ka,na,ta⟩:=ko I1 ua q1;obtain⟨ob,Cb,ib,cb,kb,nb,tb⟩:=ko I1 ub q2;exact fin I1 ia ca na ta ib cb kb nb tb (hq _ _ A1 z1 z2 (sL ea eb))
        ·cases e
       ·cases e
 ·cases e
end
open PySem.Builtin.SmallTypes (nextOf)
section
variable{prog:Fn}{w:Fv}{B:Fs}{E:EK->EN->Prop}{s:EN}{e it:EU}{T:EV->FN->Prop}{C:FN->Prop}{i:EV}{old:EK}
structure EnAt (h0 h:FN)(e it:EU)(fs:FM EK)(T:FN->Prop):Prop where
 here:h.get? e=ba { cls:=.type "enumerate",dict:=gV,data:=.fields fs,slots:=#[] }
 turn:T h
 kept:∀b o,b≠e->b≠it->h0.get? b=ba o->h.get? b=ba o
def EnAt.put {h0:FN}{fs:FM EK}{T:FN->Prop}{k:EV}{v:EK}{Q:Ng->EN->Prop}(x:EnAt h0 s.heap e it fs T)(hne:e≠it)(kT:∀h h',T h->(∀o,h.get? it=ba o->h'.get? it=ba o)->T h')(hk:k < fs.size)
  (q:∀h',EnAt h0 h' e it (fs.setIfInBounds k v) T->GY e s.heap h'->Q () { s with heap:=h' }):wpAny (model prog w) B (setField (.ref e) k v) Q E s:=
 HG x.here hk λh' y sb=>q h' #[y,kT _ _ x.turn λo z=>sb.extBut _ _ (Ne.symm hne) z,λb o h1 h2 z=>sb.extBut b o h1 (x.kept b o h1 h2 z)] sb
def jp {Uq:EO (EK->Prop)}{Q:EK->EN->Prop}(Zx:Zit prog w it T C i Uq)(hh:B.handled=gV)(he:Nn s.heap e it (i:E5) old)(t:T i s.heap)(c:C s.heap)(hne:e≠it)
  (hI:∀V,Uq=ba V->∀u h' tk tk0,V u->IsEnumOut h' e it ((i:E5)+1) u s.heap.objs.size->T (i+1) h'->h'.get? s.heap.objs.size=ba { cls:=.type "tuple",data:=.seq [.int i tk0,u].toArray }->
   (∀b o,b≠e->b≠it->s.heap.get? b=ba o->h'.get? b=ba o)->Q (.ref s.heap.objs.size) { s with heap:=h',toks:=tk })
  (hE:Uq=gV->∀h' x,Kh it s.heap h'->(∃o,h'.get? x=ba o/\o.cls=.type "StopIteration")->E (.ref x) { s with heap:=h' }) :
  wpAny (model prog w) B (Ip.«enumerate.__next__» #[[.ref e],[]]) (λfin s'=>∃v,fin=.done (.ret v)/\Q v s') E s:=by
 obtain⟨hp,g,d,tk,os⟩:=s;change wpAny _ _ (field (.ref e) 2 >>= _) _ _ _;show EJ (Go he rfl (x:=.ref it) rfl (EJ ?_));cases Uq with
 | none=>exact Zx.stop rfl _ _ _ _ hh t c λh' x a b=>hE rfl h' x a b
 | some V=>
  show Zx.next V rfl _ _ _ _ t c λu ha tka hu ta sba=>?_
  have kT:=Zx.keep (i+1);have xa:EnAt hp ha e it [.none,.bool false,.ref it,rawInt i,.none,old].toArray (T (i+1)):=#[(sba.2 e hne).trans he,ta,λb o _ h2 z=>sba.extBut b o h2 z]
  have za:ha.objs.size=hp.objs.size:=sba.1;clear sba ta;change wpAny _ _ (field (.ref e) 3 >>= _) _ _ #[ha,g,d,tka,os];show EJ (Go xa.here rfl (x:=rawInt i) rfl ?_);change wpAny _ _ (field (.ref e) 4 >>= _) _ _ #[ha,g,d,tka,os];show EJ (Go xa.here rfl (x:=.none) rfl ?_);change wpAny _ _ (mkInt i >>= _) _ _ #[ha,g,d,tka,os];show EJ (LU (EJ (xa.put (s:=#[ha,g,d,tka+1,os]) hne kT (by simp) λhb xb sb1=>EJ (xb.put (s:=#[hb,g,d,tka+1,os]) hne kT (by simp) λhc xc sb2=>EJ (Kl ?_)))))
  have zc:hc.objs.size=hp.objs.size:=by rw[sb2.1,<- za]; exact sb1.1
  have hel:hp.objs.size≠e:=Gw (E4 he);have new:=EX hc (o:={ cls:=.type "tuple",data:=.seq [.int i tka,u].toArray }) rfl;have xd:EnAt hp (hc.push { cls:=.type "tuple",data:=.seq [.int i tka,u].toArray }) e it [.none,.bool false,.ref it,rawInt ((i:E5)+1),.none,old].toArray (T (i+1)):=#[EM _ xc.here,kT _ _ xc.turn λo z=>EM _ z,λb o h1 h2 z=>EM _ (xc.kept b o h1 h2 z)]
  rw[zc]at new;change wpAny _ _ (Gu (.ref e) >>= _) _ _ #[hc.push _,g,d,tka+1,os];rw[zc];generalize hc.push { cls:=.type "tuple",data:=.seq [.int i tka,u].toArray }=hd at new xd ⊢;clear zc sb2 xc sb1 xb hb xa za;show EJ ?_;unfold Gu;show EJ (Go xd.here rfl (x:=.none) rfl (ET ?_));simp only[HX];show EJ (IF (EJ (Go xd.here rfl (x:=old) rfl (EJ (xd.put (s:=#[hd,g,d,tka+1,os]) hne kT (by simp) λh1 x1 s1=>EJ ?_)))))
  unfold G7;show EJ (x1.put (s:=#[h1,g,d,tka+1,os]) hne kT (by simp) λh2 x2 s2=>x2.put (s:=#[h2,g,d,tka+1,os]) hne kT (by simp) λh3 x3 s3=>EJ (HW (ET #[_,rfl,hI V rfl u h3 (tka+1) tka hu x3.here x3.turn ?_ x3.kept])))
  exact s3.extBut _ _ hel (s2.extBut _ _ hel (s1.extBut _ _ hel new))
variable{v:EK}{o:Gm}
def lN (h1:cO prog w v o C) :
  MeetsIn prog w (Ip.«enumerate.__new__» #[[.type "enumerate",v],[]]) (λ_ R s=>C s.heap/\R (.ok (.ret (.ref (s.heap.push o).objs.size))) { s with heap:=(s.heap.push o).push { cls:=.type "enumerate",data:=.fields [.none,.bool false,.ref s.heap.objs.size,rawInt 0,.none,.none].toArray } }):=
 .of_wp λA R s h=>by
  obtain⟨hp,g,d,tk,os⟩:=s;obtain⟨c,h⟩:=h;have hsub:=sub_enumerate;have d1:∀(B:Fs) (Q:EK->EN->Prop) (E:EK->EN->Prop),Q (.ref hp.objs.size) #[hp.push o,g,d,tk,os]->wpAny (model prog w) B (pyIter v) Q E #[hp,g,d,tk,os]:=λB Q E q=>h1 B #[hp,g,d,tk,os] Q E c q
  wp_walk
  show wpAny_stack_any λst=>ET ?_
  split
  ·rename_i c _ _ _ _ _;cases(c==Hs "enumerate")
   ·wp_walk using d1 _ _ _
    exact#[_,rfl,h]
   ·wp_walk using d1 _ _ _
    exact#[_,rfl,h]
  ·wp_walk using d1 _ _ _
   exact#[_,rfl,h]
def qo {Q:EK->EN->Prop}(h1:cO prog w v o C)(c:C s.heap)(n1:o.isFreed=false)
  (h:∀h',Nn h' (s.heap.objs.size+1) s.heap.objs.size 0 .none->h'.get? s.heap.objs.size=ba o->(∀b o,s.heap.get? b=ba o->h'.get? b=ba o)->Q (.ref (s.heap.objs.size+1)) { s with heap:=h' }) :
  wpAny (model prog w) B (call (.type "enumerate") [v]) Q E s:=by
 show Mp F.called_enumerate #v[] (F.typeCall_enumerate_1 _) (F.newCall_enumerate_1 _) (λobj=>F.args_object_init_2 obj _) F.entry_enumerate_new (lN h1) #[c,?_]
 have hz:(s.heap.push o).objs.size=s.heap.objs.size+1:=Hh ..;change _/\_;rw[hz];have he:Nn ((s.heap.push o).push { cls:=.type "enumerate",data:=.fields [.none,.bool false,.ref s.heap.objs.size,rawInt 0,.none,.none].toArray }) (s.heap.objs.size+1) s.heap.objs.size 0 .none:=by
  have:=EX (s.heap.push o) (o:={ cls:=.type "enumerate",data:=.fields [.none,.bool false,.ref s.heap.objs.size,rawInt 0,.none,.none].toArray }) rfl;rw[hz]at this; exact this
 exact#[#[_,he,rfl],h _ he (EM _ (EX _ n1)) λb o x=>EM _ (EM _ x)]
end
abbrev CV (K:EW)(S1:Zs):It:=
 #[λi H=>∃x,S1.at K H i x,λi H v H'=>∃p x,S1.is K H i x/\v=.ref p/\H p=gV/\H'=aR H p (.tup [.int i,x]),λi H=>S1.out K H i]
def qp {P:Fn}{w:Fv}{K:EW}{els:EI Fa}{k0:EV}{tp:G5}{S1:Zs}{z i1:EU}(D:z≠i1) :
  Turn P w K (.Tuple els k0 tp) (CV K S1) [z,i1] z (λi h=>(∃old,Nn h z i1 i old)/\S1.T i1 i h) where
 mem:=by simp
 obj:=λi h #[#[old,a],d] b' hb=>by
  have it:∀ {S:Zs} {it:EU},S.T it i h->∃o,h.get? it=ba o/\∀v,o.data≠.cell v:=λ{S it} t=>by
   cases S with
   | tup a=>obtain⟨o,e,_,d⟩:=t; exact#[o,e,λv z=>by rw[d]at z; cases z]
   | lst a=>obtain⟨o,e,_,d⟩:=t; exact#[o,e,λv z=>by rw[d]at z; cases z]
   | txt x=>obtain⟨tk,⟨o,e,_,d⟩|⟨o,e,_,d⟩⟩:=t <;> exact#[o,e,λv z=>by rw[d]at z; cases z]
  simp only[Fc,FH,GV]at hb;rcases hb with rfl|rfl
  ·exact#[_,a,λv z=>by cases z]
  ·exact it d
 keep:=λi h h' #[#[old,a],d] k=>#[#[old,k z (by simp) _ a],Zs.keep d (k i1 (by simp))]
 item:=by
  intro X hP hw hK hc i J s Y H E I hf st hg;subst hP hw hK;obtain⟨x,g1⟩:=hg;obtain⟨⟨old,a⟩,d⟩:=st;have hf4:∀b∈[z,z,i1,i1],eL X J H b:=λb hb=>hf b (by simp only[Fc,FH,GV]at hb ⊢; rcases hb with h|h|h|h <;> simp[h])
  obtain⟨C1,Zq,c1,k1⟩:=Zs.zit (it:=i1) (Uq:=ba x) I hf4 g1;have hT:s.TypeIs (.ref z) "enumerate":=#[_,a,rfl];unfold pyNext;show EJ (Il (FU (name:=GK "__next__") hT F.slot_enumerate_next (F5 F.slot_enumerate_next hT F.entry_enumerate_next ?_ (F.args_enumerate_next_1 _))));show jp Zq (I.ok.hd hc) a d c1 D (λV e1 u g tk tk0 r1 zg t1 ng kp=>?_) (λz=>by cases z)
  cases e1;show ET #[_,rfl,?_];show wpAny_letOwnedTupleGo_enum (s:={ s with heap:=g,toks:=tk }) zg λg' zg' sb=>?_
  have N0:H s.heap.objs.size=gV:=I.hok.fresh (E2 _);have lt:∀ {b:EU},b∈[z,i1]->s.heap.objs.size≠b:=λ{b} hb=>by
   have:∃o,s.heap.get? b=ba o:=by
    have it:∀ {S:Zs} {it:EU},S.T it i s.heap->∃o,s.heap.get? it=ba o:=λ{S it} t=>by
     cases S with
     | tup a=>obtain⟨o,e,_⟩:=t; exact#[o,e]
     | lst a=>obtain⟨o,e,_⟩:=t; exact#[o,e]
     | txt x=>obtain⟨tk,⟨o,e,_⟩|⟨o,e,_⟩⟩:=t <;> exact#[o,e]
    simp only[Fc,FH,GV]at hb;rcases hb with rfl|rfl
    ·exact#[_,a]
    ·exact it d
   obtain⟨o,e⟩:=this;exact Gw (E4 e)
  have up:∀b o,b∉[z,i1]->s.heap.get? b=ba o->g'.get? b=ba o:=λb o hb e=>by
   simp only[Fc,FH,GV,LJ]at hb;exact sb.extBut _ _ hb.1 (kp b o hb.1 hb.2 e)
  have I1:Inv X J Y H { s with heap:=g',toks:=tk }:=Mi.Inv.turnedL I up hf
  have ng':g'.get? s.heap.objs.size=ba { cls:=.type "tuple",data:=.seq [.int i tk0,u].toArray }:=sb.extBut _ _ (lt (by simp)) ng
  have I2:Inv X J Y (aR H s.heap.objs.size (.tup [.int i,x])) { s with heap:=g',toks:=tk }:=by
   show Mi.Inv.adopt I1 N0 (.inr I.sz) (Gw I.lt) (λw c e=>?_) (λp hp=>?_) #[#[by change 2<=sizeLine; decide,#[_,ng',rfl]],[.int i tk0,u],.cons #[_,rfl] #v[r1],#[_,ng',rfl,0,rfl]]
   ·obtain⟨v,q⟩:=I.cell w c e;exact Fg q.lt
   ·exact Fg (E4 (I.pin p hp).1)
  show#[.ref s.heap.objs.size,_,I2,rfl,#[s.heap.objs.size,x,Zs.at_is I g1,rfl,N0,rfl],#[#[_,zg'],Zs.keep t1 λo e=>sb.extBut _ _ (Ne.symm D) e],λb hb=>?_]
  rw[au (Ne.symm (lt hb))];exact(hf b hb).1
 done:=by
  intro X hP hw hK hc i J s Y H E I hf st hg;subst hP hw hK;obtain⟨⟨old,a⟩,d⟩:=st;have hf4:∀b∈[z,z,i1,i1],eL X J H b:=λb hb=>hf b (by simp only[Fc,FH,GV]at hb ⊢; rcases hb with h|h|h|h <;> simp[h])
  obtain⟨C1,Zq,c1,k1⟩:=Zs.zit (it:=i1) (Uq:=gV) I hf4 hg;have hT:s.TypeIs (.ref z) "enumerate":=#[_,a,rfl];unfold pyNext;show EJ (Il (FU (name:=GK "__next__") hT F.slot_enumerate_next (F5 F.slot_enumerate_next hT F.entry_enumerate_next ?_ (F.args_enumerate_next_1 _))));show jp Zq (I.ok.hd hc) a d c1 D (λV e1=>by cases e1) λ_ h' e k #[o,ho,hc]=>?_
  exact EJ (II (T:="StopIteration") (b:=true) #[o,ho,hc] Ki (ET #[rfl,Mi.Inv.turnedL (t':=s.toks) I (λb o hb e=>by
    simp only[Fc,FH,GV,LJ]at hb;exact k b o hb.2 e) hf]))
 self:=λ_ _ _ _ _ st h=>by obtain⟨⟨old,a⟩,_⟩:=st; exact Lw a h
abbrev sN (xs:EI W):EI W:=xs.zipIdx.map λp=>.tup [.int (p.2:EV),p.1]
def sO {xs:EI W}{i:EV}{w:W}(h:(sN xs)[i]?=ba w):∃x,xs[i]?=ba x/\w=.tup [.int i,x]:=by
 unfold sN at h;rw[E1,IP,Option.map_map,EQ]at h;obtain⟨x,h1,rfl⟩:=h;exact#[x,h1,by simp]
abbrev wW (f:FA):FI:=λZ S=>match f Z S with
 | some ([x],S1)=>match BP x with
  | some xs=>ba (.its (sN xs),S1)
  | none=>match x with
   | .ref r=>match dL S1 r with
    | some _=>ba (.el r,S1)
    | none=>gV
   | _=>gV
 | _=>gV
section
variable{X:Cx}{J:EI (EU×Gm)}{Y:L2.St}{H:Hp}{s:EN}{A:EI EU}
def sP {S1:Zs}{xs:EI W}(z1:ZRel X.K A H xs S1):MIt X.w X.K (.its (sN xs)) (CV X.K S1) A H:=by
 show#[λA' H' S i w e so hi=>?_,λA' H' S i e so hi=>?_]
 ·simp only[MI.at,Fj]at hi;obtain⟨x,e1,rfl⟩:=sO hi;obtain⟨v,g1,r1⟩:=(z1.mono e).at e1;show#[#[v,g1],λp H2 #[a,v',q1,hp,hn,hH]=>?_]
  subst hp hH;have ex:Ext X.K A' H' A' (aR H' a (.tup [.int i,v'])):=bp (.inl hn);exact#[ex,so.lay hn,.tup (.of az) #v[.int,((z1.mono e).is e1 q1).mono ex]]
 ·simp only[MI.at,Fj,F4,sN,ER,Jg]at hi;exact(z1.mono e).out hi
def qr {r:EV}{a:EU}(ea:A[r]?=ba a):MIt X.w X.K (.el r) (CV X.K (.lst a)) A H:=by
 show#[λA' H' S i w e so hi=>?_,λA' H' S i e so hi=>?_]
 ·simp only[MI.at]at hi;split at hi
  ·rename_i xs hx;simp only[Fj,EQ]at hi;obtain⟨x,e1,rfl⟩:=hi;obtain⟨vs,h1,r1⟩:=aH so hx (e.ad _ _ ea);obtain⟨v,g1,q1⟩:=r1.get e1;show#[#[v,vs,h1,g1],λp H2 #[c,v',z1,hp,hn,hH]=>?_]
   subst hp hH;have t1:=z1 vs h1;rw[g1]at t1; cases t1
   have ex:Ext X.K A' H' A' (aR H' c (.tup [.int i,v])):=bp (.inl hn);exact#[ex,so.lay hn,.tup (.of az) #v[.int,q1.mono ex]]
  ·cases hi
 ·simp only[MI.at]at hi;split at hi
  ·rename_i xs hx;simp only[Fj,JM,F4]at hi;obtain⟨vs,h1,r1⟩:=aH so hx (e.ad _ _ ea);exact#[vs,h1,by rw[<- r1.length]; exact hi]
  ·cases hi
def jq:bootBuiltins "enumerate" = ba (.type "enumerate"):=rfl
def wX {els:EI Fa}{k0:EV}{tp:G5}{a:Fa}{f:FA}{p pos:G5}(hg:Gl X "enumerate")(hm:X.mg "enumerate" = gV)(ha:GA X [a] f)(hs:starEach [a] X.env=[(false,eval a X.env)]) :
  GI X (.Tuple els k0 tp) (.Call (.Name "enumerate" p) [a] [] pos) (wW f):=by
 intro J s Y H R I ⟨A,Z,S,mi,S',er,so,e,hq⟩;unfold wW at e;split at e
 ·rename_i x S1 h1;have fin:∀ {s1:EN} {H1:Hp} {u:EK} {Sa:Zs} {oa:Gm} {Ca:FN->Prop},Inv X J Y H1 s1->cO X.prog X.w u oa Ca->Ca s1.heap->oa.isFreed=false->(∀it h,h.get? it=ba oa->Sa.T it 0 h)->R (CV X.K Sa) H1->
    wpAny (model X.prog X.w) X.A (call (.type "enumerate") [u]) (λv s=>wpAny (model X.prog X.w) X.A (pyIter v) (AH X J Y (.Tuple els k0 tp) R) X.xe s) X.xe s1:=λ{s1 H1 u Sa oa Ca} I1 ia ca na ta hR=>by
   show qo ia ca na λh' hz g1 kp=>?_
   have I2:Inv X J Y H1 { s1 with heap:=h' }:=I1.kept (t':=s1.toks) kp
   show Lw (s:={ s1 with heap:=h' }) hz ?_
   show#[s1.heap.objs.size+1,_,_,_,H1,rfl,I2,qp (S1:=Sa) (i1:=s1.heap.objs.size) (by simp),#[#[_,hz],ta _ _ g1],λb hb=>?_,hR]
   have hb':s1.heap.objs.size<=b:=by
    simp only[Fc,FH,GV]at hb;rcases hb with rfl|rfl
    ·exact HZ _ _
    ·exact E2 _
   exact I1.fpOk hb' (I1.hok.fresh hb')
  split at e
  ·rename_i xs e1;cases e;show Nq (dO I hg hm jq (Gk (aK (ha pos J s Y H _ I #[A,Z,S,_,_,er,so,h1,λ_ _ z=>z]) λus s1 #[vs,H1,I1,r1,A1,z1,z2,z3]=>?_) (by rw[hs]; rfl) (by rfl)))
   cases z3 with
   | cons ra t=>
    cases t;cases r1 with
    | cons ua t=>
     cases t;obtain⟨Sa,oa,Ca,za,ia,ca,ka,na,ta⟩:=kn I1 ra ua e1;exact fin I1 ia ca na ta (hq _ _ A1 z1 z2 (sP za))
  ·split at e
   ·rename_i r;split at e
    ·rename_i xs hx;cases e;show Nq (dO I hg hm jq (Gk (aK (ha pos J s Y H _ I #[A,Z,S,_,_,er,so,h1,λ_ _ z=>z]) λus s1 #[vs,H1,I1,r1,A1,z1,z2,z3]=>?_) (by rw[hs]; rfl) (by rfl)))
     cases z3 with
     | cons ra t=>
      cases t;cases r1 with
      | cons ua t=>
       cases t;cases ra with
       | ref ea=>
        obtain⟨vs,h2,r2⟩:=aH z2 hx ea;obtain⟨oa,Ca,ia,ca,ka,na,ta⟩:=ko I1 ua h2;exact fin (Sa:=.lst _) I1 ia ca na ta (hq _ _ A1 z1 z2 (qr ea))
    ·cases e
   ·cases e
 ·cases e
end
end Mi
namespace Mi
open PySem PySem.Spec PyProof.Rows L2
abbrev sQ (X:Cx)(x:E3)(w:W):Prop:=∃v u,X.mg x=ba u/\RelV v u/\∀A H,Rel X.K A H w v
section
variable{X:Cx}
def zY {x:E3}{w:W}{pos:G5}(hg:Gl X x)(hd:(x==("__debug__" : E3))=false)(h:sQ X x w):GE X (.Name x pos) (fC w):=by
 obtain⟨v,u,hm,r,rel⟩:=h;exact kh (uW hg hm r hd) rel
end
abbrev wY (g1 g2:EI W->aa->EO (W×aa))(xs:EI W)(S:aa):EO (W×aa):=match g1 xs S with
 | some r=>ba r
 | none=>g2 xs S
def iq {X:Cx}{f:EK}{g1 g2:EI W->aa->EO (W×aa)}(h1:LCall X f g1)(h2:LCall X f g2):LCall X f (wY g1 g2):=by
 intro J s Y H A S xs vs us w S' I so rl rv e;unfold wY at e;split at e
 ·rename_i r hr;cases e;exact h1 J s Y H A S xs vs us w S' I so rl rv hr
 ·exact h2 J s Y H A S xs vs us w S' I so rl rv e
abbrev sR (fo fa:FE):FE:=λZ S=>match fo Z S with
 | some (x,S1)=>if (tyOk "tuple" S1 x||tyOk "list" S1 x)=true then match fa Z S1 with
  | some (y,S2)=>de x y S2
  | none=>gV
  else gV
 | none=>gV
inductive Bi where|len|list|tuple|int|set|sorted|range|all|min
 deriving HR
abbrev Bi.fn:Bi->EI W->aa->EO (W×aa)
 | .len=>wY p9 zT|.list=>wY jb jg|.tuple=>ii|.int=>Bw|.set=>mP|.sorted=>fm|.range=>mQ|.all=>vW|.min=>wY vV sG
abbrev Bi.name:Bi->E3
 | .len=>"len"|.list=>"list"|.tuple=>"tuple"|.int=>"int"|.set=>"set"|.sorted=>"sorted"|.range=>"range"|.all=>"all"|.min=>"min"
inductive Me where|append|extend|join|pop|get|split
 deriving HR
abbrev Me.fn:Me->W->EI W->aa->EO (W×aa)
 | .append=>eY|.extend=>jW|.join=>lb|.pop=>zt|.get=>nX|.split=>kj
abbrev Me.name:Me->E3
 | .append=>"append"|.extend=>"extend"|.join=>"join"|.pop=>"pop"|.get=>"get"|.split=>"split"
abbrev Me.ty:Me->Gc
 | .append=>"list"|.extend=>"list"|.join=>"str"|.pop=>"list"|.get=>"dict"|.split=>"str"
inductive Tg where
 | nm (i:EV)|tp (is:EI EV)
set_option genSizeOf false in
set_option genInjectivity false in
mutual
inductive E where
 | c (w:W)|v (i:EV)
 | op (o:BOp) (a b:E)
 | cmp (o:COp) (a b:E)
 | and (a b:E)|or (a b:E)|not (a:E)
 | own (f:E3) (n:EV) (es:Es)|bi (b:Bi) (es:Es)|me (m:Me) (o:E) (es:Es)
 | idx (o a:E)|ix (a b:E)|sl (a:E) (lo hi:Ep)|tup (es:Es)|lst (es:Es)
 | isi (c:Gc) (a:E)
 | neg (a:E)|dnew|disp (es:Es)|chn (o o':COp) (a b d:E)|ite (t a b:E)
 | comp (elt:E) (tg:Tg) (it:Ie) (cs:Es) (cap:EI (EO EV))
inductive Es where
 | nil|cons (e:E) (es:Es)
inductive Ep where
 | no|yes (e:E)
inductive Ie where
 | seq (e:E)|rng (es:Es)|zip (es:Es)|rng2 (es:Es)|enu (es:Es)
end
set_option genSizeOf false in
set_option genInjectivity false in
mutual
inductive Sm where
 | set (i:EV) (e:E)|asg (is:EI EV) (e:E)|par (i j:EV) (es:Es)|put (o k e:E)
 | ex (e:E)|ret (e:E)|retN|pass|brk|cont|bad
 | ite (t:E) (a b:Ss)|whl (t:E) (b:Ss)|loop (tg:Tg) (it:Ie) (b:Ss)
inductive Ss where
 | nil|cons (s:Sm) (ss:Ss)
end
abbrev gI:Tg->FG
 | .nm i=>xY i
 | .tp is=>AK is
section
variable (M:E3->FF)
mutual
def aj:E->FE
 | .c w=>fC w
 | .v i=>fV i
 | .op o a b=>vX (dQ o) (aj a) (aj b)
 | .cmp o a b=>vY o (aj a) (aj b)
 | .and a b=>oh (aj a) (aj b)
 | .or a b=>wb (aj a) (aj b)
 | .not a=>ol (aj a)
 | .own f n es=>lF n (M f) (bR es)
 | .bi b es=>gq b.fn (bR es)
 | .me m o es=>xX m.ty m.fn (aj o) (bR es)
 | .ix a b=>DF (aj a) (aj b)
 | .idx o a=>sR (aj o) (aj a)
 | .sl a lo hi=>BE (aj a) (oz lo) (oz hi)
 | .tup es=>sn (bR es)
 | .lst es=>sr (bR es)
 | .isi c a=>sD c (aj a)
 | .neg a=>se (aj a)
 | .dnew=>xZ
 | .disp es=>lJ (bR es)
 | .chn o o' a b d=>dX o o' (aj a) (aj b) (aj d)
 | .ite t a b=>wc (bJ t) (aj a) (aj b)
 | .comp elt tg it cs cap=>io (gx it) (gI tg) (w6 cs) (aj elt) cap
def bJ:E->FT
 | .cmp o a b=>lD (vY o (aj a) (aj b))
 | .and a b=>si (bJ a) (bJ b)
 | .or a b=>BA (bJ a) (bJ b)
 | .not a=>vZ (bJ a)
 | .c w=>dY (fC w)
 | .v i=>dY (fV i)
 | .op o a b=>dY (vX (dQ o) (aj a) (aj b))
 | .own f n es=>dY (lF n (M f) (bR es))
 | .bi b es=>dY (gq b.fn (bR es))
 | .me m o es=>dY (xX m.ty m.fn (aj o) (bR es))
 | .ix a b=>dY (DF (aj a) (aj b))
 | .idx o a=>dY (sR (aj o) (aj a))
 | .sl a lo hi=>dY (BE (aj a) (oz lo) (oz hi))
 | .tup es=>dY (sn (bR es))
 | .lst es=>dY (sr (bR es))
 | .isi c a=>dY (sD c (aj a))
 | .neg a=>dY (se (aj a))
 | .dnew=>λ_ _=>gV
 | .disp _=>λ_ _=>gV
 | .chn o o' a b d=>lD (dX o o' (aj a) (aj b) (aj d))
 | .ite _ _ _=>λ_ _=>gV
 | .comp _ _ _ _ _=>λ_ _=>gV
def bR:Es->FA
 | .nil=>eN
 | .cons e es=>b9 (aj e) (bR es)
def w6:Es->FT
 | .nil=>ya
 | .cons e .nil=>bJ e
 | .cons _ (.cons _ _)=>λ_ _=>gV
def oz:Ep->FO
 | .no=>zI
 | .yes e=>oo (aj e)
def gx:Ie->FI
 | .seq e=>cM (aj e)
 | .rng es=>qh (bR es)
 | .zip es=>zW (bR es)
 | .rng2 es=>iRng2 (bR es)
 | .enu es=>wW (bR es)
end
variable (fuel:EV)
mutual
def ef:Sm->FS
 | .set i e=>im (aj M e) (xY i)
 | .asg is e=>im (aj M e) (AK is)
 | .par i j es=>ww i j (bR M es)
 | .put o k e=>im (aj M e) (wu (aj M o) (aj M k))
 | .ex e=>wm (aj M e)
 | .ret e=>wp (aj M e)
 | .retN=>λ_ S=>ba (.rt .non,S)
 | .pass=>sx
 | .brk=>λZ S=>ba (.bk Z,S)
 | .cont=>λZ S=>ba (.ct Z,S)
 | .bad=>λ_ _=>gV
 | .ite t a b=>wt (bJ M t) (d0 a) (d0 b)
 | .whl t b=>ki (bJ M t) (d0 b) fuel
 | .loop tg it b=>sB (gx M it) (gI tg) (d0 b)
def d0:Ss->FS
 | .nil=>λZ S=>ba (.nx Z,S)
 | .cons s ss=>wl (ef s) (d0 ss)
end
end
structure Gam where
 sc:EI (E3×GD)
 N:EI E3
 fns:EI (E3×EV)
 blt:EI E3
 dfn:Fk
 cst:EI (E3×W)
abbrev zZ:EO GD->Fk
 | some .local=>true|some .cell=>true|some .free=>true|_=>false
abbrev w8:EO GD->Fk
 | some .cell=>true|some .free=>true|_=>false
abbrev d3 (names outer:EI (E3×GD)):EI (E3×GD):=names.map λ(n,k)=>if (k==.free&&outer.lookup n==ba .cell)then(n,.cell)else(n,k)
abbrev slot (Γ:Gam)(x:E3):EO EV:=if zZ (Γ.sc.lookup x) && !(x==("__debug__" : E3)) && !(x==("__classdict__" : E3))then Γ.N.findIdx? (· == x)else gV
abbrev oA:Le->EO BOp
 | .Add=>ba .add|.Sub=>ba .sub|.Mult=>ba .mul|.FloorDiv=>ba .fdiv|.Mod=>ba .mod|.Pow=>ba .pow|_=>gV
abbrev gy:LR->EO COp
 | .Eq=>ba .eq|.NotEq=>ba .ne|.Lt=>ba .lt|.LtE=>ba .le|.Gt=>ba .gt|.GtE=>ba .ge|.In=>ba .isin|.NotIn=>ba .notin|.Is=>ba .is|.IsNot=>ba .isnot
abbrev w9 (x:E3):EO Bi:=[Bi.len,.list,.tuple,.int,.set,.sorted,.range,.all,.min].find? λb=>b.name==x
abbrev xf (x:E3):EO Me:=[Me.append,.extend,.join,.pop,.get,.split].find? λb=>b.name==x
abbrev BQ (Γ:Gam)(x:E3):Fk:=Γ.sc.lookup x==ba .globalImplicit && !(x==("__debug__" : E3))
abbrev sS (x:E3):EO Gc:=if x==("bool" : E3)then ba "bool" else if x==("int" : E3)then ba "int" else if x==("str" : E3)then ba "str" else if x==("tuple" : E3)then ba "tuple" else if x==("list" : E3)then ba "list" else if x==("dict" : E3)then ba "dict" else gV
abbrev oB:EI (EO Fa)->EI Fa->EI Fa
 | some k::ks,v::vs=>k::v::oB ks vs
 | _,_=>[]
abbrev xg (Γ:Gam)(f:Fa->EO E):EI Fa->EO E
 | [a,.Name c _]=>if BQ Γ c&&Γ.blt.contains c then match sS c,f a with
  | some cs,ba a'=>ba (.isi cs a')
  | _,_=>gV
  else gV
 | _=>gV
abbrev bT:Fa->Fk
 | .Name _ _=>true|.Constant _ _ _=>true|.Subscript _ _ _=>true|_=>false
abbrev fW (Γ:Gam)(x:E3):Fk:=Γ.sc.lookup x==ba .globalImplicit && !(x==("__debug__" : E3))
abbrev bU (Γ:Gam)(x:E3):EO EV:=if (Γ.sc.lookup x==ba .local)||(Γ.dfn&&Γ.sc.lookup x==ba .cell)then Γ.N.findIdx? (· == x)else gV
abbrev cA (f:Fa->EO E)(es:EI Fa):EO Es:=es.foldr (λe acc=>match f e,acc with|some e',ba es'=>ba (.cons e' es')|_,_=>gV) (ba .nil)
abbrev cB (f:Fa->EO E)(op:Nm):EI Fa->EO E
 | []=>gV
 | [a]=>f a
 | a::b::aY=>match f a,cB f op (b::aY)with
  | some a',ba b'=>ba (match op with|.And=>.and a' b'|.Or=>.or a' b')
  | _,_=>gV
abbrev cP (f:Fa->EO E):EO Fa->EO Ep
 | none=>ba .no
 | some e=>(f e).map .yes
abbrev isTup:Fa->Fk
 | .Tuple _ _ _=>true
 | _=>false
abbrev cI (Γ:Gam)(f:Fa->EO E)(tg:Fa):Fa->EO Ie
 | .Call (.Name x p) [a] [] q=>if x==("range" : E3)&&fW Γ x&&Γ.blt.contains x then(cA f [a]).map .rng else if x==("enumerate" : E3)&&fW Γ x&&Γ.blt.contains x&&isTup tg then(cA f [a]).map .enu else(f (.Call (.Name x p) [a] [] q)).map .seq
 | .Call (.Name x p) [a,b] [] q=>if x==("zip" : E3)&&fW Γ x&&Γ.blt.contains x&&isTup tg then(cA f [a,b]).map .zip else if x==("range" : E3)&&fW Γ x&&Γ.blt.contains x then(cA f [a,b]).map .rng2 else(f (.Call (.Name x p) [a,b] [] q)).map .seq
 | e=>(f e).map .seq
abbrev AL (Γ:Gam):EI Fa->EO (EI EV)
 | []=>ba []
 | .Name x _::ts=>match bU Γ x,AL Γ ts with
  | some i,ba is=>ba (i::is)
  | _,_=>gV
 | _::_=>gV
abbrev cT (Γ:Gam):Fa->EO Tg
 | .Name x _=>(bU Γ x).map .nm
 | .Tuple ts _ _=>(AL Γ ts).map .tp
 | _=>gV
abbrev eF (names:EI (E3×GD)):EI E3:=(names.filter λp=>p.2==.local||p.2==.free).map (·.1)
abbrev eg (Γ:Gam)(names:EI (E3×GD)):EI (EO EV):=(eF names).map λx=>if names.lookup x==ba .local then gV else Γ.N.findIdx? (· == x)
abbrev sT (Γ:Gam)(scope:HM):Fk:=
 (scope.kind==.function)&&scope.names.all (λy=>!(y.2==.local)||scope.names.lookup y.1==ba .local)&&scope.names.all (λy=>!(y.2==.cell)) &&
 scope.names.all (λy=>!(y.2==.free)||(w8 (Γ.sc.lookup y.1)&&scope.names.lookup y.1==ba .free&&(Γ.N.findIdx? (· == y.1)).isSome))&&decide (eF scope.names).Nodup
abbrev eG (Γ:Gam)(scope:HM):Gam:={ Γ with sc:=d3 scope.names Γ.sc,N:=eF scope.names,dfn:=false }
abbrev sU (f:Fa->EO E)(keys:EI (EO Fa))(values:EI Fa):EO E:=
 if keys.isEmpty&&values.isEmpty then ba .dnew
 else if keys.all (·.isSome)&&decide (keys.length=values.length)&&decide (keys.length<=15)then(cA f (oB keys values)).map .disp else gV
abbrev cE:EV->Gam->Fa->EO E
 | 0,_,_=>gV
 | n+1,Γ,e=>match e with
  | .Constant (.int i) _ _=>ba (.c (.int i))
  | .Constant (.str x) _ _=>ba (.c (.str x))
  | .Constant (.bool b) _ _=>ba (.c (.bl b))
  | .Constant .none _ _=>ba (.c .non)
  | .Name x _=>match slot Γ x with
   | some i=>ba (.v i)
   | none=>if fW Γ x then(Γ.cst.lookup x).map .c else gV
  | .BinOp a op b _=>match oA op,cE n Γ a,cE n Γ b with
   | some o,ba a',ba b'=>ba (.op o a' b')
   | _,_,_=>gV
  | .UnaryOp .Not a _=>(cE n Γ a).map .not
  | .UnaryOp .USub a _=>(cE n Γ a).map .neg
  | .BoolOp op vs _=>cB (cE n Γ) op vs
  | .Compare a [op] [b] _=>match gy op,cE n Γ a,cE n Γ b with
   | some o,ba a',ba b'=>ba (.cmp o a' b')
   | _,_,_=>gV
  | .Compare a [op,op'] [b,d] _=>match gy op,gy op',cE n Γ a,cE n Γ b,cE n Γ d with
   | some o,ba o',ba a',ba b',ba d'=>ba (.chn o o' a' b' d')
   | _,_,_,_,_=>gV
  | .IfExp t a b _=>match cE n Γ t,cE n Γ a,cE n Γ b with
   | some t',ba a',ba b'=>ba (.ite t' a' b')
   | _,_,_=>gV
  | .Call (.Name f _) args [] _=>if fW Γ f then match Γ.fns.lookup f with
    | some k=>(cA (cE n Γ) args).map (.own f k)
    | none=>if f==("isinstance" : E3)then(if Γ.blt.contains f then xg Γ (cE n Γ) args else gV)else match w9 f,args with
     | some b,a::as=>if Γ.blt.contains f then(cA (cE n Γ) (a::as)).map (.bi b)else gV
     | _,_=>gV
   else gV
  | .Call (.Attribute o m apos) (a::as) [] cpos=>if (m==("index" : E3))=true then match cE n Γ o,cE n Γ a with
   | some o',ba a'=>if bT o&&(apos.endLine==cpos.line)&&as.isEmpty then ba (.idx o' a')else gV
   | _,_=>gV
   else match xf m,cE n Γ o,cA (cE n Γ) (a::as)with
   | some m',ba o',ba es=>if bT o&&(apos.endLine==cpos.line)&&decide ((a::as).length < 29)then ba (.me m' o' es)else gV
   | _,_,_=>gV
  | .Subscript a (.Slice lo hi gV _) _=>match cE n Γ a,cP (cE n Γ) lo,cP (cE n Γ) hi with
   | some a',ba lo',ba hi'=>ba (.sl a' lo' hi')
   | _,_,_=>gV
  | .Subscript a b _=>match cE n Γ a,cE n Γ b with
   | some a',ba b'=>ba (.ix a' b')
   | _,_=>gV
  | .Tuple es _ _=>(cA (cE n Γ) es).map .tup
  | .List es _=>(cA (cE n Γ) es).map .lst
  | .Dict keys values _=>sU (cE n Γ) keys values
  | .ListComp elt [#[tg,iter,ifs,asy]] scope _=>if (asy==0)&&(sT Γ scope&&decide (ifs.length<=1))then
    match cI Γ (cE n Γ) tg iter,cT (eG Γ scope) tg,cA (cE n (eG Γ scope)) ifs,cE n (eG Γ scope) elt with
    | some it,ba t,ba cs,ba el=>ba (.comp el t it cs (eg Γ scope.names))
    | _,_,_,_=>gV
   else gV
  | _=>gV
structure CtxOk (M:E3->FF)(X:Cx)(Γ:Gam):Prop where
 names:X.env.scope.names=Γ.sc
 kind:X.env.scope.kind=.function
 N:X.N=Γ.N
 nd:Γ.N.Nodup
 calm:X.calm=true
 xe:X.xe=λ_ _=>F8
 un:X.A.units+dA < cLine
 dfn:Γ.dfn=true->∀x,X.fn x=true
 blt:∀x∈Γ.blt,X.mg x=gV
 cst:∀x w,Γ.cst.lookup x=ba w->sQ X x w
 fns:∀f n,Γ.fns.lookup f=ba n->∃k fa fd ps,FnOk X.prog X.w X.K X.mg X.base qK k fa fd ps (spF X.w X.K n (M f))/\Room k X.A/\X.mg f=ba (.ref fa)/\Ge X.K (.ref fa)=true/\Binds X.K fd ps []
def ay {α:Type}{x:α}{P:Prop}(h:(gV:EO α)=ba x):P:=nomatch h
abbrev dD:Fa->Fk
 | .Starred _ _=>false
 | _=>true
def ah {e:Fa}{es:EI Fa}{env:Lb}(h:dD e=true):starEach (e::es) env=(false,eval e env)::starEach es env:=by
 cases e <;> first|rfl|cases h
def aI {env:Lb}{pos:G5}:∀ {es:EI Fa},es.all dD=true->(backTo pos (starEach es env)).any (·.1)=false
 | [],_=>rfl
 | e::es,h=>by
  rw[FK,ES]at h;rw[ah h.1];show(false||(backTo pos (starEach es env)).any (·.1))=false
  rw[aI h.2];rfl
def ir {env:Lb}{pos:G5}:∀ {es:EI Fa},es.all dD=true->(backTo pos (starEach es env)).all (λx=>!x.1)=true
 | [],_=>rfl
 | e::es,h=>by
  rw[FK,ES]at h;rw[ah h.1];show(true&&(backTo pos (starEach es env)).all (λx=>!x.1))=true
  rw[ir h.2];rfl
def eh {n:EV}{Γ:Gam}{e:Fa}{e':E}(h:cE n Γ e=ba e'):dD e=true:=by
 cases n with
 | zero=>cases h
 | succ n=>cases e <;> first|rfl|(exact ay h)
def ft {f:Fa->EO E}{e:Fa}{es:EI Fa}{r:Es}(h:cA f (e::es)=ba r):∃e' es',f e=ba e'/\cA f es=ba es'/\r=.cons e' es':=by
 simp only[cA,L1]at h;split at h
 ·rename_i e' es' h1 h2;cases h;exact#[e',es',h1,h2,rfl]
 ·cases h
def bq {n:EV}{Γ:Gam}:∀ {es:EI Fa} {r:Es},cA (cE n Γ) es=ba r->es.all dD=true
 | [],_,_=>rfl
 | e::es,r,h=>by
  obtain⟨e',es',h1,h2,_⟩:=ft h;rw[FK,eh h1,bq h2];rfl
def ce {N:EI E3}{x:E3}{i:EV}(h:N.findIdx? (· == x)=ba i):N[i]?=ba x:=by
 obtain⟨hl,h1,_⟩:=GH.mp h;rw[EZ hl];exact congrArg ba (eq_of_beq h1)
section
variable{M:E3->FF}{X:Cx}{Γ:Gam}
def gQ {e:Fa}:GT X e (λ_ _=>gV):=λJ s Y H Q I #[A,Z,S,k,S',er,so,e1,hq]=>by cases e1
def sV {x:E3}(h:zZ (X.env.scope.names.lookup x)=true):CN X.env.scope x:=by
 unfold zZ at h;split at h
 ·exact .inl (by assumption)
 ·exact .inr (.inl (by assumption))
 ·exact .inr (.inr (by assumption))
 ·cases h
def sW (K:CtxOk M X Γ){x:E3}{pos:G5}{i:EV}(h:slot Γ x=ba i):GE X (.Name x pos) (fV i):=by
 unfold slot at h;split at h
 ·rename_i hc;rw[ES,ES]at hc;obtain⟨⟨h1,h2⟩,h3⟩:=hc;show DE (qP (by rw[K.N]; exact ce h) (sV (by rw[K.names]; exact h1)) (by simpa using h2) (by simpa using h3))
 ·cases h
def fu (K:CtxOk M X Γ){x:E3}(h:fW Γ x=true):Gl X x/\(x==("__debug__" : E3))=false:=by
 unfold fW at h;rw[ES]at h;show#[?_,by simpa using h.2]
 change X.env.scope.names.lookup x=_;rw[K.names];exact eq_of_beq h.1
def iu {o:LR}{c:COp}(h:gy o=ba c):c.py=o:=by
 cases o <;> (simp only[gy,Fj]at h; subst h; rfl)
def sX {o:Le}{c:BOp}(h:oA o=ba c):c.py=o:=by
 cases o <;> simp only[oA,Fj]at h <;> first|(subst h; rfl)|cases h
def qt {x:E3}{b:Bi}(h:w9 x=ba b):b.name=x:=by
 have:=J1 h;exact eq_of_beq this
def qu {x:E3}{b:Me}(h:xf x=ba b):b.name=x:=by
 have:=J1 h;exact eq_of_beq this
def bV {n:EV}(ih:∀ {e:Fa} {e':E},cE n Γ e=ba e'->GE X e (aj M e')):∀ {es:EI Fa} {r:Es},cA (cE n Γ) es=ba r->GA X es (bR M r)
 | [],r,h=>by cases h; exact sm
 | e::es,r,h=>by
  obtain⟨e',es',h1,h2,rfl⟩:=ft h;exact om (ih h1) (bV ih h2) (ah (eh h1))
def BR (K:CtxOk M X Γ){n:EV}{f:E3}{p pos:G5}{args:EI Fa}{k:EV}{r:Es}(hg:fW Γ f=true)(hf:Γ.fns.lookup f=ba k)(ha:cA (cE n Γ) args=ba r)(h:GA X args (bR M r)):GE X (.Call (.Name f p) args [] pos) (lF k (M f) (bR M r)):=by
 obtain⟨d,fa,fd,ps,F,hr,hm,hk,hb⟩:=K.fns f k hf;obtain⟨g1,g2⟩:=fu K hg;cases args with
 | nil=>cases ha; exact wg F hr g1 hm hk hb g2
 | cons a as=>
  have ns:=bq ha;rw[FK,ES]at ns;exact zK F hr g1 hm hk hb h g2 (ah ns.1) (aI ns.2)
def DI (K:CtxOk M X Γ){n:EV}{f:E3}{p pos:G5}{a:Fa}{as:EI Fa}{b:Bi}{r:Es}(hg:fW Γ f=true)(hb:w9 f=ba b)(hc:Γ.blt.contains f=true)(ha:cA (cE n Γ) (a::as)=ba r)(h:GA X (a::as) (bR M r)):GE X (.Call (.Name f p) (a::as) [] pos) (gq b.fn (bR M r)):=by
 obtain⟨g1,g2⟩:=fu K hg;have hm:X.mg f=gV:=K.blt f (by simpa using hc)
 have ns:=bq ha;rw[FK,ES]at ns;have e:=qt hb;subst e;have hu:X.A.units+12 < cLine:=by have:=K.un; have:dA=20:=rfl; omega
 have calm:∀ {f:EK} {g:EI W->aa->EO (W×aa)},(X.A.handled=gV->LCall X f g)->LCall X f g:=λh J s Y H A S xs vs us w S' I=>h (I.ok.hd K.calm) J s Y H A S xs vs us w S' I
 cases b with
 | len=>exact on (iq mY mZ) g1 hm PySem.boot_len h #v[] g2 (ah ns.1) (aI ns.2)
 | list=>exact lE (calm λhh=>iq (lh hh) (lC hh)) g1 hm rfl h #v[] g2 (ah ns.1) (aI ns.2)
 | tuple=>exact lE (calm ke) g1 hm rfl h #v[] g2 (ah ns.1) (aI ns.2)
 | int=>exact lE pS g1 hm rfl h #v[] g2 (ah ns.1) (aI ns.2)
 | set=>exact lE (calm pX) g1 hm rfl h #v[] g2 (ah ns.1) (aI ns.2)
 | sorted=>exact on (calm λhh=>j9 hh hu) g1 hm rfl h #v[] g2 (ah ns.1) (aI ns.2)
 | range=>exact lE lg g1 hm rfl h #v[] g2 (ah ns.1) (aI ns.2)
 | all=>exact on (calm qe) g1 hm rfl h #v[] g2 (ah ns.1) (aI ns.2)
 | min=>exact on (calm λhh=>iq (qc hh hu) (nh K.calm)) g1 hm rfl h #v[] g2 (ah ns.1) (aI ns.2)
def sY {x:E3}{c:Gc}(h:sS x=ba c):bootBuiltins x=ba (.type c)/\x≠"__name__":=by
 unfold sS at h;split at h
 ·rename_i e; cases h; rw[eq_of_beq e]; exact#[rfl,#v[]]
 ·split at h
  ·rename_i e; cases h; rw[eq_of_beq e]; exact#[rfl,#v[]]
  ·split at h
   ·rename_i e; cases h; rw[eq_of_beq e]; exact#[rfl,#v[]]
   ·split at h
    ·rename_i e; cases h; rw[eq_of_beq e]; exact#[rfl,#v[]]
    ·split at h
     ·rename_i e; cases h; rw[eq_of_beq e]; exact#[rfl,#v[]]
     ·split at h
      ·rename_i e; cases h; rw[eq_of_beq e]; exact#[rfl,#v[]]
      ·cases h
def BS (K:CtxOk M X Γ){n:EV}{f:E3}{p pos:G5}{args:EI Fa}{r:E}(hg:fW Γ f=true)(hb:(f==("isinstance" : E3))=true)(hc:Γ.blt.contains f=true)(ih:∀ {e:Fa} {e':E},cE n Γ e=ba e'->GE X e (aj M e'))(h:xg Γ (cE n Γ) args=ba r) :
  GE X (.Call (.Name f p) args [] pos) (aj M r)/\∃a c,r=.isi c a:=by
 obtain⟨g1,g2⟩:=fu K hg;have hm:X.mg f=gV:=K.blt f (by simpa using hc)
 have e:=eq_of_beq hb;subst e;unfold xg at h;split at h
 ·rename_i a c q;split at h
  ·rename_i hcc;rw[ES]at hcc;obtain⟨g3,g4⟩:=fu K (x:=c) hcc.1;have hm2:X.mg c=gV:=K.blt c (by simpa using hcc.2)
   split at h
   ·rename_i cs a' h1 h2;cases h;obtain⟨b1,b2⟩:=sY h1;exact#[zS g1 hm g3 hm2 b1 b2 g4 (ih h2) (ah (eh h2)),a',cs,rfl]
   ·cases h
  ·cases h
 ·cases h
def bF {o:Fa}{name:E3}{env:Lb}(h:bT o=true):attributeBase o name env (eval o env)=eval o env:=by
 cases o <;> first|rfl|cases h
def oD {n:EV}{pos:G5}(ih:∀ {e:Fa} {e':E},cE n Γ e=ba e'->GE X e (aj M e')):∀(keys:EI (EO Fa)) (values:EI Fa) {r:Es},keys.all (·.isSome)=true->keys.length=values.length->cA (cE n Γ) (oB keys values)=ba r->BJ X pos keys values (bR M r)
 | [],[],r,_,_,h=>by cases h; exact wI
 | [],_::_,r,_,hl,_=>by cases hl
 | _::_,[],r,_,hl,_=>by cases hl
 | none::_,_::_,r,ha,_,_=>by cases ha
 | some k::ks,v::vs,r,ha,hl,h=>by
  dsimp only[oB]at h;obtain⟨e1,es1,h1,h2,rfl⟩:=ft h;obtain⟨e2,es2,h3,h4,rfl⟩:=ft h2;rw[FK,ES]at ha;exact sE (ih h1) (ih h3) (oD ih ks vs ha.2 (by simpa using hl) h4)
def DJ (K:CtxOk M X Γ){n:EV}{m:E3}{apos cpos:G5}{o a:Fa}{as:EI Fa}{b:Me}{o':E}{r:Es}(hm:xf m=ba b)(hr:bT o=true)(hl:(apos.endLine==cpos.line)=true)(hn:(a::as).length < 29)(ho:GE X o (aj M o'))(ha:cA (cE n Γ) (a::as)=ba r)(h:GA X (a::as) (bR M r)) :
  GE X (.Call (.Attribute o m apos) (a::as) [] cpos) (xX b.ty b.fn (aj M o') (bR M r)):=by
 have ns:=bq ha;have ns':=ns;rw[FK,ES]at ns;have few:((backTo cpos (starEach (a::as) X.env)).all (λx=>!x.1)&&(backToKw cpos (keywordEach [] X.env)).all (λx=>x.1.isSome)&&decide ((a::as).length+([]:EI Kx).length+(if ([]:EI Kx).isEmpty then 0 else 1) < 30))=true:=by
  rw[ir ns',IN,ES];exact#[rfl,Gf (by simp only[Gx,List.isEmpty_nil,HX]; omega)]
 have e:=qu hm;subst e;cases b with
 | append=>exact gr HE PySem.F.slot_list_append PySem.F.type_list_append jV ho h (bF hr) few hl (ah ns.1) (aI ns.2)
 | extend=>exact gr HE PySem.F.slot_list_extend PySem.F.type_list_extend jX ho h (bF hr) few hl (ah ns.1) (aI ns.2)
 | join=>exact gr JO PySem.F.slot_str_join PySem.F.type_str_join mO ho h (bF hr) few hl (ah ns.1) (aI ns.2)
 | pop=>exact gr HE PySem.F.slot_list_pop PySem.F.type_list_pop pT ho h (bF hr) few hl (ah ns.1) (aI ns.2)
 | get=>exact gr PySem.F.plainAttrs_dict J5 PySem.F.type_dict_get (mR (by have:=K.un; have:dA=20:=rfl; omega)) ho h (bF hr) few hl (ah ns.1) (aI ns.2)
 | split=>exact gr JO PySem.F.slot_str_split PySem.F.type_str_split lK ho h (bF hr) few hl (ah ns.1) (aI ns.2)
def BU {apos cpos:G5}{o a:Fa}{fo fa:FE}(hr:bT o=true)(hl:(apos.endLine==cpos.line)=true)(ho:GE X o fo)(hn:dD a=true)(ha:GE X a fa) :
  GE X (.Call (.Attribute o "index" apos) [a] [] cpos) (sR fo fa):=by
 have ns':[a].all dD=true:=by rw[FK,hn]; rfl
 have few:((backTo cpos (starEach [a] X.env)).all (λx=>!x.1)&&(backToKw cpos (keywordEach [] X.env)).all (λx=>x.1.isSome)&&decide ([a].length+([]:EI Kx).length+(if ([]:EI Kx).isEmpty then 0 else 1) < 30))=true:=by
  rw[ir ns',IN,ES];exact#[rfl,rfl]
 have ga:GA X [a] (b9 fa eN):=om ha sm (ah hn);intro J s Y H Q I ⟨A,Z,S,w,S',er,so,e,hq⟩;unfold sR at e;split at e
 ·rename_i x S1 h1;split at e
  ·rename_i ht;split at e
   ·rename_i y S2 h2;have hf:b9 fa eN Z S1=ba ([y],S2):=by simp only[b9,eN,h2]
    cases x with
    | tup ys=>
     show gr PySem.F.plainAttrs_tuple Jx PySem.F.type_tuple_index (gw "tuple.index" (.inl rfl)) ho ga (bF hr) few hl (ah hn) rfl J s Y H Q I #[A,Z,S,w,S',er,so,?_,hq];unfold xX;rw[h1];dsimp only;rw[Fi (show tyOk "tuple" S1 (.tup ys)=true from rfl),hf]
     exact e
    | ref i=>
     have ht:tyOk "list" S1 (.ref i)=true:=by simpa [tyOk]using ht
     show gr HE JF PySem.F.type_list_index (gw "list.index" (.inr rfl)) ho ga (bF hr) few hl (ah hn) rfl J s Y H Q I #[A,Z,S,w,S',er,so,?_,hq];unfold xX;rw[h1];dsimp only;rw[Fi ht,hf];exact e
    | _=>cases e
   ·cases e
  ·cases e
 ·cases e
def fw {n:EV}{Γ:Gam}{e:Fa}{e':E}{op:LR}(h:cE n Γ e=ba e'):behindInMarks op e=false:=by
 cases n with
 | zero=>cases h
 | succ n=>cases e <;> first|rfl|(exact ay h)
def nk {n:EV}{Γ:Gam}{e:Fa}{e':E}(h:cE n Γ e=ba e'):jN e:=by
 cases n with
 | zero=>cases h
 | succ n=>cases e <;> first|(intro o i; rfl)|(exact ay h)
def kw {n:EV}{Γ:Gam}{f:Fa->EO E}{e:Fa}{i:Ie}{env:Lb}{tg:Fa}(hf:∀el k p,f (.Set el k p)=gV)(h:cI Γ f tg e=ba i):∀x,foldedSetIterable e env x=pure x:=by
 intro x;cases e <;> first|rfl|(simp[cI,hf]at h)
def kz {n:EV}{op:Nm}{pos:G5}(ih:∀ {e:Fa} {e':E},cE n Γ e=ba e'->GE X e (aj M e')):∀ {vs:EI Fa} {r:E},cB (cE n Γ) op vs=ba r->GE X (.BoolOp op vs pos) (aj M r)
 | [],r,h=>by cases h
 | [a],r,h=>zE (ih h)
 | a::b::aY,r,h=>by
  simp only[cB]at h;split at h
  ·rename_i a' b' h1 h2;cases h;cases op with
   | And=>exact zF (ih h1) (kz ih h2)
   | Or=>exact BC (ih h1) (kz ih h2)
  ·cases h
def kA {n:EV}{op:Nm}{pos:G5}(ih:∀ {e:Fa} {e':E},cE n Γ e=ba e'->GT X e (bJ M e')):∀ {vs:EI Fa} {r:E},cB (cE n Γ) op vs=ba r->GW X (.BoolOp op vs pos) (bJ M r)
 | [],r,h=>by cases h
 | [a],r,h=>by
  cases op with
  | And=>exact wa (ih h)
  | Or=>exact zB (ih h)
 | a::b::aY,r,h=>by
  simp only[cB]at h;split at h
  ·rename_i a' b' h1 h2;cases h;cases op with
   | And=>exact zC (ih h1) (kA ih h2)
   | Or=>exact BB (ih h1) (kA ih h2)
  ·cases h
def sZ {n:EV}(ih:∀ {e:Fa} {e':E},cE n Γ e=ba e'->GE X e (aj M e')){o:EO Fa}{p:Ep}(h:cP (cE n Γ) o=ba p):GO X o (oz M p):=by
 cases o with
 | none=>cases h; exact we
 | some e=>
  simp only[cP,EQ]at h;obtain⟨e',h1,rfl⟩:=h;exact wf (ih h1)
def nq (K:CtxOk M X Γ){n:EV}(ih:∀ {e:Fa} {e':E},cE n Γ e=ba e'->GE X e (aj M e')){tg e:Fa}{i:Ie}(h:cI Γ (cE n Γ) tg e=ba i):GI X tg e (gx M i):=by
 have gen:(cE n Γ e).map Ie.seq=ba i->GI X tg e (gx M i):=λh=>by
  rw[EQ]at h;obtain⟨e',h1,rfl⟩:=h;exact wM (ih h1)
 unfold cI at h;split at h
 ·rename_i x p a pos;split at h
  ·rename_i hc;rw[ES,ES]at hc;obtain⟨⟨h1,h2⟩,h3⟩:=hc;have hx:=eq_of_beq h1;subst hx;rw[EQ]at h;obtain⟨r,hr,rfl⟩:=h;have ns:=bq hr;rw[FK,ES]at ns;exact wD (fu K h2).1 (K.blt _ (by simpa using h3)) (bV ih hr) (ah ns.1)
  ·split at h
   ·rename_i hc;rw[ES,ES,ES]at hc;obtain⟨⟨⟨h1,h2⟩,h3⟩,h4⟩:=hc;have hx:=eq_of_beq h1;subst hx;rw[EQ]at h;obtain⟨r,hr,rfl⟩:=h;have ns:=bq hr;rw[FK,ES]at ns;cases tg with
    | Tuple els k0 tp=>exact wX (fu K h2).1 (K.blt _ (by simpa using h3)) (bV ih hr) (ah ns.1)
    | _=>cases h4
   ·exact gen h
 ·rename_i x p a b pos;split at h
  ·rename_i hc;rw[ES,ES,ES]at hc;obtain⟨⟨⟨h1,h2⟩,h3⟩,h4⟩:=hc;have hx:=eq_of_beq h1;subst hx;rw[EQ]at h;obtain⟨r,hr,rfl⟩:=h;have ns:=bq hr;rw[FK,FK,ES,ES]at ns;cases tg with
   | Tuple els k0 tp=>exact zX (fu K h2).1 (K.blt _ (by simpa using h3)) (bV ih hr) (by rw[ah ns.1,ah ns.2.1]; rfl) (ah ns.2.1)
   | _=>cases h4
  ·split at h
   ·rename_i hc;rw[ES,ES]at hc;obtain⟨⟨h1,h2⟩,h3⟩:=hc;have hx:=eq_of_beq h1;subst hx;rw[EQ]at h;obtain⟨r,hr,rfl⟩:=h;have ns:=bq hr;rw[FK,FK,ES,ES]at ns;exact wF (fu K h2).1 (K.blt _ (by simpa using h3)) (bV ih hr) (by rw[ah ns.1,ah ns.2.1]; rfl) (ah ns.2.1)
   ·exact gen h
 ·exact gen h
def kB (K:CtxOk M X Γ){x:E3}{i:EV}(h:bU Γ x=ba i):X.N[i]?=ba x/\uV X.env.scope x/\(X.fn x=true\/X.env.scope.names.lookup x=ba .local):=by
 unfold bU at h;split at h
 ·rename_i hc;show#[by rw[K.N]; exact ce h,?_]
  unfold L2.uV;rw[K.names];rw[GQ,ES]at hc;rcases hc with hc|⟨hd,hc⟩
  ·have:=eq_of_beq hc;exact#[.inl this,.inr this]
  ·exact#[.inr (eq_of_beq hc),.inl (K.dfn hd x)]
 ·cases h
def lO (K:CtxOk M X Γ):∀ {ts:EI Fa} {is:EI EV},AL Γ ts=ba is->(∀x∈ts,∃y p,x=Ky y p)/\JG (λ(t:Fa) (i:EV)=>∃x p,t=Ky x p/\X.N[i]?=ba x/\uV X.env.scope x/\(X.fn x=true\/X.env.scope.names.lookup x=ba .local)) ts is
 | [],is,h=>by cases h; exact#[λx hx=>by simp at hx,.nil]
 | t::ts,is,h=>by
  cases t with
  | Name x p=>
   dsimp only[AL]at h;split at h
   ·rename_i i is' h1 h2;cases h;obtain⟨a,b⟩:=lO K h2;exact#[λy hy=>(Fc.mp hy).elim (λe=>#[x,p,e]) (a y),.cons #[x,p,rfl,kB K h1] b]
   ·cases h
  | _=>cases h
def eP {env:Lb}:∀ {ts:EI Fa},(∀x∈ts,∃y p,x=Ky y p)->(assignEach ts env).length=ts.length/\(assignEach ts env).findIdx? (·.1)=gV
 | [],_=>#[rfl,rfl]
 | t::ts,h=>by
  obtain⟨y,p,rfl⟩:=h t F9;obtain⟨a,b⟩:=eP (env:=env) λx hx=>h x (FC _ hx)
  show#[by show(assignEach ts env).length+1=ts.length+1; rw[a],?_]
  change List.findIdx? (·.1) ((false,assign (.Name y p) env)::assignEach ts env)=gV
  rw[Jh,b];rfl
def oE (K:CtxOk M X Γ){tg:Fa}{t:Tg}(h:cT Γ tg=ba t):GG X tg (gI t):=by
 have hN:X.N.Nodup:=by rw[K.N]; exact K.nd
 cases tg with
 | Name x p=>
  dsimp only[cT]at h; simp only[EQ]at h
  obtain⟨i,h1,rfl⟩:=h;obtain⟨a,b,c⟩:=kB K h1;exact oq hN a b c
 | Tuple ts k p=>
  dsimp only[cT]at h; simp only[EQ]at h
  obtain⟨is,h1,rfl⟩:=h;obtain⟨a,b⟩:=lO K h1;exact zN K.calm a b hN (eP a).1 (eP a).2
 | _=>cases h
end
abbrev dg (env:Lb):EI (E3×GD)->EI (E3×EU)->EI (E3×EU)
 | [],cs=>cs
 | (n,k)::r,cs=>dg env r (if k==.free then(n,(env.cells.lookup n).getD 0)::cs else cs)
def fX {env:Lb}:∀(names:EI (E3×GD)) (cs:EI (E3×EU)),(∀y∈names,y.2=.free->(env.cells.lookup y.1).isSome=true)->
  (forIn names cs λx r=>match x with|(name,kind)=>if (kind==Im)=true then do let a <- cellOf env name; pure (Gy ((name,a)::r))else pure (Gy r):MR (EI (E3×EU)))=pure (dg env names cs)
 | [],cs,_=>by rw[Km]; rfl
 | (n,k)::r,cs,h=>by
  rw[IT];have hr:=λy hy=>h y (FC _ hy)
  by_cases hk:(k==Im)=true
  ·obtain⟨c,hc⟩:=Gb.mp (h (n,k) F9 (eq_of_beq hk));have e1:cellOf env n=pure c:=by unfold cellOf; rw[hc]
   simp only[hk,HX,e1,pure_bind];rw[fX r _ hr];simp only[dg,hk,HX,hc,LP]
  ·have hk':(k==Im)=false:=by simpa using hk
   simp only[hk',Gd,Hn,pure_bind];rw[fX r _ hr];simp only[dg,hk',Gd,Hn]
def gJ {scope:HM}{env:Lb}(h:∀y∈scope.names,y.2=.free->(env.cells.lookup y.1).isSome=true):closureFor scope env=pure (dg env scope.names []):=by
 have:=fX scope.names [] h;unfold closureFor;simp only[this,pure_bind]
def iw {env:Lb}:∀(names:EI (E3×GD)) (cs:EI (E3×EU)),(∀y∈names,y.2=.free->(env.cells.lookup y.1).isSome=true)->(∀x c,cs.lookup x=ba c->env.cells.lookup x=ba c)->
  ∀x c,(dg env names cs).lookup x=ba c->env.cells.lookup x=ba c
 | [],cs,_,h,x,c,e=>h x c e
 | (n,k)::r,cs,hn,h,x,c,e=>by
  show iw r _ (λy hy=>hn y (FC _ hy)) (λx c e=>?_) x c e
  split at e
  ·rename_i hk;rw[Gi]at e;split at e
   ·rename_i hx;cases e;have:=eq_of_beq hx;subst this;obtain⟨c,hc⟩:=Gb.mp (hn (x,k) F9 (eq_of_beq hk));rw[hc]; rfl
   ·exact h x c e
  ·exact h x c e
def gA {env:Lb}{x:E3}:∀(names:EI (E3×GD)) (cs:EI (E3×EU)),(∃c,cs.lookup x=ba c)->∃c,(dg env names cs).lookup x=ba c
 | [],cs,h=>h
 | (n,k)::r,cs,h=>by
  show gA r _ ?_;split
  ·rw[Gi];split
   ·exact#[_,rfl]
   ·exact h
  ·exact h
def iy {env:Lb}{x:E3}:∀(names:EI (E3×GD)) (cs:EI (E3×EU)),(x,Im)∈names->∃c,(dg env names cs).lookup x=ba c
 | [],cs,h=>by simp at h
 | (n,k)::r,cs,h=>by
  rcases Fc.mp h with e|h
  ·cases e;show gA r _ ?_;simp[Gi]
  ·exact iy r _ h
def iA {x:E3}{k:GD}:∀ {l:EI (E3×GD)},l.lookup x=ba k->(x,k)∈l
 | [],h=>by simp at h
 | (n,j)::r,h=>by
  rw[Gi]at h;split at h
  ·rename_i hx;cases h;have:=eq_of_beq hx;subst this;exact F9
  ·exact FC _ (iA h)
def dh {X:Cx}{M:E3->FF}{Γ:Gam}(K:CtxOk M X Γ)(scope:HM):(relabel scope X.env).names=d3 scope.names Γ.sc:=by
 unfold relabel d3 JP;rw[K.kind,K.names];show Ij λ#[n,k] _=>?_
 have e:(K5==K5)=true:=rfl;simp only[e,KH]
def cQ {outer:EI (E3×GD)}{x:E3}:∀ {names:EI (E3×GD)},(d3 names outer).lookup x=(names.lookup x).map λk=>if (k==.free&&outer.lookup x==ba .cell)then .cell else k
 | []=>rfl
 | (n,k)::r=>by
  have ih:=cQ (outer:=outer) (x:=x) (names:=r);change List.lookup x ((if (k==Im&&outer.lookup n==ba .cell)=true then(n,NL)else(n,k))::d3 r outer)=_
  cases hx:x==n with
  | true=>
   have:=eq_of_beq hx;subst this;simp only[Gi,FQ,FP];split <;> simp[Gi]
  | false=>
   simp only[Gi,hx];split <;> (simp only[Gi,hx]; exact ih)
section
variable{M:E3->FF}{X:Cx}{Γ:Gam}
structure ScOk (Γ:Gam)(scope:HM):Prop where
 kind:scope.kind=.function
 names:∀y∈scope.names,y.2=.local->scope.names.lookup y.1=ba .local
 nocell:∀y∈scope.names,y.2≠.cell
 free:∀y∈scope.names,y.2=.free->w8 (Γ.sc.lookup y.1)=true/\scope.names.lookup y.1=ba .free/\(Γ.N.findIdx? (· == y.1)).isSome=true
 nd:(eF scope.names).Nodup
def oF {scope:HM}(h:sT Γ scope=true):ScOk Γ scope:=by
 unfold sT at h;rw[ES,ES,ES,ES]at h;obtain⟨⟨⟨⟨h1,h2⟩,h3⟩,h4⟩,h5⟩:=h;show#[eq_of_beq h1,λy hy e=>?_,λy hy e=>?_,λy hy e=>?_,F1 h5]
 ·have:=Fu.mp h2 y hy;rw[e]at this
  simpa using this
 ·have:=Fu.mp h3 y hy;rw[e]at this;simp at this
 ·have:=Fu.mp h4 y hy;rw[e]at this;simp only[FQ,KI,Jv,ES]at this;exact#[this.1.1,eq_of_beq this.1.2,this.2]
def oG {o:EO GD}(h:w8 o=true):o=ba .cell\/o=ba .free:=by
 unfold w8 at h;split at h
 ·exact .inl rfl
 ·exact .inr rfl
 ·cases h
def jr (K:CtxOk M X Γ)(ok:X.Ok){scope:HM}(sc:ScOk Γ scope):CompOk X scope (dg X.env scope.names []) (eF scope.names) (eg Γ scope.names):=by
 have cells:∀y∈scope.names,y.2=.free->(X.env.cells.lookup y.1).isSome=true:=λy hy e=>by
  have hk:=oG (sc.free y hy e).1;obtain⟨c,hc⟩:=ok.has y.1 (by unfold JP; rw[K.names]; exact hk)
  rw[hc]; rfl
 have relab:∀x,((relabel scope X.env).names.lookup x=ba .cell\/(relabel scope X.env).names.lookup x=ba .free)->(x,Im)∈scope.names:=λx h=>by
  rw[dh K,cQ]at h;cases q:scope.names.lookup x with
  | none=>rw[q]at h; rcases h with h|h <;> cases h
  | some k=>
   rw[q]at h;have hm:=iA q;cases k with
   | free=>exact hm
   | cell=>exact absurd rfl (sc.nocell _ hm)
   | _=>rcases h with h|h <;> simp at h
 show#[gJ cells,sc.kind,sc.names,sc.nocell,iw _ _ cells (λx c e=>by cases e),λx h=>iy _ _ (relab x h),by simp[eg],λi j x hi hx=>?_]
 unfold eg at hi;rw[E1,hx]at hi;simp only[FP,Fj]at hi;split at hi
 ·cases hi
 ·rename_i hl;have hx2:x∈eF scope.names:=Fh hx;unfold eF at hx2;obtain⟨⟨x',k⟩,hf,e⟩:=Fx.mp hx2;obtain⟨hm,hk⟩:=JS.mp hf;have e':x'=x:=e;subst e';have hkf:k=.free:=by
   simp only[GQ]at hk;rcases hk with hk|hk
   ·have:k=.local:=eq_of_beq hk;subst this;have:=sc.names (x',.local) hm rfl;rw[this]at hl;simp at hl
   ·exact eq_of_beq hk
  subst hkf;obtain⟨f1,f2,f3⟩:=sc.free _ hm rfl;show#[by rw[K.N]; exact ce hi,by unfold JP; rw[K.names]; exact oG f1,?_]
  rw[dh K,cQ,f2];simp only[FP,Fj,FQ,IN];split
  ·exact .inl rfl
  ·exact .inr rfl
def dt (K:CtxOk M X Γ){scope:HM}(sc:ScOk Γ scope)(C:EU)(s0:EN)(H0:Hp)(ex:EI EU):CtxOk M (iQ X scope (dg X.env scope.names []) C (eF scope.names) s0 H0 ex) (eG Γ scope) where
 names:=dh K scope
 kind:=sc.kind
 N:=rfl
 nd:=sc.nd
 calm:=K.calm
 xe:=rfl
 un:=K.un
 dfn:=λh=>by cases h
 blt:=K.blt
 cst:=K.cst
 fns:=K.fns
def lP {cs:Es}{n:EV}{ifs:EI Fa}{Γ:Gam}(hl:ifs.length<=1)(hc:cA (cE n Γ) ifs=ba cs){Yq:Cx}(ih:∀ {e:Fa} {e':E},cE n Γ e=ba e'->GT Yq e (bJ M e'))(hx:Yq.xe=λ_ _=>F8) :
  ∀J s Y H Q,Inv Yq J Y H s->tT Yq (w6 M cs) Y H Q->
  wpAny (model Yq.prog Yq.w) Yq.A (forIn ifs true λc r=>if r=true then do let ok <- isTrue c Yq.env (eval c Yq.env); pure (Gy ok)else pure (Gy r)) (TP Yq J Y Q) (λ_ _=>F8) s:=by
 intro J s Y H Q I h
 match ifs,hl,hc with
 | [],_,hc=>
  cases hc;obtain⟨A,Z,S,k,S',er,so,e,hq⟩:=h;cases e;exact wpAny_tests_nil #[H,I,hq _ _ #[rfl,A,.refl,so]]
 | [c],_,hc=>
  obtain⟨e',es',h1,h2,rfl⟩:=ft hc;cases h2;have:=ih h1 J s Y H Q I h;rw[hx]at this;exact wpAny_tests_one this
def bc:∀(n:EV) {Γ:Gam} {X:Cx} {e:Fa} {e':E},CtxOk M X Γ->cE n Γ e=ba e'->GE X e (aj M e')/\GT X e (bJ M e'):=by
 intro n
 induction n with
 | zero=>intro Γ X e e' K h; cases h
 | succ n ih=>
  intro Γ X e e' K h;have ihE:∀ {e:Fa} {e':E},cE n Γ e=ba e'->GE X e (aj M e'):=λq=>(ih K q).1
  have ihT:∀ {e:Fa} {e':E},cE n Γ e=ba e'->GT X e (bJ M e'):=λq=>(ih K q).2
  have hu10:X.A.units+10 < cLine:=by have:=K.un; have:dA=20:=rfl; omega
  cases e with
  | Constant c k p=>
   cases c <;> cases h
   all_goals first
    | exact#[kh qR (λ_ _=>.non),bj (kh qR (λ_ _=>.non)) λ_=>rfl]
    | exact#[kh xP (λ_ _=>.bl),bj (kh xP (λ_ _=>.bl)) λ_=>rfl]
    | exact#[kh qQ (λ_ _=>.int),bj (kh qQ (λ_ _=>.int)) λ_=>rfl]
    | exact#[kh qS (λ_ _=>.str),bj (kh qS (λ_ _=>.str)) λ_=>rfl]
  | Name x p=>
   replace h:(match slot Γ x with|some i=>ba (E.v i)|none=>if fW Γ x then(Γ.cst.lookup x).map E.c else gV)=ba e':=h
   split at h
   ·rename_i i h1;cases h;exact#[sW K h1,bj (sW K h1) λ_=>rfl]
   ·split at h
    ·rename_i hg;rw[EQ]at h;obtain⟨w,h1,rfl⟩:=h;obtain⟨g1,g2⟩:=fu K hg;have g:=zY (pos:=p) g1 g2 (K.cst x w h1);exact#[g,bj g λ_=>rfl]
    ·cases h
  | BinOp a op b p=>
   replace h:(match oA op,cE n Γ a,cE n Γ b with|some o,ba a',ba b'=>ba (E.op o a' b')|_,_,_=>gV)=ba e':=h
   split at h
   ·rename_i o a' b' h1 h2 h3;cases h;have e:=sX h1;subst e;exact#[xW (nQ o) (ihE h2) (ihE h3),bj (xW (nQ o) (ihE h2) (ihE h3)) λ_=>rfl]
   ·cases h
  | UnaryOp op a p=>
   cases op with
   | Not=>
    replace h:(cE n Γ a).map E.not=ba e':=h;rw[EQ]at h;obtain⟨a',h1,rfl⟩:=h;exact#[zG (ihE h1),zD (ihT h1)]
   | USub=>
    replace h:(cE n Γ a).map E.neg=ba e':=h;rw[EQ]at h;obtain⟨a',h1,rfl⟩:=h;exact#[sf (ihE h1),bj (sf (ihE h1)) λ_=>rfl]
   | _=>exact ay h
  | BoolOp op vs p=>
   replace h:cB (cE n Γ) op vs=ba e':=h;exact#[kz ihE h,(kA ihT h).pt]
  | Compare a ops cs p=>
   match ops,cs,h with
   | [op],[b],h=>
    replace h:(match gy op,cE n Γ a,cE n Γ b with|some o,ba a',ba b'=>ba (E.cmp o a' b')|_,_,_=>gV)=ba e':=h
    split at h
    ·rename_i o a' b' h1 h2 h3;cases h;have e:=iu h1;subst e;exact#[zz K.un (ihE h2) (ihE h3) (fw h3),zA K.un (ihE h2) (ihE h3) (fw h3)]
    ·cases h
   | [],_,h=>exact ay h
   | [_],[],h=>exact ay h
   | [_],_::_::_,h=>exact ay h
   | [op,op'],[b,d],h=>
    replace h:(match gy op,gy op',cE n Γ a,cE n Γ b,cE n Γ d with|some o,ba o',ba a',ba b',ba d'=>ba (E.chn o o' a' b' d')|_,_,_,_,_=>gV)=ba e':=h
    split at h
    ·rename_i o o' a' b' d' h1 h2 h3 h4 h5;cases h;have e:=iu h1;subst e;have e:=iu h2;subst e;exact#[sg K.un (ihE h3) (ihE h4) (ihE h5) (fw h5),sh K.un (ihE h3) (ihE h4) (ihE h5) (fw h5)]
    ·cases h
   | [_,_],[],h=>exact ay h
   | [_,_],[_],h=>exact ay h
   | [_,_],_::_::_::_,h=>exact ay h
   | _::_::_::_,_,h=>exact ay h
  | IfExp t a b p=>
   replace h:(match cE n Γ t,cE n Γ a,cE n Γ b with|some t',ba a',ba b'=>ba (E.ite t' a' b')|_,_,_=>gV)=ba e':=h
   split at h
   ·rename_i t' a' b' h1 h2 h3;cases h;exact#[zH (ihT h1) (ihE h2) (ihE h3),gQ]
   ·cases h
  | Call f args kws p=>
   cases kws with
   | cons _ _=>cases f <;> first|(exact ay h)|(cases args <;> (exact ay h))
   | nil=>
    cases f with
    | Name x q=>
     replace h:(if fW Γ x then match Γ.fns.lookup x with|some k=>(cA (cE n Γ) args).map (E.own x k)|none=>if x==("isinstance" : E3)then(if Γ.blt.contains x then xg Γ (cE n Γ) args else gV)else match (generalizing:=false) w9 x,args with|some b,a::as=>if Γ.blt.contains x then(cA (cE n Γ) (a::as)).map (E.bi b)else gV|_,_=>gV else gV)=ba e':=h
     split at h
     ·rename_i hg;split at h
      ·rename_i k hk;rw[EQ]at h;obtain⟨r,hr,rfl⟩:=h;have g:=BR (pos:=p) (p:=q) K hg hk hr (bV ihE hr);exact#[g,bj g λ_=>rfl]
      ·split at h
       ·rename_i his;split at h
        ·rename_i hc;obtain⟨g,a',c',rfl⟩:=BS (pos:=p) (p:=q) K hg his hc ihE h;exact#[g,bj g λ_=>rfl]
        ·cases h
       ·split at h
        ·rename_i bb a as hb;split at h
         ·rename_i hc;rw[EQ]at h;obtain⟨r,hr,rfl⟩:=h;have g:=DI (pos:=p) (p:=q) K hg hb hc hr (bV ihE hr);exact#[g,bj g λ_=>rfl]
         ·cases h
        ·cases h
     ·cases h
    | Attribute o m q=>
     cases args with
     | nil=>exact ay h
     | cons a as=>
      replace h:(if (m==("index" : E3))=true then match cE n Γ o,cE n Γ a with|some o',ba a'=>if bT o&&(q.endLine==p.line)&&as.isEmpty then ba (E.idx o' a')else gV|_,_=>gV else match xf m,cE n Γ o,cA (cE n Γ) (a::as)with|some m',ba o',ba es=>if bT o&&(q.endLine==p.line)&&decide ((a::as).length < 29)then ba (E.me m' o' es)else gV|_,_,_=>gV)=ba e':=h
      by_cases hm:(m==("index" : E3))=true
      ·rw[Fi hm]at h;have hme:=eq_of_beq hm;subst hme;split at h
       ·rename_i o' a' h1 h2;split at h
        ·rename_i hc;rw[ES,ES]at hc;have h0:as=[]:=IL.mp hc.2;subst h0;cases h;have g:=BU (cpos:=p) (apos:=q) hc.1.1 hc.1.2 (ihE h1) (eh h2) (ihE h2);exact#[g,bj g λ_=>rfl]
        ·cases h
       ·cases h
      rw[FJ hm]at h;split at h
      ·rename_i m' o' es h1 h2 h3;split at h
       ·rename_i hc;rw[ES,ES,Ft]at hc;cases h;have g:=DJ K (cpos:=p) (apos:=q) h1 hc.1.1 hc.1.2 hc.2 (ihE h2) h3 (bV ihE h3);exact#[g,bj g λ_=>rfl]
       ·cases h
      ·cases h
    | _=>exact ay h
  | Subscript a b p=>
   have plain:(match cE n Γ a,cE n Γ b with|some a',ba b'=>ba (E.ix a' b')|_,_=>gV)=ba e'->GE X (.Subscript a b p) (aj M e')/\GT X (.Subscript a b p) (bJ M e'):=λh=>by
    split at h
    ·rename_i a' b' h1 h2;cases h;have g:=BF (pos:=p) hu10 (ihE h1) (ihE h2) (nk h2);exact#[g,bj g λ_=>rfl]
    ·cases h
   cases b with
   | Slice lo hi st q=>
    cases st with
    | none=>
     replace h:(match cE n Γ a,cP (cE n Γ) lo,cP (cE n Γ) hi with|some a',ba lo',ba hi'=>ba (E.sl a' lo' hi')|_,_,_=>gV)=ba e':=h
     split at h
     ·rename_i a' lo' hi' h1 h2 h3;cases h;have g:=BG (pos:=p) (p2:=q) (ihE h1) (sZ ihE h2) (sZ ihE h3);exact#[g,bj g λ_=>rfl]
     ·cases h
    | some z=>exact plain h
   | _=>exact plain h
  | Tuple es k p=>
   replace h:(cA (cE n Γ) es).map E.tup=ba e':=h;rw[EQ]at h;obtain⟨r,h1,rfl⟩:=h;exact#[su (bV ihE h1),bj (su (bV ihE h1)) λ_=>rfl]
  | List es p=>
   replace h:(cA (cE n Γ) es).map E.lst=ba e':=h;rw[EQ]at h;obtain⟨r,h1,rfl⟩:=h;exact#[sv (bV ihE h1),bj (sv (bV ihE h1)) λ_=>rfl]
  | Dict keys values p=>
   replace h:sU (cE n Γ) keys values=ba e':=h;unfold sU at h;split at h
   ·rename_i hc;cases h;rw[ES]at hc;have k0:keys=[]:=IL.mp hc.1;have v0:values=[]:=IL.mp hc.2;subst k0 v0;exact#[wJ,gQ]
   ·rename_i hc0;split at h
    ·rename_i hc;rw[ES,ES,Ft,Ft]at hc;rw[EQ]at h;obtain⟨r,hr,rfl⟩:=h;have h0:keys≠[]:=λz=>by
      subst z;have v0:values=[]:=HD.mp hc.1.2.symm;subst v0;exact hc0 rfl
     exact#[wK (pos:=p) hu10 (oD ihE keys values hc.1.1 hc.1.2 hr) hc.1.1 hc.1.2 h0 hc.2,gQ]
    ·cases h
  | ListComp elt gens scope p=>
   match gens,h with
   | [#[tg,iter,ifs,asy]],h=>
    replace h:(if (asy==0)&&(sT Γ scope&&decide (ifs.length<=1))then match cI Γ (cE n Γ) tg iter,cT (eG Γ scope) tg,cA (cE n (eG Γ scope)) ifs,cE n (eG Γ scope) elt with|some it,ba t,ba cs,ba el=>ba (E.comp el t it cs (eg Γ scope.names))|_,_,_,_=>gV else gV)=ba e':=h
    split at h
    ·rename_i hc;rw[ES,ES,Ft]at hc;have e0:asy=0:=eq_of_beq hc.1;subst e0;replace hc:=hc.2;split at h
     ·rename_i it t cs el h1 h2 h3 h4;cases h;have sc:=oF hc.1;show#[wQ K.calm (nq K ihE h1) (λok=>#[_,jr K ok sc,?_]) (kw (n:=n) (λel k p=>by cases n <;> rfl) h1),gQ]
      show#[λC s0 H0 ex=>oE (dt K sc C s0 H0 ex) h2,λC s0 H0 ex J s Y H Q I q=>?_,λC s0 H0 ex=>(ih (dt K sc C s0 H0 ex) h4).1]
      exact lP hc.2 h3 (λz=>(ih (dt K sc C s0 H0 ex) z).2) rfl J s Y H Q I q
     ·cases h
    ·cases h
   | [],h=>exact ay h
   | #[_,_,_,_]::_::_,h=>exact ay h
  | _=>exact ay h
end
noncomputable abbrev be:EV:=30
abbrev yc:Fa->Fk
 | .Constant (.str _) _ _=>true
 | _=>false
abbrev fY:Fa->Fk
 | .ListComp _ _ _ _=>true
 | _=>false
abbrev oH:Fa->Fk
 | .Slice _ _ _ _=>true
 | _=>false
abbrev oI (f:Hv->EO Sm)(ss:EI Hv):EO Ss:=ss.foldr (λs acc=>match f s,acc with|some s',ba ss'=>ba (.cons s' ss')|_,_=>gV) (ba .nil)
abbrev z4 (Γ:Gam):EI Fa->Fa->EO Sm
 | [.Name x px,.Name y py],.Tuple [a,b] _ _=>match Γ.N.findIdx? (· == x),Γ.N.findIdx? (· == y),cA (cE be Γ) [a,b]with
  | some i,ba j,ba es=>if !(i==j)&&(Γ.sc.lookup x==ba .local)&&(Γ.sc.lookup y==ba .local)&&(py.line==px.line) && !([a,b].all (foldedForSure 8)) && !([a,b].all (constantsAlone 8))then ba (.par i j es)else gV
  | _,_,_=>gV
 | _,_=>gV
abbrev cS:EV->Gam->Hv->EO Sm
 | 0,_,_=>gV
 | n+1,Γ,st=>match st with
  | .Assign [.Name x _] e _=>match bU Γ x,cE be Γ e with
   | some i,ba e'=>ba (.set i e')
   | _,_=>gV
  | .Assign [.Tuple ts _ _] e _=>if isTup e then z4 Γ ts e else if fY e then gV else match AL Γ ts,cE be Γ e with
   | some is,ba e'=>ba (.asg is e')
   | _,_=>gV
  | .Assign [.Subscript o k _] e _=>if oH k then gV else match cE be Γ o,cE be Γ k,cE be Γ e with
   | some o',ba k',ba e'=>ba (.put o' k' e')
   | _,_,_=>gV
  | .Expr e _=>if yc e then ba .pass else if fY e then gV else(cE be Γ e).map .ex
  | .Return (ba e) _=>(cE be Γ e).map .ret
  | .Return gV _=>ba .retN
  | .Pass _=>ba .pass
  | .Raise _ _ _=>ba .bad
  | .Break _=>ba .brk
  | .Continue _=>ba .cont
  | .If t a b _=>match cE be Γ t,oI (cS n Γ) a,oI (cS n Γ) b with
   | some t',ba a',ba b'=>ba (.ite t' a' b')
   | _,_,_=>gV
  | .While t b [] _=>match cE be Γ t,oI (cS n Γ) b with
   | some t',ba b'=>ba (.whl t' b')
   | _,_=>gV
  | .For tg it b [] _=>match cT Γ tg,cI Γ (cE be Γ) tg it,oI (cS n Γ) b with
   | some t,ba i,ba b'=>ba (.loop t i b')
   | _,_,_=>gV
  | _=>gV
section
variable{M:E3->FF}{X:Cx}{Γ:Gam}{fuel:EV}
def tf {f:Hv->EO Sm}{s:Hv}{ss:EI Hv}{r:Ss}(h:oI f (s::ss)=ba r):∃s' ss',f s=ba s'/\oI f ss=ba ss'/\r=.cons s' ss':=by
 simp only[oI,L1]at h;split at h
 ·rename_i e' es' h1 h2;cases h;exact#[e',es',h1,h2,rfl]
 ·cases h
def ei {n:EV}(ih:∀ {st:Hv} {s':Sm},cS n Γ st=ba s'->GS X st (ef M fuel s')):∀ {ss:EI Hv} {r:Ss},oI (cS n Γ) ss=ba r->GSs X ss (d0 M fuel r)
 | [],r,h=>by cases h; exact wj
 | s::ss,r,h=>by
  obtain⟨s',ss',h1,h2,rfl⟩:=tf h;exact sw (ih h1) (ei ih h2)
def iB {e:Fa}{t:EO Fa}{l:EV}{env:Lb}(h:fY e=false)(n:EV){Γ:Gam}{e':E}(hc:cE n Γ e=ba e'):swapsWith e t l env=pure false:=by
 cases n with
 | zero=>cases hc
 | succ n=>cases e <;> first|(exfalso; exact ay hc)|rfl|cases h
def nr (K:CtxOk M X Γ){n:EV}{elt:Fa}{gens:EI Comprehension}{scope:HM}{p:G5}{e':E}(h:cE (n+1) Γ (.ListComp elt gens scope p)=ba e') :
  ∃tg iter ifs fi g c f cap,gens=[#[tg,iter,ifs,0]]/\aj M e'=io fi g c f cap/\GI X tg iter fi/\(X.Ok->∃cl,CompOk X scope cl (eF scope.names) cap/\BlockOk X scope cl (eF scope.names) tg elt ifs g c f)/\∀x,foldedSetIterable iter X.env x=pure x:=by
 match gens,h with
 | [#[tg,iter,ifs,asy]],h=>
  replace h:(if (asy==0)&&(sT Γ scope&&decide (ifs.length<=1))then match cI Γ (cE n Γ) tg iter,cT (eG Γ scope) tg,cA (cE n (eG Γ scope)) ifs,cE n (eG Γ scope) elt with|some it,ba t,ba cs,ba el=>ba (E.comp el t it cs (eg Γ scope.names))|_,_,_,_=>gV else gV)=ba e':=h
  split at h
  ·rename_i hc;rw[ES,ES,Ft]at hc;have e0:asy=0:=eq_of_beq hc.1;subst e0;replace hc:=hc.2;split at h
   ·rename_i it t cs el h1 h2 h3 h4;cases h;have sc:=oF hc.1;show#[tg,iter,ifs,_,_,_,_,_,rfl,rfl,nq K (λz=>(bc n K z).1) h1,λok=>#[_,jr K ok sc,?_],kw (n:=n) (λel k p=>by cases n <;> rfl) h1]
    show#[λC s0 H0 ex=>oE (dt K sc C s0 H0 ex) h2,λC s0 H0 ex J s Y H Q I q=>?_,λC s0 H0 ex=>(bc n (dt K sc C s0 H0 ex) h4).1]
    exact lP hc.2 h3 (λz=>(bc n (dt K sc C s0 H0 ex) z).2) rfl J s Y H Q I q
   ·cases h
  ·cases h
 | [],h=>exact ay h
 | #[_,_,_,_]::_::_,h=>exact ay h
def BV (K:CtxOk M X Γ){x:E3}{px pos:G5}{e:Fa}{i:EV}{e':E}(hi:bU Γ x=ba i)(he:cE be Γ e=ba e'):GS X (.Assign [.Name x px] e pos) (im (aj M e') (xY i)):=by
 obtain⟨a,b,c⟩:=kB K hi;have hN:X.N.Nodup:=by rw[K.N]; exact K.nd
 have plain:swapsWith e (ba (.Name x px)) pos.line X.env=pure false->GS X (.Assign [.Name x px] e pos) (im (aj M e') (xY i)):=λhs=>mW (bc _ K he).1 (oq hN a b c) hs (by cases e <;> rfl) rfl
 cases hc:fY e with
 | false=>exact plain (iB hc _ he)
 | true=>
  cases e with
  | ListComp elt gens scope p=>
   cases hsw:(X.env.blockKind==.function&&X.env.kindOf x==ba .local&&px.line==p.line && !(scope.names.any λ(n,k)=>n==x&&(k==.local||k==.cell)))with
   | false=>
    show plain ?_;show(pure (X.env.blockKind==.function&&X.env.kindOf x==ba .local&&px.line==p.line && !(scope.names.any λ(n,k)=>n==x&&(k==.local||k==.cell))):MR Fk)=pure false
    rw[hsw]
   | true=>
    have hsw':swapsWith (.ListComp elt gens scope p) (ba (.Name x px)) pos.line X.env=pure true:=by
     show(pure (X.env.blockKind==.function&&X.env.kindOf x==ba .local&&px.line==p.line && !(scope.names.any λ(n,k)=>n==x&&(k==.local||k==.cell))):MR Fk)=pure true
     rw[hsw]
    rw[ES,ES,ES]at hsw;have hl:X.env.scope.names.lookup x=ba .local:=eq_of_beq hsw.1.1.2;obtain⟨tg,iter,ifs,fi,g,c',f,cap,rfl,e2,gi,hck,hs⟩:=nr K he;rw[e2];exact ni K.calm gi hck hs hsw' hN a hl
  | _=>cases hc
def lQ (K:CtxOk M X Γ){x y:E3}{px py pt pt2:G5}{kt k2:EV}{a b:Fa}(hxy:x≠y)(hx:Γ.sc.lookup x=ba .local)(hy:Γ.sc.lookup y=ba .local)(hl:(py.line==px.line)=true)(h1:[a,b].all (foldedForSure 8)=false)(h2:[a,b].all (constantsAlone 8)=false)(hs:dD a=true)(hs2:dD b=true) :
  swappedStores [.Tuple [.Name x px,.Name y py] kt pt] (.Tuple [a,b] k2 pt2) X.env=pure (ba [x,y]):=by
 have kx:(X.env.kindOf x==ba .local)=true:=by unfold JP; rw[K.names,hx]; rfl
 have ky:(X.env.kindOf y==ba .local)=true:=by unfold JP; rw[K.names,hy]; rfl
 have bk:(X.env.blockKind != .function)=false:=by
  unfold Env.blockKind;rw[K.kind];rfl
 have hp:(px.line==px.line)=true:=by simp
 have ed:([x,y].eraseDups.length != [x,y].length)=false:=by
  have:(y==x)=false:=by simpa using Ne.symm hxy
  simp[KD,this]
 have kx':X.env.kindOf x=ba .local:=eq_of_beq kx;have ky':X.env.kindOf y=ba .local:=eq_of_beq ky;have hl':py.line=px.line:=eq_of_beq hl;have bk':X.env.blockKind=.function:=by simpa using bk
 have yx:(y==x)=false:=by simpa using Ne.symm hxy
 have h1':(foldedForSure 8 a&&foldedForSure 8 b)=false:=by simpa using h1
 have h2':(constantsAlone 8 a&&constantsAlone 8 b)=false:=by simpa using h2
 unfold swappedStores;simp only[Hc,List.any_nil,Mz,Ig,List.filterMap_nil,kx',ky',bk',List.head?_cons,FP,LP,Fy,Gx,FK,List.all_nil,KH,h1',h2'];show Eq.trans (FJ ?_) (Eq.trans (FJ ?_) ?_)
 ·decide
 ·rw[GQ];rintro(hh|hh)
  ·clear h1 h2 h1' h2';cases a <;> first|(cases hh; done)|(cases hs; done)
  ·clear h1 h2 h1' h2';cases b <;> first|(cases hh; done)|(cases hs2; done)
 ·dsimp only[Expr.pos]; simp[hl',yx,KD]
def xh (fuel:EV)(K:CtxOk M X Γ):∀(n:EV) {st:Hv} {s':Sm},cS n Γ st=ba s'->GS X st (ef M fuel s'):=by
 have hN:X.N.Nodup:=by rw[K.N]; exact K.nd
 have own:Kw (model X.prog X.w) X.A X.env X.xe:=by rw[K.xe]; exact ND
 intro n
 induction n with
 | zero=>intro st s' h; cases h
 | succ n ih=>
  intro st s' h;cases st with
  | Expr e p=>
   replace h:(if yc e then ba Sm.pass else if fY e then gV else(cE be Γ e).map Sm.ex)=ba s':=h
   split at h
   ·rename_i hd;cases h;cases e with
    | Constant c k q=>
     cases c with
     | str x=>exact zL
     | _=>cases hd
    | _=>cases hd
   ·split at h
    ·cases h
    ·rename_i hd hc;rw[EQ]at h;obtain⟨e',h1,rfl⟩:=h;exact BH (bc _ K h1).1 (iB (by simpa using hc) _ h1)
  | Return o p=>
   cases o with
   | none=>cases h; exact wq
   | some e=>
    replace h:(cE be Γ e).map Sm.ret=ba s':=h;rw[EQ]at h;obtain⟨e',h1,rfl⟩:=h;exact zM (bc _ K h1).1
  | Pass p=>cases h; exact wn
  | Raise exc cause pos=>cases h; exact λJ s D Y H I #[A,Z,S,o,S',er,so,e,hq]=>nomatch e
  | Break p=>cases h; exact sy
  | Continue p=>cases h; exact wo
  | If t a b p=>
   replace h:(match cE be Γ t,oI (cS n Γ) a,oI (cS n Γ) b with|some t',ba a',ba b'=>ba (Sm.ite t' a' b')|_,_,_=>gV)=ba s':=h
   split at h
   ·rename_i t' a' b' h1 h2 h3;cases h;exact BI (bc _ K h1).2 (ei ih h2) (ei ih h3)
   ·cases h
  | While t b o p=>
   cases o with
   | cons _ _=>exact ay h
   | nil=>
    replace h:(match cE be Γ t,oI (cS n Γ) b with|some t',ba b'=>ba (Sm.whl t' b')|_,_=>gV)=ba s':=h
    split at h
    ·rename_i t' b' h1 h2;cases h;exact sA fuel own (bc _ K h1).2 (ei ih h2)
    ·cases h
  | For tg it b o p=>
   cases o with
   | cons _ _=>exact ay h
   | nil=>
    replace h:(match cT Γ tg,cI Γ (cE be Γ) tg it,oI (cS n Γ) b with|some t,ba i,ba b'=>ba (Sm.loop t i b')|_,_,_=>gV)=ba s':=h
    split at h
    ·rename_i t i b' h1 h2 h3;cases h;exact zR own K.calm (nq K (λz=>(bc _ K z).1) h2) (oE K h1) (ei ih h3) (kw (n:=be) (λel k p=>rfl) h2)
    ·cases h
  | Assign ts e p=>
   match ts,h with
   | [],h=>exact ay h
   | a::_::_,h=>cases a <;> exact ay h
   | [t],h=>
    cases t with
    | Name x px=>
     replace h:(match bU Γ x,cE be Γ e with|some i,ba e'=>ba (Sm.set i e')|_,_=>gV)=ba s':=h
     split at h
     ·rename_i i e' h1 h2;cases h;exact BV K h1 h2
     ·cases h
    | Subscript o k q=>
     replace h:(if oH k then gV else match cE be Γ o,cE be Γ k,cE be Γ e with|some o',ba k',ba e'=>ba (Sm.put o' k' e')|_,_,_=>gV)=ba s':=h
     split at h
     ·cases h
     ·rename_i hc;split at h
      ·rename_i o' k' e' h1 h2 h3;cases h;show mW (bc _ K h3).1 (zO (by have:=K.un; have:dA=20:=rfl; omega) (bc _ K h1).1 (bc _ K h2).1 ?_) (by cases e <;> rfl) (by cases e <;> rfl) rfl
       intro v;cases k <;> first|rfl|exact absurd rfl hc
      ·cases h
    | Tuple ts' k q=>
     have par:∀ {x y:E3} {px py:G5} {a b:PySem.Expr} {k2:EV} {q2:G5},(match Γ.N.findIdx? (· == x),Γ.N.findIdx? (· == y),cA (cE be Γ) [a,b]with
       | some i,ba j,ba es=>if !(i==j)&&(Γ.sc.lookup x==ba .local)&&(Γ.sc.lookup y==ba .local)&&(py.line==px.line) && !([a,b].all (foldedForSure 8)) && !([a,b].all (constantsAlone 8))then ba (Sm.par i j es)else gV
       | _,_,_=>gV)=ba s'->GS X (.Assign [.Tuple [.Name x px,.Name y py] k q] (.Tuple [a,b] k2 q2) p) (ef M fuel s'):=λ{x y px py a b k2 q2} h=>by
      split at h
      ·rename_i i j es h1 h2 h3;split at h
       ·rename_i hc;cases h;rw[ES,ES,ES,ES,ES]at hc;obtain⟨⟨⟨⟨⟨c1,c2⟩,c3⟩,c4⟩,c5⟩,c6⟩:=hc;have hij:i≠j:=by simpa using c1
        have ns:=bq h3;rw[FK,FK,ES,ES]at ns;have hi:X.N[i]?=ba x:=by rw[K.N]; exact ce h1
        have hj:X.N[j]?=ba y:=by rw[K.N]; exact ce h2
        show zP K.calm hN hi hj hij (by rw[K.names]; exact eq_of_beq c2) (by rw[K.names]; exact eq_of_beq c3) (bV (λz=>(bc _ K z).1) h3) (lQ K ?_ (eq_of_beq c2) (eq_of_beq c3) c4 (by rw[<- Lx]; exact c5) (by rw[<- Lx]; exact c6) ns.1 ns.2.1) rfl
        rintro rfl;rw[h1]at h2;cases h2;exact hij rfl
       ·cases h
      ·cases h
     replace h:(if isTup e then z4 Γ ts' e else if fY e then gV else match AL Γ ts',cE be Γ e with|some is,ba e'=>ba (Sm.asg is e')|_,_=>gV)=ba s':=h
     split at h
     ·unfold z4 at h;split at h
      ·exact par h
      ·cases h
     ·split at h
      ·cases h
      ·rename_i hc1 hc2;split at h
       ·rename_i is e' h1 h2;cases h;show mW (bc _ K h2).1 (oE (tg:=.Tuple ts' k q) (t:=.tp is) K (by(dsimp only[cT]; simp[h1]))) (iB (t:=ba (.Tuple ts' k q)) (l:=p.line) (env:=X.env) (by simpa using hc2) _ h2) ?_ rfl
        cases e <;> first|rfl|exact absurd rfl hc1
       ·cases h
    | _=>exact ay h
  | _=>exact ay h
end
structure Df where
 ps:EI E3
 N:EI E3
 body:Ss
abbrev dE (N:EI E3)(ws:EI W):Fm:=ws.map ba++Fw (N.length - ws.length) gV
abbrev ak (defs:EI (E3×Df))(fuel:EV):EV->E3->FF
 | 0,_,_,_=>gV
 | d+1,f,ws,S=>match defs.lookup f with
  | some df=>if ws.length=df.ps.length then match d0 (ak defs fuel d) fuel df.body (dE df.N ws) S with
    | some (.rt w,S')=>ba (w,S')
    | some (.nx _,S')=>ba (.non,S')
    | _=>gV
   else gV
  | none=>gV
structure Md where
 fns:EI (E3×EV)
 blt:EI E3
 cst:EI (E3×W)
abbrev tj (tv:Md)(st:Hv)(N:EI E3):Gam:={ sc:=(aG st).names,N:=N,fns:=tv.fns,blt:=tv.blt,dfn:=true,cst:=tv.cst }
abbrev BW (tv:Md)(st:Hv)(df:Df):Prop:=oI (cS 20 (tj tv st df.N)) (bx st)=ba df.body
def js {K:EW}{A:EI EU}{H:Hp}{ws:EI W}{vs:EI V}{N:EI E3}(r:RelL K A H ws vs):EnvRel K A H (dE N ws) (dP N vs):=by
 show#[by simp[dE,L2.dP,r.length],λi w h=>?_]
 unfold dE at h;unfold L2.dP
 by_cases hi:i < ws.length
 ·rw[Fz (by simpa using hi),E1]at h
  rw[Fz (by rw[ER,<- r.length]; exact hi),E1]
  cases q:ws[i]? with
  | none=>rw[q]at h; cases h
  | some w'=>
   rw[q]at h;simp only[FP,Fj]at h;subst h;obtain⟨v,h1,h2⟩:=r.get q;exact#[v,by rw[h1]; rfl,h2]
 ·rw[GJ (by simpa using hi)]at h
  have:=Fh h;simp at this
section
variable{P:Fn}{w:Fv}{K:EW}{mg:E3->EO EK}{base:FN}
abbrev yd (P:Fn)(w:Fv)(K:EW)(mg:E3->EO EK)(base:FN)(tv:Md)(defs:EI (E3×Df))(fuel d:EV):Prop:=
 ∀f n,tv.fns.lookup f=ba n->∃fa fd ps,FnOk P w K mg base qK d fa fd ps (spF w K n (ak defs fuel d f))/\mg f=ba (.ref fa)/\Ge K (.ref fa)=true/\Binds K fd ps []
structure MdOk (w:Fv)(K:EW)(mg:E3->EO EK)(tv:Md):Prop where
 blt:∀y∈tv.blt,mg y=gV
 cst:∀X:Cx,X.w=w->X.K=K->X.mg=mg->∀x w,tv.cst.lookup x=ba w->sQ X x w
def ye {tv:Md}{defs:EI (E3×Df)}{fuel d:EV}{x qual:E3}{st:Hv}{f:EU}{fd:Hg}{df:Df}(F:Fun K x qual st f fd)(S:FnScope df.N df.ps (aG st))(hd:defs.lookup x=ba df)(hc:BW tv st df)
  (hb:MdOk w K mg tv) (prev:yd P w K mg base tv defs fuel d):FnOk P w K mg base qK (d+1) f fd df.ps (spF w K df.ps.length (ak defs fuel (d+1) x)):=by
 show F.ok S (λvs H Q E h=>?_) (λcdv A outer s H vs Q E hr h=>?_)
 ·obtain⟨A,S,ws,w',S',_,rl,hl,_⟩:=h;rw[<- rl.length]; exact hl
 ·obtain⟨A',St,ws,w',S',so,rl,hl,e,hq⟩:=h;have K':CtxOk (ak defs fuel d) (mE qK P w K mg base df.N qual (aG st) f cdv A outer s H E).nox (tj tv st df.N):=by
   show#[rfl,S.kind,rfl,S.nd,rfl,rfl,?_,λ_ _=>rfl,hb.blt,hb.cst _ rfl rfl rfl,λg n hg=>?_]
   ·have:=hr.un;show(A.deeper _).units+20 < cLine;omega
   ·obtain⟨fa,fd',ps',h1,h2,h3,h4⟩:=prev g n hg;exact#[d,fa,fd',ps',h1,hr,h2,h3,h4]
  show#[tS _ (d0 (ak defs fuel d) fuel df.body),ei (λz=>xh fuel K' 20 z) hc,?_]
  (dsimp only[ak]at e; simp only[hd]at e)
  rw[Fi hl]at e;split at e
  ·rename_i w1 S1 h1;cases e;show#[A',dE df.N ws,St,_,_,js rl,so,h1,#[λY' H' #[_,_,z,_,_,_]=>(by cases z),λv H' #[w2,A2,z0,z1,z2,z3]=>?_,λY' H' #[_,_,z,_,_,_]=>(by cases z),λY' H' #[_,_,z,_,_,_]=>(by cases z)]]
   cases z0;exact hq v H' #[A2,z1,z2,z3]
  ·rename_i Z1 S1 h1;cases e;show#[A',dE df.N ws,St,_,_,js rl,so,h1,#[λY' H' #[w2,A2,z0,z1,z2,z3]=>?_,λY' H' #[_,_,z,_,_,_]=>(by cases z),λY' H' #[_,_,z,_,_,_]=>(by cases z),λY' H' #[_,_,z,_,_,_]=>(by cases z)]]
   exact hq _ H' #[A2,z1,z2,.non]
  ·cases e
def qv {H:Hp}{a:EU}{ns:EI E5}(hO:rz H)(hS:SqL K H a (ns.map V.int)):StoreOk w K [a] H [.fro (ns.map W.int)]/\RelL K [a] H [.ref 0] [.ref a]:=by
 have rl:∀ns:EI E5,RelL K [a] H (ns.map W.int) (ns.map V.int):=by
  intro ns
  induction ns with
  | nil=>exact .nil
  | cons n ns ih=>exact .cons .int ih
 have fr:FroL K H a (ns.map V.int):=by
  rcases hS with(h|⟨o,h⟩)|h
  ·rcases hO a with z|⟨o,xs,z⟩ <;> (rw[z]at h; cases h)
  ·exact .inl #[o,h]
  ·exact .inr h
 show#[#[rfl,λi j b o u e1 m1 e2 m2 _ _=>?_,λi o b e1 e2=>?_],.cons (.ref rfl) .nil]
 ·cases i with
  | zero=>simp at e1; subst e1; cases m1
  | succ i=>simp at e1
 ·cases i with
  | zero=>
   simp at e1 e2;subst e1 e2;exact#[_,fr,rl ns]
  | succ i=>simp at e1
def z5 {g:FF}{H:Hp}{a:EU}{ns:EI E5}(h:∃S',g [.ref 0] [.fro (ns.map W.int)]=ba (.bl true,S'))(hO:rz H)(hS:SqL K H a (ns.map V.int)):spF w K 1 g [.ref a] H (λv _=>v=.bl true) λ_ _ _=>F8:=by
 obtain⟨S',e⟩:=h;obtain⟨so,rl⟩:=qv hO hS;exact#[[a],_,_,_,S',so,rl,rfl,e,λv H' #[A',z1,z2,z3]=>by cases z3; rfl]
end
abbrev Wp {α:Type}(o:EO α)(Q:α->Prop):Prop:=∃a,o=ba a/\Q a
def ab {α:Type}{a:α}{Q:α->Prop}:Wp (ba a) Q↔Q a:=#[λ#[b,e,h]=>(by cases e; exact h),λh=>#[a,rfl,h]]
def ac {α:Type}{Q:α->Prop}:Wp (gV:EO α) Q↔F8:=#[λ#[b,e,h]=>(by cases e),λh=>h.elim]
def Wp.mono {α:Type}{o:EO α}{Q Q':α->Prop}(h:Wp o Q)(k:∀a,Q a->Q' a):Wp o Q':=let ⟨a,e,q⟩:=h; #[a,e,k a q]
def DK {α β:Type}{o:EO α}{f:α->β}{Q:β->Prop}:Wp (o.map f) Q↔Wp o λa=>Q (f a):=by cases o <;> simp[ab,ac]
section
variable{M:E3->FF}{fuel:EV}{Z:Fm}{S:aa}
noncomputable abbrev QW:=W×aa->Prop
def EB {w:W}{Q:QW}:Wp (aj M (.c w) Z S) Q↔Q (w,S):=by(dsimp only[aj]; simp[fC,ab,ac])
def Eg {i:EV}{Q:QW}:Wp (aj M (.v i) Z S) Q↔∃w,Z[i]?=ba (ba w)/\Q (w,S):=by
 (dsimp only[aj]; simp only[fV])
 rcases h:Z[i]? with _|_|w <;> simp[ab,ac]
def tm {g:W->W->aa->EO (W×aa)}{a b:FE}{Q:QW}:Wp (vX g a b Z S) Q↔Wp (a Z S) λp=>Wp (b Z p.2) λq=>Wp (g p.1 q.1 q.2) Q:=by
 unfold vX;rcases h:a Z S with _|⟨x,S1⟩
 ·simp[ab,ac]
 ·rcases h2:b Z S1 with _|⟨y,S2⟩ <;> simp[ab,ac,h2]
def DL {o:BOp}{a b:E}{Q:QW}:Wp (aj M (.op o a b) Z S) Q↔Wp (aj M a Z S) λp=>Wp (aj M b Z p.2) λq=>Wp (dQ o p.1 q.1 q.2) Q:=by dsimp only[aj]; exact tm
def yf {o:COp}{a b:E}{Q:QW}:Wp (aj M (.cmp o a b) Z S) Q↔Wp (aj M a Z S) λp=>Wp (aj M b Z p.2) λq=>Wp (cV o p.1 q.1 q.2) Q:=by dsimp only[aj]; exact tm
def DM {o a:E}{Q:QW}(h:Wp (aj M o Z S) λp=>(tyOk "tuple" p.2 p.1||tyOk "list" p.2 p.1)=true/\Wp (aj M a Z p.2) λq=>Wp (de p.1 q.1 q.2) Q):Wp (aj M (.idx o a) Z S) Q:=by
 obtain⟨⟨x,S1⟩,e1,ht,⟨y,S2⟩,e2,r,e3,q⟩:=h;show#[r,?_,q];dsimp only[aj,sR];dsimp only at ht e2 e3;simp only[e1];rw[Fi ht];simp only[e2,e3]
def DN {a b:E}{Q:QW}:Wp (aj M (.ix a b) Z S) Q↔Wp (aj M a Z S) λp=>Wp (aj M b Z p.2) λq=>Wp (mr p.1 q.1 q.2) Q:=by dsimp only[aj]; exact tm
def BX {a b:E}{Q:QW}:Wp (aj M (.and a b) Z S) Q↔Wp (aj M a Z S) λp=>∃k,p.1=.bl k/\(k=true->Wp (aj M b Z p.2) Q)/\(k=false->Q (.bl false,p.2)):=by
 (dsimp only[aj]; dsimp only[oh])
 rcases h:aj M a Z S with _|⟨x,S1⟩
 ·simp[ab,ac]
 ·cases x <;> simp[ab,ac]
  rename_i b; cases b <;> simp[ab,ac]
def DO {a b:E}{Q:QW}:Wp (aj M (.or a b) Z S) Q↔Wp (aj M a Z S) λp=>∃k,p.1=.bl k/\(k=true->Q (.bl true,p.2))/\(k=false->Wp (aj M b Z p.2) Q):=by
 (dsimp only[aj]; dsimp only[wb])
 rcases h:aj M a Z S with _|⟨x,S1⟩
 ·simp[ab,ac]
 ·cases x <;> simp[ab,ac]
  rename_i b; cases b <;> simp[ab,ac]
def BY {a:E}{Q:QW}:Wp (aj M (.not a) Z S) Q↔Wp (aj M a Z S) λp=>∃k,p.1=.bl k/\Q (.bl (!k),p.2):=by
 (dsimp only[aj]; dsimp only[ol])
 rcases h:aj M a Z S with _|⟨x,S1⟩
 ·simp[ab,ac]
 ·cases x <;> simp[ab,ac]
  rename_i k; cases k <;> simp
def BZ {t a b:E}{Q:QW}:Wp (aj M (.ite t a b) Z S) Q↔Wp (bJ M t Z S) λp=>(p.1=true->Wp (aj M a Z p.2) Q)/\(p.1=false->Wp (aj M b Z p.2) Q):=by
 (dsimp only[aj]; simp only[wc])
 rcases h:bJ M t Z S with _|⟨x,S1⟩
 ·simp[ab,ac]
 ·cases x <;> simp[ab,ac]
def yg {f:E3}{n:EV}{es:Es}{Q:QW}:Wp (aj M (.own f n es) Z S) Q↔Wp (bR M es Z S) λp=>p.1.length=n/\Wp (M f p.1 p.2) Q:=by
 (dsimp only[aj]; dsimp only[lF])
 rcases h:bR M es Z S with _|⟨x,S1⟩
 ·simp[ab,ac]
 ·by_cases hl:x.length=n <;> simp[ab,ac,hl]
def B0 {b:Bi}{es:Es}{Q:QW}:Wp (aj M (.bi b es) Z S) Q↔Wp (bR M es Z S) λp=>Wp (b.fn p.1 p.2) Q:=by
 (dsimp only[aj]; dsimp only[gq])
 rcases h:bR M es Z S with _|⟨x,S1⟩ <;> simp[ab,ac]
def DP {m:Me}{o:E}{es:Es}{Q:QW}:Wp (aj M (.me m o es) Z S) Q↔Wp (aj M o Z S) λp=>tyOk m.ty p.2 p.1=true/\Wp (bR M es Z p.2) λq=>Wp (m.fn p.1 q.1 q.2) Q:=by
 (dsimp only[aj]; dsimp only[xX])
 rcases h:aj M o Z S with _|⟨x,S1⟩
 ·simp[ab,ac]
 ·by_cases ht:tyOk m.ty S1 x=true
  ·rcases h2:bR M es Z S1 with _|⟨y,S2⟩ <;> simp[ab,ac,ht,h2]
  ·simp[ab,ac,ht]
def DQ {a:E}{lo hi:Ep}{Q:QW}:Wp (aj M (.sl a lo hi) Z S) Q↔Wp (aj M a Z S) λp=>Wp (oz M lo Z p.2) λq=>Wp (oz M hi Z q.2) λr=>Wp (la p.1 q.1 r.1 r.2) Q:=by
 (dsimp only[aj]; dsimp only[BE])
 rcases h:aj M a Z S with _|⟨x,S1⟩
 ·simp[ab,ac]
 ·rcases h2:oz M lo Z S1 with _|⟨y,S2⟩
  ·simp[ab,ac,h2]
  ·rcases h3:oz M hi Z S2 with _|⟨z,S3⟩ <;> simp[ab,ac,h2,h3]
def DR {Q:EO E5×aa->Prop}:Wp (oz M .no Z S) Q↔Q (gV,S):=by(dsimp only[oz]; simp[zI,ab,ac])
def B1 {a:E}{Q:EO E5×aa->Prop}:Wp (oz M (.yes a) Z S) Q↔Wp (aj M a Z S) λp=>∃i,p.1=.int i/\Q (ba i,p.2):=by
 (dsimp only[oz]; simp only[oo])
 rcases h:aj M a Z S with _|⟨x,S1⟩
 ·simp[ab,ac]
 ·cases x <;> simp[ab,ac]
def B2 {es:Es}{Q:QW}:Wp (aj M (.tup es) Z S) Q↔Wp (bR M es Z S) λp=>p.1.length<=sizeLine/\Q (.tup p.1,p.2):=by
 (dsimp only[aj]; (dsimp only[sn]; simp only[mK]))
 rcases h:bR M es Z S with _|⟨x,S1⟩
 ·simp[ab,ac]
 ·by_cases hl:x.length<=sizeLine <;> simp[ab,ac,hl]
def B3 {es:Es}{Q:QW}:Wp (aj M (.lst es) Z S) Q↔Wp (bR M es Z S) λp=>p.1.length<=sizeLine/\Q (.ref p.2.length,p.2++[.lst p.1]):=by
 (dsimp only[aj]; (dsimp only[sr]; simp only[gZ]))
 rcases h:bR M es Z S with _|⟨x,S1⟩
 ·simp[ab,ac]
 ·by_cases hl:x.length<=sizeLine <;> simp[ab,ac,hl]
def yh {c:Gc}{a:E}{Q:QW}:Wp (aj M (.isi c a) Z S) Q↔Wp (aj M a Z S) λp=>∃k,qM p.2 p.1 c=ba k/\Q (.bl k,p.2):=by
 (dsimp only[aj]; simp only[sD])
 rcases h:aj M a Z S with _|⟨x,S1⟩
 ·simp[ab,ac]
 ·cases h2:qM S1 x c <;> simp[ab,ac,h2]
  rename_i k; cases k <;> simp
def B4 {a:E}{Q:QW}:Wp (aj M (.neg a) Z S) Q↔Wp (aj M a Z S) λp=>∃i,p.1=.int i/\Q (.int (-i),p.2):=by
 (dsimp only[aj]; simp only[se])
 rcases h:aj M a Z S with _|⟨x,S1⟩
 ·simp[ab,ac]
 ·cases x <;> simp[ab,ac]
def z6 {es:Es}{Q:QW}:Wp (aj M (.disp es) Z S) Q↔Wp (bR M es Z (S++[.dic []])) λp=>p.2[S.length]?=ba (.dic [])/\∃U,cm [] p.1=ba U/\Q (.ref S.length,p.2.set S.length (.dic U)):=by
 have e:aj M (.disp es) Z S=lJ (bR M es) Z S:=by dsimp only[aj]
 rw[e];unfold lJ;cases bR M es Z (S++[.dic []])with
 | none=>simp[ac]
 | some p=>
  obtain⟨x,S1⟩:=p;simp only[ab];cases h2:S1[S.length]? with
  | none=>simp[ac]
  | some o=>
   cases o with
   | lst _=>simp[ac]
   | fro _=>simp[ac]
   | frd _=>simp[ac]
   | sts _=>simp[ac]
   | rng _ _=>simp[ac]
   | dic U=>
    cases U with
    | nil=>cases h3:cm [] x <;> simp[ab,ac]
    | cons a b=>simp[ac]
def yi {o o':COp}{a b d:E}{Q:QW}(h:Wp (aj M a Z S) λp=>Wp (aj M b Z p.2) λq=>∃k,vN o p.1 q.1 q.2=ba k/\(k=true->Wp (aj M d Z q.2) λr=>Wp (dq o' q.1 r.1 r.2) Q)/\(k=false->Q (.bl false,q.2))):Wp (aj M (.chn o o' a b d) Z S) Q:=by
 obtain⟨⟨x,S1⟩,e1,⟨y,S2⟩,e2,k,e3,h1,h2⟩:=h;have e:aj M (.chn o o' a b d) Z S=dX o o' (aj M a) (aj M b) (aj M d) Z S:=by dsimp only[aj]
 rw[e];unfold dX;rw[e1];dsimp only;rw[e2];dsimp only;rw[e3];cases k with
 | false=>exact#[_,rfl,h2 rfl]
 | true=>
  obtain⟨⟨z,S3⟩,e4,⟨r,e5,q⟩⟩:=h1 rfl;dsimp only;rw[e4];exact#[_,e5,q]
def B5 {Q:EI W×aa->Prop}:Wp (bR M .nil Z S) Q↔Q ([],S):=by(dsimp only[bR]; (dsimp only[eN]; simp[ab,ac]))
def z7 {e:E}{es:Es}{Q:EI W×aa->Prop}:Wp (bR M (.cons e es) Z S) Q↔Wp (aj M e Z S) λp=>Wp (bR M es Z p.2) λq=>Q (p.1::q.1,q.2):=by
 (dsimp only[bR]; dsimp only[b9])
 rcases h:aj M e Z S with _|⟨x,S1⟩
 ·simp[ab,ac]
 ·rcases h2:bR M es Z S1 with _|⟨y,S2⟩ <;> simp[ab,ac,h2]
noncomputable abbrev QB:=Fk×aa->Prop
def yj {f:FE}{Q:QB}:Wp (lD f Z S) Q↔Wp (f Z S) λp=>∃k,p.1=.bl k/\Q (k,p.2):=by
 unfold lD;rcases h:f Z S with _|⟨x,S1⟩
 ·simp[ab,ac]
 ·cases x <;> simp[ab,ac]
  rename_i k; cases k <;> simp
def oJ {f:FE}{Q:QB}:Wp (dY f Z S) Q↔Wp (f Z S) λp=>∃k,dB p.2 p.1=ba k/\Q (k,p.2):=by
 unfold dY;rcases h:f Z S with _|⟨x,S1⟩
 ·simp[ab,ac]
 ·cases h2:dB S1 x <;> simp[ab,ac,h2]
  rename_i k; cases k <;> simp
def B6 {o:COp}{a b:E}{Q:QB}:Wp (bJ M (.cmp o a b) Z S) Q↔Wp (aj M (.cmp o a b) Z S) λp=>∃k,p.1=.bl k/\Q (k,p.2):=by dsimp only[bJ,aj]; exact yj
def B7 {o o':COp}{a b d:E}{Q:QB}:Wp (bJ M (.chn o o' a b d) Z S) Q↔Wp (aj M (.chn o o' a b d) Z S) λp=>∃k,p.1=.bl k/\Q (k,p.2):=by dsimp only[bJ,aj]; exact yj
def B8 {a b:E}{Q:QB}:Wp (bJ M (.and a b) Z S) Q↔Wp (bJ M a Z S) λp=>(p.1=true->Wp (bJ M b Z p.2) Q)/\(p.1=false->Q (false,p.2)):=by
 (dsimp only[bJ]; simp only[si])
 rcases h:bJ M a Z S with _|⟨x,S1⟩
 ·simp[ab,ac]
 ·cases x <;> simp[ab,ac]
def DS {a b:E}{Q:QB}:Wp (bJ M (.or a b) Z S) Q↔Wp (bJ M a Z S) λp=>(p.1=true->Q (true,p.2))/\(p.1=false->Wp (bJ M b Z p.2) Q):=by
 (dsimp only[bJ]; simp only[BA])
 rcases h:bJ M a Z S with _|⟨x,S1⟩
 ·simp[ab,ac]
 ·cases x <;> simp[ab,ac]
def B9 {a:E}{Q:QB}:Wp (bJ M (.not a) Z S) Q↔Wp (bJ M a Z S) λp=>Q (!p.1,p.2):=by
 (dsimp only[bJ]; simp only[vZ])
 rcases h:bJ M a Z S with _|⟨x,S1⟩ <;> simp[ab,ac]
def EC {i:EV}{Q:QB}:Wp (bJ M (.v i) Z S) Q↔Wp (aj M (.v i) Z S) λp=>∃k,dB p.2 p.1=ba k/\Q (k,p.2):=by dsimp only[bJ,aj]; exact oJ
def Cc {f:E3}{n:EV}{es:Es}{Q:QB}:Wp (bJ M (.own f n es) Z S) Q↔Wp (aj M (.own f n es) Z S) λp=>∃k,dB p.2 p.1=ba k/\Q (k,p.2):=by dsimp only[bJ,aj]; exact oJ
def DT {b:Bi}{es:Es}{Q:QB}:Wp (bJ M (.bi b es) Z S) Q↔Wp (aj M (.bi b es) Z S) λp=>∃k,dB p.2 p.1=ba k/\Q (k,p.2):=by dsimp only[bJ,aj]; exact oJ
def Cd {c:Gc}{a:E}{Q:QB}:Wp (bJ M (.isi c a) Z S) Q↔Wp (aj M (.isi c a) Z S) λp=>∃k,dB p.2 p.1=ba k/\Q (k,p.2):=by dsimp only[bJ,aj]; exact oJ
noncomputable abbrev QO:=Out×aa->Prop
def Ce {Q:QO}:Wp (d0 M fuel .nil Z S) Q↔Q (.nx Z,S):=by(dsimp only[d0]; simp[ab,ac])
def z8 {s:Sm}{ss:Ss}{Q:QO}:Wp (d0 M fuel (.cons s ss) Z S) Q↔Wp (ef M fuel s Z S) λp=>(∀Z',p.1=.nx Z'->Wp (d0 M fuel ss Z' p.2) Q)/\((∀Z',p.1≠.nx Z')->Q p):=by
 (dsimp only[d0]; simp only[wl])
 rcases h:ef M fuel s Z S with _|⟨o,S1⟩
 ·simp[ab,ac]
 ·cases o <;> simp[ab,ac]
def tq {f:FE}{g:FG}{Q:QO}:Wp (im f g Z S) Q↔Wp (f Z S) λp=>Wp (g p.1 Z p.2) λq=>Q (.nx q.1,q.2):=by
 unfold im;rcases h:f Z S with _|⟨x,S1⟩
 ·simp[ab,ac]
 ·rcases h2:g x Z S1 with _|⟨y,S2⟩ <;> simp[ab,ac,h2]
def z9 {i:EV}{e:E}{Q:QO}:Wp (ef M fuel (.set i e) Z S) Q↔Wp (aj M e Z S) λp=>Q (.nx (Z.set i (ba p.1)),p.2):=by
 dsimp only[ef]; rw[tq]; simp[xY,ab,ac]
def Aa {is:EI EV}{e:E}{Q:QO}:Wp (ef M fuel (.asg is e) Z S) Q↔Wp (aj M e Z S) λp=>∃ws Z',p.1=.tup ws/\ci is ws Z=ba Z'/\Q (.nx Z',p.2):=by
 dsimp only[ef]; rw[tq]
 constructor
 ·show λh=>h.mono λp hp=>?_
  obtain⟨w,S1⟩:=p;obtain⟨q,h1,h2⟩:=hp;cases w with
  | tup ws=>
   simp only[AK,EQ]at h1;obtain⟨Z',h3,rfl⟩:=h1;exact#[ws,Z',rfl,h3,h2]
  | _=>cases h1
 ·show λh=>h.mono λp hp=>?_
  obtain⟨w,S1⟩:=p;obtain⟨ws,Z',h0,h1,h2⟩:=hp;subst h0;exact#[(Z',S1),by simp[AK,h1],h2]
def Ab {i j:EV}{es:Es}{Q:QO}:Wp (ef M fuel (.par i j es) Z S) Q↔Wp (bR M es Z S) λp=>∃x y,p.1=[x,y]/\Q (.nx ((Z.set i (ba x)).set j (ba y)),p.2):=by
 (dsimp only[ef]; dsimp only[ww])
 rcases h:bR M es Z S with _|⟨x,S1⟩
 ·simp[ac]
 ·match x with
  | []=>simp[ab,ac]
  | [_]=>simp[ab,ac]
  | [a,b]=>
   simp only[ab];exact#[λh=>#[a,b,rfl,h],λ#[x,y,e,h]=>by cases e; exact h]
  | _::_::_::_=>simp[ab,ac]
def Ac {o k e:E}{Q:QO}:Wp (ef M fuel (.put o k e) Z S) Q↔Wp (aj M e Z S) λp=>Wp (aj M o Z p.2) λq=>Wp (aj M k Z q.2) λr=>∃S',fj q.1 r.1 p.1 r.2=ba S'/\Q (.nx Z,S'):=by
 dsimp only[ef]; rw[tq]
 rcases h:aj M e Z S with _|⟨x,S1⟩
 ·simp[ab,ac]
 ·simp only[ab];unfold wu;rcases h2:aj M o Z S1 with _|⟨y,S2⟩
  ·simp[ab,ac]
  ·rcases h3:aj M k Z S2 with _|⟨z,S3⟩
   ·simp[ab,ac,h3]
   ·cases h4:fj y z x S3 <;> simp[ab,ac,h3,h4]
def Cf {e:E}{Q:QO}:Wp (ef M fuel (.ex e) Z S) Q↔Wp (aj M e Z S) λp=>Q (.nx Z,p.2):=by
 (dsimp only[ef]; simp only[wm])
 rcases h:aj M e Z S with _|⟨x,S1⟩ <;> simp[ab,ac]
def Ad {e:E}{Q:QO}:Wp (ef M fuel (.ret e) Z S) Q↔Wp (aj M e Z S) λp=>Q (.rt p.1,p.2):=by
 (dsimp only[ef]; simp only[wp])
 rcases h:aj M e Z S with _|⟨x,S1⟩ <;> simp[ab,ac]
def Ae {t:E}{a b:Ss}{Q:QO}:Wp (ef M fuel (.ite t a b) Z S) Q↔Wp (bJ M t Z S) λp=>(p.1=true->Wp (d0 M fuel a Z p.2) Q)/\(p.1=false->Wp (d0 M fuel b Z p.2) Q):=by
 (dsimp only[ef]; simp only[wt])
 rcases h:bJ M t Z S with _|⟨x,S1⟩
 ·simp[ab,ac]
 ·cases x <;> simp[ab,ac]
abbrev tt (I:Fm->aa->Prop)(Q:QO)(o:Out×aa):Prop:=match o.1 with
 | .nx Z'=>I Z' o.2
 | .ct Z'=>I Z' o.2
 | .bk Z'=>Q (.nx Z',o.2)
 | .rt w=>Q (.rt w,o.2)
def fZ {mi:MI}{g:FG}{b:FS}{xs:EI W}{Q:QO}(I:EV->Fm->aa->Prop)(hat:∀i Z S,I i Z S->mi.at S i=ba xs[i]?)
  (hstep:∀i w Z S,xs[i]?=ba w->I i Z S->Wp (g w Z S) λq=>Wp (b q.1 q.2) (tt (I (i+1)) Q)) (hend:∀Z S,I xs.length Z S->Q (.nx Z,S)):∀(n i:EV) (Z:Fm) (S:aa),i+n=xs.length->I i Z S->Wp (dZ mi g b n i Z S) Q
 | 0,i,Z,S,hl,hI=>by
  have e:mi.at S i=ba gV:=by rw[hat i Z S hI,J9 ∅]
  simp only[dZ,e];have hi:i=xs.length:=∅
  exact ab.mpr (hend Z S (hi ▸ hI))
 | n+1,i,Z,S,hl,hI=>by
  have hi:i < xs.length:=∅
  have e:mi.at S i=ba (ba xs[i]):=by rw[hat i Z S hI,EZ hi]
  obtain⟨⟨Z1,S1⟩,h1,⟨o,S2⟩,h2,h3⟩:=hstep i xs[i] Z S (EZ hi) hI;simp only[dZ,e,h1,h2];cases o with
  | nx Z2=>exact fZ I hat hstep hend n (i+1) Z2 S2 ∅ h3
  | ct Z2=>exact fZ I hat hstep hend n (i+1) Z2 S2 ∅ h3
  | bk Z2=>exact ab.mpr h3
  | rt w=>exact ab.mpr h3
def Cg {fi:FI}{g:FG}{b:FS}{Q:QO}:Wp (sB fi g b Z S) Q↔Wp (fi Z S) λp=>∃n,p.1.len p.2=ba n/\Wp (dZ p.1 g b n 0 Z p.2) Q:=by
 unfold sB;rcases h:fi Z S with _|⟨mi,S1⟩
 ·simp[ac]
 ·cases h2:mi.len S1 <;> simp[ab,ac,h2]
def cq {mi:MI}{g:FG}{c:FT}{f:FE}{xs:EI W}{Q:EI W×aa->Prop}(I:EV->EI W->Fm->aa->Prop)(hat:∀i ys Z S,I i ys Z S->mi.at S i=ba xs[i]?)
  (hstep:∀i w ys Z S,xs[i]?=ba w->I i ys Z S->Wp (g w Z S) λq=>Wp (c q.1 q.2) λk=>(k.1=true->Wp (f q.1 k.2) λy=>I (i+1) (ys++[y.1]) q.1 y.2)/\(k.1=false->I (i+1) ys q.1 k.2))
  (hend:∀ys Z S,I xs.length ys Z S->Q (ys,S)):∀(n i:EV) (ys:EI W) (Z:Fm) (S:aa),i+n=xs.length->I i ys Z S->Wp (aS mi g c f n i Z S) λp=>Q (ys++p.1,p.2)
 | 0,i,ys,Z,S,hl,hI=>by
  have e:mi.at S i=ba gV:=by rw[hat i ys Z S hI,J9 ∅]
  simp only[aS,e];show ab.mpr ?_;have:i=xs.length:=∅
  simpa using hend ys Z S (this ▸ hI)
 | n+1,i,ys,Z,S,hl,hI=>by
  have hi:i < xs.length:=∅
  have e:mi.at S i=ba (ba xs[i]):=by rw[hat i ys Z S hI,EZ hi]
  obtain⟨⟨Z1,S1⟩,h1,⟨k,S2⟩,h2,h3,h4⟩:=hstep i xs[i] ys Z S (EZ hi) hI;simp only[aS,e,h1,h2];cases k with
  | true=>
   obtain⟨⟨y,S3⟩,h5,h6⟩:=h3 rfl;simp only[h5];obtain⟨⟨zs,S4⟩,h7,h8⟩:=cq I hat hstep hend n (i+1) (ys++[y]) Z1 S3 ∅ h6
   simp only[h7];exact ab.mpr (by simpa using h8)
  | false=>exact cq I hat hstep hend n (i+1) ys Z1 S2 ∅ (h4 rfl)
def tu {elt:E}{tg:Tg}{it:Ie}{cs:Es}{cap:EI (EO EV)}{Q:QW}:Wp (aj M (.comp elt tg it cs cap) Z S) Q↔Wp (gx M it Z S) λp=>∃n,p.1.len p.2=ba n/\Wp (aS p.1 (gI tg) (w6 M cs) (aj M elt) n 0 (cN cap Z) p.2) λq=>q.1.length<=sizeLine/\Q (.ref q.2.length,q.2++[.lst q.1]):=by
 (dsimp only[aj]; simp only[io,gZ])
 rcases h:gx M it Z S with _|⟨mi,S1⟩
 ·simp[ac]
 ·rcases h2:mi.len S1 with _|n
  ·simp[ab,ac,h2]
  ·rcases h3:aS mi (gI tg) (w6 M cs) (aj M elt) n 0 (cN cap Z) S1 with _|⟨ys,S2⟩
   ·simp[ab,ac,h2,h3]
   ·by_cases hl:ys.length<=sizeLine <;> simp[ab,ac,h2,h3,hl]
def Ch {Q:QB}:Wp (w6 M .nil Z S) Q↔Q (true,S):=by(dsimp only[w6]; simp[ya,ab])
def Ci {e:E}{Q:QB}:Wp (w6 M #v[e] Z S) Q↔Wp (bJ M e Z S) Q:=by dsimp only[w6]; exact Iff.rfl
def iC {c:FT}{b:FS}{Q:QO}(I:EV->Fm->aa->Prop)(hstep:∀m Z S,I m Z S->Wp (c Z S) λk=>(k.1=true->∃m',m=m'+1/\Wp (b Z k.2) (tt (I m') Q))/\(k.1=false->Q (.nx Z,k.2))) :
  ∀(n m:EV) (Z:Fm) (S:aa),m < n->I m Z S->Wp (ki c b n Z S) Q
 | 0,m,Z,S,h,_=>∅
 | n+1,m,Z,S,h,hI=>by
  obtain⟨⟨k,S1⟩,h1,h2,h3⟩:=hstep m Z S hI;simp only[ki,h1];cases k with
  | false=>exact ab.mpr (h3 rfl)
  | true=>
   obtain⟨m',rfl,⟨o,S2⟩,h5,h6⟩:=h2 rfl;simp only[h5];cases o with
   | nx Z2=>exact iC I hstep n m' Z2 S2 ∅ h6
   | ct Z2=>exact iC I hstep n m' Z2 S2 ∅ h6
   | bk Z2=>exact ab.mpr h6
   | rt w=>exact ab.mpr h6
def qw {defs:EI (E3×Df)}{d:EV}{f:E3}{ws:EI W}{df:Df}{Q:QW}(h:defs.lookup f=ba df)(hl:ws.length=df.ps.length)
  (hb:Wp (d0 (ak defs fuel d) fuel df.body (dE df.N ws) S) λp=>match p.1 with|.rt w=>Q (w,p.2)|.nx _=>Q (.non,p.2)|_=>F8):Wp (ak defs fuel (d+1) f ws S) Q:=by
 obtain⟨⟨o,S1⟩,h1,h2⟩:=hb;simp only[ak,h,Fi hl,h1];cases o with
 | rt w=>exact ab.mpr h2
 | nx Z=>exact ab.mpr h2
 | bk _=>exact h2.elim
 | ct _=>exact h2.elim
end
section
variable{S:aa}{Q:QW}
def bG {a b:E5}:dQ .add (.int a) (.int b) S=ba (.int (a+b),S):=rfl
def tz {a b:E5}:dQ .sub (.int a) (.int b) S=ba (.int (a - b),S):=rfl
def kC {c:E5->E5->Fk}{f:E5->E5->E5}{i j:E5}(h:c i j=true):uQ c f (.int i) (.int j) S=ba (.int (f i j),S):=by
 unfold uQ;dsimp only;rw[Fi h]
def oK {a b:E5}(h : -(2 ^ 64) < b)(h2:b < 2 ^ 64):dQ .mul (.int a) (.int b) S=ba (.int (a*b),S):=kC (c:=pN) (f:=(· * ·)) (by
 unfold pN;simp only[GQ,ES,Ft];exact .inr #[h,h2])
def iD {a b:E5}(h:0 < b):dQ .mod (.int a) (.int b) S=ba (.int (a % b),S):=kC (c:=λ_ j=>decide (0 < j)) (f:=(· % ·)) (Gf h)
def iE {a b:E5}(h:0 < b)(h2:b < 1073741824):dQ .fdiv (.int a) (.int b) S=ba (.int (a / b),S):=kC (c:=λ_ j=>vB j) (f:=(· / ·)) (by
 unfold vB;simp only[ES,Ft];exact#[h,h2])
def Ag:dQ .pow (.int 10) (.int 18) S=ba (.int 1000000000000000000,S):=rfl
def Ah {x y:E3}(h:x.length+y.length<=sizeLine):dQ .add (.str x) (.str y) S=ba (.str (x++y),S):=by simp only[dQ,pO]; rw[Fi h]
def tB {xs ys:EI W}(h:(xs++ys).length<=sizeLine):dQ .add (.tup xs) (.tup ys) S=ba (.tup (xs++ys),S):=by simp only[dQ,pO,mK]; rw[Fi h]
def nu {i j:EV}{xs ys:EI W}(h1:S[i]?=ba (.lst xs))(h2:S[j]?=ba (.lst ys))(h:(xs++ys).length<=sizeLine):dQ .add (.ref i) (.ref j) S=ba (.ref S.length,S++[.lst (xs++ys)]):=by
 simp only[dQ,pO,kL,h1,h2,gZ]; rw[Fi h]
def dN {a b:E5}:cV .eq (.int a) (.int b) S=ba (.bl (a==b),S):=rfl
def Cj {a b:E5}:cV .ne (.int a) (.int b) S=ba (.bl (!(a==b)),S):=rfl
def Ck {a b:E5}:cV .lt (.int a) (.int b) S=ba (.bl (decide (a < b)),S):=rfl
def DU {a b:E5}:cV .gt (.int a) (.int b) S=ba (.bl (decide (a > b)),S):=rfl
def DV {a b:E5}:cV .ge (.int a) (.int b) S=ba (.bl (decide (a>=b)),S):=rfl
def tD {a b:E3}:cV .eq (.str a) (.str b) S=ba (.bl (a==b),S):=rfl
def Cm {a b:E3}:cV .ne (.str a) (.str b) S=ba (.bl (!(a==b)),S):=rfl
def ap {r:EV}{xs:EI W}(h:S[r]?=ba (.lst xs)):dL S r=ba xs:=by simp[dL,h]
def xi {r:EV}{xs:EI W}(h:S[r]?=ba (.fro xs)):dL S r=ba xs:=by simp[dL,h]
def fA {r:EV}{xs:EI W}(h:S[r]?=ba (.lst xs)):kL S r=ba xs:=by simp[kL,h]
def kD {r:EV}{xs:EI W}(h:S[r]?=ba (.lst xs)):gH S r=gV:=by simp[gH,h]
def bX {r:EV}{U:EI (T×W)}(h:S[r]?=ba (.dic U)):gH S r=ba U:=by simp[gH,h]
def kE {r:EV}{U:EI (T×W)}(h:S[r]?=ba (.dic U)):dL S r=gV:=by simp[dL,h]
def xj {r:EV}{U:EI (T×W)}(h:S[r]?=ba (.frd U)):gH S r=ba U:=by simp[gH,h]
def atI_nat {α:Type}{xs:EI α}{j:EV}{w:α}(h:xs[j]?=ba w):mq xs (j:E5)=ba w:=by
 have hl:=(E9.mp h).1;unfold mq qJ;rw[Fi (FB j),Fi (by exact_mod_cast hl)]
 simpa using h
def kF {α:Type}{xs:EI α}{i:E5}{w:α}(h0:0<=i)(h:xs[i.toNat]?=ba w):mq xs i=ba w:=by
 have:=atI_nat h
 rwa [Ih h0]at this
def tF {r:EV}{xs:EI W}{i:E5}{w:W}(h:S[r]?=ba (.lst xs))(h0:0<=i)(hw:xs[i.toNat]?=ba w):mr (.ref r) (.int i) S=ba (w,S):=by
 change qL (.ref r) (.int i) S=_;simp[qL,ap h,kF h0 hw]
def Cn {xs:EI W}{i:E5}{w:W}(h0:0<=i)(hw:xs[i.toNat]?=ba w):mr (.tup xs) (.int i) S=ba (w,S):=by
 change qL (.tup xs) (.int i) S=_;simp[qL,kF h0 hw]
def yk {x:E3}{i:E5}{c:EV}(hz:x.length<=sizeLine)(h0:0<=i)(hw:x.cps.toList[i.toNat]?=ba c):mr (.str x) (.int i) S=ba (.str #[[c].toArray],S):=by
 change qL (.str x) (.int i) S=_;simp[qL,hz,kF h0 hw]
def ym {r:EV}{xs:EI W}{i:E5}{w:W}(h:S[r]?=ba (.lst xs))(h0:0<=i)(hi:i.toNat < xs.length):fj (.ref r) (.int i) w S=ba (S.set r (.lst (xs.set i.toNat w))):=by
 change pQ (.ref r) (.int i) w S=_;have:qJ xs.length i=ba i.toNat:=by
  unfold qJ;rw[Fi h0,Fi ∅]
 simp[pQ,fA h,this]
def yn {r:EV}{xs:EI W}(h:S[r]?=ba (.lst xs)):Bi.len.fn [.ref r] S=ba (.int xs.length,S):=by
 (dsimp only[Bi.fn,wY,p9,mN]; simp[kD h,ap h])
def tH {r:EV}{xs:EI W}{y:W}(h:S[r]?=ba (.lst xs))(hl:xs.length < sizeLine):eY (.ref r) [y] S=ba (.non,S.set r (.lst (xs++[y]))):=by
 simp[eY,fA h,hl]
def Co {r:EV}{xs:EI W}(h:S[r]?=ba (.lst xs)):ii [.ref r] S=ba (.tup xs,S):=by
 (dsimp only[ii,hG]; simp[vQ,h,ap h])
def d4 {r:EV}{xs:EI W}(h:S[r]?=ba (.lst xs)):tyOk "list" S (.ref r)=true:=by simp[tyOk,ap h]
def bC {r:EV}{o o':O}(h:S[r]?=ba o):(S.set r o')[r]?=ba o':=by
 rw[GL,Fi rfl,Fi (E9.mp h).1]
def bw {r j:EV}{o':O}(h:r≠j):(S.set r o')[j]?=S[j]?:=by rw[GL,FJ h]
def ag {o:O}:(S++[o])[S.length]?=ba o:=by simp
def aq {j:EV}{o u:O}(h:S[j]?=ba o):(S++[u])[j]?=ba o:=by rw[Fz (E9.mp h).1]; exact h
def du {j:EV}{o:O}(h:S[j]?=ba o):j < S.length:=(E9.mp h).1
structure Kp (r:EV)(S S':aa):Prop where
 get:∀j o,j≠r->S[j]?=ba o->S'[j]?=ba o
 len:S.length<=S'.length
def Kp.refl {r:EV}{S:aa}:Kp r S S:=#[λ_ _ _ h=>h,E2 _]
def Kp.trans {r:EV}{S S' S'':aa}(a:Kp r S S')(b:Kp r S' S''):Kp r S S'':=#[λj o n h=>b.get j o n (a.get j o n h),F2 a.len b.len]
def Kp.set {r:EV}{S:aa}{o:O}:Kp r S (S.set r o):=#[λj u n h=>by rw[bw (Ne.symm n)]; exact h,by simp]
def Kp.push {r:EV}{S:aa}{o:O}:Kp r S (S++[o]):=#[λj u n h=>aq h,by simp]
def Kp.late {r t:EV}{S0 S:aa}{o:O}(a:Kp r S0 S)(h:S0.length<=t):Kp r S0 (S.set t o):=
 #[λj u n e=>by
  have:=du e;rw[bw ∅]; exact a.get j u n e,by simpa using a.len]
end
abbrev wO {α:Type}(o:EO α)(Q:α->Prop):Prop:=match o with
 | some a=>Q a
 | none=>F8
def aU {α:Type}{o:EO α}{Q:α->Prop}(h:wO o Q):Wp o Q:=by
 cases o with
 | none=>exact h.elim
 | some a=>exact#[a,rfl,h]
def Cp {α:Type}{o:EO α}{Q:α->Prop}(h:Wp o Q):wO o Q:=by
 obtain⟨a,rfl,q⟩:=h;exact q
def ae {α:Type}{o:EO α}{a:α}{Q:α->Prop}(e:o=ba a)(h:Q a):wO o Q:=by subst e; exact h
abbrev wB:W->(Fk->Prop)->Prop
 | .bl k,Q=>Q k
 | _,_=>F8
abbrev wN:W->(E5->Prop)->Prop
 | .int k,Q=>Q k
 | _,_=>F8
abbrev wU:W->(EI W->Prop)->Prop
 | .tup k,Q=>Q k
 | _,_=>F8
def lR {w:W}{Q:Fk->Prop}(h:wB w Q):∃k,w=.bl k/\Q k:=by cases w <;> first|exact h.elim|exact#[_,rfl,h]
def yo {w:W}{Q:E5->Prop}(h:wN w Q):∃k,w=.int k/\Q k:=by cases w <;> first|exact h.elim|exact#[_,rfl,h]
def Cq {w:W}{Q:EI W->Prop}(h:wU w Q):∃k,w=.tup k/\Q k:=by cases w <;> first|exact h.elim|exact#[_,rfl,h]
abbrev w2:EI W->(W->W->Prop)->Prop
 | [x,y],Q=>Q x y
 | _,_=>F8
def Cr {xs:EI W}{Q:W->W->Prop}(h:w2 xs Q):∃x y,xs=[x,y]/\Q x y:=by
 match xs,h with
 | [x,y],h=>exact#[x,y,rfl,h]
abbrev wG:EO W->(W->Prop)->Prop
 | some w,Q=>Q w
 | none,_=>F8
abbrev wV:Fm->EV->(W->Prop)->Prop
 | [],_,_=>F8
 | o::_,0,Q=>wG o Q
 | _::Z,n+1,Q=>wV Z n Q
def tJ {Q:W->Prop}:∀ {Z:Fm} {i:EV},wV Z i Q->∃w,Z[i]?=ba (ba w)/\Q w
 | [],i,h=>h.elim
 | some w::Z,0,h=>#[w,rfl,h]
 | none::Z,0,h=>h.elim
 | x::Z,n+1,h=>by
  obtain⟨w,e2,q⟩:=tJ (Z:=Z) (i:=n) h;exact#[w,e2,q]
abbrev aQ (M:E3->FF)(f:E3)(n:EV)(ws:EI W)(S:aa):EO (W×aa):=if ws.length=n then M f ws S else gV
section
variable (M:E3->FF) (fuel:EV)
mutual
def wE:E->Fm->aa->QW->Prop
 | .c w,_,S,Q=>Q (w,S)
 | .v i,Z,S,Q=>wV Z i λw=>Q (w,S)
 | .op o a b,Z,S,Q=>wE a Z S λp=>wE b Z p.2 λq=>wO (dQ o p.1 q.1 q.2) Q
 | .cmp o a b,Z,S,Q=>wE a Z S λp=>wE b Z p.2 λq=>wO (cV o p.1 q.1 q.2) Q
 | .and a b,Z,S,Q=>wE a Z S λp=>wB p.1 λk=>(k=true->wE b Z p.2 Q)/\(k=false->Q (.bl false,p.2))
 | .or a b,Z,S,Q=>wE a Z S λp=>wB p.1 λk=>(k=true->Q (.bl true,p.2))/\(k=false->wE b Z p.2 Q)
 | .not a,Z,S,Q=>wE a Z S λp=>wB p.1 λk=>Q (.bl (!k),p.2)
 | .own f n es,Z,S,Q=>wA es Z S λp=>wO (aQ M f n p.1 p.2) Q
 | .bi b es,Z,S,Q=>wA es Z S λp=>wO (b.fn p.1 p.2) Q
 | .me m o es,Z,S,Q=>wE o Z S λp=>tyOk m.ty p.2 p.1=true/\wA es Z p.2 λq=>wO (m.fn p.1 q.1 q.2) Q
 | .ix a b,Z,S,Q=>wE a Z S λp=>wE b Z p.2 λq=>wO (mr p.1 q.1 q.2) Q
 | .idx o a,Z,S,Q=>wE o Z S λp=>(tyOk "tuple" p.2 p.1||tyOk "list" p.2 p.1)=true/\wE a Z p.2 λq=>wO (de p.1 q.1 q.2) Q
 | .sl a lo hi,Z,S,Q=>wE a Z S λp=>wP lo Z p.2 λq=>wP hi Z q.2 λr=>wO (la p.1 q.1 r.1 r.2) Q
 | .tup es,Z,S,Q=>wA es Z S λp=>Q (.tup p.1,p.2)
 | .lst es,Z,S,Q=>wA es Z S λp=>Q (.ref p.2.length,p.2++[.lst p.1])
 | .isi c a,Z,S,Q=>wE a Z S λp=>wO (qM p.2 p.1 c) λk=>Q (.bl k,p.2)
 | .neg a,Z,S,Q=>wE a Z S λp=>wN p.1 λi=>Q (.int (-i),p.2)
 | .dnew,_,S,Q=>Q (.ref S.length,S++[.dic []])
 | .disp es,Z,S,Q=>wA es Z (S++[.dic []]) λp=>p.2[S.length]?=ba (.dic [])/\wO (cm [] p.1) λU=>Q (.ref S.length,p.2.set S.length (.dic U))
 | .chn o o' a b d,Z,S,Q=>wE a Z S λp=>wE b Z p.2 λq=>wO (vN o p.1 q.1 q.2) λk=>(k=true->wE d Z q.2 λr=>wO (dq o' q.1 r.1 r.2) Q)/\(k=false->Q (.bl false,q.2))
 | .ite t a b,Z,S,Q=>wT t Z S λp=>(p.1=true->wE a Z p.2 Q)/\(p.1=false->wE b Z p.2 Q)
 | .comp elt tg it cs cap,Z,S,Q=>Wp (aj M (.comp elt tg it cs cap) Z S) Q
def wT:E->Fm->aa->QB->Prop
 | .cmp o a b,Z,S,Q=>wE a Z S λp=>wE b Z p.2 λq=>wO (cV o p.1 q.1 q.2) λr=>wB r.1 λk=>Q (k,r.2)
 | .and a b,Z,S,Q=>wT a Z S λp=>(p.1=true->wT b Z p.2 Q)/\(p.1=false->Q (false,p.2))
 | .or a b,Z,S,Q=>wT a Z S λp=>(p.1=true->Q (true,p.2))/\(p.1=false->wT b Z p.2 Q)
 | .not a,Z,S,Q=>wT a Z S λp=>Q (!p.1,p.2)
 | .isi c a,Z,S,Q=>wE a Z S λp=>wO (qM p.2 p.1 c) λk=>Q (k,p.2)
 | .c w,Z,S,Q=>Wp (bJ M (.c w) Z S) Q
 | .v i,Z,S,Q=>wV Z i λw=>wO (dB S w) λk=>Q (k,S)
 | .op o a b,Z,S,Q=>Wp (bJ M (.op o a b) Z S) Q
 | .own f n es,Z,S,Q=>wA es Z S λp=>wO (aQ M f n p.1 p.2) λq=>wO (dB q.2 q.1) λk=>Q (k,q.2)
 | .bi b es,Z,S,Q=>wA es Z S λp=>wO (b.fn p.1 p.2) λq=>wO (dB q.2 q.1) λk=>Q (k,q.2)
 | .me m o es,Z,S,Q=>Wp (bJ M (.me m o es) Z S) Q
 | .ix a b,Z,S,Q=>Wp (bJ M (.ix a b) Z S) Q
 | .idx a b,Z,S,Q=>Wp (bJ M (.idx a b) Z S) Q
 | .sl a lo hi,Z,S,Q=>Wp (bJ M (.sl a lo hi) Z S) Q
 | .tup es,Z,S,Q=>Wp (bJ M (.tup es) Z S) Q
 | .lst es,Z,S,Q=>Wp (bJ M (.lst es) Z S) Q
 | .neg a,Z,S,Q=>Wp (bJ M (.neg a) Z S) Q
 | .dnew,Z,S,Q=>Wp (bJ M .dnew Z S) Q
 | .disp es,Z,S,Q=>Wp (bJ M (.disp es) Z S) Q
 | .chn o o' a b d,Z,S,Q=>wE a Z S λp=>wE b Z p.2 λq=>wO (vN o p.1 q.1 q.2) λk=>(k=true->wE d Z q.2 λr=>wO (dq o' q.1 r.1 r.2) λs=>wB s.1 λc=>Q (c,s.2))/\(k=false->Q (false,q.2))
 | .ite t a b,Z,S,Q=>Wp (bJ M (.ite t a b) Z S) Q
 | .comp elt tg it cs cap,Z,S,Q=>Wp (bJ M (.comp elt tg it cs cap) Z S) Q
def wA:Es->Fm->aa->(EI W×aa->Prop)->Prop
 | .nil,_,S,Q=>Q ([],S)
 | .cons e es,Z,S,Q=>wE e Z S λp=>wA es Z p.2 λq=>Q (p.1::q.1,q.2)
def wP:Ep->Fm->aa->(EO E5×aa->Prop)->Prop
 | .no,_,S,Q=>Q (gV,S)
 | .yes a,Z,S,Q=>wE a Z S λp=>wN p.1 λi=>Q (ba i,p.2)
end
abbrev nv (K:Fm->aa->Prop)(Q:QO)(p:Out×aa):Prop:=match p.1 with
 | .nx Z=>K Z p.2
 | o=>Q (o,p.2)
mutual
def wS:Sm->Fm->aa->(Fm->aa->Prop)->QO->Prop
 | .set i e,Z,S,K,_=>wE M e Z S λp=>K (Z.set i (ba p.1)) p.2
 | .asg is e,Z,S,K,_=>wE M e Z S λp=>wU p.1 λws=>wO (ci is ws Z) λZ'=>K Z' p.2
 | .par i j es,Z,S,K,_=>wA M es Z S λp=>w2 p.1 λx y=>K ((Z.set i (ba x)).set j (ba y)) p.2
 | .put o k e,Z,S,K,_=>wE M e Z S λp=>wE M o Z p.2 λq=>wE M k Z q.2 λr=>wO (fj q.1 r.1 p.1 r.2) λS'=>K Z S'
 | .ex e,Z,S,K,_=>wE M e Z S λp=>K Z p.2
 | .ret e,Z,S,_,Q=>wE M e Z S λp=>Q (.rt p.1,p.2)
 | .retN,_,S,_,Q=>Q (.rt .non,S)
 | .pass,Z,S,K,_=>K Z S
 | .brk,Z,S,_,Q=>Q (.bk Z,S)
 | .cont,Z,S,_,Q=>Q (.ct Z,S)
 | .bad,_,_,_,_=>F8
 | .ite t a b,Z,S,K,Q=>wT M t Z S λp=>∀Q':QO,(∀Z' S',K Z' S'->Q' (.nx Z',S'))->(∀o S',(∀Z',o≠.nx Z')->Q (o,S')->Q' (o,S'))->(p.1=true->xk a Z p.2 Q')/\(p.1=false->xk b Z p.2 Q')
 | .whl t b,Z,S,K,Q=>Wp (ef M fuel (.whl t b) Z S) (nv K Q)
 | .loop tg it b,Z,S,K,Q=>Wp (ef M fuel (.loop tg it b) Z S) (nv K Q)
def xk:Ss->Fm->aa->QO->Prop
 | .nil,Z,S,Q=>Q (.nx Z,S)
 | .cons s ss,Z,S,Q=>wS s Z S (λZ' S'=>xk ss Z' S' Q) Q
end
end
abbrev CW:Es->EV
 | .nil=>0
 | .cons _ es=>CW es+1
mutual
def cg:E->Fk
 | .c _|.v _|.comp _ _ _ _ _|.dnew=>true
 | .op _ a b|.cmp _ a b|.and a b|.or a b|.ix a b|.idx a b=>cg a&&cg b
 | .chn _ _ a b c|.ite a b c=>cg a&&cg b&&cg c
 | .neg a|.not a|.isi _ a=>cg a
 | .own _ n es=>CW es==n&&lS es
 | .bi _ es|.disp es=>lS es
 | .me _ o es=>cg o&&lS es
 | .sl a lo hi=>cg a&&DW lo&&DW hi
 | .tup es|.lst es=>decide (CW es<=1000)&&lS es
def lS:Es->Fk
 | .nil=>true
 | .cons e es=>cg e&&lS es
def DW:Ep->Fk
 | .no=>true
 | .yes e=>cg e
end
mutual
def Eh:Sm->Fk
 | .set _ e|.asg _ e|.ex e|.ret e=>cg e
 | .put o k e=>cg o&&cg k&&cg e
 | .par _ _ es=>lS es
 | .ite t a b=>cg t&&eQ a&&eQ b
 | _=>true
def eQ:Ss->Fk
 | .nil=>true
 | .cons s ss=>Eh s&&eQ ss
end
section
variable{M:E3->FF}{fuel:EV}
def fB:∀ {es:Es} {Z:Fm} {S S':aa} {ws:EI W},bR M es Z S=ba (ws,S')->ws.length=CW es
 | .nil,Z,S,S',ws,h=>by dsimp only[bR]at h; cases h; rfl
 | .cons e es,Z,S,S',ws,h=>by
  dsimp only[bR]at h;unfold b9 at h;split at h
  ·split at h
   ·rename_i h2; cases h; rw[Fy,fB h2]; rfl
   ·cases h
  ·cases h
def tK {n:EV}(h:decide (n<=1000)=true):n<=sizeLine:=F2 (F1 h) (by rw[FX]; decide)
def bm {a b:Fk}(h:(a&&b)=true):a=true:=by cases a <;> first|rfl|cases h
def bP {a b:Fk}(h:(a&&b)=true):b=true:=by cases a <;> first|exact h|cases h
mutual
theorem aA:∀(e:E) {Z:Fm} {S:aa} {Q:QW},cg e=true->wE M e Z S Q->Wp (aj M e Z S) Q
 | .c w,Z,S,Q,k,h=>EB.mpr h
 | .v i,Z,S,Q,k,h=>Eg.mpr (tJ h)
 | .op o a b,Z,S,Q,k,h=>DL.mpr ((aA a (bm k) h).mono λp hp=>(aA b (bP k) hp).mono λq hq=>aU hq)
 | .cmp o a b,Z,S,Q,k,h=>yf.mpr ((aA a (bm k) h).mono λp hp=>(aA b (bP k) hp).mono λq hq=>aU hq)
 | .and a b,Z,S,Q,k,h=>BX.mpr ((aA a (bm k) h).mono λp hp=>let ⟨c,e,h1,h2⟩:=lR hp; #[c,e,λz=>aA b (bP k) (h1 z),h2])
 | .or a b,Z,S,Q,k,h=>DO.mpr ((aA a (bm k) h).mono λp hp=>let ⟨c,e,h1,h2⟩:=lR hp; #[c,e,h1,λz=>aA b (bP k) (h2 z)])
 | .not a,Z,S,Q,k,h=>BY.mpr ((aA a k h).mono λp hp=>lR hp)
 | .own f n es,Z,S,Q,k,h=>yg.mpr (by
   obtain⟨⟨ws,S1⟩,e,hq⟩:=eH es (bP k) h;have hl:ws.length=n:=(fB e).trans (eq_of_beq (bm k));simp only[aQ,Fi hl]at hq;exact#[_,e,hl,aU hq])
 | .bi b es,Z,S,Q,k,h=>B0.mpr ((eH es k h).mono λp hp=>aU hp)
 | .me m o es,Z,S,Q,k,h=>DP.mpr ((aA o (bm k) h).mono λp hp=>#[hp.1,(eH es (bP k) hp.2).mono λq hq=>aU hq])
 | .idx o a,Z,S,Q,k,h=>DM ((aA o (bm k) h).mono λp hp=>#[hp.1,(aA a (bP k) hp.2).mono λq hq=>aU hq])
 | .ix a b,Z,S,Q,k,h=>DN.mpr ((aA a (bm k) h).mono λp hp=>(aA b (bP k) hp).mono λq hq=>aU hq)
 | .sl a lo hi,Z,S,Q,k,h=>DQ.mpr ((aA a (bm (bm k)) h).mono λp hp=>(yp lo (bP (bm k)) hp).mono λq hq=>(yp hi (bP k) hq).mono λr hr=>aU hr)
 | .tup es,Z,S,Q,k,h=>B2.mpr (by
   obtain⟨⟨ws,S1⟩,e,hq⟩:=eH es (bP k) h;exact#[_,e,by rw[fB e]; exact tK (bm k),hq])
 | .lst es,Z,S,Q,k,h=>B3.mpr (by
   obtain⟨⟨ws,S1⟩,e,hq⟩:=eH es (bP k) h;exact#[_,e,by rw[fB e]; exact tK (bm k),hq])
 | .isi c a,Z,S,Q,k,h=>yh.mpr ((aA a k h).mono λp hp=>aU hp)
 | .neg a,Z,S,Q,k,h=>B4.mpr ((aA a k h).mono λp hp=>yo hp)
 | .dnew,Z,S,Q,k,h=>#[_,rfl,h]
 | .disp es,Z,S,Q,k,h=>z6.mpr ((eH es k h).mono λp hp=>#[hp.1,let ⟨U,e,q⟩:=aU hp.2; #[U,e,q]])
 | .chn o o' a b d,Z,S,Q,k,h=>yi ((aA a (bm (bm k)) h).mono λp hp=>(aA b (bP (bm k)) hp).mono λq hq=>let ⟨c,e,h1,h2⟩:=aU hq; #[c,e,λz=>(aA d (bP k) (h1 z)).mono λr hr=>aU hr,h2])
 | .ite t a b,Z,S,Q,k,h=>BZ.mpr ((fD t (bm (bm k)) h).mono λp hp=>#[λz=>aA a (bP (bm k)) (hp.1 z),λz=>aA b (bP k) (hp.2 z)])
 | .comp elt tg it cs cap,Z,S,Q,k,h=>h
theorem eH:∀(es:Es) {Z:Fm} {S:aa} {Q:EI W×aa->Prop},lS es=true->wA M es Z S Q->Wp (bR M es Z S) Q
 | .nil,Z,S,Q,k,h=>B5.mpr h
 | .cons e es,Z,S,Q,k,h=>z7.mpr ((aA e (bm k) h).mono λp hp=>eH es (bP k) hp)
theorem yp:∀(e:Ep) {Z:Fm} {S:aa} {Q:EO E5×aa->Prop},DW e=true->wP M e Z S Q->Wp (oz M e Z S) Q
 | .no,Z,S,Q,k,h=>DR.mpr h
 | .yes a,Z,S,Q,k,h=>B1.mpr ((aA a k h).mono λp hp=>yo hp)
theorem fD:∀(e:E) {Z:Fm} {S:aa} {Q:QB},cg e=true->wT M e Z S Q->Wp (bJ M e Z S) Q
 | .cmp o a b,Z,S,Q,k,h=>B6.mpr (yf.mpr ((aA a (bm k) h).mono λp hp=>(aA b (bP k) hp).mono λq hq=>(aU hq).mono λr hr=>lR hr))
 | .and a b,Z,S,Q,k,h=>B8.mpr ((fD a (bm k) h).mono λp hp=>#[λz=>fD b (bP k) (hp.1 z),hp.2])
 | .or a b,Z,S,Q,k,h=>DS.mpr ((fD a (bm k) h).mono λp hp=>#[hp.1,λz=>fD b (bP k) (hp.2 z)])
 | .not a,Z,S,Q,k,h=>B9.mpr (fD a k h)
 | .isi c a,Z,S,Q,k,h=>Cd.mpr (yh.mpr ((aA a k h).mono λp hp=>let ⟨b,e,q⟩:=aU hp; #[b,e,b,rfl,q]))
 | .v i,Z,S,Q,k,h=>EC.mpr (Eg.mpr (let ⟨w,e,q⟩:=tJ h; #[w,e,aU q]))
 | .own f n es,Z,S,Q,k,h=>Cc.mpr (yg.mpr (by
   obtain⟨⟨ws,S1⟩,e,hq⟩:=eH es (bP k) h;have hl:ws.length=n:=(fB e).trans (eq_of_beq (bm k));simp only[aQ,Fi hl]at hq;exact#[_,e,hl,(aU hq).mono λq hq=>aU hq]))
 | .c w,Z,S,Q,k,h=>h
 | .op o a b,Z,S,Q,k,h=>h
 | .bi b es,Z,S,Q,k,h=>DT.mpr (B0.mpr ((eH es k h).mono λp hp=>(aU hp).mono λq hq=>aU hq))
 | .me m o es,Z,S,Q,k,h=>h
 | .ix a b,Z,S,Q,k,h=>h
 | .idx a b,Z,S,Q,k,h=>h
 | .sl a lo hi,Z,S,Q,k,h=>h
 | .tup es,Z,S,Q,k,h=>h
 | .lst es,Z,S,Q,k,h=>h
 | .neg a,Z,S,Q,k,h=>h
 | .dnew,Z,S,Q,k,h=>h
 | .disp es,Z,S,Q,k,h=>h
 | .chn o o' a b d,Z,S,Q,k,h=>B7.mpr (yi ((aA a (bm (bm k)) h).mono λp hp=>(aA b (bP (bm k)) hp).mono λq hq=>let ⟨c,e,h1,h2⟩:=aU hq; #[c,e,λz=>(aA d (bP k) (h1 z)).mono λr hr=>(aU hr).mono λs hs=>lR hs,λz=>#[false,rfl,h2 z]]))
 | .ite t a b,Z,S,Q,k,h=>h
 | .comp elt tg it cs cap,Z,S,Q,k,h=>h
end
mutual
theorem Cs:∀(s:Sm) {Z:Fm} {S:aa} {K:Fm->aa->Prop} {Q:QO},Eh s=true->wS M fuel s Z S K Q->Wp (ef M fuel s Z S) (nv K Q)
 | .set i e,Z,S,K,Q,k,h=>z9.mpr (aA e k h)
 | .asg is e,Z,S,K,Q,k,h=>Aa.mpr ((aA e k h).mono λp hp=>let ⟨ws,e1,h1⟩:=Cq hp; let ⟨Z',e2,h2⟩:=aU h1; #[ws,Z',e1,e2,h2])
 | .par i j es,Z,S,K,Q,k,h=>Ab.mpr ((eH es k h).mono λp hp=>Cr hp)
 | .put o i e,Z,S,K,Q,k,h=>Ac.mpr ((aA e (bP k) h).mono λp hp=>(aA o (bm (bm k)) hp).mono λq hq=>(aA i (bP (bm k)) hq).mono λr hr=>aU hr)
 | .ex e,Z,S,K,Q,k,h=>Cf.mpr (aA e k h)
 | .ret e,Z,S,K,Q,k,h=>Ad.mpr (aA e k h)
 | .retN,Z,S,K,Q,k,h=>#[_,rfl,h]
 | .pass,Z,S,K,Q,k,h=>#[_,rfl,h]
 | .brk,Z,S,K,Q,k,h=>#[_,rfl,h]
 | .cont,Z,S,K,Q,k,h=>#[_,rfl,h]
 | .bad,Z,S,K,Q,k,h=>h.elim
 | .ite t a b,Z,S,K,Q,k,h=>Ae.mpr ((fD t (bm (bm k)) h).mono λp hp=>by
   obtain⟨h1,h2⟩:=hp (nv K Q) (λZ' S' z=>z) (λo S' hn z=>by cases o <;> first|exact z|exact absurd rfl (hn _))
   exact#[λz=>gb a (bP (bm k)) (h1 z),λz=>gb b (bP k) (h2 z)])
 | .whl t b,Z,S,K,Q,k,h=>h
 | .loop tg it b,Z,S,K,Q,k,h=>h
theorem gb:∀(ss:Ss) {Z:Fm} {S:aa} {Q:QO},eQ ss=true->xk M fuel ss Z S Q->Wp (d0 M fuel ss Z S) Q
 | .nil,Z,S,Q,k,h=>Ce.mpr h
 | .cons s ss,Z,S,Q,k,h=>z8.mpr ((Cs s (bm k) h).mono λp hp=>by
   obtain⟨o,S1⟩:=p;cases o with
   | nx Z'=>exact#[λZ2 e=>by cases e; exact gb ss (bP k) hp,λz=>absurd rfl (z Z')]
   | _=>exact#[λZ2 e=>(by cases e),λ_=>hp])
end
structure wZ (M:E3->FF)(fuel:EV)(ss:Ss)(Z:Fm)(S:aa)(Q:QO):Prop where
 out:xk M fuel ss Z S Q
def Ct {ss:Ss}{Z:Fm}{S:aa}{Q:QO}:xk M fuel ss Z S Q=wZ M fuel ss Z S Q:=propext #[λh=>#[h],λh=>h.out]
def Ai {defs:EI (E3×Df)}{d:EV}{f:E3}{n:EV}{ws:EI W}{df:Df}{S:aa}{Q:QW}(h:defs.lookup f=ba df)(hn:ws.length=n)(hl:ws.length=df.ps.length)(ok:eQ df.body=true)
  (hb:∀Q':QO,(∀w S',Q (w,S')->Q' (.rt w,S'))->wZ (ak defs fuel d) fuel df.body (dE df.N ws) S Q'):wO (aQ (ak defs fuel (d+1)) f n ws S) Q:=by
 unfold aQ;rw[Fi hn];exact Cp (qw h hl ((gb _ ok (hb (λp=>match p.1 with|.rt w=>Q (w,p.2)|_=>F8) λw S' q=>q).out).mono λp hp=>by
  obtain⟨o,S1⟩:=p;cases o <;> first|exact hp|exact hp.elim))
end
section
variable{M:E3->FF}{fuel:EV}{Z:Fm}{S:aa}{K:Fm->aa->Prop}{Q:QO}
abbrev tL (M:E3->FF)(fuel:EV)(b:Ss)(Z:Fm)(S:aa)(I:Fm->aa->Prop)(Q:QO):Prop:=∀Q':QO,(∀Z' S',I Z' S'->Q' (.nx Z',S'))->(∀w S',Q (.rt w,S')->Q' (.rt w,S'))->wZ M fuel b Z S Q'
def gd {tg:Tg}{it:Ie}{b:Ss}{mi:MI}{S1:aa}{xs:EI W}(I:EV->Fm->aa->Prop)(ok:eQ b=true)(hi:gx M it Z S=ba (mi,S1))(hat:∀i Z S,I i Z S->mi.at S i=ba xs[i]?)(hl:mi.len S1=ba xs.length)(h0:I 0 Z S1)
  (hstep:∀(i:EV) (w:W) (Z:Fm) (S:aa),xs[i]?=ba w->I i Z S->wO (gI tg w Z S) λq=>tL M fuel b q.1 q.2 (I (i+1)) Q) (hend:∀Z S,I xs.length Z S->K Z S):Wp (ef M fuel (.loop tg it b) Z S) (nv K Q):=by
 rw[ef,Cg];show#[_,hi,xs.length,hl,?_];show fZ (Q:=nv K Q) I hat (λi w Z S h1 h2=>?_) (λZ S h=>hend Z S h) _ 0 Z S1 ∅ h0
 exact(aU (hstep i w Z S h1 h2)).mono λq hq=>gb b ok (wZ.out (hq _ (λ_ _ h=>h) λ_ _ h=>h))
def bn {e:E}{Q:QW}(ok:cg e=true)(h:wE M e Z S Q):∃w S',aj M e Z S=ba (w,S')/\Q (w,S'):=let ⟨⟨w,S'⟩,a,b⟩:=aA e ok h; #[w,S',a,b]
def en {i0:EV}{e:E}{b:Ss}(j:E5)(I:EV->Fm->aa->Prop)(oe:cg e=true)(ok:eQ b=true)(hj : -(2 ^ 62)<=j/\j < 2 ^ 62)(he:wE M e Z S λp=>p.1=.int j/\I 0 Z p.2)
  (hstep:∀(i:EV) (Z:Fm) (S:aa),(i:E5) < j->I i Z S->tL M fuel b (Z.set i0 (ba (.int i))) S (I (i+1)) Q) (hend:∀Z S,I j.toNat Z S->K Z S):Wp (ef M fuel (.loop (.nm i0) (.rng #v[e]) b) Z S) (nv K Q):=by
 obtain⟨w,S1,e1,rfl,h0⟩:=bn oe he;have hl:(cj 0 j.toNat).length=j.toNat:=by simp[cj]
 show gd (mi:=.its (cj 0 j.toNat)) (S1:=S1) (xs:=cj 0 j.toNat) I ok ?_ (λ_ _ _ _=>rfl) rfl h0 (λi w Z S hw hI=>?_) λZ S hI=>hend Z S (hl ▸ hI)
 ·simp only[gx,bR,b9,eN,qh,e1];rw[Fi hj]
 ·rw[cL]at hw;split at hw
  ·rename_i hk;cases hw;rw[Ly];exact hstep i Z S ∅ hI
  ·cases hw
def for_tup {tg:Tg}{e:E}{b:Ss}(xs:EI W)(I:EV->Fm->aa->Prop)(oe:cg e=true)(ok:eQ b=true)(he:wE M e Z S λp=>p.1=.tup xs/\I 0 Z p.2)
  (hstep:∀(i:EV) (w:W) (Z:Fm) (S:aa),xs[i]?=ba w->I i Z S->wO (gI tg w Z S) λq=>tL M fuel b q.1 q.2 (I (i+1)) Q) (hend:∀Z S,I xs.length Z S->K Z S):Wp (ef M fuel (.loop tg (.seq e) b) Z S) (nv K Q):=by
 obtain⟨w,S1,e1,rfl,h0⟩:=bn oe he;exact gd (mi:=.its xs) (S1:=S1) I ok (by simp only[gx,cM,e1]) (λ_ _ _ _=>rfl) rfl h0 hstep hend
def Cu {t:E}{b:Ss}(I:EV->Fm->aa->Prop)(m:EV)(ot:cg t=true)(ok:eQ b=true)(hm:m < fuel)(h0:I m Z S)
  (hstep:∀m Z S,I m Z S->wT M t Z S λk=>(k.1=true->∃m',m=m'+1/\tL M fuel b Z k.2 (I m') Q)/\(k.1=false->K Z k.2)):Wp (ef M fuel (.whl t b) Z S) (nv K Q):=by
 rw[ef];show iC (Q:=nv K Q) I (λm Z S hI=>(fD t ot (hstep m Z S hI)).mono λk hk=>#[λz=>?_,λz=>hk.2 z]) fuel m Z S hm h0
 obtain⟨m',e,h⟩:=hk.1 z;exact#[m',e,gb b ok (wZ.out (h _ (λ_ _ h=>h) λ_ _ h=>h))]
abbrev wC (M:E3->FF):Es->Fm->aa->QB->Prop
 | .nil,_,S,Q=>Q (true,S)
 | .cons e .nil,Z,S,Q=>wT M e Z S Q
 | .cons _ (.cons _ _),_,_,_=>F8
def yq {cs:Es}{Q:QB}(ok:lS cs=true)(h:wC M cs Z S Q):Wp (w6 M cs Z S) Q:=by
 match cs,h,ok with
 | .nil,h,_=>exact Ch.mpr h
 | .cons e .nil,h,ok=>exact Ci.mpr (fD e (bm ok) h)
abbrev gK (M:E3->FF)(elt:E)(cs:Es)(Z:Fm)(S:aa)(G:W->Fm->aa->Prop)(N:Fm->aa->Prop):Prop:=wC M cs Z S λk=>(k.1=true->wE M elt Z k.2 λy=>G y.1 Z y.2)/\(k.1=false->N Z k.2)
def kG {elt:E}{tg:Tg}{it:Ie}{cs:Es}{cap:EI (EO EV)}{mi:MI}{S1:aa}{xs:EI W}{Q:QW}(I:EV->EI W->Fm->aa->Prop)(oe:cg elt=true)(oc:lS cs=true)(hi:gx M it Z S=ba (mi,S1))(hat:∀i ys Z S,I i ys Z S->mi.at S i=ba xs[i]?)(hl:mi.len S1=ba xs.length)(h0:I 0 [] (cN cap Z) S1)
  (hstep:∀(i:EV) (w:W) (ys:EI W) (Z:Fm) (S:aa),xs[i]?=ba w->I i ys Z S->wO (gI tg w Z S) λq=>gK M elt cs q.1 q.2 (λy=>I (i+1) (ys++[y])) (I (i+1) ys))
  (hend:∀ys Z S,I xs.length ys Z S->ys.length<=sizeLine/\Q (.ref S.length,S++[.lst ys])):Wp (aj M (.comp elt tg it cs cap) Z S) Q:=by
 rw[tu];show#[_,hi,xs.length,hl,?_];show(cq (xs:=xs) (Q:=λq=>q.1.length<=sizeLine/\Q (.ref q.2.length,q.2++[.lst q.1])) I hat (λi w ys Z S h1 h2=>?_) hend xs.length 0 [] _ S1 ∅ h0).mono λq hq=>by simpa using hq
 exact(aU (hstep i w ys Z S h1 h2)).mono λq hq=>(yq oc hq).mono λk hk=>#[λz=>aA elt oe (hk.1 z),hk.2]
def cY {elt e:E}{i0:EV}{cs:Es}{cap:EI (EO EV)}{Q:QW}(j:E5)(I:EV->EI W->Fm->aa->Prop)(oi:cg e=true)(oe:cg elt=true)(oc:lS cs=true)(hj : -(2 ^ 62)<=j/\j < 2 ^ 62)(he:wE M e Z S λp=>p.1=.int j/\I 0 [] (cN cap Z) p.2)
  (hstep:∀(i:EV) (ys:EI W) (Z:Fm) (S:aa),(i:E5) < j->I i ys Z S->gK M elt cs (Z.set i0 (ba (.int i))) S (λy=>I (i+1) (ys++[y])) (I (i+1) ys))
  (hend:∀ys Z S,I j.toNat ys Z S->ys.length<=sizeLine/\Q (.ref S.length,S++[.lst ys])):Wp (aj M (.comp elt (.nm i0) (.rng #v[e]) cs cap) Z S) Q:=by
 obtain⟨w,S1,e1,rfl,h0⟩:=bn oi he;have hl:(cj 0 j.toNat).length=j.toNat:=by simp[cj]
 show kG (mi:=.its (cj 0 j.toNat)) (S1:=S1) (xs:=cj 0 j.toNat) I oe oc ?_ (λ_ _ _ _ _=>rfl) rfl h0 (λi w ys Z S hw hI=>?_) λys Z S hI=>hend ys Z S (hl ▸ hI)
 ·simp only[gx,bR,b9,eN,qh,e1];rw[Fi hj]
 ·rw[cL]at hw;split at hw
  ·rename_i hk;cases hw;rw[Ly];exact hstep i ys Z S ∅ hI
  ·cases hw
def xl {elt e:E}{tg:Tg}{cs:Es}{cap:EI (EO EV)}{Q:QW}(xs:EI W)(I:EV->EI W->Fm->aa->Prop)(oi:cg e=true)(oe:cg elt=true)(oc:lS cs=true)(he:wE M e Z S λp=>p.1=.tup xs/\I 0 [] (cN cap Z) p.2)
  (hstep:∀(i:EV) (w:W) (ys:EI W) (Z:Fm) (S:aa),xs[i]?=ba w->I i ys Z S->wO (gI tg w Z S) λq=>gK M elt cs q.1 q.2 (λy=>I (i+1) (ys++[y])) (I (i+1) ys))
  (hend:∀ys Z S,I xs.length ys Z S->ys.length<=sizeLine/\Q (.ref S.length,S++[.lst ys])):Wp (aj M (.comp elt tg (.seq e) cs cap) Z S) Q:=by
 obtain⟨w,S1,e1,rfl,h0⟩:=bn oi he;exact kG (mi:=.its xs) (S1:=S1) I oe oc (by simp only[gx,cM,e1]) (λ_ _ _ _ _=>rfl) rfl h0 hstep hend
def oM {elt e:E}{tg:Tg}{cs:Es}{cap:EI (EO EV)}{Q:QW}(t:EV)(xs:EI W)(I:EV->EI W->Fm->aa->Prop)(oi:cg e=true)(oe:cg elt=true)(oc:lS cs=true)(he:wE M e Z S λp=>p.1=.ref t/\I 0 [] (cN cap Z) p.2)(hat:∀i ys Z S,I i ys Z S->S[t]?=ba (.lst xs))
  (hstep:∀(i:EV) (w:W) (ys:EI W) (Z:Fm) (S:aa),xs[i]?=ba w->I i ys Z S->wO (gI tg w Z S) λq=>gK M elt cs q.1 q.2 (λy=>I (i+1) (ys++[y])) (I (i+1) ys))
  (hend:∀ys Z S,I xs.length ys Z S->ys.length<=sizeLine/\Q (.ref S.length,S++[.lst ys])):Wp (aj M (.comp elt tg (.seq e) cs cap) Z S) Q:=by
 obtain⟨w,S1,e1,rfl,h0⟩:=bn oi he;exact kG (mi:=.live t) (S1:=S1) I oe oc (by simp only[gx,cM,e1,ap (hat _ _ _ _ h0)]) (λi ys Z S h=>by simp only[MI.at,ap (hat _ _ _ _ h)]) (by simp only[MI.len,ap (hat _ _ _ _ h0),FP]) h0 hstep hend
def st {s:Sm}{ss:Ss}(h:wS M fuel s Z S (λZ' S'=>wZ M fuel ss Z' S' Q) Q):wZ M fuel (.cons s ss) Z S Q:=#[by
 dsimp only[xk];simp only[Ct];exact h]
def bO (h:Q (.nx Z,S)):wZ M fuel .nil Z S Q:=#[h]
def am {t:Fk}{a b:Ss}{Q Q0:QO}{K:Fm->aa->Prop}(ha:t=true->∀Q':QO,(∀Z' S',K Z' S'->Q' (.nx Z',S'))->(∀w S',Q (.rt w,S')->Q' (.rt w,S'))->wZ M fuel a Z S Q')(hb:t=false->∀Q':QO,(∀Z' S',K Z' S'->Q' (.nx Z',S'))->(∀w S',Q (.rt w,S')->Q' (.rt w,S'))->wZ M fuel b Z S Q') :
  ∀Q':QO,(∀Z' S',K Z' S'->Q' (.nx Z',S'))->(∀o S',(∀Z',o≠.nx Z')->Q (o,S')->Q' (o,S'))->(t=true->xk M fuel a Z S Q')/\(t=false->xk M fuel b Z S Q'):=
 λQ' h1 h2=>#[λe=>(ha e Q' h1 λw S'=>h2 (.rt w) S' (λ_ z=>nomatch z)).out,λe=>(hb e Q' h1 λw S'=>h2 (.rt w) S' (λ_ z=>nomatch z)).out]
end
abbrev cR:Ss:=
 #v[.ret (.lst #v[.bi .list #v[.v 0],.c (.int 0),.c (.int 0),.c (.int 1),.c (.int 0)])]
abbrev bD:Ss:=
 #v[.ite (.and (.cmp .eq (.ix (.v 0) (.c (.int 2))) (.c (.int 0))) (.cmp .lt (.ix (.v 0) (.c (.int 1))) (.bi .len #v[.ix (.v 0) (.c (.int 0))]))) #v[.set 2 (.ix (.ix (.v 0) (.c (.int 0))) (.ix (.v 0) (.c (.int 1)))),.put (.v 0) (.c (.int 1)) (.op .add (.ix (.v 0) (.c (.int 1))) (.c (.int 1))),.ite (.cmp .ge (.v 2) (.op .pow (.c (.int 10)) (.c (.int 18)))) #v[.put (.v 0) (.c (.int 2)) (.v 2)] #v[.put (.v 0) (.c (.int 3)) (.op .mod (.op .add (.op .add (.op .mul (.ix (.v 0) (.c (.int 3))) (.c (.int 40013))) (.op .mod (.v 2) (.c (.int 1000003)))) (.c (.int 1))) (.c (.int 2147483647)))]] .nil,.ite (.cmp .gt (.ix (.v 0) (.c (.int 2))) (.c (.int 0))) #v[.set 3 (.op .mod (.ix (.v 0) (.c (.int 2))) (.v 1)),.put (.v 0) (.c (.int 2)) (.op .fdiv (.ix (.v 0) (.c (.int 2))) (.v 1)),.ret (.v 3)] .nil,.put (.v 0) (.c (.int 4)) (.op .add (.ix (.v 0) (.c (.int 4))) (.c (.int 1))),.put (.v 0) (.c (.int 3)) (.op .mod (.op .add (.op .add (.op .mul (.ix (.v 0) (.c (.int 3))) (.c (.int 48271))) (.c (.int 12820163))) (.ix (.v 0) (.c (.int 4)))) (.c (.int 2147483647))),.ret (.op .mod (.op .fdiv (.op .mod (.op .mul (.op .add (.op .mod (.ix (.v 0) (.c (.int 3))) (.c (.int 65521))) (.c (.int 1))) (.op .add (.op .fdiv (.ix (.v 0) (.c (.int 3))) (.c (.int 65521))) (.c (.int 7919)))) (.c (.int 1000003))) (.c (.int 7))) (.v 1))]
abbrev bY:Ss:=
 #v[.ret (.me .join (.c (.str "")) #v[.comp (.ix (.c (.str "abcdefghijklmnopqrstuvwxyz")) (.own "_law_pick" 2 #v[.v 2,.c (.int 26)])) (.nm 1) (.rng #v[.v 1]) .nil [gV,gV,ba 0]])]
abbrev dF:Ss:=
 #v[.ite (.cmp .ne (.v 1) (.c (.str ""))) #v[.ret (.op .add (.v 1) (.own "_law_letters" 2 #v[.v 0,.op .add (.c (.int 1)) (.own "_law_pick" 2 #v[.v 0,.c (.int 2)])]))] .nil,.ite (.cmp .eq (.own "_law_pick" 2 #v[.v 0,.c (.int 6)]) (.c (.int 0))) #v[.set 2 (.lst #v[.c (.str "markss"),.c (.str "mark"),.c (.str "way"),.c (.str "wayss"),.c (.str "bars"),.c (.str "ba"),.c (.str "somex")]),.set 2 (.op .add (.v 2) (.lst #v[.c (.str "eachx"),.c (.str "note"),.c (.str "no"),.c (.str "ands"),.c (.str "ors"),.c (.str "o"),.c (.str "iss")])),.ret (.ix (.v 2) (.own "_law_pick" 2 #v[.v 0,.c (.int 14)]))] .nil,.ret (.own "_law_letters" 2 #v[.v 0,.op .add (.c (.int 1)) (.own "_law_pick" 2 #v[.v 0,.c (.int 8)])])]
abbrev bH:Ss:=
 #v[.set 2 (.c (.str "")),.ite (.cmp .eq (.own "_law_pick" 2 #v[.v 0,.c (.int 3)]) (.c (.int 0))) #v[.set 2 (.own "_law_letters" 2 #v[.v 0,.op .add (.c (.int 1)) (.own "_law_pick" 2 #v[.v 0,.c (.int 6)])])] .nil,.set 3 (.lst #v[.c (.str "marks"),.c (.str "ways"),.c (.str "bar"),.c (.str "some"),.c (.str "each"),.c (.str "not"),.c (.str "and"),.c (.str "or"),.c (.str "is")]),.loop (.nm 4) (.rng #v[.v 1]) #v[.set 5 (.own "_law_name" 2 #v[.v 0,.v 2]),.set 6 (.c (.int 0)),.whl (.cmp .isin (.v 5) (.v 3)) #v[.set 5 (.op .mul (.ix (.c (.str "abcdefghijklmnopqrstuvwxyz")) (.op .mod (.v 6) (.c (.int 26)))) (.op .add (.c (.int 1)) (.op .fdiv (.v 6) (.c (.int 26))))),.set 6 (.op .add (.v 6) (.c (.int 1)))],.ex (.me .append (.v 3) #v[.v 5])],.ret (.bi .tuple #v[.sl (.v 3) (.yes (.c (.int 9))) .no])]
abbrev bZ:Ss:=
 #v[.ite (.cmp .lt (.v 3) (.v 2)) #v[.ret (.ix (.ix (.ix (.v 1) (.v 2)) (.c (.int 1))) (.v 3))] .nil,.ret (.ix (.ix (.ix (.v 0) (.c (.int 1))) (.ix (.ix (.ix (.v 1) (.v 3)) (.c (.int 1))) (.v 2))) (.c (.int 1)))]
abbrev dG:Ss:=
 #v[.set 3 (.lst .nil),.loop (.nm 4) (.rng #v[.bi .len #v[.v 2]]) #v[.set 5 (.ix (.v 2) (.v 4)),.ex (.me .append (.v 3) #v[.tup #v[.ix (.ix (.v 1) (.v 5)) (.c (.int 0)),.bi .tuple #v[.comp (.own "_law_between" 4 #v[.v 3,.v 4,.v 2,.v 1]) (.nm 1) (.seq (.sl (.v 2) .no (.yes (.v 4)))) .nil [gV,gV,ba 5,ba 0,ba 1]]]])],.ret (.bi .tuple #v[.v 3])]
abbrev d6:Ss:=
 #v[.ret (.lst #v[.tup #v[.c (.int 0),.c (.int 1),.c (.int 2)],.tup #v[.c (.int 0),.c (.int 2),.c (.int 1)],.tup #v[.c (.int 1),.c (.int 0),.c (.int 2)],.tup #v[.c (.int 1),.c (.int 2),.c (.int 0)],.tup #v[.c (.int 2),.c (.int 0),.c (.int 1)],.tup #v[.c (.int 2),.c (.int 1),.c (.int 0)]])]
abbrev cr:Ss:=
 #v[.ret (.bi .min #v[.comp (.own "_law_part" 3 #v[.v 2,.v 3,.v 1]) (.nm 1) (.seq (.own "_law_turns" 0 .nil)) .nil [gV,gV,ba 0,ba 1]])]
abbrev cZ:Ss:=
 #v[.set 2 (.ix (.lst #v[.lst #v[.tup #v[.c (.int 0)]],.lst #v[.tup #v[.c (.int 0),.c (.int 1)],.tup #v[.c (.int 1),.c (.int 0)]],.lst #v[.tup #v[.c (.int 0),.c (.int 1),.c (.int 2)],.tup #v[.c (.int 1),.c (.int 0),.c (.int 2)],.tup #v[.c (.int 0),.c (.int 2),.c (.int 1)]]]) (.op .sub (.v 1) (.c (.int 1)))),.ret (.ix (.v 2) (.own "_law_pick" 2 #v[.v 0,.bi .len #v[.v 2]]))]
abbrev b6:Ss:=
 #v[.set 4 (.own "_law_names" 2 #v[.v 0,.op .add (.v 1) (.bi .len #v[.v 2])]),.set 5 (.bi .tuple #v[.comp (.tup #v[.ix (.v 4) (.op .add (.v 3) (.v 1)),.ix (.v 2) (.v 1)]) (.nm 1) (.rng #v[.bi .len #v[.v 2]]) .nil [gV,gV,ba 2,ba 1,ba 4]]),.ret (.tup #v[.sl (.v 4) .no (.yes (.v 1)),.v 5,.bi .tuple #v[.bi .sorted #v[.v 3]]])]
abbrev br:Ss:=
 #v[.set 3 (.lst .nil),.loop (.nm 4) (.rng #v[.c (.int 3)]) #v[.ex (.me .append (.v 3) #v[.tup #v[.own "_law_pick" 2 #v[.v 0,.v 1],.bi .tuple #v[.comp (.own "_law_pick" 2 #v[.v 2,.v 3]) (.nm 1) (.rng #v[.v 4]) .nil [gV,gV,ba 0,ba 2]]]])],.ret (.bi .tuple #v[.v 3])]
abbrev c7:Ss:=
 #v[.set 1 (.lst #v[.tup #v[.c (.int 1),.c (.int 1)],.tup #v[.c (.int 2),.c (.int 1)],.tup #v[.c (.int 3),.c (.int 1)],.tup #v[.c (.int 1),.c (.int 2)],.tup #v[.c (.int 1),.c (.int 2)],.tup #v[.c (.int 2),.c (.int 2)],.tup #v[.c (.int 2),.c (.int 2)],.tup #v[.c (.int 3),.c (.int 2)],.tup #v[.c (.int 1),.c (.int 3)],.tup #v[.c (.int 1),.c (.int 3)],.tup #v[.c (.int 2),.c (.int 3)]]),.ret (.ix (.v 1) (.own "_law_pick" 2 #v[.v 0,.c (.int 11)]))]
abbrev bM:Ss:=
 #v[.asg [1,2] (.own "_law_sizes" 1 #v[.v 0]),.set 3 (.own "_law_rule_of" 4 #v[.v 0,.v 1,.own "_law_backs" 2 #v[.v 0,.v 2],.tup .nil]),.set 4 .dnew,.loop (.nm 5) (.rng #v[.own "_law_pick" 2 #v[.v 0,.c (.int 9)]]) #v[.put (.v 4) (.own "_law_figure" 2 #v[.v 3,.own "_law_free_three" 3 #v[.v 0,.v 1,.v 2]]) (.c (.bl true))],.ret (.tup #v[.ix (.v 3) (.c (.int 0)),.ix (.v 3) (.c (.int 1)),.bi .tuple #v[.bi .sorted #v[.v 4]]])]
abbrev bf:Ss:=
 #v[.set 1 (.lst #v[.tup #v[.tup #v[.c (.int 1),.c (.int 0)],.disp #v[.tup #v[.c (.int 0),.c (.int 0)],.lst #v[.c (.int 0)]],.c (.int 3)],.tup #v[.tup #v[.c (.int 0),.c (.int 2),.c (.int 1)],.disp #v[.tup #v[.c (.int 1),.c (.int 1)],.lst #v[.c (.int 1)]],.c (.int 2)],.tup #v[.tup #v[.c (.int 0),.c (.int 1)],.disp #v[.tup #v[.c (.int 1),.c (.int 1)],.lst #v[.c (.int 1)]],.c (.int 3)]]),.ex (.me .append (.v 1) #v[.tup #v[.tup #v[.c (.int 0),.c (.int 1)],.disp #v[.tup #v[.c (.int 1),.c (.int 1)],.lst #v[.c (.int 1)],.tup #v[.c (.int 0),.c (.int 0)],.lst #v[.c (.int 1)]],.c (.int 3)]]),.ex (.me .append (.v 1) #v[.tup #v[.tup #v[.c (.int 0),.c (.int 1)],.disp #v[.tup #v[.c (.int 1),.c (.int 1)],.lst .nil],.c (.int 1)]]),.ex (.me .append (.v 1) #v[.tup #v[.tup #v[.c (.int 0),.c (.int 2),.c (.int 1)],.disp #v[.tup #v[.c (.int 0),.c (.int 0)],.lst #v[.c (.int 0)],.tup #v[.c (.int 0),.c (.int 1)],.lst #v[.c (.int 1)],.tup #v[.c (.int 1),.c (.int 0)],.lst #v[.c (.int 1)],.tup #v[.c (.int 1),.c (.int 1)],.lst #v[.c (.int 1)]],.c (.int 2)]]),.ex (.me .append (.v 1) #v[.tup #v[.tup #v[.c (.int 1),.c (.int 0)],.dnew,.c (.int 3)]]),.ex (.me .append (.v 1) #v[.tup #v[.tup #v[.c (.int 0),.c (.int 1),.c (.int 2)],.disp #v[.tup #v[.c (.int 2),.c (.int 2)],.lst #v[.c (.int 2)],.tup #v[.c (.int 1),.c (.int 2)],.lst #v[.c (.int 1)],.tup #v[.c (.int 2),.c (.int 1)],.lst #v[.c (.int 1)],.tup #v[.c (.int 1),.c (.int 1)],.lst #v[.c (.int 1),.c (.int 2)]],.c (.int 2)]]),.ex (.me .append (.v 1) #v[.tup #v[.tup #v[.c (.int 0),.c (.int 1),.c (.int 2)],.disp #v[.tup #v[.c (.int 0),.c (.int 0)],.lst #v[.c (.int 0),.c (.int 1)]],.c (.int 2)]]),.ret (.ix (.v 1) (.own "_law_pick" 2 #v[.v 0,.c (.int 9)]))]
abbrev cu:Ss:=
 #v[.set 5 (.disp #v[.tup #v[.c (.int 1),.c (.int 0)],.v 2,.tup #v[.c (.int 2),.c (.int 0)],.v 3,.tup #v[.c (.int 2),.c (.int 1)],.v 4]),.loop (.nm 6) (.seq (.bi .list #v[.v 5])) #v[.put (.v 5) (.tup #v[.ix (.v 6) (.c (.int 1)),.ix (.v 6) (.c (.int 0))]) (.ix (.v 0) (.ix (.v 5) (.v 6)))],.loop (.tp [7,8,9]) (.seq (.own "_law_turns" 0 .nil)) #v[.ite (.cmp .notin (.ix (.v 5) (.tup #v[.v 7,.v 9])) (.me .get (.v 1) #v[.tup #v[.ix (.v 5) (.tup #v[.v 7,.v 8]),.ix (.v 5) (.tup #v[.v 8,.v 9])],.lst #v[.ix (.v 5) (.tup #v[.v 7,.v 9])]])) #v[.ret (.c (.bl true))] .nil],.ret (.c (.bl false))]
abbrev aM:Ss:=
 #v[.set 3 (.bi .len #v[.v 1]),.set 4 (.lst #v[.lst #v[.tup #v[.c (.int 0)]],.lst #v[.tup #v[.c (.int 0),.c (.int 1)],.tup #v[.c (.int 1),.c (.int 0)]]]),.ex (.me .append (.v 4) #v[.lst #v[.tup #v[.c (.int 0),.c (.int 1),.c (.int 2)],.tup #v[.c (.int 0),.c (.int 2),.c (.int 1)],.tup #v[.c (.int 2),.c (.int 0),.c (.int 1)],.tup #v[.c (.int 2),.c (.int 1),.c (.int 0)]]]),.set 5 (.ix (.v 4) (.op .sub (.v 3) (.c (.int 1)))),.ite (.cmp .eq (.v 1) (.tup #v[.c (.int 0),.c (.int 1),.c (.int 2)])) #v[.set 5 (.own "_law_turns" 0 .nil)] .nil,.set 6 (.ix (.v 5) (.own "_law_pick" 2 #v[.v 0,.bi .len #v[.v 5]])),.set 7 (.op .mul (.lst #v[.c (.int 0)]) (.v 3)),.loop (.nm 8) (.rng #v[.v 3]) #v[.put (.v 7) (.ix (.v 6) (.v 8)) (.ix (.v 6) (.ix (.v 1) (.v 8)))],.set 9 .dnew,.loop (.tp [10,11]) (.seq (.v 2)) #v[.put (.v 9) (.tup #v[.ix (.v 6) (.v 10),.ix (.v 6) (.v 11)]) (.comp (.ix (.v 2) (.v 1)) (.nm 1) (.seq (.ix (.v 2) (.tup #v[.v 10,.v 11]))) .nil [gV,gV,ba 6])],.ret (.tup #v[.bi .tuple #v[.v 7],.v 9])]
abbrev bg:Ss:=
 #v[.set 1 (.own "_law_pick" 2 #v[.v 0,.c (.int 7)]),.ite (.cmp .eq (.v 1) (.c (.int 0))) #v[.ret (.own "_law_free_rule" 1 #v[.v 0])] .nil,.ite (.cmp .eq (.v 1) (.c (.int 1))) #v[.ret (.own "_law_one_way_rule" 1 #v[.v 0])] .nil,.asg [2,3,4] (.own "_law_laying_kind" 1 #v[.v 0]),.set 5 (.op .add (.c (.int 1)) (.own "_law_pick" 2 #v[.v 0,.v 4])),.asg [2,3] (.own "_law_numbered" 3 #v[.v 0,.v 2,.v 3]),.set 6 (.own "_law_rule_of" 4 #v[.v 0,.v 5,.v 2,.tup .nil]),.set 7 .dnew,.set 8 (.bi .len #v[.v 2]),.loop (.nm 9) (.rng #v[.op .mul (.op .mul (.v 8) (.v 8)) (.v 8)]) #v[.par 10 11 #v[.op .mod (.v 9) (.v 8),.op .mod (.op .fdiv (.v 9) (.v 8)) (.v 8)],.set 12 (.op .fdiv (.op .fdiv (.v 9) (.v 8)) (.v 8)),.ite (.own "_law_breaks" 5 #v[.v 2,.v 3,.v 10,.v 11,.v 12]) #v[.loop (.nm 13) (.seq (.own "_law_rising" 1 #v[.v 5])) #v[.set 14 (.tup #v[.tup #v[.ix (.v 13) (.c (.int 0)),.tup .nil],.tup #v[.ix (.v 13) (.c (.int 1)),.tup #v[.v 10]]]),.put (.v 7) (.own "_law_figure" 2 #v[.v 6,.op .add (.v 14) (.tup #v[.tup #v[.ix (.v 13) (.c (.int 2)),.tup #v[.v 11,.v 12]]])]) (.c (.bl true))]] .nil],.ret (.tup #v[.ix (.v 6) (.c (.int 0)),.ix (.v 6) (.c (.int 1)),.bi .tuple #v[.bi .sorted #v[.v 7]]])]
abbrev cv:Ss:=
 #v[.set 1 (.lst .nil),.loop (.nm 2) (.rng #v[.v 0]) #v[.loop (.nm 3) (.rng2 #v[.v 2,.v 0]) #v[.set 1 (.op .add (.v 1) (.comp (.tup #v[.v 2,.v 3,.v 1]) (.nm 1) (.rng2 #v[.v 3,.v 0]) .nil [gV,gV,ba 2,ba 3]))]],.ret (.v 1)]
abbrev bA:Ss:=
 #v[.asg [1,2] (.own "_law_sizes" 1 #v[.v 0]),.set 3 (.own "_law_rule_of" 4 #v[.v 0,.v 1,.own "_law_backs" 2 #v[.v 0,.v 2],.tup .nil]),.set 5 (.comp (.v 1) (.nm 1) (.rng #v[.v 2]) #v[.cmp .eq (.ix (.ix (.ix (.v 2) (.c (.int 1))) (.v 1)) (.c (.int 1))) (.v 1)] [gV,gV,ba 3]),.ite (.or (.cmp .eq (.v 5) (.lst .nil)) (.cmp .eq (.v 2) (.c (.int 1)))) #v[.ret (.v 3)] .nil,.set 6 (.ix (.v 5) (.own "_law_pick" 2 #v[.v 0,.bi .len #v[.v 5]])),.set 7 .dnew,.loop (.nm 4) (.rng #v[.own "_law_pick" 2 #v[.v 0,.c (.int 9)]]) #v[.set 8 (.own "_law_free_three" 3 #v[.v 0,.v 1,.v 2]),.ite (.and (.cmp .ne (.ix (.ix (.ix (.v 8) (.c (.int 1))) (.c (.int 1))) (.c (.int 0))) (.v 6)) (.cmp .notin (.v 6) (.ix (.ix (.v 8) (.c (.int 2))) (.c (.int 1))))) #v[.put (.v 7) (.own "_law_figure" 2 #v[.v 3,.v 8]) (.c (.bl true))] .nil],.ret (.tup #v[.ix (.v 3) (.c (.int 0)),.ix (.v 3) (.c (.int 1)),.bi .tuple #v[.bi .sorted #v[.v 7]]])]
abbrev aW:Ss:=
 #v[.set 1 (.op .add (.c (.int 1)) (.own "_law_pick" 2 #v[.v 0,.c (.int 3)])),.set 2 (.comp (.tup #v[.tup #v[.v 1,.tup .nil],.tup #v[.v 1,.tup #v[.c (.int 0)]],.tup #v[.v 1,.tup #v[.c (.int 0),.c (.int 0)]]]) (.nm 1) (.rng #v[.v 1]) #v[.cmp .eq (.own "_law_pick" 2 #v[.v 2,.c (.int 2)]) (.c (.int 0))] [gV,gV,ba 0]),.ret (.own "_law_rule_of" 4 #v[.v 0,.v 1,.tup #v[.c (.int 0)],.v 2])]
abbrev aC:Ss:=
 #v[.set 1 (.own "_law_pick" 2 #v[.v 0,.c (.int 3)]),.ite (.cmp .eq (.v 1) (.c (.int 0))) #v[.ret (.own "_law_rule_of" 4 #v[.v 0,.c (.int 1),.tup #v[.c (.int 0),.c (.int 1)],.comp (.tup #v[.tup #v[.c (.int 0),.tup .nil],.tup #v[.c (.int 0),.tup #v[.v 1]],.tup #v[.c (.int 0),.tup #v[.v 1,.v 1]]]) (.nm 1) (.rng #v[.c (.int 2)]) .nil [gV,gV]])] .nil,.ite (.cmp .eq (.v 1) (.c (.int 1))) #v[.set 2 (.own "_law_rule_of" 4 #v[.v 0,.c (.int 2),.tup #v[.c (.int 0),.c (.int 1)],.tup .nil]),.set 3 .dnew,.loop (.nm 4) (.seq (.own "_law_rising" 1 #v[.c (.int 2)])) #v[.loop (.tp [5,6,7]) (.seq (.lst #v[.tup #v[.c (.int 1),.c (.int 1),.c (.int 0)],.tup #v[.c (.int 1),.c (.int 1),.c (.int 1)],.tup #v[.c (.int 1),.c (.int 0),.c (.int 1)],.tup #v[.c (.int 0),.c (.int 1),.c (.int 1)]])) #v[.set 8 (.tup #v[.tup #v[.ix (.v 4) (.c (.int 0)),.tup .nil],.tup #v[.ix (.v 4) (.c (.int 1)),.tup #v[.v 5]]]),.put (.v 3) (.own "_law_figure" 2 #v[.v 2,.op .add (.v 8) (.tup #v[.tup #v[.ix (.v 4) (.c (.int 2)),.tup #v[.v 6,.v 7]]])]) (.c (.bl true))]],.ret (.tup #v[.ix (.v 2) (.c (.int 0)),.ix (.v 2) (.c (.int 1)),.bi .tuple #v[.bi .sorted #v[.v 3]]])] .nil,.set 9 (.op .add (.c (.int 2)) (.own "_law_pick" 2 #v[.v 0,.c (.int 2)])),.set 3 (.comp (.tup #v[.tup #v[.c (.int 0),.tup .nil],.tup #v[.v 1,.tup #v[.c (.int 0)]],.tup #v[.op .sub (.v 2) (.c (.int 1)),.tup #v[.c (.int 0),.c (.int 0)]]]) (.nm 1) (.rng #v[.v 9]) .nil [gV,gV,ba 9]),.ret (.own "_law_rule_of" 4 #v[.v 0,.v 9,.tup #v[.c (.int 0)],.sl (.v 3) .no (.yes (.op .add (.c (.int 1)) (.own "_law_pick" 2 #v[.v 0,.v 9])))])]
abbrev a7:Ss:=
 #v[.set 3 (.lst .nil),.loop (.nm 4) (.rng #v[.v 2]) #v[.set 5 (.own "_law_pick" 2 #v[.v 0,.bi .len #v[.ix (.v 1) (.c (.int 0))]]),.ex (.me .append (.v 3) #v[.tup #v[.v 5,.bi .tuple #v[.comp (.own "_law_pick" 2 #v[.v 2,.bi .len #v[.ix (.v 3) (.c (.int 1))]]) (.nm 1) (.rng #v[.v 4]) .nil [gV,gV,ba 0,ba 1]]]])],.ret (.bi .tuple #v[.v 3])]
abbrev bo:Ss:=
 #v[.ite (.cmp .is (.v 1) (.c .non)) #v[.ret (.cmp .is (.v 0) (.c .non))] .nil,.ite (.or (.isi "bool" (.v 1)) (.isi "bool" (.v 0))) #v[.ret (.and (.isi "bool" (.v 1)) (.and (.isi "bool" (.v 0)) (.cmp .eq (.v 0) (.v 1))))] .nil,.ite (.isi "int" (.v 1)) #v[.ret (.and (.isi "int" (.v 0)) (.cmp .eq (.v 0) (.v 1)))] .nil,.ite (.isi "str" (.v 1)) #v[.ret (.and (.isi "str" (.v 0)) (.cmp .eq (.v 0) (.v 1)))] .nil,.ite (.or (.cmp .ne (.isi "tuple" (.v 1)) (.isi "tuple" (.v 0))) (.cmp .ne (.isi "list" (.v 1)) (.isi "list" (.v 0)))) #v[.ret (.c (.bl false))] .nil,.ret (.and (.cmp .eq (.bi .len #v[.v 0]) (.bi .len #v[.v 1])) (.bi .all #v[.comp (.own "_law_alike" 2 #v[.ix (.v 3) (.v 1),.ix (.v 2) (.v 1)]) (.nm 1) (.rng #v[.bi .len #v[.v 1]]) .nil [gV,gV,ba 1,ba 0]]))]
abbrev cU:Ss:=
 #v[.set 1 (.own "_law_pick" 2 #v[.v 0,.c (.int 4)]),.ite (.cmp .eq (.v 1) (.c (.int 0))) #v[.ret (.own "_law_laying_rule" 1 #v[.v 0])] .nil,.ite (.cmp .eq (.v 1) (.c (.int 1))) #v[.ret (.own "_law_unlaying_rule" 1 #v[.v 0])] .nil,.ret (.own "_law_any_rule" 1 #v[.v 0])]
abbrev Is (defs:EI (E3×Df))(f:E3)(np nn:EV)(b:Ss):Prop:=∃df:Df,defs.lookup f=ba df/\df.ps.length=np/\df.N.length=nn/\df.body=b
def aw {defs:EI (E3×Df)}{fuel d:EV}{f:E3}{np nn:EV}{b:Ss}{ws:EI W}{S:aa}{Q:QW}(h:Is defs f np nn b)(hl:ws.length=np)(ok:eQ b=true)
  (hb:∀Q':QO,(∀w S',Q (w,S')->Q' (.rt w,S'))->wZ (ak defs fuel d) fuel b (ws.map ba++Fw (nn - np) gV) S Q'):wO (aQ (ak defs fuel (d+1)) f np ws S) Q:=by
 obtain⟨df,h1,h2,h3,h4⟩:=h;subst h4;show Ai h1 hl (hl.trans h2.symm) ok λQ' hR=>?_
 have:=hb Q' hR;unfold dE;rw[h3,hl];exact this
structure Gen (defs:EI (E3×Df)):Prop where
 pick:Is defs ("_law_pick" : E3) 2 4 bD
 letters:Is defs ("_law_letters" : E3) 2 2 bY
 name:Is defs ("_law_name" : E3) 2 3 dF
 names:Is defs ("_law_names" : E3) 2 7 bH
 between:Is defs ("_law_between" : E3) 4 4 bZ
 part:Is defs ("_law_part" : E3) 3 6 dG
 turns:Is defs ("_law_turns" : E3) 0 0 d6
 figure:Is defs ("_law_figure" : E3) 2 2 cr
 backs:Is defs ("_law_backs" : E3) 2 3 cZ
 rule_of:Is defs ("_law_rule_of" : E3) 4 6 b6
 free_three:Is defs ("_law_free_three" : E3) 3 5 br
 sizes:Is defs ("_law_sizes" : E3) 1 2 c7
 any_rule:Is defs ("_law_any_rule" : E3) 1 6 bM
 laying_kind:Is defs ("_law_laying_kind" : E3) 1 2 bf
 breaks:Is defs ("_law_breaks" : E3) 5 10 cu
 numbered:Is defs ("_law_numbered" : E3) 3 12 aM
 laying_rule:Is defs ("_law_laying_rule" : E3) 1 15 bg
 rising:Is defs ("_law_rising" : E3) 1 4 cv
 free_rule:Is defs ("_law_free_rule" : E3) 1 9 bA
 one_way_rule:Is defs ("_law_one_way_rule" : E3) 1 3 aW
structure FlA (S:aa)(r q:EV)(ns:EI E5)(i c x n:E5):Prop where
 at_r:S[r]?=ba (.lst [.ref q,.int i,.int c,.int x,.int n])
 at_q:S[q]?=ba (.lst (ns.map W.int))
 lt:q < r
 i0:0<=i
 c0:0<=c
 x0:0<=x
 x1:x < 2147483647
def FlA.ne {S:aa}{r q:EV}{ns:EI E5}{i c x n:E5}(h:FlA S r q ns i c x n):q≠r:=Fg h.lt
abbrev Fl (S:aa)(r:EV):Prop:=∃(q:EV) (ns:EI E5) (i c x n:E5),FlA S r q ns i c x n
def FlA.put {S:aa}{r q:EV}{ns:EI E5}{i c x n i' c' x' n':E5}(h:FlA S r q ns i c x n)(h1:0<=i')(h2:0<=c')(h3:0<=x')(h4:x' < 2147483647):FlA (S.set r (.lst [.ref q,.int i',.int c',.int x',.int n'])) r q ns i' c' x' n':=
 #[bC h.at_r,by rw[bw (Ne.symm h.ne)]; exact h.at_q,h.lt,h1,h2,h3,h4]
def Fl.keep {S S':aa}{r:EV}(h:Fl S r)(h1:S'[r]?=S[r]?)(k:Kp r S S'):Fl S' r:=
 let ⟨q,ns,i,c,x,n,f⟩:=h; #[q,ns,i,c,x,n,by rw[h1]; exact f.at_r,k.get _ _ f.ne f.at_q,f.lt,f.i0,f.c0,f.x0,f.x1]
def Fl.lt {S:aa}{r:EV}(h:Fl S r):r < S.length:=let ⟨_,_,_,_,_,_,f⟩:=h; du f.at_r
structure Ka (S S':aa):Prop where
 get:∀(j:EV) (o:O),S[j]?=ba o->S'[j]?=ba o
 len:S.length<=S'.length
def Ka.refl {S:aa}:Ka S S:=#[λ_ _ h=>h,E2 _]
def Ka.trans {S S' S'':aa}(a:Ka S S')(b:Ka S' S''):Ka S S'':=#[λj o h=>b.get j o (a.get j o h),F2 a.len b.len]
def Ka.push {S:aa}{o:O}:Ka S (S++[o]):=#[λj u h=>aq h,by simp]
def Ka.late {t:EV}{S0 S:aa}{o:O}(a:Ka S0 S)(h:S0.length<=t):Ka S0 (S.set t o):=
 #[λj u e=>by have:=du e; rw[bw ∅]; exact a.get j u e,by simpa using a.len]
def Ka.kp {S S':aa}(a:Ka S S')(r:EV):Kp r S S':=#[λj o _ h=>a.get j o h,a.len]
def Fl.ka {S S':aa}{r:EV}(h:Fl S r)(k:Ka S S'):Fl S' r:=h.keep (by obtain⟨q,ns,i,c,x,n,f⟩:=h; rw[k.get _ _ f.at_r,f.at_r]) (k.kp r)
def Fl.own {S:aa}{r t:EV}{o:O}(h:Fl S r)(ht:r < t):Fl (S.set t o) r:=by
 obtain⟨q,ns,i,c,x,n,f⟩:=h;have:=f.lt;exact#[q,ns,i,c,x,n,by rw[bw ∅]; exact f.at_r,by rw[bw ∅]; exact f.at_q,f.lt,f.i0,f.c0,f.x0,f.x1]
def cW {S:aa}{r:EV}{xs:EI W}{i:EV}{w:W}{Q:QW}(h:S[r]?=ba (.lst xs))(hw:xs[i]?=ba w)(q:Q (w,S)):wO (mr (.ref r) (.int (i:E5)) S) Q:=ae (tF h (FB i) (by rw[Ff]; exact hw)) q
def jt {S:aa}{r:EV}{xs:EI W}{i:EV}{w:W}{Q:aa->Prop}(h:S[r]?=ba (.lst xs))(hi:NO (i+1) xs.length=true)(q:Q (S.set r (.lst (xs.set i w)))):wO (fj (.ref r) (.int (i:E5)) w S) Q:=ae (ym h (FB i) (by rw[Ff]; exact IE hi)) (by rw[Ff]; exact q)
section
variable{defs:EI (E3×Df)}{fuel d:EV}{S:aa}{r:EV}{Q:QW}
def aB (hd:Is defs ("_law_pick" : E3) 2 4 bD){m:E5}(hf:Fl S r)(h0:0 < m)(h1:m < 1073741824)(k:∀v S',0<=v->v < m->Fl S' r->Kp r S S'->Q (.int v,S')) :
  wO (aQ (ak defs fuel (d+1)) "_law_pick" 2 [.ref r,.int m] S) Q:=by
 obtain⟨q,ns,i,c,x,n,f⟩:=hf;show aw hd rfl rfl λQ' hR=>?_
 replace k:∀v S',0<=v->v < m->Fl S' r->Kp r S S'->Q' (.rt (.int v),S'):=λv S' a b c e=>hR _ _ (k v S' a b c e)
 clear hR;change wZ _ _ bD [ba (.ref r),ba (.int m),gV,gV] S Q';have aY:∀(S1:aa) (w2:EO W) (i1 c1 x1 n1:E5),FlA S1 r q ns i1 c1 x1 n1->Kp r S S1->wZ (ak defs fuel d) fuel (match bD with|.cons _ ss=>ss|.nil=>.nil) [ba (.ref r),ba (.int m),w2,gV] S1 Q':=by
  intro S1 w2 i1 c1 x1 n1 f1 k1;dsimp only[bD];show st ?_;dsimp only[wS,wT,wE,wV,wG];show cW (i:=2) f1.at_r rfl ?_;dsimp only[DU,wO,wB];show am (Q0:=Q') (λhg Q2 hn hr=>?_) (λhg Q2 hn hr=>?_)
  ·clear hn;show st ?_;dsimp only[wS,wE,wV,wG];show cW (i:=2) f1.at_r rfl (ae (iD h0) ?_);show st ?_;dsimp only[wS,wE,wV,wG,E7];show cW (i:=2) f1.at_r rfl (ae (iE h0 h1) (jt (i:=2) f1.at_r rfl ?_));show st ?_;dsimp only[wS,wE,wV,wG,E7];exact hr _ _ (k _ _ (HK _ ∅) (Hi _ h0) #[q,ns,i1,c1 / m,x1,n1,f1.put f1.i0 (L3 f1.c0 ∅) f1.x0 f1.x1] (k1.trans .set))
  ·show bO (hn _ _ ?_);clear hn hr;have f2:FlA (S1.set r (.lst [.ref q,.int i1,.int c1,.int x1,.int (n1+1)])) r q ns i1 c1 x1 (n1+1):=f1.put f1.i0 f1.c0 f1.x0 f1.x1;show st ?_;dsimp only[wS,wE,wV,wG];show cW (i:=4) f1.at_r rfl ?_;dsimp only[bG,wO];show jt (i:=4) f1.at_r rfl ?_;show st ?_;dsimp only[wS,wE,wV,wG,E7];show cW (i:=3) f2.at_r rfl (ae (oK #v[] #v[]) ?_)
   dsimp only[bG,wO];show cW (i:=4) f2.at_r rfl ?_;dsimp only[bG,wO];show(jt (i:=3) f2.at_r rfl ?_);have f3:FlA ((S1.set r (.lst [.ref q,.int i1,.int c1,.int x1,.int (n1+1)])).set r (.lst [.ref q,.int i1,.int c1,.int ((x1*48271+12820163+(n1+1)) % 2147483647),.int (n1+1)])) r q ns i1 c1 ((x1*48271+12820163+(n1+1)) % 2147483647) (n1+1):=f2.put f1.i0 f1.c0 (HK _ #v[]) (Hi _ #v[])
   dsimp only[E7];generalize(x1*48271+12820163+(n1+1)) % 2147483647=y at f3 ⊢;have b1:y / 65521+7919 < 2 ^ 64:=by
    have:=f3.x1;have:=Int.ediv_le_self 65521 f3.x0;omega
   have b2 : -(2 ^ 64) < y / 65521+7919:=by
    have:=L3 f3.x0 (show(0:E5)<=65521 by decide)
    omega
   show st ?_;dsimp only[wS,wE,wV,wG,E7];show cW (i:=3) f3.at_r rfl (ae (iD #v[]) ?_)
   dsimp only[bG,wO];show cW (i:=3) f3.at_r rfl ?_;dsimp only[bG,wO];show ae (oK b2 b1) ?_;show ae (iD h0) ?_;exact k _ _ (HK _ ∅) (Hi _ h0) #[q,ns,_,_,_,_,f3] (k1.trans (Kp.set.trans .set))
 dsimp only[bD]at aY ⊢;show st ?_;dsimp only[wS,wT,wE,wV,wG,wA];show cW (i:=2) f.at_r rfl ?_;dsimp only[dN,wO,wB];have skip:∀Q2:QO,(∀Z' S',wZ (ak defs fuel d) fuel _ Z' S' Q'->Q2 (.nx Z',S'))->Q2 (.nx [ba (.ref r),ba (.int m),gV,gV],S):=λQ2 hn=>hn _ _ (aY S gV i c x n f .refl)
 show#[λ_=>?_,λ_ Q2 hn hr=>#[λz=>(by cases z),λ_=>(bO (skip Q2 hn)).out]]
 show cW (i:=1) f.at_r rfl (cW (i:=0) f.at_r rfl (ae (yn f.at_q) ?_));dsimp only[Ck,wO,wB];show am (Q0:=Q') (λhl Q2 hn _=>?_) (λhg Q2 hn hr=>bO (skip Q2 hn))
 clear skip;have hl':i.toNat < ns.length:=by
  have:=F1 hl;rw[ER]at this;have:=f.i0;omega
 have hcell:(ns.map W.int)[i.toNat]?=ba (.int ns[i.toNat]):=by simp[hl']
 generalize ns[i.toNat]=cell at hcell;have f1:FlA (S.set r (.lst [.ref q,.int (i+1),.int c,.int x,.int n])) r q ns (i+1) c x n:=f.put (by have:=f.i0; omega) f.c0 f.x0 f.x1
 show st ?_;dsimp only[wS,wE,wV,wG];show cW (i:=0) f.at_r rfl (cW (i:=1) f.at_r rfl (ae (tF f.at_q f.i0 hcell) ?_));show st ?_;dsimp only[wS,wE,wV,wG,E7];show cW (i:=1) f.at_r rfl ?_;dsimp only[bG,wO];show jt (i:=1) f.at_r rfl ?_;show st ?_;dsimp only[wS,wT,wE,wV,wG,Ag,DV,wO,wB];show am (Q0:=Q') (λhg Q3 hn3 _=>?_) (λhg Q3 hn3 _=>?_)
 ·show st ?_;dsimp only[wS,wE,wV,wG];show jt (i:=2) f1.at_r rfl (bO (hn3 _ _ (bO (hn _ _ ?_))));exact aY _ _ (i+1) cell x n (f1.put f1.i0 (by have:=F1 hg; omega) f.x0 f.x1) (Kp.set.trans .set)
 ·show st ?_;dsimp only[wS,wE,wV,wG];show cW (i:=3) f1.at_r rfl (ae (oK #v[] #v[]) (ae (iD #v[]) ?_))
  dsimp only[bG,wO];show jt (i:=3) f1.at_r rfl (bO (hn3 _ _ (bO (hn _ _ ?_))));exact aY _ _ (i+1) c _ n (f1.put f1.i0 f.c0 (HK _ #v[]) (Hi _ #v[])) (Kp.set.trans .set)
end
abbrev dr:EV->Ss->Ss
 | 0,ss=>ss
 | n+1,.cons _ ss=>dr n ss
 | _,.nil=>.nil
def ar {α:Type}{a:α}{Q:α->Prop}:wO (ba a) Q=Q a:=rfl
def aE {M:E3->FF}{fuel:EV}{Z:Fm}{S:aa}{Q:QO}{s:Sm}{ss:Ss}(h:∀K:Fm->aa->Prop,(∀Z' S',wZ M fuel ss Z' S' Q->K Z' S')->wS M fuel s Z S K Q):wZ M fuel (.cons s ss) Z S Q:=st (h _ λ_ _ h=>h)
def Cv {M:E3->FF}{fuel:EV}{Z:Fm}{S:aa}{i:EV}{e:E}{K:Fm->aa->Prop}{Q:QO}(h:wE M e Z S λp=>K (Z.set i (ba p.1)) p.2):wS M fuel (.set i e) Z S K Q:=h
def dv {n:EV}(h:NO n 1000=true):n<=sizeLine:=F2 (IE h) (by rw[FX]; decide)
def few {n:EV}(h:n<=1000):n<=sizeLine:=F2 h (by rw[FX]; decide)
def gB {S:aa}{r:EV}{xs:EI W}{i:E5}{w:W}{Q:QW}(h:S[r]?=ba (.lst xs))(h0:0<=i)(hw:xs[i.toNat]?=ba w)(q:Q (w,S)):wO (mr (.ref r) (.int i) S) Q:=ae (tF h h0 hw) q
def al {S:aa}{xs:EI W}{i:E5}{w:W}{Q:QW}(h0:0<=i)(hw:xs[i.toNat]?=ba w)(q:Q (w,S)):wO (mr (.tup xs) (.int i) S) Q:=ae (Cn h0 hw) q
def ju {S:aa}{r:EV}{xs:EI W}{y:W}{Q:QW}(h:S[r]?=ba (.lst xs))(hl:xs.length < 1000)(q:Q (.non,S.set r (.lst (xs++[y])))):wO (Me.append.fn (.ref r) [y] S) Q:=ae (tH h (Fp hl (dv rfl))) q
def oN {S:aa}{r:EV}{xs:EI W}{Q:QW}(h:S[r]?=ba (.lst xs))(q:Q (.int xs.length,S)):wO (Bi.len.fn [.ref r] S) Q:=ae (yn h) q
def bE {S:aa}{xs:EI W}{Q:QW}(q:Q (.int xs.length,S)):wO (Bi.len.fn [.tup xs] S) Q:=q
def dw {S:aa}{r:EV}{xs:EI W}{Q:QW}(h:S[r]?=ba (.lst xs))(q:Q (.tup xs,S)):wO (Bi.tuple.fn [.ref r] S) Q:=ae (Co h) q
section
variable{M:E3->FF}{fuel:EV}{Z:Fm}{S S1:aa}{K:Fm->aa->Prop}
def bS {t:E}{a:Ss}{Q:QO}(ht:∀Q:QB,Q (false,S1)->wT M t Z S Q)(h:K Z S1):wS M fuel (.ite t a .nil) Z S K Q:=by
 dsimp only[wS];exact ht _ λQ' h1 h2=>#[λz=>(by cases z),λ_=>(bO (h1 _ _ h)).out]
def iF {t:E}{a b:Ss}{Q:QO}(ht:∀Q:QB,Q (true,S1)->wT M t Z S Q)(h:∀Q':QO,(∀Z' S',K Z' S'->Q' (.nx Z',S'))->(∀w S',Q (.rt w,S')->Q' (.rt w,S'))->wZ M fuel a Z S1 Q'):wS M fuel (.ite t a b) Z S K Q:=by
 dsimp only[wS];exact ht _ λQ' h1 h2=>#[λ_=>(h Q' h1 λw S' q=>h2 (.rt w) S' (λ_ z=>nomatch z) q).out,λz=>(by cases z)]
end
def tM:∀k:Fin 26,("abcdefghijklmnopqrstuvwxyz" : E3).cps.toList[k.val]?=ba (97+k.val):=by decide
def oO:("abcdefghijklmnopqrstuvwxyz" : E3).length<=sizeLine:=by decide
def iG:∀cs:EI EV,dS (cs.map λc=>W.str #[[c].toArray])=ba (cs.map λc=>(#[[c].toArray] : E3))
 | []=>rfl
 | c::cs=>by simp[dS,iG cs]
def jv:∀cs:EI EV,((cs.map λc=>(#[[c].toArray] : E3)).map (·.length)).sum=cs.length
 | []=>rfl
 | c::cs=>by
  have:=jv cs;simp only[FV,MK,Fy];rw[this];change 1+cs.length=_;omega
def dH (a b:E3):(a++b).cps.toList=a.cps.toList++b.cps.toList:=Array.toList_append
def iH:∀cs:EI EV,(NI "" (cs.map λc=>(#[[c].toArray] : E3))).cps.toList=cs
 | []=>rfl
 | [c]=>rfl
 | c::d::cs=>by
  have ih:=iH (d::cs);show(((#[[c].toArray] : E3)++("" : E3)++NI "" ((d::cs).map λc=>(#[[c].toArray] : E3))).cps).toList=_
  rw[dH,dH,ih];rfl
def lT (cs:EI EV):(Mk "" (cs.map λc=>(#[[c].toArray] : E3))).cps.toList=cs:=by
 show(Nw "" _).cps.toList=_;rw[Kb];exact iH cs
abbrev oP (y:E3):Prop:=∀c∈y.cps.toList,97<=c/\c<=122
abbrev Name (y:E3):Prop:=1<=y.cps.toList.length/\y.cps.toList.length<=8/\oP y
def gR (y:E3):y.length=y.cps.toList.length:=by simp[HU]
abbrev tN:EI E3:=["markss","mark","way","wayss","bars","ba","somex","eachx","note","no","ands","ors","o","iss"]
def qx:∀y∈tN,Name y:=by
 have h:tN.all (λy=>decide (1<=y.cps.toList.length/\y.cps.toList.length<=8)&&y.cps.toList.all λc=>decide (97<=c/\c<=122))=true:=by decide
 intro y hy;have:=Fu.mp h y hy;rw[ES]at this;obtain⟨a,b⟩:=this;exact#[(F1 a).1,(F1 a).2,λc hc=>F1 (Fu.mp b c hc)]
def iI {α:Type}{f:α->W}{xs:EI α}{i:EV}(h:i < xs.length):∃x∈xs,(xs.map f)[i]?=ba (f x):=#[xs[i],Gh _,by rw[E1,EZ h]; rfl]
section
variable{defs:EI (E3×Df)}{fuel d:EV}{S:aa}{r:EV}{Q:QW}
def gf (G:Gen defs){m:E5}(hf:Fl S r)(h0:0<=m)(h1:m<=1000)(k:∀y S',y.cps.toList.length=m.toNat->oP y->Fl S' r->Kp r S S'->Q (.str y,S')) :
  wO (aQ (ak defs fuel (d+2)) "_law_letters" 2 [.ref r,.int m] S) Q:=by
 show aw G.letters rfl rfl λQ' hR=>?_
 change wZ _ _ bY [ba (.ref r),ba (.int m)] S Q';dsimp only[bY];show st ?_;dsimp only[wS,wE,wA];show#[rfl,cY m (λi ys Z S'=>(∃a,Z=[gV,a,ba (.ref r)])/\Fl S' r/\Kp r S S'/\∃cs:EI EV,ys=cs.map (λc=>W.str #[[c].toArray])/\cs.length=i/\∀c∈cs,97<=c/\c<=122) rfl rfl rfl #[∅,∅] #[rfl,#[gV,rfl],hf,.refl,[],rfl,rfl,λ_ h=>nomatch h] ?_ ?_]
 ·rintro i ys Z S1 hi ⟨⟨a,rfl⟩,f1,k1,cs,rfl,hl,hc⟩;dsimp only[gK,wC,wE,wA,wV,wG,E7];show#[λ_=>aB (d:=d) G.pick f1 #v[] #v[] λv S2 h2 h3 f2 k2=>?_,λz=>by cases z]
  have ha:=tM #[v.toNat,∅]
  show ae (yk oO h2 ha) #[#[_,rfl],f2,k1.trans k2,cs++[97+v.toNat],by simp,by simp[hl],λc hx=>?_]
  rcases FR.mp hx with h|h
  ·exact hc c h
  ·rw[Fb.mp h]; omega
 ·rintro ys Z S1 ⟨_,f1,k1,cs,rfl,hl,hc⟩;show#[by rw[ER,hl,FX]; omega,?_]
  have hz:((cs.map λc=>(#[[c].toArray] : E3)).map (·.length)).sum+(cs.map λc=>(#[[c].toArray] : E3)).length*("" : E3).length<=16777216:=by
   rw[jv,show("" : E3).length=0 from rfl,Nat.mul_zero]
   omega
  show ae (a:=(.str (Mk "" (cs.map λc=>(#[[c].toArray] : E3))),S1++[.lst (cs.map λc=>W.str #[[c].toArray])])) ?_ (hR _ _ (k _ _ (by rw[lT,hl]) (λc h=>hc c (by rw[lT]at h; exact h)) (f1.ka .push) (k1.trans .push)))
  simp only[Me.fn,lb,bQ,ap ag,iG];rw[Fi hz]
def Aj (G:Gen defs){y:E3}(hf:Fl S r)(h0:y.cps.toList.length<=6)(h1:oP y)(k:∀z S',Name z->Fl S' r->Kp r S S'->Q (.str z,S')) :
  wO (aQ (ak defs fuel (d+3)) "_law_name" 2 [.ref r,.str y] S) Q:=by
 show aw G.name rfl rfl λQ' hR=>?_
 replace k:∀z S',Name z->Fl S' r->Kp r S S'->Q' (.rt (.str z),S'):=λz S' a b c=>hR _ _ (k z S' a b c)
 clear hR;change wZ _ _ dF [ba (.ref r),ba (.str y),gV] S Q';dsimp only[dF];nofun
 dsimp only[wS,wT,wE,wV,wG,Cm,wO,wB];show am (Q0:=Q') (λ_ Q2 _ hr=>?_) (λ_ Q2 hn _=>?_)
 ·show st ?_;left;show aB (d:=d+1) G.pick hf #v[] #v[] λv S1 v0 v1 f1 k1=>?_
  dsimp only[bG,wO];show gf (d:=d) G f1 ∅ ∅ λz S2 hz hs f2 k2=>?_
  have hl:(y++z).cps.toList.length=y.cps.toList.length+z.cps.toList.length:=by rw[dH,E6]
  show ae (Ah (by rw[gR,gR,FX]; omega)) (hr _ _ (k _ _ #[∅,∅,λc hc=>?_] f2 (k1.trans k2)))
  rw[dH]at hc;exact(FR.mp hc).elim (h1 c) (hs c)
 ·show bO (hn _ _ (hK _ _ ?_));clear hn hK;nofun
  dsimp only[wS,wT,wE,wA,wV,wG];show aB (d:=d+1) G.pick hf #v[] #v[] λv S1 v0 v1 f1 k1=>?_
  dsimp only[dN,wO,wB];show am (Q0:=Q') (λ_ Q2 _ hr=>?_) (λ_ Q2 hn _=>?_)
  ·show st ?_;left;show st ?_;left;show ae (nu (i:=S1.length) (j:=(S1++[_]).length) (aq ag) ag (dv rfl)) ?_;dsimp only;show st ?_;left;show aB (d:=d+1) G.pick (((f1.ka .push).ka .push).ka .push) #v[] #v[] λv S2 v0 v1 f2 k2=>?_
   have e:=k2.get _ _ (by have:=f1.lt; simp only[E6]; omega) ag
   obtain⟨z,hz,ez⟩:=iI (f:=W.str) (xs:=tN) (i:=v.toNat) (by change v.toNat < 14; omega)
   exact gB e v0 ez (hr _ _ (k _ _ (qx z hz) f2 (k1.trans (Kp.push.trans (Kp.push.trans (Kp.push.trans k2))))))
  ·show bO (hn _ _ (hK _ _ ?_));clear hn hK;show st ?_;left;show aB (d:=d+1) G.pick f1 #v[] #v[] λv S2 v0 v1 f2 k2=>?_
   dsimp only[bG,wO];exact gf (d:=d) G f2 ∅ ∅ λz S3 hz hs f3 k3=>k _ _ #[∅,∅,hs] f3 (k1.trans (k2.trans k3))
end
def nw {α:Type}[HR α]:∀(l m:EI α),l.Nodup->(∀x∈l,x∈m)->l.length<=m.length
 | [],_,_,_=>GC _
 | x::l,m,hn,hs=>by
  rw[HI]at hn;have hx:x∈m:=hs x (.head _);have h1:=nw l (m.erase x) hn.2 λy hy=>(List.mem_erase_of_ne (λ(e:y=x)=>hn.1 (by rw[<- e]; exact hy))).mpr (hs y (.tail _ hy))
  rw[List.length_erase_of_mem hx]at h1;have:=List.length_pos_of_mem hx;rw[Fy]; omega
abbrev iU (k:EV):E3:=#[[97+k].toArray]
def tP {a b:EV}(h:iU a=iU b):a=b:=by
 unfold iU at h;injection h with h
 injection h with h
 injection h with h
 omega
def lU (s:EV):((Gn s).map iU).Nodup:=by
 unfold Mq;rw[IC];exact List.nodup_range.imp λh e=>h (tP e)
def qy {k:EV}(h:k < 26):Name (iU k):=#[E2 1,(by decide:1<=8),λc hc=>by
 cases Fb.mp (show c∈[97+k]from hc)
 omega]
abbrev eR:EI E3:=["marks","ways","bar","some","each","not","and","or","is"]
def fE (zs:EI E3):(zs.map W.str).all aZ=true:=by
 rw[Fu];intro x hx;obtain⟨z,_,rfl⟩:=Fx.mp hx;rfl
def oQ (zs:EI E3)(y:E3):((zs.map W.str).any λz=>mM z (.str y))=decide (y∈zs):=by
 induction zs with
 | nil=>rfl
 | cons z zs ih=>
  rw[FV,Hc,ih];show((z==y)||_)=_
  by_cases h:z=y
  ·subst h; simp
  ·have:(z==y)=false:=by simpa using h
   rw[this,Jv];have h2:(y∈z::zs)=(y∈zs):=by simp[Ne.symm h]
   simp only[h2]
def jw {S:aa}{t:EV}{zs:EI E3}{y:E3}(h:S[t]?=ba (.lst (zs.map W.str))):cV .isin (.str y) (.ref t) S=ba (.bl (decide (y∈zs)),S):=by
 (dsimp only[cV,rT,dq,vN,vM,bQ]; simp only[kD h,ap h])
 rw[Fi (by rw[fE]; rfl),oQ]
 rfl
def Ak {S:aa}{k:EV}:dQ .mul (.str #[[k].toArray]) (.int 1) S=ba (.str #[[k].toArray],S):=by
 dsimp only[dQ,rE];rw[Fi #[#v[],#v[],by change 1*1<=sizeLine; rw[FX]; decide]]
 rfl
def fF {xs:EI W}{k:EV}:gF xs gV (ba (k:E5))=xs.take k:=by
 unfold gF;rw[HT.kS,HT.nK,Mr,MV]
 by_cases h:k<=xs.length
 ·rw[L4 h]
 ·rw[LQ ∅,G9 (E2 _),G9 ∅]
def lV {xs:EI W}{k:EV}:gF xs (ba (k:E5)) gV=xs.drop k:=by
 unfold gF;rw[HT.kS,HT.nK]
 by_cases h:k<=xs.length
 ·rw[L4 h,G9 (by rw[GX]; exact E2 _)]
 ·rw[LQ ∅,JQ (E2 _),JQ ∅]; exact List.take_nil
section
variable{defs:EI (E3×Df)}{fuel d:EV}{S:aa}{r:EV}{Q:QW}
def xm {M:E3->FF}{m z w:W}{t:EV}{y:E3}{zs:EI E3}{K:Fm->aa->Prop}{Q:QO}(hfu:20 < fuel)(hy:Name y)(e:S[t]?=ba (.lst (zs.map W.str)))(hl:zs.length<=15)
  (k:∀y s,Name y->y∉zs->K [ba (.ref r),ba m,ba z,ba (.ref t),ba w,ba (.str y),ba s] S) :
  wS M fuel (.whl (.cmp .isin (.v 5) (.v 3)) #v[.set 5 (.op .mul (.ix (.c (.str "abcdefghijklmnopqrstuvwxyz")) (.op .mod (.v 6) (.c (.int 26)))) (.op .add (.c (.int 1)) (.op .fdiv (.v 6) (.c (.int 26))))),.set 6 (.op .add (.v 6) (.c (.int 1)))])
   [ba (.ref r),ba m,ba z,ba (.ref t),ba w,ba (.str y),ba (.int 0)] S K Q:=by
 dsimp only[wS];show Cu (λmm Z S'=>∃(s:EV) (y:E3),Z=[ba (.ref r),ba m,ba z,ba (.ref t),ba w,ba (.str y),ba (.int s)]/\S'=S/\mm+s=18/\s<=16/\Name y/\(0 < s->y=iU (s - 1))/\∀k,k+1 < s->iU k∈zs) 18 rfl rfl ∅ #[0,y,rfl,rfl,rfl,∅,hy,λh=>absurd h ∅,λk h=>absurd h ∅] ?_
 rintro mm Z S' ⟨s,y',rfl,rfl,hm,hs,hy',hc1,hc2⟩;dsimp only[wT,wE,wV,wG];show ae (jw e) #[λhin=>?_,λhout=>k _ _ hy' (K6 hout)]
 have all:∀k,k < s->iU k∈zs:=λk hk=>by
  by_cases h:k+1 < s
  ·exact hc2 k h
  ·have e:k=s - 1:=∅
   rw[e,<- hc1 ∅]; exact F1 hin
 have hs15:s<=15:=by
  have h7:=nw ((Gn s).map iU) zs (lU s) λx hx=>by
   obtain⟨k,hk,rfl⟩:=Fx.mp hx;exact all k (Hz.mp hk)
  rw[ER,HQ]at h7;omega
 show#[mm - 1,∅,λQ2 hn _=>?_]
 have em:((s:E5) % 26)=s:=Int.emod_eq_of_lt ∅ ∅
 have ed:((s:E5) / 26)=0:=Int.ediv_eq_zero_of_lt ∅ ∅
 show st ?_;dsimp only[wS,wE,wV,wG,E7];show ae (iD #v[]) ?_
 rw[em];show ae (yk (i:=(s:E5)) oO (FB s) (tM #[s,∅])) ?_
 have e2:dQ .fdiv (.int s) (.int 26) S'=ba (.int 0,S'):=by rw[iE ∅ ∅,ed]
 dsimp only;rw[e2];dsimp only[bG,ar];rw[show(1:E5)+0=1 from rfl]
 show ae Ak ?_;show st ?_;dsimp only[wS,wE,wV,wG,E7,bG,ar];exact bO (hn _ _ #[s+1,iU s,rfl,rfl,∅,∅,qy ∅,λ_=>rfl,λk hk=>all k ∅])
def xn (hfu:20 < fuel)(G:Gen defs){m:EV}(hf:Fl S r)(h1:m<=6)(k:∀(ys:EI E3) S',ys.length=m->(∀y∈ys,Name y)->(eR++ys).Nodup->Fl S' r->Kp r S S'->Q (.tup (ys.map W.str),S')) :
  wO (aQ (ak defs fuel (d+4)) "_law_names" 2 [.ref r,.int m] S) Q:=by
 show aw G.names rfl rfl λQ' hR=>?_
 replace k:∀(ys:EI E3) S',ys.length=m->(∀y∈ys,Name y)->(eR++ys).Nodup->Fl S' r->Kp r S S'->Q' (.rt (.tup (ys.map W.str)),S'):=λz S' a b c e f=>hR _ _ (k z S' a b c e f)
 clear hR;change wZ _ _ bH [ba (.ref r),ba (.int m),gV,gV,gV,gV,gV] S Q';have aY:∀(z:E3) (S2:aa),z.cps.toList.length<=6->oP z->Fl S2 r->Kp r S S2->wZ (ak defs fuel (d+3)) fuel (dr 2 bH) [ba (.ref r),ba (.int m),ba (.str z),gV,gV,gV,gV] S2 Q':=by
  intro z S2 hz1 hz2 f2 k2;dsimp only[dr,bH];have hrt:=f2.lt;have hSt:=k2.len;show st ?_;left;nofun
  show en (m:E5) (λi Z S'=>∃a4 a5 a6 ys,Z=[ba (.ref r),ba (.int m),ba (.str z),ba (.ref S2.length),a4,a5,a6]/\S'[S2.length]?=ba (.lst ((eR++ys).map W.str))/\ys.length=i/\(∀y∈ys,Name y)/\(eR++ys).Nodup/\Fl S' r/\Kp r S S') rfl rfl ∅ ?_ ?_ ?_
  ·dsimp only[wE,wV,wG];exact#[rfl,gV,gV,gV,[],rfl,ag,rfl,λ_ h=>(nomatch h),#v[],f2.ka .push,k2.trans .push]
  ·rintro i Z S3 hi ⟨a4,a5,a6,ys,rfl,e3,hy1,hy2,hy3,f3,k3⟩ Q2 hn _;clear hK;show st ?_;left;show Aj (d:=d) G f3 hz1 hz2 λy S4 hy f4 k4=>?_
   have e4:=k4.get _ _ ∅ e3
   show st ?_;left;show st (xm hfu hy e4 (by rw[E6,hy1]; show 9+i<=15; omega) λy' s hy' hnot=>?_)
   show st ?_;left;show#[d4 e4,ju e4 (by rw[ER,E6,hy1]; show 9+i < 1000; omega) ?_]
   show bO (hn _ _ #[_,_,_,ys++[y'],rfl,?_,by rw[E6,hy1]; rfl,λx hx=>?_,?_,f4.own hrt,(k3.trans k4).late hSt])
   ·rw[bC e4,<- Hq,F6 (l₁:=eR++ys)]; rfl
   ·rcases FR.mp hx with h|h
    ·exact hy2 x h
    ·rw[Fb.mp h]; exact hy'
   ·rw[<- Hq,HN];show#[hy3,by simp,λa ha b hb e=>?_]
    rw[Fb.mp hb]at e;exact hnot (e ▸ ha)
  ·rintro Z S3 ⟨a4,a5,a6,ys,rfl,e3,hy1,hy2,hy3,f3,k3⟩;show hK _ _ (st ?_);dsimp only[wS,wE,wA,wV,wG,wP,wN];have hs:la (.ref S2.length) (ba 9) gV S3=ba (.ref S3.length,S3++[.lst (ys.map W.str)]):=by
    have:gF ((eR++ys).map W.str) (ba ((9:EV):E5)) gV=ys.map W.str:=by
     rw[lV,F6];exact J2 rfl
    simp only[la,ap e3];rw[show(ba 9:EO E5)=ba ((9:EV):E5)from rfl,this]
   show ae hs (dw ag (k _ _ ?_ hy2 hy3 (f3.ka .push) (k3.trans .push)));rw[hy1]; exact Ff m
 dsimp only[bH];show st ?_;dsimp only[wS,wE,E7];nofun
 dsimp only[wS,wT,wE,wA,wV,wG];show aB (d:=d+2) G.pick hf #v[] #v[] λv S1 v0 v1 f1 k1=>?_
 dsimp only[dN,wO,wB];show am (Q0:=Q') (λ_ Q2 hn _=>?_) (λ_ Q2 hn _=>?_)
 ·show st ?_;left;show aB (d:=d+2) G.pick f1 #v[] #v[] λv S2 v0 v1 f2 k2=>?_
  dsimp only[bG,wO];exact gf (d:=d+1) G f2 ∅ ∅ λz S3 hz hs f3 k3=>bO (hn _ _ (hK _ _ (aY z S3 ∅ hs f3 (k1.trans (k2.trans k3)))))
 ·exact bO (hn _ _ (hK _ _ (aY "" S1 #v[] (λc hc=>nomatch hc) f1 k1)))
end
noncomputable abbrev Pt:=E5×EI E5
noncomputable abbrev Wd:=EI Pt
abbrev iV (p:Pt):W:=.tup [.int p.1,.tup (p.2.map W.int)]
abbrev aT (u:Wd):W:=.tup (u.map iV)
abbrev lW (p:Pt):T:=.tup [.int p.1,.tup (p.2.map T.int)]
abbrev eI (u:Wd):T:=.tup (u.map lW)
def oR:∀xs:EI E5,T.ws (xs.map T.int)=xs.map W.int
 | []=>rfl
 | x::xs=>by simp[T.ws,T.w,oR xs]
def Cw (p:Pt):(lW p).w=iV p:=by simp[lW,iV,T.w,T.ws,oR]
def tQ:∀u:Wd,T.ws (u.map lW)=u.map iV
 | []=>rfl
 | p::u=>by simp[T.ws,Cw,tQ u]
def tR (u:Wd):(eI u).w=aT u:=by simp[eI,aT,T.w,tQ]
def Cy (u:Wd):W.t (aT u)=ba (eI u):=by rw[<- tR]; exact T.w_t _
def tU:∀us:EI Wd,T.ws (us.map eI)=us.map aT
 | []=>rfl
 | u::us=>by simp[T.ws,tR,tU us]
def yr (us:EI Wd):W.ts (us.map aT)=ba (us.map eI):=by rw[<- tU]; exact T.ws_ts _
def iJ:∀xs:EI E5,T.depths (xs.map T.int)=0
 | []=>rfl
 | x::xs=>by simp[T.depths,T.depth,iJ xs]
def tV (p:Pt):(lW p).depth=2:=by simp[lW,T.depth,T.depths,iJ]
def jx:∀u:Wd,T.depths (u.map lW)<=2
 | []=>by simp[T.depths]
 | p::u=>by
  have:=jx u;simp only[FV,T.depths,tV]; omega
def lX (u:Wd):(eI u).depth<=3:=by
 have:=jx u;simp only[eI,T.depth]; omega
def gg:∀us:EI Wd,T.depths (us.map eI)<=3
 | []=>by simp[T.depths]
 | u::us=>by
  have:=gg us;have:=lX u;simp only[FV,T.depths]; omega
def Al (u:Wd):eB (aT u)=ba (eI u):=by
 unfold eB;rw[Cy];show(if (eI u).isTup=true/\(eI u).depth<=aF then _ else _)=_
 rw[Fi #[rfl,by have:=lX u; unfold aF; omega]]
mutual
def lY:T->T->Fk
 | .int _,.int _=>true
 | .str _,.str _=>true
 | .tup xs,.tup ys=>fG xs ys
 | _,_=>false
def fG:EI T->EI T->Fk
 | [],_=>true
 | _,[]=>true
 | x::xs,y::ys=>lY x y&&fG xs ys
end
mutual
theorem tW:∀x y:T,lY x y=true->(uS x y).isSome=true
 | .int _,.int _,_=>rfl
 | .str _,.str _,_=>rfl
 | .tup xs,.tup ys,h=>by
  dsimp only[lY]at h;dsimp only[uS];exact oT xs ys h
 | .int _,.str _,h|.int _,.tup _,h|.str _,.int _,h|.str _,.tup _,h|.tup _,.int _,h|.tup _,.str _,h=>by cases h
theorem oT:∀xs ys:EI T,fG xs ys=true->(lv xs ys).isSome=true
 | [],[],_=>rfl
 | [],_::_,_=>rfl
 | _::_,[],_=>rfl
 | x::xs,y::ys,h=>by
  dsimp only[fG]at h; simp only[ES]at h
  dsimp only[lv];split
  ·exact oT xs ys h.2
  ·exact tW x y h.1
end
def lZ:∀xs ys:EI E5,fG (xs.map T.int) (ys.map T.int)=true
 | [],_=>rfl
 | _::_,[]=>rfl
 | x::xs,y::ys=>by dsimp only[NJ,fG,lY]; simp[lZ xs ys]
def Am (p q:Pt):lY (lW p) (lW q)=true:=by dsimp only[lW,lY,fG]; simp[lZ]
def oU:∀u v:Wd,fG (u.map lW) (v.map lW)=true
 | [],_=>rfl
 | _::_,[]=>rfl
 | p::u,q::v=>by dsimp only[NJ,fG]; simp[Am,oU u v]
def An (u v:Wd):lY (eI u) (eI v)=true:=by dsimp only[eI,lY]; exact oU _ _
def jy (us:EI Wd):ie (us.map eI)=true:=by
 unfold ie;rw[Fu];intro x hx;obtain⟨u,_,rfl⟩:=Fx.mp hx;rw[Fu];intro y hy;obtain⟨v,_,rfl⟩:=Fx.mp hy;exact tW _ _ (An u v)
def Ao (us:EI Wd)(h:∀u∈us,u≠[]):(vS (us.map eI)).isSome=true:=by
 unfold vS;split
 ·rfl
 ·split
  ·rfl
  ·split
   ·rfl
   ·split
    ·rfl
    ·split
     ·rfl
     ·rename_i h5;exfalso;apply h5;rw[Fu];intro x hx;obtain⟨u,hu,rfl⟩:=Fx.mp hx;cases u with
      | nil=>exact absurd rfl (h [] hu)
      | cons p u=>rfl
abbrev ny (bs:EI E5)(u:Wd)(i j:EV):E5:=if j < i then((u.getD i (0,[])).2).getD j 0 else bs.getD (((u.getD j (0,[])).2).getD i 0).toNat 0
abbrev a9 (bs:EI E5)(u:Wd)(ps:EI EV):Wd:=(Gn ps.length).map λk=>((u.getD (ps.getD k 0) (0,[])).1,(ps.take k).map λj=>ny bs u (ps.getD k 0) j)
abbrev aJ:EI (EI EV):=[[0,1,2],[0,2,1],[1,0,2],[1,2,0],[2,0,1],[2,1,0]]
abbrev iW (bs:EI E5)(u:Wd):Wd:=(aJ.map (a9 bs u)).getD (mU ((aJ.map (a9 bs u)).map eI)) []
abbrev aN (n:E3)(b:E5):W:=.tup [.str n,.int b]
structure GoodW (a n:EV)(u:Wd):Prop where
 mark:∀(k:EV) (p:Pt),u[k]?=ba p->0<=p.1/\p.1 < a
 len:∀(k:EV) (p:Pt),u[k]?=ba p->p.2.length=k
 way:∀(k:EV) (p:Pt),u[k]?=ba p->∀w∈p.2,0<=w/\w < n
abbrev GoodB (bs:EI E5):Prop:=bs=[0]\/bs=[0,1]\/bs=[1,0]\/bs=[0,1,2]\/bs=[1,0,2]\/bs=[0,2,1]
def GoodB.rng {bs:EI E5}(h:GoodB bs):∀k:EV,k < bs.length->∃b:E5,bs[k]?=ba b/\0<=b/\b < bs.length:=by
 rcases h with rfl|rfl|rfl|rfl|rfl|rfl <;> intro k hk
 ·match k,hk with
  | 0,_=>exact#[0,rfl,#v[],#v[]]
 ·match k,hk with
  | 0,_=>exact#[0,rfl,#v[],#v[]]
  | 1,_=>exact#[1,rfl,#v[],#v[]]
 ·match k,hk with
  | 0,_=>exact#[1,rfl,#v[],#v[]]
  | 1,_=>exact#[0,rfl,#v[],#v[]]
 ·match k,hk with
  | 0,_=>exact#[0,rfl,#v[],#v[]]
  | 1,_=>exact#[1,rfl,#v[],#v[]]
  | 2,_=>exact#[2,rfl,#v[],#v[]]
 ·match k,hk with
  | 0,_=>exact#[1,rfl,#v[],#v[]]
  | 1,_=>exact#[0,rfl,#v[],#v[]]
  | 2,_=>exact#[2,rfl,#v[],#v[]]
 ·match k,hk with
  | 0,_=>exact#[0,rfl,#v[],#v[]]
  | 1,_=>exact#[2,rfl,#v[],#v[]]
  | 2,_=>exact#[1,rfl,#v[],#v[]]
def getD_some {α:Type}{xs:EI α}{i:EV}{x d:α}(h:xs[i]?=ba x):xs.getD i d=x:=by simp[h]
def aX {α:Type}{xs:EI α}{i:EV}{d:α}(h:i < xs.length):xs[i]?=ba (xs.getD i d):=by simp[h]
def nz {ns:EI E3}{bs:EI E5}{k:EV}{n:E3}{b:E5}(h1:ns[k]?=ba n)(h2:bs[k]?=ba b):(Fd aN ns bs)[k]?=ba (aN n b):=by
 rw[ID,h1,h2]
abbrev bI (ps:EI EV):EI W:=ps.map λ(p:EV)=>W.int (p:E5)
def oV {ps:EI EV}{k p:EV}(h:ps[k]?=ba p):(bI ps)[k]?=ba (.int p):=by simp[bI,h]
def qA (bs:EI E5)(u:Wd)(ps:EI EV):(a9 bs u ps).length=ps.length:=by unfold a9; rw[ER,HQ]
def tX {u:Wd}{i:EV}(hi:i < u.length):(u.map iV)[((i:EV):E5).toNat]?=ba (iV (u.getD i (0,[]))):=by
 rw[Ff,E1,aX hi]; rfl
section
variable{defs:EI (E3×Df)}{fuel d:EV}{S:aa}{r:EV}{Q:QW}
def tY {M:E3->FF}{m0 b0:W}{ns:EI E3}{bs:EI E5}{a:EV}{u:Wd}{i j:EV}{Q:QO}(hb:GoodB bs)(hl:ns.length=bs.length)(hu:GoodW a bs.length u)(hi:i < u.length)(hj:j < u.length)(hij:i≠j)(k:Q (.rt (.int (ny bs u i j)),S)) :
  wZ M fuel bZ [ba (.tup [m0,.tup (Fd aN ns bs),b0]),ba (aT u),ba (.int i),ba (.int j)] S Q:=by
 have hpi:=aX (d:=(0,[])) hi;have hpj:=aX (d:=(0,[])) hj;unfold ny at k;dsimp only[bZ];nofun
 dsimp only[wS,wT,wE,wV,wG,Ck,wO,wB,aT];show am (Q0:=Q) (λh Q2 _ hr=>?_) (λh Q2 hn _=>?_)
 ·have hji:j < i:=by have:=F1 h; omega
  rw[Fi hji]at k;have hw:j < (u.getD i (0,[])).2.length:=by rw[hu.len i _ hpi]; exact hji
  show st ?_;dsimp only[wS,wE,wV,wG];show al (FB i) (tX hi) (al #v[] rfl (al (FB j) ?_ (hr _ _ k)))
  rw[Ff,E1,aX (d:=0) hw]; rfl
 ·have hji:¬ j < i:=by have:=K6 h; omega
  rw[FJ hji]at k;show bO (hn _ _ (hK _ _ ?_));clear hn hK;have hw:i < (u.getD j (0,[])).2.length:=by rw[hu.len j _ hpj]; omega
  have hg:=aX (d:=0) hw;obtain⟨g1,g2⟩:=hu.way j _ hpj _ (Fh hg);obtain⟨b,hb1,hb2,hb3⟩:=hb.rng ((u.getD j (0,[])).2.getD i 0).toNat ∅
  have hn:((u.getD j (0,[])).2.getD i 0).toNat < ns.length:=∅
  rw[getD_some hb1]at k;show st ?_;dsimp only[wS,wE,wV,wG];show al #v[] rfl (al (FB j) (tX hj) (al #v[] rfl (al (FB i) ?_ (al g1 (nz (EZ hn) hb1) (al #v[] rfl k)))))
  rw[Ff,E1,hg]; rfl
def qB (G:Gen defs){m0 b0:W}{ns:EI E3}{bs:EI E5}{a:EV}{u:Wd}{i j:EV}(hb:GoodB bs)(hl:ns.length=bs.length)(hu:GoodW a bs.length u)(hi:i < u.length)(hj:j < u.length)(hij:i≠j)(k:Q (.int (ny bs u i j),S)) :
  wO (aQ (ak defs fuel (d+1)) "_law_between" 4 [.tup [m0,.tup (Fd aN ns bs),b0],aT u,.int i,.int j] S) Q:=
 aw G.between rfl rfl λQ' hR=>tY hb hl hu hi hj hij (hR _ _ k)
def Ap (G:Gen defs){m0 b0:W}{ns:EI E3}{bs:EI E5}{a:EV}{u:Wd}{ps:EI EV}(hb:GoodB bs)(hl:ns.length=bs.length)(hu:GoodW a bs.length u)(hps:∀p∈ps,p < u.length)(hnd:ps.Nodup)(hsz:ps.length < 1000)(k:∀S',Ka S S'->Q (aT (a9 bs u ps),S')) :
  wO (aQ (ak defs fuel (d+2)) "_law_part" 3 [.tup [m0,.tup (Fd aN ns bs),b0],aT u,.tup (bI ps)] S) Q:=by
 show aw G.part rfl rfl λQ' hR=>?_
 replace k:∀S',Ka S S'->Q' (.rt (aT (a9 bs u ps)),S'):=λS' a=>hR _ _ (k S' a)
 clear hR;change wZ _ _ dG [ba (.tup [m0,.tup (Fd aN ns bs),b0]),ba (aT u),ba (.tup (bI ps)),gV,gV,gV] S Q';generalize hR0:W.tup [m0,.tup (Fd aN ns bs),b0]=R;dsimp only[dG];show st ?_;dsimp only[wS,wE,wA,E7];nofun
 have nl:(bI ps).length=ps.length:=ER ..;show en (ps.length:E5) (λk Z S'=>∃a4 a5,Z=[ba R,ba (aT u),ba (.tup (bI ps)),ba (.ref S.length),a4,a5]/\S'[S.length]?=ba (.lst (((a9 bs u ps).take k).map iV))/\Ka S S') rfl rfl ∅ ?_ ?_ ?_
 ·dsimp only[wE,wA,wV,wG];show bE ?_;rw[nl];exact#[rfl,gV,gV,rfl,ag,.push]
 ·rintro i Z S1 hi ⟨a4,a5,rfl,e1,k1⟩ Q2 hn _;clear hK;have hi':i < ps.length:=∅
  have hp:ps[i]?=ba ps[i]:=EZ hi';have hpu:ps[i] < u.length:=hps _ (Gh hi');show st ?_;dsimp only[wS,wE,wV,wG,E7];show al (FB i) (by rw[Ff]; exact oV hp) ?_
  show st ?_;left;show#[d4 e1,al (FB _) (tX hpu) (al #v[] rfl ?_)]
  show xl (bI (ps.take i)) (λj ys Z2 S2=>(∃a1,Z2=[gV,a1,ba (.int ps[i]),ba R,ba (aT u)])/\ys=((ps.take i).take j).map (λq=>W.int (ny bs u ps[i] q))/\Ka S1 S2) rfl rfl rfl ?_ ?_ ?_
  ·dsimp only[wE,wP,wV,wG,wN];show ae (a:=(.tup (bI (ps.take i)),S1)) ?_ #[rfl,#[gV,rfl],rfl,.refl];simp only[la,fF];unfold bI;rw[Jz]
  ·rintro j w ys Z2 S2 hw ⟨⟨a1,rfl⟩,rfl,k2⟩;have hjl:j < (ps.take i).length:=by
    have:=(E9.mp hw).1;unfold bI at this
    rwa [ER]at this
   have hq:(ps.take i)[j]?=ba (ps.take i)[j]:=EZ hjl;cases(oV hq).symm.trans hw;have hj:j < i:=by rw[Gg]at hjl; omega
   have eq:(ps.take i)[j]=ps[j]'∅:=List.getElem_take
   generalize(ps.take i)[j]=q at hq eq ⊢;show ae (show gI (.nm 1) (.int (q:E5)) [gV,a1,ba (.int ps[i]),ba R,ba (aT u)] S2=ba ([gV,ba (.int (q:E5)),ba (.int ps[i]),ba R,ba (aT u)],S2)from rfl) ?_
   dsimp only[gK,wC,wE,wA,wV,wG];subst hR0;show#[λ_=>qB (d:=d) G hb hl hu hpu (by rw[eq]; exact hps _ (Gh _)) ?_ #[#[_,rfl],?_,k2],λz=>by cases z]
   ·rw[eq];intro h;have:=(LB hnd).mp h;omega
   ·rw[GP,hq];simp
  ·rintro ys Z2 S2 ⟨_,rfl,k2⟩;rw[show(bI (ps.take i)).length=(ps.take i).length from ER ..,Hf]
   show#[few (by rw[ER,Gg]; omega),dw ag ?_]
   have e2:=aq (u:=O.lst ((ps.take i).map λq=>W.int (ny bs u ps[i] q))) (k2.get _ _ e1)
   show ju e2 (by rw[ER,Gg]; omega) (bO (hn _ _ #[_,_,rfl,?_,((k1.trans k2).trans .push).late (E2 _)]))
   rw[bC e2];have ep:(a9 bs u ps)[i]?=ba ((u.getD ps[i] (0,[])).1,(ps.take i).map λq=>ny bs u ps[i] q):=by
    unfold a9;rw[E1,KC hi',FP,getD_some hp]
   rw[GP,ep];simp[iV,Lu]
 ·rintro Z S1 ⟨a4,a5,rfl,e1,k1⟩;rw[Ff,<- qA bs u ps,Hf]at e1;show hK _ _ (st ?_);left;exact dw e1 (k _ k1)
def kH (G:Gen defs)(k:Q (.ref S.length,S++[.lst (aJ.map λt=>W.tup (bI t))])):wO (aQ (ak defs fuel (d+1)) "_law_turns" 0 [] S) Q:=by
 show aw G.turns rfl rfl λQ' hR=>?_
 dsimp only[d6];show st ?_;dsimp only[wS,wE,wA];exact hR _ _ k
def eS (bt:EV->EV->Fk):∀n:EV,argBest bt n<=n
 | 0=>E2 _
 | n+1=>by have:=eS bt n; simp only[argBest]; split <;> omega
def fH (G:Gen defs){m0 b0:W}{ns:EI E3}{bs:EI E5}{a:EV}{u:Wd}(hb:GoodB bs)(hl:ns.length=bs.length)(hu:GoodW a bs.length u)(h3:u.length=3)(k:∀S',Ka S S'->Q (aT (iW bs u),S')) :
  wO (aQ (ak defs fuel (d+3)) "_law_figure" 2 [.tup [m0,.tup (Fd aN ns bs),b0],aT u] S) Q:=by
 show aw G.figure rfl rfl λQ' hR=>?_
 replace k:∀S',Ka S S'->Q' (.rt (aT (iW bs u)),S'):=λS' a=>hR _ _ (k S' a)
 clear hR;change wZ _ _ cr [ba (.tup [m0,.tup (Fd aN ns bs),b0]),ba (aT u)] S Q';generalize hR0:W.tup [m0,.tup (Fd aN ns bs),b0]=R;dsimp only[cr];show st ?_;dsimp only[wS,wE,wA];show oM S.length (aJ.map λt=>W.tup (bI t)) (λi ys Z2 S2=>(∃a1,Z2=[gV,a1,ba R,ba (aT u)])/\ys=((aJ.take i).map λt=>aT (a9 bs u t))/\Ka (S++[.lst (aJ.map λt=>W.tup (bI t))]) S2) rfl rfl rfl ?_ ?_ ?_ ?_
 ·dsimp only[wE,wA];exact kH (d:=d+1) G #[rfl,#[gV,rfl],rfl,.refl]
 ·rintro i ys Z2 S2 ⟨_,_,k2⟩;exact k2.get _ _ ag
 ·rintro i w ys Z2 S2 hw ⟨⟨a1,rfl⟩,rfl,k2⟩;rw[E1,EQ]at hw;obtain⟨t,ht,rfl⟩:=hw;have ht3:(∀p∈t,p < 3)/\t.Nodup/\t.length < 1000:=by
   have:∀t∈aJ,(∀p∈t,p < 3)/\t.Nodup/\t.length < 1000:=by decide
   exact this t (Fh ht)
  show ae (show gI (.nm 1) (.tup (bI t)) [gV,a1,ba R,ba (aT u)] S2=ba ([gV,ba (.tup (bI t)),ba R,ba (aT u)],S2)from rfl) ?_
  dsimp only[gK,wC,wE,wA,wV,wG];subst hR0;show#[λ_=>Ap (d:=d) G hb hl hu (λp hp=>by rw[h3]; exact ht3.1 p hp) ht3.2.1 ht3.2.2 λS3 k3=>#[#[_,rfl],?_,k2.trans k3],λz=>by cases z]
  rw[GP,ht];simp
 ·rintro ys Z2 S2 ⟨_,rfl,k2⟩;have e:((aJ.take (aJ.map λt=>W.tup (bI t)).length).map λt=>aT (a9 bs u t))=(aJ.map (a9 bs u)).map aT:=by
   rw[ER,Hf,Hb]; rfl
  rw[e];show#[dv rfl,ae (a:=(aT (iW bs u),S2++[.lst ((aJ.map (a9 bs u)).map aT)])) ?_ (k _ ((Ka.push.trans k2).trans .push))]
  (dsimp only[Bi.fn,wY,vV]; simp only[ap ag,yr])
  rw[Fi #[by have:=gg (aJ.map (a9 bs u)); unfold cX; omega,jy _]]
  unfold iW;have hlt:mU ((aJ.map (a9 bs u)).map eI) < (aJ.map (a9 bs u)).length:=Nat.lt_of_le_of_lt (eS _ _) (by decide:5 < 6)
  rw[E1,aX (d:=[]) hlt];rfl
end
abbrev af (xs:EI E5):EI W:=xs.map W.int
abbrev gC (us:EI Wd):EI Wd:=dM (xV (us.map eI)) [] us
def tZ {α β:Type}{lt:EV->EV->Fk}{d:α}{d':β}{f:α->β}{us:EI α}:dM lt d' (us.map f)=(dM lt d us).map f:=by
 unfold dM;rw[ER];split
 ·rfl
 ·rw[Hb];show Ij λi hi=>?_
  have hl:i < us.length:=j8 ∅ i hi
  simp[hl]
def nA {S:aa}{x:W}{us:EI Wd}(h:cK S x=ba (us.map aT))(h64:us.length < 64)(hne:∀u∈us,u≠[]):fm [x] S=ba (.ref S.length,S++[.lst ((gC us).map aT)]):=by
 have ok:j7 (us.map eI)=true:=by
  unfold j7;simp only[ES,GQ,Ft,ER];exact#[#[h64,by have:=gg us; unfold cX; omega],.inr #[Ao us hne,jy us]]
 simp only[fm,h,yr];rw[Fi ok,tZ (d:=[])];rfl
abbrev bh (ms ns:EI E3)(bs:EI E5)(us:EI Wd):W:=.tup [.tup (ms.map W.str),.tup (Fd aN ns bs),.tup (us.map aT)]
structure GoodN (ms ns:EI E3):Prop where
 name:∀y∈ms++ns,Name y
 nd:(eR++(ms++ns)).Nodup
def GoodW.nil {a n:EV}:GoodW a n []:=#[λk p h=>(by simp at h),λk p h=>(by simp at h),λk p h=>(by simp at h)]
def GoodW.snoc {a n:EV}{u:Wd}{m:E5}{ws:EI E5}(h:GoodW a n u)(h1:0<=m/\m < a)(h2:ws.length=u.length)(h3:∀w∈ws,0<=w/\w < (n:E5)):GoodW a n (u++[(m,ws)]):=by
 have key:∀(k:EV) (p:Pt),(u++[(m,ws)])[k]?=ba p->u[k]?=ba p\/(k=u.length/\p=(m,ws)):=λk p e=>by
  rcases Lv k u.length with hk|hk
  ·rw[Fz hk]at e; exact .inl e
  ·rw[GJ hk]at e;have:k - u.length=0:=by
    have:=(E9.mp e).1;simp at this; omega
   rw[this]at e;cases e;exact .inr #[∅,rfl]
 show#[λk p e=>?_,λk p e=>?_,λk p e=>?_] <;> rcases key k p e with e|⟨rfl,rfl⟩
 ·exact h.mark k p e
 ·exact h1
 ·exact h.len k p e
 ·exact h2
 ·exact h.way k p e
 ·exact h3
def t4 {S:aa}{x:W}{us:EI Wd}{Q:QW}(h:cK S x=ba (us.map aT))(h64:us.length < 64)(hne:∀u∈us,u≠[])(q:Q (.ref S.length,S++[.lst ((gC us).map aT)])):wO (Bi.sorted.fn [x] S) Q:=by
 show ae ?_ q;exact nA h h64 hne
abbrev t8:EI (EV×EV):=[(1,1),(2,1),(3,1),(1,2),(1,2),(2,2),(2,2),(3,2),(1,3),(1,3),(2,3)]
def t9:∀p∈t8,1<=p.1/\p.1<=3/\1<=p.2/\p.2<=3/\p.1*p.2<=6:=by decide
abbrev iK:EV->EI (EI E5)
 | 1=>[[0]]
 | 2=>[[0,1],[1,0]]
 | _=>[[0,1,2],[1,0,2],[0,2,1]]
def ud:∀n:EV,1<=n->n<=3->(∀b∈iK n,GoodB b/\b.length=n)/\0 < (iK n).length/\(iK n).length<=3
 | 1,_,_=>#[λb h=>by cases Fb.mp h; exact#[.inl rfl,rfl],#v[],#v[]]
 | 2,_,_=>#[λb h=>by
   rcases Fc.mp h with rfl|h
   ·exact#[.inr (.inl rfl),rfl]
   ·cases Fb.mp h; exact#[.inr (.inr (.inl rfl)),rfl],#v[],#v[]]
 | 3,_,_=>#[λb h=>by
   rcases Fc.mp h with rfl|h
   ·exact#[.inr (.inr (.inr (.inl rfl))),rfl]
   ·rcases Fc.mp h with rfl|h
    ·exact#[.inr (.inr (.inr (.inr (.inl rfl)))),rfl]
    ·cases Fb.mp h; exact#[.inr (.inr (.inr (.inr (.inr rfl)))),rfl],#v[],#v[]]
 | 0,h,_=>absurd h #v[]
 | n+4,_,h=>absurd h ∅
section
variable{defs:EI (E3×Df)}{fuel d:EV}{S:aa}{r:EV}{Q:QW}
def oW (G:Gen defs)(hf:Fl S r)(k:∀(a n:EV) S',1<=a->a<=3->1<=n->n<=3->a*n<=6->Fl S' r->Kp r S S'->Q (.tup [.int a,.int n],S')) :
  wO (aQ (ak defs fuel (d+2)) "_law_sizes" 1 [.ref r] S) Q:=by
 show aw G.sizes rfl rfl λQ' hR=>?_
 change wZ _ _ c7 [ba (.ref r),gV] S Q';dsimp only[c7];show st ?_;dsimp only[wS,wE,wA,E7];show st ?_;left;show aB (d:=d) G.pick (hf.ka .push) #v[] #v[] λv S1 v0 v1 f1 k1=>?_
 have e:=k1.get _ _ (Gw hf.lt) ag;obtain⟨p,hp,ep⟩:=iI (f:=λp:EV×EV=>W.tup [.int p.1,.int p.2]) (xs:=t8) (i:=v.toNat) (by change v.toNat < 11; omega)
 obtain⟨a1,a3,n1,n3,an⟩:=t9 p hp;exact gB e v0 ep (hR _ _ (k _ _ _ a1 a3 n1 n3 an f1 (Kp.push.trans k1)))
def oX (G:Gen defs){n:EV}(hf:Fl S r)(h1:1<=n)(h3:n<=3)(k:∀(bs:EI E5) S',GoodB bs->bs.length=n->Fl S' r->Kp r S S'->Q (.tup (af bs),S')) :
  wO (aQ (ak defs fuel (d+2)) "_law_backs" 2 [.ref r,.int n] S) Q:=by
 show aw G.backs rfl rfl λQ' hR=>?_
 replace k:∀(bs:EI E5) S',GoodB bs->bs.length=n->Fl S' r->Kp r S S'->Q' (.rt (.tup (af bs)),S'):=λz S' a b c e=>hR _ _ (k z S' a b c e)
 clear hR;change wZ _ _ cZ [ba (.ref r),ba (.int n),gV] S Q';dsimp only[cZ];nofun
 left;dsimp only[tz,ar];obtain⟨hg,g0,g3⟩:=ud n h1 h3;have fin:∀(t:EV) (S1:aa),S.length<=t->S1[t]?=ba (.lst ((iK n).map λb=>.tup (af b)))->Ka S S1->K [ba (.ref r),ba (.int n),ba (.ref t)] S1:=by
  intro t S1 ht et ka;show hK _ _ (st ?_);left;show oN et ?_;rw[ER];show aB (d:=d) G.pick (hf.ka ka) ∅ ∅ λv S2 v0 v1 f2 k2=>?_
  have e2:=k2.get _ _ (by have:=hf.lt; omega) et
  obtain⟨b,hb,eb⟩:=iI (f:=λb:EI E5=>W.tup (af b)) (xs:=iK n) (i:=v.toNat) ∅
  exact gB e2 v0 eb (k b S2 (hg b hb).1 (hg b hb).2 f2 ((ka.kp r).trans k2))
 clear hK g0 g3 hg;rcases(show n=1\/n=2\/n=3 by omega)with rfl|rfl|rfl
 ·exact cW (i:=0) ag rfl (fin _ _ (E2 _) (aq (aq (aq ag))) (Ka.push.trans (Ka.push.trans (Ka.push.trans .push))))
 ·exact cW (i:=1) ag rfl (fin _ _ (by simp) (aq (aq ag)) (Ka.push.trans (Ka.push.trans (Ka.push.trans .push))))
 ·exact cW (i:=2) ag rfl (fin _ _ (by simp only[E6]; omega) (aq ag) (Ka.push.trans (Ka.push.trans (Ka.push.trans .push))))
def eu (hfu:20 < fuel)(G:Gen defs){a:EV}{bs:EI E5}{x:W}{us:EI Wd}(hf:Fl S r)(ha:a<=3)(hb:bs.length<=3)(hx:∀S',Kp r S S'->cK S' x=ba (us.map aT))(h64:us.length < 64)(hne:∀u∈us,u≠[])
  (k:∀(ms ns:EI E3) S',ms.length=a->ns.length=bs.length->GoodN ms ns->Fl S' r->Kp r S S'->Q (bh ms ns bs (gC us),S')) :
  wO (aQ (ak defs fuel (d+5)) "_law_rule_of" 4 [.ref r,.int a,.tup (af bs),x] S) Q:=by
 show aw G.rule_of rfl rfl λQ' hR=>?_
 replace k:∀(ms ns:EI E3) S',ms.length=a->ns.length=bs.length->GoodN ms ns->Fl S' r->Kp r S S'->Q' (.rt (bh ms ns bs (gC us)),S'):=λz y S' a b c e f=>hR _ _ (k z y S' a b c e f)
 clear hR;change wZ _ _ b6 [ba (.ref r),ba (.int a),ba (.tup (af bs)),ba x,gV,gV] S Q';have hbl:(af bs).length=bs.length:=ER ..;dsimp only[b6];nofun
 left;show bE ?_;rw[hbl];dsimp only[bG,ar];show xn (d:=d) (m:=a+bs.length) hfu G hf ∅ λys S1 q2 q3 q4 f1 k1=>hK _ _ ?_
 clear hK K;have hzl:(Fd aN (ys.drop a) bs).length=bs.length:=by
  rw[G8,GX]; omega
 nofun
 dsimp only[wS,wE,wA,E7];show cY (bs.length:E5) (λk zs Z2 S2=>(∃a1,Z2=[gV,a1,ba (.tup (af bs)),ba (.int a),ba (.tup (ys.map W.str))])/\zs=((Fd aN (ys.drop a) bs).take k)/\S2=S1) rfl rfl rfl ∅ ?_ ?_ ?_
 ·dsimp only[wE,wA,wV,wG];show bE ?_;rw[hbl];exact#[rfl,#[gV,rfl],rfl,rfl]
 ·rintro i zs Z2 S2 hi ⟨⟨a1,rfl⟩,rfl,rfl⟩;clear hK;have hi':i < bs.length:=∅
  have h1:a+i < ys.length:=∅
  dsimp only[gK,wC,wE,wA,wV,wG,E7,bG,ar];show#[λ_=>al ∅ (w:=.str ys[a+i]) ?_ (al ∅ (w:=.int bs[i]) ?_ #[#[_,rfl],?_,rfl]),λz=>by cases z]
  ·rw[show((a:E5)+(i:E5)).toNat=a+i by omega,E1,EZ h1]; rfl
  ·unfold af;rw[Ff,E1,EZ hi']; rfl
  ·have ez:(Fd aN (ys.drop a) bs)[i]?=ba (aN ys[a+i] bs[i]):=nz (by rw[List.getElem?_drop]; exact EZ h1) (EZ hi')
   rw[GP,ez];rfl
 ·rintro zs Z2 S2 ⟨_,rfl,rfl⟩;rw[Ff,<- hzl,Hf];show#[few ∅,dw ag (hK _ _ ?_)]
  clear hK K;show st ?_;dsimp only[wS,wE,wA,wP,wV,wG,wN];have hs:la (.tup (ys.map W.str)) gV (ba (a:E5)) (S2++[O.lst (Fd aN (ys.drop a) bs)])=ba (.tup ((ys.take a).map W.str),S2++[O.lst (Fd aN (ys.drop a) bs)]):=by
   simp only[la,fF];rw[Jz]
  show ae hs (t4 (hx _ (k1.trans .push)) h64 hne (dw ag ?_));show k (ys.take a) (ys.drop a) _ ?_ ?_ #[?_,?_] ((f1.ka .push).ka .push) (k1.trans (Kp.push.trans .push))
  ·rw[Gg]; omega
  ·rw[GX]; omega
  ·rw[Kc]; exact q3
  ·rw[Kc]; exact q4
def dI (hfu:20 < fuel)(G:Gen defs){a:EV}{bs:EI E5}(hf:Fl S r)(ha:a<=3)(hb:bs.length<=3)
  (k:∀(ms ns:EI E3) S',ms.length=a->ns.length=bs.length->GoodN ms ns->Fl S' r->Kp r S S'->Q (bh ms ns bs [],S')) :
  wO (aQ (ak defs fuel (d+5)) "_law_rule_of" 4 [.ref r,.int a,.tup (af bs),.tup []] S) Q:=
 eu hfu G hf ha hb (us:=[]) (λ_ _=>rfl) #v[] (λ_ h=>nomatch h) k
def draws {M:E3->FF}{Z:Fm}{elt e:E}{cap:EI (EO EV)}{n i:EV}{R:Fm}(oe:cg elt=true)(oi:cg e=true)(h1:i<=1000)(hc:cN cap Z=gV::gV::R)(hf:Fl S r)(he:∀Q:QW,Q (.int i,S)->wE M e Z S Q)
  (hp:∀(a:EO W) (S1:aa) (Q:QW),Fl S1 r->(∀v S',0<=v->v < (n:E5)->Fl S' r->Kp r S1 S'->Q (.int v,S'))->wE M elt (gV::a::R) S1 Q)
  (k:∀(vs:EI E5) S',vs.length=i->(∀w∈vs,0<=w/\w < (n:E5))->Fl S' r->Kp r S S'->Q (.ref S'.length,S'++[.lst (af vs)])) :
  Wp (aj M (.comp elt (.nm 1) (.rng #v[e]) .nil cap) Z S) Q:=by
 show cY (i:E5) (λj ys Z2 S3=>(∃a1,Z2=gV::a1::R)/\(∃vs:EI E5,ys=af vs/\vs.length=j/\∀w∈vs,0<=w/\w < (n:E5))/\Fl S3 r/\Kp r S S3) oi oe rfl ∅ (he _ #[rfl,#[gV,hc],#[[],rfl,rfl,λ_ h=>nomatch h],hf,.refl]) ?_ ?_
 ·rintro j ys Z2 S3 hj ⟨⟨a1,rfl⟩,⟨vs,rfl,hvl,hv⟩,f3,k3⟩;show#[λ_=>hp _ _ _ f3 λv S4 v0 v1 f4 k4=>#[#[_,rfl],#[vs++[v],(F6 (l₁:=vs) (l₂:=[v])).symm,by rw[E6,hvl]; rfl,λw hw=>?_],f4,k3.trans k4],λz=>by cases z]
  rcases FR.mp hw with h|h
  ·exact hv w h
  ·rw[Fb.mp h]; exact#[v0,v1]
 ·rintro ys Z2 S3 ⟨_,⟨vs,rfl,hvl,hv⟩,f3,k3⟩;rw[Ff]at hvl;exact#[few (by rw[show(af vs).length=vs.length from ER ..]; omega),k vs S3 hvl hv f3 k3]
def fI (G:Gen defs){a n:EV}(hf:Fl S r)(ha:0 < a)(ha3:a<=3)(hn:0 < n)(hn3:n<=3)(k:∀(u:Wd) S',u.length=3->GoodW a n u->Fl S' r->Kp r S S'->Q (aT u,S')) :
  wO (aQ (ak defs fuel (d+2)) "_law_free_three" 3 [.ref r,.int a,.int n] S) Q:=by
 show aw G.free_three rfl rfl λQ' hR=>?_
 replace k:∀(u:Wd) S',u.length=3->GoodW a n u->Fl S' r->Kp r S S'->Q' (.rt (aT u),S'):=λz S' a b c e=>hR _ _ (k z S' a b c e)
 clear hR;change wZ _ _ br [ba (.ref r),ba (.int a),ba (.int n),gV,gV] S Q';dsimp only[br];have hrt:=hf.lt;show st ?_;dsimp only[wS,wE,wA,E7];nofun
 show en 3 (λk Z S'=>∃a4 u,Z=[ba (.ref r),ba (.int a),ba (.int n),ba (.ref S.length),a4]/\S'[S.length]?=ba (.lst (u.map iV))/\u.length=k/\GoodW a n u/\Fl S' r/\Kp r S S') rfl rfl #v[] #[rfl,gV,[],rfl,ag,rfl,.nil,hf.ka .push,.push] ?_ ?_
 ·rintro i Z S1 hi ⟨a4,u,rfl,e1,hul,hu,f1,k1⟩ Q2 hn' _;clear hK;show st ?_;left;show#[d4 e1,aB (d:=d) G.pick f1 ∅ ∅ λv S2 v0 v1 f2 k2=>?_]
  have e2:=k2.get _ _ ∅ e1
  show draws (n:=n) (i:=i) (R:=[ba (.ref r),ba (.int n)]) rfl rfl ∅ rfl f2 (λQ q=>q) (λa S1 Q f q=>aB (d:=d) G.pick f ∅ ∅ q) λvs S3 hvl hv f3 k3=>?_
  have e3:=aq (u:=O.lst (af vs)) (k3.get _ _ ∅ e2)
  show dw ag (ju e3 (by rw[ER]; omega) (bO (hn' _ _ #[_,u++[(v,vs)],rfl,?_,by rw[E6,hul]; rfl,hu.snoc #[v0,v1] (hvl.trans hul.symm) hv,(f3.ka .push).own hrt,(k1.trans (k2.trans (k3.trans .push))).late (E2 _)])))
  rw[bC e3,F6]; rfl
 ·rintro Z S1 ⟨a4,u,rfl,e1,hul,hu,f1,k1⟩;show hK _ _ (st ?_);left;exact dw e1 (k u _ hul hu f1 k1)
def l4 (G:Gen defs)(hg:Is defs ("_law_any_world" : E3) 3 6 a7){a:EV}{bs:EI E5}{ms ns:EI E3}{b0:W}{many:EV}(hf:Fl S r)(ha:0 < a)(ha3:a<=3)(hb:GoodB bs)(hml:ms.length=a)(hnl:ns.length=bs.length)(hm:many<=999)(k:∀(u:Wd) S',u.length=many->GoodW a bs.length u->Fl S' r->Kp r S S'->Q (aT u,S')) :
  wO (aQ (ak defs fuel (d+2)) "_law_any_world" 3 [.ref r,.tup [.tup (ms.map W.str),.tup (Fd aN ns bs),b0],.int many] S) Q:=by
 show aw hg rfl rfl λQ' hR=>?_
 replace k:∀(u:Wd) S',u.length=many->GoodW a bs.length u->Fl S' r->Kp r S S'->Q' (.rt (aT u),S'):=λz S' a b c e=>hR _ _ (k z S' a b c e)
 clear hR;have hb1:1<=bs.length/\bs.length<=3:=by rcases hb with rfl|rfl|rfl|rfl|rfl|rfl <;> decide
 have hzl:(Fd aN ns bs).length=bs.length:=by rw[G8]; omega
 have hmm:(ms.map W.str).length=a:=by rw[ER,hml]
 generalize ms.map W.str=tv at hmm;generalize Fd aN ns bs=N at hzl;change wZ _ _ a7 [ba (.ref r),ba (.tup [.tup tv,.tup N,b0]),ba (.int many),gV,gV,gV] S Q';dsimp only[a7];have hrt:=hf.lt;show st ?_;dsimp only[wS,wE,wA,E7];nofun
 show en (many:E5) (λk Z S'=>∃a4 a5 u,Z=[ba (.ref r),ba (.tup [.tup tv,.tup N,b0]),ba (.int many),ba (.ref S.length),a4,a5]/\S'[S.length]?=ba (.lst (u.map iV))/\u.length=k/\GoodW a bs.length u/\Fl S' r/\Kp r S S') rfl rfl ∅ #[rfl,gV,gV,[],rfl,ag,rfl,.nil,hf.ka .push,.push] ?_ ?_
 ·rintro i Z S1 hi ⟨a4,a5,u,rfl,e1,hul,hu,f1,k1⟩ Q2 hn' _;clear hK;show st ?_;left;show al #v[] rfl (bE ?_)
  rw[hmm];show aB (d:=d) G.pick f1 ∅ ∅ λv S2 v0 v1 f2 k2=>?_
  have e2:=k2.get _ _ ∅ e1
  show st ?_;left;show#[d4 e2,draws (n:=bs.length) (i:=i) (R:=[ba (.ref r),ba (.tup [.tup tv,.tup N,b0])]) rfl rfl ∅ rfl f2 (λQ q=>q) (λa S1 Q f q=>?_) λvs S3 hvl hv f3 k3=>?_]
  ·dsimp only[wE,wA,wV,wG];show al #v[] rfl (bE ?_)
   rw[hzl];exact aB (d:=d) G.pick f ∅ ∅ q
  have e3:=aq (u:=O.lst (af vs)) (k3.get _ _ ∅ e2)
  show dw ag (ju e3 (by rw[ER]; omega) (bO (hn' _ _ #[_,_,u++[(v,vs)],rfl,?_,by rw[E6,hul]; rfl,hu.snoc #[v0,v1] (hvl.trans hul.symm) hv,(f3.ka .push).own hrt,(k1.trans (k2.trans (k3.trans .push))).late (E2 _)])))
  rw[bC e3,F6]; rfl
 ·rintro Z S1 ⟨a4,a5,u,rfl,e1,hul,hu,f1,k1⟩;show hK _ _ (st ?_);left;exact dw e1 (k u _ ∅ hu f1 k1)
end
abbrev di (n:EV):EI E5:=(Gn n).map λ(k:EV)=>(k:E5)
abbrev ue (a n:EV):EI Wd:=(di a).flatMap λm0=>(di a).flatMap λm1=>(di a).flatMap λm2=>(di n).flatMap λw1=>(di n).flatMap λw2=>(di n).map λw3=>[(m0,[]),(m1,[w1]),(m2,[w2,w3])]
abbrev aD (a:EV)(bs:EI E5):EI Wd:=((ue a bs.length).map (iW bs)).eraseDups
def bN {n:EV}{x:E5}(h0:0<=x)(h1:x < n):x∈di n:=Fx.mpr #[x.toNat,Hz.mpr ∅,∅]
def qC {a n:EV}{u:Wd}(h:GoodW a n u)(h3:u.length=3):u∈ue a n:=by
 match u,h3 with
 | [(m0,w0),(m1,w1),(m2,w2)],_=>
  have l0:=h.len 0 _ rfl;have l1:=h.len 1 _ rfl;have l2:=h.len 2 _ rfl;simp only at l0 l1 l2
  match w0,l0 with
  | [],_=>
   match w1,l1 with
   | [x],_=>
    match w2,l2 with
    | [y,z],_=>
     have a0:=h.mark 0 _ rfl;have a1:=h.mark 1 _ rfl;have a2:=h.mark 2 _ rfl;have b1:=h.way 1 _ rfl x (by simp)
     have b2:=h.way 2 _ rfl y (by simp)
     have b3:=h.way 2 _ rfl z (by simp)
     unfold ue;simp only[List.mem_flatMap,Fx];exact#[m0,bN a0.1 a0.2,m1,bN a1.1 a1.2,m2,bN a2.1 a2.2,x,bN b1.1 b1.2,y,bN b2.1 b2.2,z,bN b3.1 b3.2,rfl]
def xo {a:EV}{bs:EI E5}{u:Wd}(h:GoodW a bs.length u)(h3:u.length=3):iW bs u∈aD a bs:=by
 unfold aD;rw[K7];exact Fx.mpr #[u,qC h h3,rfl]
structure SizeOk (a:EV)(bs:EI E5):Prop where
 pos:0 < a
 good:GoodB bs
 most:a*bs.length<=6
 a3:a<=3
def SizeOk.n3 {a:EV}{bs:EI E5}(h:SizeOk a bs):0 < bs.length/\bs.length<=3:=by
 rcases h.good with rfl|rfl|rfl|rfl|rfl|rfl <;> decide
def DX:(aD 1 [0]).length < 64/\(aD 2 [0]).length < 64/\(aD 3 [0]).length < 64:=by decide +kernel
def CY:(aD 1 [0,1]).length < 64/\(aD 2 [0,1]).length < 64/\(aD 1 [1,0]).length < 64/\(aD 2 [1,0]).length < 64:=by decide +kernel
def DY:(aD 1 [0,1,2]).length < 64/\(aD 1 [1,0,2]).length < 64/\(aD 1 [0,2,1]).length < 64:=by decide +kernel
def DZ:(aD 3 [0,1]).length < 64:=by decide +kernel
def D0:(aD 3 [1,0]).length < 64:=by decide +kernel
def D1:(aD 2 [0,1,2]).length < 64:=by decide +kernel
def D2:(aD 2 [1,0,2]).length < 64:=by decide +kernel
def D3:(aD 2 [0,2,1]).length < 64:=by decide +kernel
def oY {a:EV}{bs:EI E5}(h:SizeOk a bs):(aD a bs).length < 64:=by
 obtain⟨h0,hb,hm,h3⟩:=h;have ha:a=1\/a=2\/a=3:=∅
 rcases hb with rfl|rfl|rfl|rfl|rfl|rfl <;> rcases ha with rfl|rfl|rfl
 ·exact DX.1
 ·exact DX.2.1
 ·exact DX.2.2
 ·exact CY.1
 ·exact CY.2.1
 ·exact DZ
 ·exact CY.2.2.1
 ·exact CY.2.2.2
 ·exact D0
 ·exact DY.1
 ·exact D1
 ·simp at hm
 ·exact DY.2.1
 ·exact D2
 ·simp at hm
 ·exact DY.2.2
 ·exact D3
 ·simp at hm
def uf (bs:EI E5)(u:Wd):∃t∈aJ,iW bs u=a9 bs u t:=by
 have h7:(aJ.map (a9 bs u)).length=6:=by rw[ER]; rfl
 have h8:((aJ.map (a9 bs u)).map eI).length=6:=by rw[ER,h7]
 have hlt:mU ((aJ.map (a9 bs u)).map eI) < (aJ.map (a9 bs u)).length:=by
  unfold mU;have h6:=eS (xV ((aJ.map (a9 bs u)).map eI)) (((aJ.map (a9 bs u)).map eI).length - 1);rw[h7]; omega
 unfold iW;rw[getD_some (EZ hlt)];obtain⟨t,ht,e⟩:=Fx.mp (Gh hlt);exact#[t,ht,e.symm]
def xp (bs:EI E5)(u:Wd):iW bs u≠[]:=by
 obtain⟨t,ht,e⟩:=uf bs u;rw[e];have:∀t∈aJ,t≠[]:=by decide
 have h:=this t ht;intro z;have hl:(a9 bs u t).length=t.length:=by simp[a9]
 rw[z]at hl;exact h (HD.mp hl.symm)
def l5:∀ {xs ys:EI E5},xs.map T.int=ys.map T.int->xs=ys
 | [],[],_=>rfl
 | [],_::_,h=>by cases h
 | _::_,[],h=>by cases h
 | x::xs,y::ys,h=>by
  rw[FV,FV]at h;injection h with h1 h2
  injection h1 with h1
  rw[h1,l5 h2]
def xq {p q:Pt}(h:lW p=lW q):p=q:=by
 unfold lW at h;injection h with h
 injection h with h1 h2
 injection h1 with h1
 injection h2 with h2 _
 injection h2 with h2
 exact NF h1 (l5 h2)
def xr {u v:Wd}(h:eI u=eI v):u=v:=by
 unfold eI at h;injection h with h
 have inj:∀ {u v:Wd},u.map lW=v.map lW->u=v:=by
  intro u
  induction u with
  | nil=>intro v h; cases v with
   | nil=>rfl
   | cons _ _=>cases h
  | cons p u ih=>intro v h; cases v with
   | nil=>cases h
   | cons q v=>
    rw[FV,FV]at h;injection h with h1 h2
    rw[xq h1,ih h2]
 exact inj h
def jA {U:EI (T×W)}{k:T}{v:W}:(dc U k v).map (·.1)=if k∈U.map (·.1)then U.map (·.1)else U.map (·.1)++[k]:=by
 have hany:(U.any λp=>decide (p.1=k))=decide (k∈U.map (·.1)):=by
  induction U with
  | nil=>rfl
  | cons p U ih=>
   rw[Hc,ih,FV]
   by_cases e:p.1=k
   ·subst e; simp
   ·rw[Fq e,Jv];have:(k∈p.1::U.map (·.1))=(k∈U.map (·.1)):=by simp[Ne.symm e]
    simp only[this]
 unfold dc;rw[hany]
 by_cases h:k∈U.map (·.1)
 ·rw[Fi h,Fi (Gf h),Hb];show Ij λp _=>?_
  show(if p.1=k then(p.1,v)else p).1=p.1
  split <;> rfl
 ·rw[FJ h,FJ (by simpa using h),F6]
  rfl
structure FigD (L:EI Wd)(U:EI (T×W))(fs:EI Wd):Prop where
 keys:U.map (·.1)=fs.map eI
 nd:fs.Nodup
 mem:∀f∈fs,f∈L
def FigD.nil {L:EI Wd}:FigD L [] []:=#[rfl,Kn,λ_ h=>nomatch h]
def FigD.len {L:EI Wd}{U:EI (T×W)}{fs:EI Wd}(h:FigD L U fs):U.length=fs.length/\fs.length<=L.length:=by
 have:=congrArg MZ h.keys;rw[ER,ER]at this;exact#[this,nw fs L h.nd h.mem]
def FigD.put {L:EI Wd}{U:EI (T×W)}{fs:EI Wd}{f:Wd}{v:W}(h:FigD L U fs)(hf:f∈L):∃fs',FigD L (dc U (eI f) v) fs':=by
 by_cases hm:f∈fs
 ·show#[fs,?_,h.nd,h.mem];rw[jA,Fi (by rw[h.keys]; exact Fx.mpr #[f,hm,rfl]),h.keys]
 ·show#[fs++[f],?_,?_,λg hg=>?_]
  ·rw[jA,FJ,h.keys,F6]
   ·rfl
   ·rw[h.keys];intro z;obtain⟨g,hg,e⟩:=Fx.mp z;exact hm (xr e ▸ hg)
  ·rw[HN];show#[h.nd,by simp,λa ha b hb e=>?_]
   rw[Fb.mp hb]at e;exact hm (e ▸ ha)
  ·rcases FR.mp hg with h'|h'
   ·exact h.mem g h'
   ·rw[Fb.mp h']; exact hf
def FigD.items {S:aa}{t:EV}{L:EI Wd}{U:EI (T×W)}{fs:EI Wd}(h:FigD L U fs)(e:S[t]?=ba (.dic U)):cK S (.ref t)=ba (fs.map aT):=by
 simp only[cK,kE e,bX e,FP];congr 1;have:(U.map (·.1)).map T.w=(fs.map eI).map T.w:=by rw[h.keys]
 rw[Hb,Hb]at this
 calc U.map (λp=>p.1.w)=U.map (T.w∘λx=>x.1):=rfl
  _=fs.map (T.w∘eI):=this
  _=fs.map aT:=by
   show Ij λf _=>?_
   exact tR f
def l7 {a:EV}{bs:EI E5}{f:Wd}(h:f∈aD a bs):f≠[]:=by
 unfold aD at h;rw[K7]at h;obtain⟨u,_,rfl⟩:=Fx.mp h;exact xp bs u
def Cz {S:aa}{t:EV}{U:EI (T×W)}{u:Wd}{v:W}(h:S[t]?=ba (.dic U))(hl:U.length < sizeLine):fj (.ref t) (aT u) v S=ba (S.set t (.dic (dc U (eI u) v))):=by
 have hk:=Al u;unfold aT at hk ⊢
 (dsimp only[fj,j3]; simp only[h,hk])
 rw[Fi hl]
structure RuleAt (a:EV)(bs:EI E5)(ms ns:EI E3)(gs:EI Wd):Prop where
 size:SizeOk a bs
 ml:ms.length=a
 nl:ns.length=bs.length
 nm:GoodN ms ns
 nd:gs.Nodup
 mem:∀g∈gs,g∈aD a bs
abbrev bW (w:W):Prop:=∃a bs ms ns gs,w=bh ms ns bs (gC gs)/\RuleAt a bs ms ns gs
section
variable{M:E3->FF}{fuel:EV}{Z:Fm}{S:aa}{K:Fm->aa->Prop}{Q:QO}
def fJ {i0:EV}{e:E}{b:Ss}(oe:cg e=true)(ok:eQ b=true)(he:wE M e Z S λp=>∃(j:E5) (I:EV->Fm->aa->Prop),p.1=.int j/\(-(2 ^ 62)<=j/\j < 2 ^ 62)/\I 0 Z p.2/\
  (∀(i:EV) (Z:Fm) (S:aa),(i:E5) < j->I i Z S->tL M fuel b (Z.set i0 (ba (.int i))) S (I (i+1)) Q)/\∀Z S,I j.toNat Z S->K Z S):Wp (ef M fuel (.loop (.nm i0) (.rng #v[e]) b) Z S) (nv K Q):=by
 obtain⟨w,S1,e1,j,I,rfl,hj,h0,hs,hend⟩:=bn oe he;have hl:(cj 0 j.toNat).length=j.toNat:=by simp[cj]
 show gd (mi:=.its (cj 0 j.toNat)) (S1:=S1) (xs:=cj 0 j.toNat) I ok ?_ (λ_ _ _ _=>rfl) rfl h0 (λi w Z S hw hI=>?_) λZ S hI=>hend Z S (hl ▸ hI)
 ·(dsimp only[gx,bR,b9,eN,qh]; simp only[e1])
  rw[Fi hj]
 ·rw[cL]at hw;split at hw
  ·rename_i hk;cases hw;rw[Ly];exact hs i Z S ∅ hI
  ·cases hw
def d7 {tg:Tg}{e:E}{b:Ss}(oe:cg e=true)(ok:eQ b=true)(he:wE M e Z S λp=>∃(t:EV) (xs:EI W) (I:EV->Fm->aa->Prop),p.1=.ref t/\I 0 Z p.2/\(∀i Z S,I i Z S->S[t]?=ba (.lst xs))/\
  (∀(i:EV) (w:W) (Z:Fm) (S:aa),xs[i]?=ba w->I i Z S->wO (gI tg w Z S) λq=>tL M fuel b q.1 q.2 (I (i+1)) Q)/\∀Z S,I xs.length Z S->K Z S):Wp (ef M fuel (.loop tg (.seq e) b) Z S) (nv K Q):=by
 obtain⟨w,S1,e1,t,xs,I,rfl,h0,hat,hs,hend⟩:=bn oe he;exact gd (mi:=.live t) (S1:=S1) I ok (by simp only[gx,cM,e1,ap (hat _ _ _ h0)]) (λi Z S h=>by simp only[MI.at,ap (hat _ _ _ h)]) (by simp only[MI.len,ap (hat _ _ _ h0),FP]) h0 hs hend
end
section
variable{defs:EI (E3×Df)}{fuel d:EV}{S:aa}{r:EV}{Q:QW}
def oZ {q:EV}{a:EV}{bs:EI E5}{ms ns:EI E3}{fs0:EI Wd}{U:EI (T×W)}{fs:EI Wd}(h3:S[q]?=ba (.dic U))(h4:FigD (aD a bs) U fs)(hs:SizeOk a bs)(hml:ms.length=a)(hnl:ns.length=bs.length)(hnm:GoodN ms ns)(k:∀w S',bW w->Ka S S'->Q (w,S')) :
  wO (mr (bh ms ns bs fs0) (.int 0) S) λp=>wO (mr (bh ms ns bs fs0) (.int 1) p.2) λq'=>wO (Bi.sorted.fn [.ref q] q'.2) λs=>wO (Bi.tuple.fn [s.1] s.2) λz=>Q (.tup [p.1,q'.1,z.1],z.2):=by
 show al #v[] rfl (al #v[] rfl ?_)
 have hl:=h4.len;exact t4 (h4.items h3) (by have:=oY hs; omega) (λf hf=>l7 (h4.mem f hf)) (dw ag (k _ _ #[a,bs,ms,ns,fs,rfl,hs,hml,hnl,hnm,h4.nd,h4.mem] .push))
def o4 {q:EV}{a:EV}{bs:EI E5}{u:Wd}{U:EI (T×W)}{fs:EI Wd}{Q:aa->Prop}(h3:S[q]?=ba (.dic U))(h4:FigD (aD a bs) U fs)(hs:SizeOk a bs)(hu:GoodW a bs.length u)(hu3:u.length=3)
  (k:∀o,(∃U fs,(S.set q o)[q]?=ba (.dic U)/\FigD (aD a bs) U fs)->Q (S.set q o)):wO (fj (.ref q) (aT (iW bs u)) (.bl true) S) Q:=by
 have hl:=h4.len;have:=oY hs;obtain⟨fs',h5⟩:=h4.put (v:=.bl true) (xo hu hu3);exact ae (Cz h3 (by rw[FX]; omega)) (k _ #[_,fs',bC h3,h5])
def nB (hfu:20 < fuel)(G:Gen defs)(hf:Fl S r)(k:∀w S',bW w->Fl S' r->Kp r S S'->Q (w,S')):wO (aQ (ak defs fuel (d+6)) "_law_any_rule" 1 [.ref r] S) Q:=by
 show aw G.any_rule rfl rfl λQ' hR=>?_
 replace k:∀w S',bW w->Fl S' r->Kp r S S'->Q' (.rt w,S'):=λz S' a b c=>hR _ _ (k z S' a b c)
 clear hR;change wZ _ _ bM [ba (.ref r),gV,gV,gV,gV,gV] S Q';dsimp only[bM];nofun
 left;show oW (d:=d+3) G hf λa n S1 a1 a3 n1 n3 an f1 k1=>?_
 dsimp only[wU];show ae (show ci [1,2] [.int a,.int n] [ba (.ref r),gV,gV,gV,gV,gV]=ba [ba (.ref r),ba (.int a),ba (.int n),gV,gV,gV]from rfl) (hK _ _ ?_)
 clear hK K;nofun
 left;show oX (d:=d+3) G f1 n1 n3 λbs S2 hb hbl f2 k2=>?_
 have hsz:SizeOk a bs:=#[∅,hb,by rw[hbl]; exact an,a3]
 show dI (d:=d) hfu G f2 a3 ∅ λms ns S3 hml hnl hnm f3 k3=>hK _ _ ?_
 clear hK K;have hrt:=f3.lt;replace k3:Kp r S S3:=k1.trans (k2.trans k3);clear k1 k2 f1 f2;show st ?_;dsimp only[wS,wE,E7];nofun
 show fJ rfl rfl ?_;dsimp only[wE,wA,wV,wG];show aB (d:=d+4) G.pick (f3.ka .push) #v[] #v[] λv S4 v0 v9 f4 k4=>?_
 show#[v,λk Z S'=>(∃a5,Z=[ba (.ref r),ba (.int a),ba (.int n),ba (bh ms ns bs []),ba (.ref S3.length),a5])/\(∃U fs,S'[S3.length]?=ba (.dic U)/\FigD (aD a bs) U fs)/\Fl S' r/\Kp r S S',rfl,∅,#[#[gV,rfl],#[[],[],k4.get _ _ ∅ ag,.nil],f4,(k3.trans .push).trans k4],?_,?_]
 ·rintro i Z S5 hi ⟨⟨a5,rfl⟩,⟨U,fs,e5,hd⟩,f5,k5⟩ Q2 hn _;clear hK;show st ?_;left;show fI (d:=d+3) G f5 ∅ a3 ∅ n3 λu S6 hu3 hu f6 k6=>?_
  have hu:GoodW a bs.length u:=hbl.symm ▸ hu;show fH (d:=d+2) G hb hnl hu hu3 λS7 k7=>?_
  have e7:=k7.get _ _ (k6.get _ _ ∅ e5)
  exact o4 e7 hd hsz hu hu3 λo ho=>bO (hn _ _ #[#[_,rfl],ho,(f6.ka k7).own hrt,((k5.trans k6).trans (k7.kp r)).late k3.len])
 ·rintro Z S5 ⟨⟨a5,rfl⟩,⟨U,fs,e5,hd⟩,f5,k5⟩;show hK _ _ (st ?_);left;exact oZ (Q:=λp=>Q' (.rt p.1,p.2)) e5 hd hsz hml hnl hnm λw S6 hw k6=>k w S6 hw (f5.ka k6) (k5.trans (k6.kp r))
end
abbrev dj (t:E5×E5×E5):W:=.tup [.int t.1,.int t.2.1,.int t.2.2]
abbrev jB (a:EV)(t:E5×E5×E5):Prop:=(0<=t.1/\t.1 < a)/\(0<=t.2.1/\t.2.1 < a)/\(0<=t.2.2/\t.2.2 < a)
abbrev ug (k:E5):Wd:=[(k,[]),(k,[0]),(k,[0,0])]
def D4:∀k∈di 1,ug k∈aD 1 [0]:=by decide +kernel
def D5:∀k∈di 2,ug k∈aD 2 [0]:=by decide +kernel
def D6:∀k∈di 3,ug k∈aD 3 [0]:=by decide +kernel
def xt {a:EV}{k:E5}(h0:1<=a)(h3:a<=3)(hk:0<=k)(hk2:k < a):ug k∈aD a [0]:=by
 have ha:a=1\/a=2\/a=3:=∅
 rcases ha with rfl|rfl|rfl
 ·exact D4 k (bN hk hk2)
 ·exact D5 k (bN hk hk2)
 ·exact D6 k (bN hk hk2)
def xu {a b:E5}(h:ug a=ug b):a=b:=by
 unfold ug at h;injection h with h1 h2
 injection h1
def fK:GoodB [0]:=.inl rfl
def CA {S:aa}{i j:EV}{xs:EI W}(h1:S[i]?=ba (.lst xs))(h2:S[j]?=ba (.lst [])):cV .eq (.ref i) (.ref j) S=ba (.bl xs.isEmpty,S):=by
 show(kZ S (19+1) (.ref i) (.ref j)).map _=_
 (dsimp only[kZ]; simp only[fA h1,fA h2])
 cases xs with
 | nil=>rfl
 | cons x xs=>rfl
def xv {S:aa}{f:E5}{ws:EI E5}:∃b,cV .notin (.int f) (.tup (af ws)) S=ba (.bl b,S):=by
 have hf:(aZ (.int f)&&(af ws).all aZ)=true:=by
  (dsimp only[aZ]; simp only[IN,Fu])
  intro x hx;obtain⟨z,_,rfl⟩:=Fx.mp hx;rfl
 show#[!(af ws).any λz=>mM z (.int f),?_]
 change dq .notin (.int f) (.tup (af ws)) S=_
 (dsimp only[dq,vN,vM,bQ]; simp only[hf,HX,FP])
section
variable{M:E3->FF}{fuel:EV}{Z:Fm}{S:aa}{K:Fm->aa->Prop}{Q:QO}
def uh {i0:EV}{a b:E}{bd:Ss}(i j:E5)(I:EV->Fm->aa->Prop)(oa:cg a=true)(ob:cg b=true)(ok:eQ bd=true)(hj : -(2 ^ 62)<=i/\i < 2 ^ 62/\-(2 ^ 62)<=j/\j < 2 ^ 62)(he:wE M a Z S λp=>p.1=.int i/\wE M b Z p.2 λq=>q.1=.int j/\I 0 Z q.2)
  (hstep:∀(k:EV) (Z:Fm) (S:aa),(k:E5) < j - i->I k Z S->tL M fuel bd (Z.set i0 (ba (.int (i+k)))) S (I (k+1)) Q) (hend:∀Z S,I (j - i).toNat Z S->K Z S):Wp (ef M fuel (.loop (.nm i0) (.rng2 #v[a,b]) bd) Z S) (nv K Q):=by
 obtain⟨w,S1,e1,rfl,h1⟩:=bn oa he;obtain⟨w,S2,e2,rfl,h0⟩:=bn ob h1;have hl:(cj i (j - i).toNat).length=(j - i).toNat:=by simp[cj]
 show gd (mi:=.its (cj i (j - i).toNat)) (S1:=S2) (xs:=cj i (j - i).toNat) I ok ?_ (λ_ _ _ _=>rfl) rfl h0 (λk w Z S hw hI=>?_) λZ S hI=>hend Z S (hl ▸ hI)
 ·simp only[gx,bR,b9,eN,iRng2,e1,e2];rw[Fi hj]
 ·rw[cL]at hw;split at hw
  ·rename_i hk;cases hw;exact hstep k Z S ∅ hI
  ·cases hw
def uj {elt a b:E}{i0:EV}{cs:Es}{cap:EI (EO EV)}{Q:QW}(i j:E5)(I:EV->EI W->Fm->aa->Prop)(oa:cg a=true)(ob:cg b=true)(oe:cg elt=true)(oc:lS cs=true)(hj : -(2 ^ 62)<=i/\i < 2 ^ 62/\-(2 ^ 62)<=j/\j < 2 ^ 62)(he:wE M a Z S λp=>p.1=.int i/\wE M b Z p.2 λq=>q.1=.int j/\I 0 [] (cN cap Z) q.2)
  (hstep:∀(k:EV) (ys:EI W) (Z:Fm) (S:aa),(k:E5) < j - i->I k ys Z S->gK M elt cs (Z.set i0 (ba (.int (i+k)))) S (λy=>I (k+1) (ys++[y])) (I (k+1) ys))
  (hend:∀ys Z S,I (j - i).toNat ys Z S->ys.length<=sizeLine/\Q (.ref S.length,S++[.lst ys])):Wp (aj M (.comp elt (.nm i0) (.rng2 #v[a,b]) cs cap) Z S) Q:=by
 obtain⟨w,S1,e1,rfl,h1⟩:=bn oa he;obtain⟨w,S2,e2,rfl,h0⟩:=bn ob h1;have hl:(cj i (j - i).toNat).length=(j - i).toNat:=by simp[cj]
 show kG (mi:=.its (cj i (j - i).toNat)) (S1:=S2) (xs:=cj i (j - i).toNat) I oe oc ?_ (λ_ _ _ _ _=>rfl) rfl h0 (λk w ys Z S hw hI=>?_) λys Z S hI=>hend ys Z S (hl ▸ hI)
 ·simp only[gx,bR,b9,eN,iRng2,e1,e2];rw[Fi hj]
 ·rw[cL]at hw;split at hw
  ·rename_i hk;cases hw;exact hstep k ys Z S ∅ hI
  ·cases hw
end
section
variable{defs:EI (E3×Df)}{fuel d:EV}{S:aa}{r:EV}{Q:QW}
def uk (G:Gen defs){a:EV}(ha:a<=3)(k:∀(q:EV) (ts:EI (E5×E5×E5)) (S':aa),S'[q]?=ba (.lst (ts.map dj))->(∀t∈ts,jB a t)->ts.length<=27->S.length<=q->Ka S S'->Q (.ref q,S')) :
  wO (aQ (ak defs fuel (d+1)) "_law_rising" 1 [.int a] S) Q:=by
 show aw G.rising rfl rfl λQ' hR=>?_
 replace k:∀(q:EV) (ts:EI (E5×E5×E5)) (S':aa),S'[q]?=ba (.lst (ts.map dj))->(∀t∈ts,jB a t)->ts.length<=27->S.length<=q->Ka S S'->Q' (.rt (.ref q),S'):=λq ts S' a b l c e=>hR _ _ (k q ts S' a b l c e)
 clear hR;change wZ _ _ cv [ba (.int a),gV,gV,gV] S Q';dsimp only[cv];show st ?_;dsimp only[wS,wE,wA,E7];nofun
 show en (a:E5) (λi Z S'=>∃(q:EV) (ts:EI (E5×E5×E5)) (a2 a3:EO W),Z=[ba (.int a),ba (.ref q),a2,a3]/\S'[q]?=ba (.lst (ts.map dj))/\(∀t∈ts,jB a t)/\S.length<=q/\ts.length<=9*i/\Ka S S') rfl rfl ∅ #[rfl,_,[],_,_,rfl,ag,λ_ h=>(nomatch h),E2 _,GC _,.push] ?_ ?_
 ·rintro i Z S1 hi ⟨q,ts,a2,a3,rfl,e1,ht,hq,hl,k1⟩ Q2 hn _;clear hK k;nofun
  show uh (i:E5) (a:E5) (λj Z S'=>∃(q:EV) (ts:EI (E5×E5×E5)) (a3:EO W),Z=[ba (.int a),ba (.ref q),ba (.int i),a3]/\S'[q]?=ba (.lst (ts.map dj))/\(∀t∈ts,jB a t)/\S.length<=q/\ts.length<=9*i+3*j/\Ka S S') rfl rfl rfl ∅ #[rfl,rfl,q,ts,a3,rfl,e1,ht,hq,∅,k1] ?_ ?_
  ·rintro j Z S2 hj ⟨q,ts,a3,rfl,e2,ht,hq,hl,k2⟩ Q3 hn3 _;clear hK hn;show st ?_;dsimp only[wS,wE,wV,wG,E7];show uj ((i:E5)+j) (a:E5) (λm ys Z2 S3=>(∃a1,Z2=[gV,a1,ba (.int i),ba (.int ((i:E5)+j))])/\(∃us:EI (E5×E5×E5),ys=us.map dj/\us.length=m/\∀t∈us,jB a t)/\S3=S2) rfl rfl rfl rfl ∅ #[rfl,rfl,#[gV,rfl],#[[],rfl,rfl,λ_ h=>nomatch h],rfl] ?_ ?_
   ·rintro m ys Z2 S3 hm ⟨⟨a1,rfl⟩,⟨us,rfl,hul,hu⟩,rfl⟩;show#[λ_=>#[#[_,rfl],#[us++[((i:E5),(i:E5)+j,(i:E5)+j+m)],by rw[F6]; rfl,by rw[E6,hul]; rfl,λt h=>?_],rfl],λz=>by cases z]
    rcases FR.mp h with h|h
    ·exact hu t h
    ·rw[Fb.mp h];exact#[#[∅,∅],#[by dsimp only; omega,by dsimp only; omega],#[by dsimp only; omega,by dsimp only; omega]]
   ·rintro ys Z2 S3 ⟨_,⟨us,rfl,hul,hu⟩,rfl⟩;show#[few (by rw[ER]; omega),ae (nu (aq e2) ag ?_) (bO (hn3 _ _ #[_,ts++us,_,rfl,?_,λt h=>(FR.mp h).elim (ht t) (hu t),?_,?_,k2.trans (Ka.push.trans .push)]))]
    ·show few ?_;rw[E6,ER,ER];omega
    ·rw[F6]; exact ag
    ·have:=k2.len;simp only[E6]; omega
    ·rw[E6]; omega
  ·rintro Z S2 ⟨q,ts,a3,rfl,e2,ht,hq,hl,k2⟩;exact hK _ _ (bO (hn _ _ #[q,ts,_,_,rfl,e2,ht,hq,∅,k2]))
 ·rintro Z S1 ⟨q,ts,a2,a3,rfl,e1,ht,hq,hl,k1⟩;show hK _ _ (st ?_);exact k q ts S1 e1 ht ∅ hq k1
def l8 (G:Gen defs){a:EV}(ha:a<=3)(k:∀(q:EV) (ts:EI (E5×E5×E5)) (S':aa),S'[q]?=ba (.lst (ts.map dj))->(∀t∈ts,jB a t)->S.length<=q->Ka S S'->Q (.ref q,S')) :
  wO (aQ (ak defs fuel (d+1)) "_law_rising" 1 [.int a] S) Q:=uk G ha λq ts S' a b _ c e=>k q ts S' a b c e
def qD (hfu:20 < fuel)(G:Gen defs)(hf:Fl S r)(k:∀w S',bW w->Fl S' r->Kp r S S'->Q (w,S')):wO (aQ (ak defs fuel (d+6)) "_law_one_way_rule" 1 [.ref r] S) Q:=by
 show aw G.one_way_rule rfl rfl λQ' hR=>?_
 replace k:∀w S',bW w->Fl S' r->Kp r S S'->Q' (.rt w,S'):=λz S' a b c=>hR _ _ (k z S' a b c)
 clear hR;change wZ _ _ aW [ba (.ref r),gV,gV] S Q';dsimp only[aW];nofun
 left;show aB (d:=d+4) G.pick hf #v[] #v[] λv S1 v0 v3 f1 k1=>?_
 dsimp only[bG,ar];obtain⟨a,ea⟩ : ∃a:EV,1+v=a:=#[(1+v).toNat,∅]
 rw[ea];show hK _ _ ?_;clear hK K;nofun
 dsimp only[wS,wE,E7];show cY (a:E5) (λk zs Z2 S2=>(∃a1,Z2=[gV,a1,ba (.ref r)])/\(∃ks:EI E5,zs=(ks.map ug).map aT/\ks.Pairwise (·≠·)/\ks.length<=k/\∀x∈ks,0<=x/\x < k)/\Fl S2 r/\Kp r S1 S2) rfl rfl rfl ∅ #[rfl,#[gV,rfl],#[[],rfl,.nil,E2 _,λ_ h=>(nomatch h)],f1,.refl] ?_ ?_
 ·rintro i zs Z2 S2 hi ⟨⟨a1,rfl⟩,⟨ks,rfl,hkp,hkl,hks⟩,f2,k2⟩;clear hK k;dsimp only[gK,wC,wT,wE,wA,wV,wG,E7];show aB (d:=d+4) G.pick f2 #v[] #v[] λv S3 _ _ f3 k3=>?_
  dsimp only[dN,ar,wB];show#[λ_=>#[#[_,rfl],#[ks++[(i:E5)],by simp[ug,aT,iV],?_,by rw[E6]; exact IH hkl,λx hx=>?_],f3,k2.trans k3],λ_=>#[#[_,rfl],#[ks,rfl,hkp,∅,λx hx=>#[(hks x hx).1,by have:=(hks x hx).2; omega]],f3,k2.trans k3]]
  ·rw[List.pairwise_append];show#[hkp,by simp,λx hx y hy e=>?_]
   have:=(hks x hx).2;rw[Fb.mp hy]at e;omega
  ·rcases FR.mp hx with h|h
   ·exact#[(hks x h).1,by have:=(hks x h).2; omega]
   ·rw[Fb.mp h]; omega
 ·rintro zs Z2 S2 ⟨_,⟨ks,rfl,hkp,hkl,hks⟩,f2,k2⟩;rw[Ff]at hkl hks;show#[few (by rw[ER,ER]; omega),hK _ _ (st ?_)]
  clear hK K;left;have hlt:=f2.lt;show eu (d:=d) (a:=a) (bs:=[0]) (us:=ks.map ug) hfu G (f2.ka .push) ∅ #v[] (λS' kk=>?_) (by rw[ER]; omega) (λu hu=>by obtain⟨x,_,rfl⟩:=Fx.mp hu; exact List.cons_ne_nil _ _) λms ns S3 hml hnl hnm f3 k3=>?_
  ·simp only[cK,ap (kk.get _ _ ∅ ag)]
  show k _ _ #[a,[0],ms,ns,ks.map ug,rfl,#[#[∅,fK,by simp; omega,∅],hml,hnl,hnm,?_,λg hg=>?_]] f3 (k1.trans (k2.trans (Kp.push.trans k3)))
  ·unfold Mq;rw[IC];exact hkp.imp λh e=>h (xu e)
  ·obtain⟨x,hx,rfl⟩:=Fx.mp hg;exact xt ∅ ∅ (hks x hx).1 (hks x hx).2
def l9 (hfu:20 < fuel)(G:Gen defs)(hf:Fl S r)(k:∀w S',bW w->Fl S' r->Kp r S S'->Q (w,S')):wO (aQ (ak defs fuel (d+6)) "_law_free_rule" 1 [.ref r] S) Q:=by
 show aw G.free_rule rfl rfl λQ' hR=>?_
 replace k:∀w S',bW w->Fl S' r->Kp r S S'->Q' (.rt w,S'):=λz S' a b c=>hR _ _ (k z S' a b c)
 clear hR;change wZ _ _ bA [ba (.ref r),gV,gV,gV,gV,gV,gV,gV,gV] S Q';dsimp only[bA];nofun
 left;show oW (d:=d+3) G hf λa n S1 a1 a3 n1 n3 an f1 k1=>?_
 dsimp only[wU];show ae (show ci [1,2] [.int a,.int n] [ba (.ref r),gV,gV,gV,gV,gV,gV,gV,gV]=ba [ba (.ref r),ba (.int a),ba (.int n),gV,gV,gV,gV,gV,gV]from rfl) (hK _ _ ?_)
 clear hK K;nofun
 left;show oX (d:=d+3) G f1 n1 n3 λbs S2 hb hbl f2 k2=>?_
 have hsz:SizeOk a bs:=#[∅,hb,by rw[hbl]; exact an,a3]
 show dI (d:=d) hfu G f2 a3 ∅ λms ns S3 hml hnl hnm f3 k3=>hK _ _ ?_
 clear hK K;have hrt:=f3.lt;replace k3:Kp r S S3:=k1.trans (k2.trans k3);clear k1 k2 f1 f2;nofun
 dsimp only[wS,wE,E7];show cY (n:E5) (λi zs Z2 S2=>(∃a1,Z2=[gV,a1,ba (bh ms ns bs [])])/\(∃ks:EI E5,zs=af ks/\ks.length<=i)/\S2=S3) rfl rfl rfl ∅ #[rfl,#[gV,rfl],#[[],rfl,E2 _],rfl] ?_ ?_
 ·rintro i zs Z2 S2 hi ⟨⟨a1,rfl⟩,⟨ks,rfl,hkl⟩,rfl⟩;clear hK k;have hi':i < bs.length:=∅
  dsimp only[gK,wC,wT,wE,wA,wV,wG,E7];show al #v[] rfl (al (FB i) (by rw[Ff]; exact nz (EZ ∅) (EZ hi')) (al #v[] rfl ?_))
  dsimp only[dN,ar,wB];exact#[λ_=>#[#[_,rfl],#[ks++[(i:E5)],by unfold af; rw[F6]; rfl,by rw[E6]; exact IH hkl],rfl],λ_=>#[#[_,rfl],#[ks,rfl,∅],rfl]]
 ·rintro zs Z2 S2 ⟨_,⟨ks,rfl,hkl⟩,rfl⟩;rw[Ff]at hkl;have il:(af ks).length=ks.length:=ER ..;show#[few ∅,hK _ _ ?_]
  clear hK K;nofun
  dsimp only[wS,wT,wE,wA,wV,wG,E7];show ae (CA (aq ag) ag) ?_;dsimp only[wB];have f4:=(f3.ka (Ka.push (o:=O.lst (af ks)))).ka (Ka.push (o:=O.lst []));have k4:=k3.trans ((Kp.push (o:=O.lst (af ks))).trans (Kp.push (o:=O.lst [])));have e4:=aq (u:=O.lst []) (ag (S:=S2) (o:=O.lst (af ks)));have hl4:S2.length < (S2++[O.lst (af ks)]++[O.lst []]).length:=by simp
  generalize hS4:S2++[O.lst (af ks)]++[O.lst []]=S4 at f4 k4 e4 hl4;clear hS4;have ret:∀Q2:QO,(∀w S',Q' (.rt w,S')->Q2 (.rt w,S'))->wZ (ak defs fuel (d+5)) fuel #v[.ret (.v 3)] [ba (.ref r),ba (.int a),ba (.int n),ba (bh ms ns bs []),gV,ba (.ref S2.length),gV,gV,gV] S4 Q2:=λQ2 hr=>st (hr _ _ (k _ _ #[a,bs,ms,ns,[],rfl,hsz,hml,hnl,hnm,.nil,λ_ h=>(nomatch h)] f4 k4))
  show#[λ_=>am (Q0:=Q') (λ_ Q2 _ hr=>ret Q2 hr) (λz=>by cases z),λhne=>?_]
  dsimp only[dN,ar,wB];show am (Q0:=Q') (λ_ Q2 _ hr=>ret Q2 hr) (λ_ Q2 hn _=>bO (hn _ _ (hK _ _ ?_)))
  clear hK ret hn;have hk0:0 < ks.length:=by
   cases ks with
   | nil=>cases hne
   | cons x ks=>exact Nat.succ_pos _
  nofun
  left;show oN e4 ?_;rw[il];show aB (d:=d+4) G.pick f4 ∅ ∅ λv S5 v0 v1 f5 k5=>?_
  have e5:=k5.get _ _ ∅ e4
  obtain⟨x,_,ex⟩:=iI (f:=W.int) (xs:=ks) (i:=v.toNat) ∅
  show gB e5 v0 ex (hK _ _ ?_);clear hK K;replace k5:Kp r S S5:=k4.trans k5;have hrt5:=f5.lt;show st ?_;dsimp only[wS,wE,E7];nofun
  show fJ rfl rfl ?_;dsimp only[wE,wA,wV,wG];show aB (d:=d+4) G.pick (f5.ka .push) #v[] #v[] λv S6 v0 v9 f6 k6=>?_
  show#[v,λ_ Z S'=>(∃a4 a8,Z=[ba (.ref r),ba (.int a),ba (.int n),ba (bh ms ns bs []),a4,ba (.ref S2.length),ba (.int x),ba (.ref S5.length),a8])/\(∃U fs,S'[S5.length]?=ba (.dic U)/\FigD (aD a bs) U fs)/\Fl S' r/\Kp r S S',rfl,∅,#[#[gV,gV,rfl],#[[],[],k6.get _ _ ∅ ag,.nil],f6,(k5.trans .push).trans k6],?_,?_]
  ·rintro i Z S7 hi ⟨⟨a4,a8,rfl⟩,⟨U,fs,e7,hd⟩,f7,k7⟩ Q2 hn _;clear hK k;show st ?_;left;show fI (d:=d+3) G f7 ∅ a3 ∅ n3 λu S8 hu3 hu f8 k8=>?_
   have hu:GoodW a bs.length u:=hbl.symm ▸ hu;have e8:=k8.get _ _ ∅ e7
   obtain⟨p0,p1,p2,rfl⟩ : ∃p0 p1 p2,u=[p0,p1,p2]:=by
    match u,hu3 with
    | [p0,p1,p2],_=>exact#[p0,p1,p2,rfl]
   have l1:=hu.len 1 p1 rfl;obtain⟨m1,ws1⟩:=p1;obtain⟨w1,rfl⟩ : ∃w1,ws1=[w1]:=by
    match ws1,l1 with
    | [w1],_=>exact#[w1,rfl]
   obtain⟨b,hb2⟩:=xv (S:=S8) (f:=x) (ws:=p2.2);have kk:=k7.trans k8;nofun
   dsimp only[wS,wT,wE,wA,wV,wG];show al #v[] rfl (al #v[] rfl (al #v[] rfl ?_))
   dsimp only[Cj,ar,wB];have skip:K [ba (.ref r),ba (.int a),ba (.int n),ba (bh ms ns bs []),ba (.int i),ba (.ref S2.length),ba (.int x),ba (.ref S5.length),ba (aT [p0,(m1,[w1]),p2])] S8:=hK _ _ (bO (hn _ _ #[#[_,_,rfl],#[U,fs,e8,hd],f8,kk]));show#[λ_=>?_,λ_=>am (Q0:=Q2) (λz=>by cases z) λ_ Q3 hn3 _=>bO (hn3 _ _ skip)]
   show al #v[] rfl (al #v[] rfl (ae hb2 ?_))
   dsimp only[wB];show am (Q0:=Q2) (λ_ Q3 hn3 _=>?_) λ_ Q3 hn3 _=>bO (hn3 _ _ skip)
   clear skip;show st ?_;left;show fH (d:=d+2) G hb hnl hu hu3 λS9 k9=>?_
   exact o4 (k9.get _ _ e8) hd hsz hu hu3 λo ho=>bO (hn3 _ _ (hK _ _ (bO (hn _ _ #[#[_,_,rfl],ho,(f8.ka k9).own hrt5,(kk.trans (k9.kp r)).late k5.len]))))
  ·rintro Z S7 ⟨⟨a4,a8,rfl⟩,⟨U,fs,e7,hd⟩,f7,k7⟩;show hK _ _ (st ?_);left;exact oZ (Q:=λp=>Q' (.rt p.1,p.2)) e7 hd hsz hml hnl hnm λw S8 hw k8=>k w S8 hw (f7.ka k8) (k7.trans (k8.kp r))
end
abbrev aV (u v:E5):T:=.tup [.int u,.int v]
abbrev cf (u v:E5):W:=.tup [.int u,.int v]
def fL {u v:E5}:eB (cf u v)=ba (aV u v):=rfl
def ul {U:EI (T×W)}{k:T}{v:W}{p:T×W}(h:p∈dc U k v):p∈U\/p=(k,v):=by
 unfold dc at h;split at h
 ·obtain⟨q,hq,rfl⟩:=Fx.mp h;split
  ·rename_i e; exact .inr (by rw[e])
  ·exact .inl hq
 ·rcases FR.mp h with h|h
  ·exact .inl h
  ·exact .inr (Fb.mp h)
def ma {U:EI (T×W)}{k:T}{v:W}(h:bB U k=ba v):(k,v)∈U:=by
 unfold bB at h;rw[EQ]at h;obtain⟨p,h1,rfl⟩:=h;have:=J1 h1;rw[<- F1 this];exact List.mem_of_find?_eq_some h1
def xx {U:EI (T×W)}{p:T×W}(h:p∈U):∃v,bB U p.1=ba v:=by
 unfold bB;cases e:U.find? λq=>decide (q.1=p.1)with
 | some q=>exact#[q.2,rfl]
 | none=>exact absurd (List.find?_eq_none.mp e p h) (by simp)
abbrev MustE (S:aa)(n b:EV)(U:EI (T×W)):Prop:=∀p∈U,∃(u v:E5) (l:EV) (ws:EI E5),p=(aV u v,W.ref l)/\(0<=u/\u < n)/\(0<=v/\v < n)/\b<=l/\S[l]?=ba (.lst (af ws))/\ws.length<=3/\∀w∈ws,0<=w/\w < (n:E5)
def MustE.mono {S S':aa}{n b:EV}{U:EI (T×W)}(h:MustE S n b U)(k:∀(l:EV) (ws:EI E5),b<=l->S[l]?=ba (.lst (af ws))->S'[l]?=ba (.lst (af ws))):MustE S' n b U:=λp hp=>
 let ⟨u,v,l,ws,h1,h2,h3,h4,h5,h6⟩:=h p hp
 #[u,v,l,ws,h1,h2,h3,h4,k l ws h4 h5,h6]
def MustE.ka {S S':aa}{n b:EV}{U:EI (T×W)}(h:MustE S n b U)(k:Ka S S'):MustE S' n b U:=h.mono λl ws _ e=>k.get _ _ e
def MustE.kp {S S':aa}{n b r:EV}{U:EI (T×W)}(h:MustE S n b U)(hr:r < b)(k:Kp r S S'):MustE S' n b U:=h.mono λl ws hl e=>k.get _ _ ∅ e
def MustE.set {S:aa}{n b t:EV}{U k:EI (T×W)}{o:O}(h:MustE S n b U)(ht:S[t]?=ba (.dic k)):MustE (S.set t o) n b U:=h.mono λl ws hl e=>by
 rw[bw (by rintro rfl; rw[ht]at e; cases e)]; exact e
def MustE.put {S:aa}{n b:EV}{U:EI (T×W)}{u v:E5}{l:EV}{ws:EI E5}(h:MustE S n b U)(h2:0<=u/\u < n)(h3:0<=v/\v < n)(h4:b<=l)(h5:S[l]?=ba (.lst (af ws)))(h6:ws.length<=3)(h7:∀w∈ws,0<=w/\w < (n:E5)):MustE S n b (dc U (aV u v) (.ref l)):=λp hp=>by
 rcases ul hp with hp|rfl
 ·exact h p hp
 ·exact#[u,v,l,ws,rfl,h2,h3,h4,h5,h6,h7]
noncomputable abbrev xy:=E5×E5×EI E5
abbrev md (ws:EI E5):Es:=ws.foldr (λw es=>.cons (.c (.int w)) es) .nil
abbrev o5:EI xy->Es
 | []=>.nil
 | e::L=>.cons (.tup #v[.c (.int e.1),.c (.int e.2.1)]) (.cons (.lst (md e.2.2)) (o5 L))
abbrev qE:EI xy->EV->EI W
 | [],_=>[]
 | e::L,s=>cf e.1 e.2.1::.ref s::qE L (s+1)
abbrev qF (L:EI xy):aa:=L.map λe=>O.lst (af e.2.2)
abbrev o7 (n:EV)(e:xy):Fk:=decide ((0<=e.1/\e.1 < n)/\(0<=e.2.1/\e.2.1 < n)/\e.2.2.length<=3)&&e.2.2.all λw=>decide (0<=w/\w < (n:E5))
section
variable{M:E3->FF}{Z:Fm}
def nC {S:aa}:∀ {ws:EI E5} {Q:EI W×aa->Prop},Q (af ws,S)->wA M (md ws) Z S Q
 | [],Q,q=>by change wA M .nil Z S Q; exact q
 | w::ws,Q,q=>by change wA M (.cons (.c (.int w)) (md ws)) Z S Q; dsimp only[wA,wE]; exact nC q
def um:∀ {L:EI xy} {S:aa} {Q:EI W×aa->Prop},Q (qE L S.length,S++qF L)->wA M (o5 L) Z S Q
 | [],S,Q,q=>by
  change wA M .nil Z S Q;dsimp only[wA]
  rwa [show S++qF []=S from HH S]at q
 | e::L,S,Q,q=>by
  change wA M (.cons (.tup #v[.c (.int e.1),.c (.int e.2.1)]) (.cons (.lst (md e.2.2)) (o5 L))) Z S Q;dsimp only[wA,wE];show nC (um ?_);rw[E6,Hq];exact q
end
def jC {S:aa}{n b:EV}:∀(L:EI xy) (s:EV) (U:EI (T×W)),MustE S n b U->b<=s->(∀e∈L,o7 n e=true)->(∀i e,L[i]?=ba e->S[s+i]?=ba (.lst (af e.2.2)))->∃U',cm U (qE L s)=ba U'/\MustE S n b U'/\U'.length<=U.length+L.length
 | [],s,U,hm,hb,hL,hS=>#[U,by simp[qE,cm],hm,by simp]
 | e::L,s,U,hm,hb,hL,hS=>by
  have h1:=hL e (by simp)
  unfold o7 at h1;rw[ES,Fu]at h1;obtain⟨h2,h3,h4⟩:=F1 h1.1;obtain⟨U',k1,k2,k3⟩:=jC L (s+1) (dc U (aV e.1 e.2.1) (.ref s)) (hm.put h2 h3 hb (by have:=hS 0 e rfl; simpa using this) h4 (λw hw=>F1 (h1.2 w hw))) ∅ (λx hx=>hL x (by simp[hx])) (λi x hx=>by have:=hS (i+1) x (by simpa using hx); rw[show s+1+i=s+(i+1) by omega]; exact this)
  show#[U',?_,k2,?_]
  ·simp only[qE,cm,fL]; exact k1
  ·have:=b8 U (aV e.1 e.2.1) (.ref s);rw[Fy]; omega
abbrev KB:EI (EI E5):=[[1,0],[0,2,1],[0,1],[0,1,2]]
abbrev KindOk (S:aa)(b:EV)(w:W):Prop:=∃(bs:EI E5) (q:EV) (U:EI (T×W)) (most:E5),w=.tup [.tup (af bs),.ref q,.int most]/\bs∈KB/\1<=most/\most<=3/\most*bs.length<=6/\S[q]?=ba (.dic U)/\b<=q/\U.length<=4/\MustE S bs.length b U
def KindOk.mono {S S':aa}{b:EV}{w:W}(h:KindOk S b w)(k1:∀(l:EV) (ws:EI E5),b<=l->S[l]?=ba (.lst (af ws))->S'[l]?=ba (.lst (af ws)))(k2:∀(l:EV) (U:EI (T×W)),b<=l->S[l]?=ba (.dic U)->S'[l]?=ba (.dic U)):KindOk S' b w:=
 let ⟨bs,q,U,most,h1,h2,h3,h4,h5,h6,h7,h8,h9⟩:=h
 #[bs,q,U,most,h1,h2,h3,h4,h5,k2 _ _ h7 h6,h7,h8,h9.mono k1]
def KindOk.ka {S S':aa}{b:EV}{w:W}(h:KindOk S b w)(k:Ka S S'):KindOk S' b w:=h.mono (λl ws _ e=>k.get _ _ e) (λl ws _ e=>k.get _ _ e)
abbrev uq (bs:EI E5)(L:EI xy)(most:E5):E:=.tup #v[.tup (md bs),.disp (o5 L),.c (.int most)]
section
variable{M:E3->FF}{Z:Fm}{S:aa}
def kI (bs:EI E5)(L:EI xy)(most:E5){b:EV}{Q:QW}(hb:b<=S.length)(h1:bs∈KB)(h2:1<=most/\most<=3/\most*bs.length<=6)(hL:∀e∈L,o7 bs.length e=true)(h4:L.length<=4)(k:∀w S',KindOk S' b w->Ka S S'->Q (w,S')) :
  wE M (uq bs L most) Z S Q:=by
 unfold uq;dsimp only[wE,wA];show nC (um ?_);obtain⟨U,k1,k2,k3⟩:=jC (S:=S++[O.dic []]++qF L) (n:=bs.length) (b:=b) L (S.length+1) [] (λ_ h=>nomatch h) ∅ hL (λi e he=>by
  rw[GJ (by simp),show S.length+1+i - (S++[O.dic []]).length=i by simp]
  simp[qF,he])
 have hat:(S++[O.dic []]++qF L)[S.length]?=ba (.dic []):=by
  rw[Fz (by simp)]; exact ag
 show#[hat,ae (show cm [] (qE L (S++[O.dic []]).length)=ba U by rw[E6]; exact k1) (k _ _ #[bs,S.length,U,most,rfl,h1,h2.1,h2.2.1,h2.2.2,bC hat,hb,?_,k2.set hat] #[λj o h=>?_,by simp])]
 ·simp only[Gx]at k3; omega
 ·have:j < S.length:=du h;show((S++[O.dic []]++qF L).set S.length (O.dic U))[j]?=ba o;rw[bw ∅,Fz (by simp; omega)]
  exact aq h
structure Menu (S0 S:aa)(r t m:EV):Prop where
 at_t:∃xs:EI W,S[t]?=ba (.lst xs)/\xs.length=m/\∀x∈xs,KindOk S S0.length x
 pos:0 < m
 few:m<=9
 fl:Fl S r
 kp:Kp r S0 S
 lt:S0.length<=t
 rlt:r < S0.length
def mf {S0 S S':aa}{r t m:EV}{w:W}(h:Menu S0 S r t m)(hw:KindOk S' S0.length w)(k:Ka S S')(hm:m < 9):∃xs,S'[t]?=ba (.lst xs)/\xs.length < sizeLine/\Menu S0 (S'.set t (.lst (xs++[w]))) r t (m+1):=by
 obtain⟨⟨xs,h1,h2,h3⟩,hp,hf,fl,kp,lt,rlt⟩:=h;have e:S'[t]?=ba (.lst xs):=k.get _ _ h1;have stay:∀x,KindOk S' S0.length x->KindOk (S'.set t (.lst (xs++[w]))) S0.length x:=λx hx=>hx.mono (λl ws hl el=>by
  by_cases hlt:t=l
  ·exfalso;subst hlt;rw[e]at el;injection el with el
   injection el with el
   match xs,h2,h3 with
   | [],h2,_=>simp at h2; omega
   | x::xs,_,h3=>
    obtain⟨bs,q,U,most,hx,_⟩:=h3 x (by simp)
    subst hx
    match ws with
    | []=>simp[af]at el
    | w::ws=>simp[af]at el
  ·rw[bw hlt]; exact el) (λl U hl el=>by
  rw[bw (by rintro rfl; rw[e]at el; cases el)]; exact el)
 show#[xs,e,(by rw[FX]; omega),#[xs++[w],bC e,by simp; omega,λx hx=>?_],∅,∅,(fl.ka k).own ∅,(kp.trans (k.kp r)).late lt,lt,rlt]
 rcases FR.mp hx with hx|hx
 ·exact stay x ((h3 x hx).ka k)
 ·rw[Fb.mp hx]; exact stay w hw
def mh (bs:EI E5)(L:EI xy)(most:E5){fuel:EV}{S0:aa}{r t m:EV}{x0:EO W}{K:Fm->aa->Prop}{Q:QO}(h:Menu S0 S r t m)(hm:m < 9)(h1:bs∈KB)(h2:1<=most/\most<=3/\most*bs.length<=6)(hL:∀e∈L,o7 bs.length e=true)(h4:L.length<=4)(k:∀S',Menu S0 S' r t (m+1)->K [x0,ba (.ref t)] S') :
  wS M fuel (.ex (.me .append (.v 1) #v[uq bs L most])) [x0,ba (.ref t)] S K Q:=by
 left;obtain⟨xs,e1,e2,e3⟩:=h.at_t;show#[d4 e1,kI bs L most (F2 h.lt (Iw (du e1))) h1 h2 hL h4 λw S' k1 k2=>?_]
 obtain⟨xs',f1,f2,f3⟩:=mf h k1 k2 hm;exact ae (tH f1 f2) (k _ f3)
def iX {defs:EI (E3×Df)}{fuel d:EV}{r:EV}{Q:QW}(G:Gen defs)(hf:Fl S r)(k:∀w S',KindOk S' S.length w->Fl S' r->Kp r S S'->Q (w,S')):wO (aQ (ak defs fuel (d+2)) "_law_laying_kind" 1 [.ref r] S) Q:=by
 show aw G.laying_kind rfl rfl λQ' hR=>?_
 replace k:∀w S',KindOk S' S.length w->Fl S' r->Kp r S S'->Q' (.rt w,S'):=λz S' a b c=>hR _ _ (k z S' a b c)
 clear hR;change wZ _ _ bf [ba (.ref r),gV] S Q';have hrt:=hf.lt;unfold bf;nofun
 show Cv ?_;change wA _ _ _ _ _; change wE _ _ _ _ _
 show kI [1,0] [(0,0,[0])] 3 (b:=S.length) (E2 _) #v[] #v[] #v[] #v[] λw1 S1 k1 a1=>?_
 change wE _ _ _ _ _;show kI [0,2,1] [(1,1,[1])] 2 (b:=S.length) a1.len #v[] #v[] #v[] #v[] λw2 S2 k2 a2=>?_
 have a12:=a1.trans a2;change wE _ _ _ _ _;show kI [0,1] [(1,1,[1])] 3 (b:=S.length) a12.len #v[] #v[] #v[] #v[] λw3 S3 k3 a3=>?_
 have a13:=a12.trans a3;dsimp only[wA];show hK _ _ ?_;clear hK K;have m3:Menu S (S3++[O.lst [w1,w2,w3]]) r S3.length 3:=by
  show#[#[[w1,w2,w3],ag,rfl,λx hx=>?_],#v[],#v[],(hf.ka a13).ka .push,(a13.trans .push).kp r,a13.len,hrt]
  rcases Fc.mp hx with rfl|hx
  ·exact(k1.ka (a2.trans a3)).ka .push
  ·rcases Fc.mp hx with rfl|hx
   ·exact(k2.ka a3).ka .push
   ·rw[Fb.mp hx];exact k3.ka .push
 dsimp only[E7];clear k1 k2 k3 a1 a2 a3 a12 a13;generalize S3.length=t at m3;generalize S3++[O.lst [w1,w2,w3]]=S3' at m3;show aE λK hK=>mh [0,1] [(1,1,[1]),(0,0,[1])] 3 m3 #v[] #v[] #v[] #v[] #v[] λS4 m4=>hK _ _ ?_
 show aE λK hK=>mh [0,1] [(1,1,[])] 1 m4 #v[] #v[] #v[] #v[] #v[] λS5 m5=>hK _ _ ?_
 show aE λK hK=>mh [0,2,1] [(0,0,[0]),(0,1,[1]),(1,0,[1]),(1,1,[1])] 2 m5 #v[] #v[] #v[] #v[] #v[] λS6 m6=>hK _ _ ?_
 nofun
 left;obtain⟨xs,e1,e2,e3⟩:=m6.at_t;obtain⟨xs',f1,f2,m7⟩:=mf (S':=S6++[O.dic []]) (w:=.tup [.tup (af [1,0]),.ref S6.length,.int 3]) m6 #[[1,0],S6.length,[],3,rfl,#v[],#v[],#v[],#v[],ag,m6.kp.len,#v[],λ_ h=>(nomatch h)] .push #v[]
 show#[d4 e1,ae (tH f1 f2) (hK _ _ ?_)];show aE λK hK=>mh [0,1,2] [(2,2,[2]),(1,2,[1]),(2,1,[1]),(1,1,[1,2])] 2 m7 #v[] #v[] #v[] #v[] #v[] λS8 m8=>hK _ _ ?_
 show aE λK hK=>mh [0,1,2] [(0,0,[0,1])] 2 m8 #v[] #v[] #v[] #v[] #v[] λS9 m9=>hK _ _ ?_
 show st ?_;left;show aB (d:=d) G.pick m9.fl #v[] #v[] λv S10 v0 v9 f10 k10=>?_
 obtain⟨xs,g1,g2,g3⟩:=m9.at_t;have hlt:=m9.lt;have hv:v.toNat < xs.length:=∅
 exact gB (k10.get _ _ ∅ g1) v0 (EZ hv) (k _ _ ((g3 _ (Gh hv)).mono (λl ws hl e=>k10.get _ _ ∅ e) (λl ws hl e=>k10.get _ _ ∅ e)) f10 (m9.kp.trans k10))
end
abbrev mj (bs:EI E5):EI (EI E5):=if bs=[0,1,2]then[[0,1,2],[0,2,1],[1,0,2],[1,2,0],[2,0,1],[2,1,0]]else if bs.length=2 then[[0,1],[1,0]]else[[0,1,2],[0,2,1],[2,0,1],[2,1,0]]
abbrev eJ (bs nm:EI E5):EV->EI E5
 | 0=>Fw bs.length 0
 | k+1=>(eJ bs nm k).set (nm.getD k 0).toNat (nm.getD (bs.getD k 0).toNat 0)
def gh (bs nm:EI E5):∀k,(eJ bs nm k).length=bs.length
 | 0=>by simp[eJ]
 | k+1=>by simp[eJ,gh bs nm k]
def xz:∀bs∈KB,∀nm∈mj bs,nm.length=bs.length/\(∀x∈nm,0<=x/\x < (bs.length:E5))/\(∀x∈bs,0<=x/\x < (bs.length:E5))/\GoodB (eJ bs nm bs.length):=by
 unfold GoodB;decide +kernel
def ur:∀bs∈KB,(bs.length=2\/bs.length=3)/\0 < (mj bs).length/\(mj bs).length < 10:=by decide
section
variable{M:E3->FF}{fuel:EV}{Z:Fm}{S:aa}{K:Fm->aa->Prop}{Q:QO}
def xA {tg:Tg}{e:E}{b:Ss}(r:EV)(U:EI (T×W))(I:EV->Fm->aa->Prop)(oe:cg e=true)(ok:eQ b=true)(he:wE M e Z S λp=>p.1=.ref r/\p.2[r]?=ba (.dic U)/\I 0 Z (p.2.set r (.frd U)))
  (hstep:∀(i:EV) (p:T×W) (Z:Fm) (S:aa),U[i]?=ba p->I i Z S->wO (gI tg p.1.w Z S) λq=>tL M fuel b q.1 q.2 (I (i+1)) Q) (hend:∀Z S,I U.length Z S->K Z S):Wp (ef M fuel (.loop tg (.seq e) b) Z S) (nv K Q):=by
 obtain⟨w,S1,e1,rfl,e2,h0⟩:=bn oe he;show gd (mi:=.its (U.map λp=>p.1.w)) (S1:=S1.set r (.frd U)) (xs:=U.map λp=>p.1.w) I ok (by simp only[gx,cM,e1,kE e2,bX e2]) (λ_ _ _ _=>rfl) rfl h0 (λi w Z S hw hI=>?_) λZ S hI=>hend Z S (by rwa [ER]at hI)
 rw[E1,EQ]at hw;obtain⟨p,hp,rfl⟩:=hw;exact hstep i p Z S hp hI
end
section
variable{defs:EI (E3×Df)}{fuel d:EV}{S:aa}{r:EV}{Q:QW}
def CB {i n:EV}{x:W}(h:S[i]?=ba (.lst [x]))(hn:n<=1000)(q:Q (.ref S.length,S++[.lst (Fw n x)])):wO (dQ .mul (.ref i) (.int (n:E5)) S) Q:=by
 show ae ?_ q;have:n<=sizeLine:=few hn;simp only[dQ,rE,fA h];rw[Fi #[∅,∅,by simpa using this]]
 unfold gZ;simp[this]
def jD {q:EV}{U:EI (T×W)}{u v:E5}{w:W}(h:gH S q=ba U)(hg:bB U (aV u v)=ba w):mr (.ref q) (.tup [.int u,.int v]) S=ba (w,S):=by
 have hk:eB (.tup [.int u,.int v])=ba (aV u v):=fL;simp only[mr,h,hk,hg,FP]
def ut {q:EV}{U:EI (T×W)}{u v:E5}{w:W}(h:S[q]?=ba (.dic U))(hl:U.length < sizeLine):fj (.ref q) (.tup [.int u,.int v]) w S=ba (S.set q (.dic (dc U (aV u v) w))):=by
 have hk:eB (.tup [.int u,.int v])=ba (aV u v):=fL;simp only[fj,j3,h,hk];rw[Fi hl]
def gj {xs:EI E5}{x:E5}(h0:0<=x)(h1:x.toNat < xs.length):(af xs)[x.toNat]?=ba (.int (xs.getD x.toNat 0)):=by
 unfold af;rw[E1,aX (d:=0) h1]; rfl
def d8 {xs:EI E5}{i:EV}(h:i < xs.length):xs.getD i 0∈xs:=Fh (aX (d:=0) h)
def iY (G:Gen defs){Q:QO}{bs:EI E5}{x0 x2:EO W}(hb:bs∈KB)
  (hk:∀(m s:EV) (S':aa),Ka S S'->S'[s]?=ba (.lst ((mj bs).map λnm=>W.tup (af nm)))->S.length<=s->wZ (ak defs fuel (d+1)) fuel (dr 5 aM) [x0,ba (.tup (af bs)),x2,ba (.int bs.length),ba (.ref m),ba (.ref s),gV,gV,gV,gV,gV,gV] S' Q) :
  wZ (ak defs fuel (d+1)) fuel aM [x0,ba (.tup (af bs)),x2,gV,gV,gV,gV,gV,gV,gV,gV,gV] S Q:=by
 generalize hd5:dr 5 aM=aY at hk;unfold aM at hd5 ⊢;dsimp only[dr]at hd5;rw[hd5];clear hd5;nofun
 left;show bE ?_;rw[show(af bs).length=bs.length from ER ..]
 show hK _ _ ?_;clear hK K;nofun
 left;have hm:(((S++[O.lst [.tup [.int 0]]])++[O.lst [.tup [.int 0,.int 1],.tup [.int 1,.int 0]]])++[O.lst [.ref S.length,.ref (S++[O.lst [.tup [.int 0]]]).length]])[((S++[O.lst [.tup [.int 0]]])++[O.lst [.tup [.int 0,.int 1],.tup [.int 1,.int 0]]]).length]?=ba (.lst [.ref S.length,.ref (S++[O.lst [.tup [.int 0]]]).length]):=ag;show hK _ _ ?_;clear hK K;generalize hS1:S++[O.lst [.tup [.int 0]]]=S1 at hm ⊢;generalize hS2:S1++[O.lst [.tup [.int 0,.int 1],.tup [.int 1,.int 0]]]=S2 at hm ⊢;generalize hS3:S2++[O.lst [.ref S.length,.ref S1.length]]=S3 at hm ⊢;have l1:S1.length=S.length+1:=by rw[<- hS1]; simp
 have l2:S2.length=S1.length+1:=by rw[<- hS2]; simp
 have l3:S3.length=S2.length+1:=by rw[<- hS3]; simp
 have kS2:Ka S S2:=by rw[<- hS2,<- hS1]; exact Ka.push.trans .push
 nofun
 left;show#[d4 hm,ju (aq hm) (by decide:2 < 1000) (hK _ _ ?_)]
 clear hK K;generalize hS5:(S3++[O.lst [.tup [.int 0,.int 1,.int 2],.tup [.int 0,.int 2,.int 1],.tup [.int 2,.int 0,.int 1],.tup [.int 2,.int 1,.int 0]]]).set S2.length (.lst ([.ref S.length,.ref S1.length]++[.ref S3.length]))=S5;have k5:Ka S S5:=by
  rw[<- hS5,<- hS3];exact Ka.late (kS2.trans (Ka.push.trans .push)) ∅
 have m5:S5[S2.length]?=ba (.lst [.ref S.length,.ref S1.length,.ref S3.length]):=by
  rw[<- hS5]; exact bC (aq hm)
 have p5:S5[S1.length]?=ba (.lst [.tup [.int 0,.int 1],.tup [.int 1,.int 0]]):=by
  rw[<- hS5,bw ∅,<- hS3,<- hS2]
  exact aq (aq ag)
 have t5:S5[S3.length]?=ba (.lst [.tup [.int 0,.int 1,.int 2],.tup [.int 0,.int 2,.int 1],.tup [.int 2,.int 0,.int 1],.tup [.int 2,.int 1,.int 0]]):=by
  rw[<- hS5,bw ∅]
  exact ag
 have h1:S.length<=S1.length:=∅
 have h3:S.length<=S3.length:=∅
 clear hS1 hS2 hS3 hS5 hm l1 l2 l3 kS2;nofun
 dsimp only[wS,wE,wA,wV,wG,E7,tz,ar];have hb':bs=[1,0]\/bs=[0,2,1]\/bs=[0,1]\/bs=[0,1,2]:=by simpa [KB]using hb
 rcases hb' with rfl|rfl|rfl|rfl
 ·show cW (i:=1) m5 rfl (hK _ _ (aE λK hK=>bS (λQ q=>q) (hK _ _ (hk _ _ _ k5 p5 h1))))
 ·show cW (i:=2) m5 rfl (hK _ _ (aE λK hK=>bS (λQ q=>q) (hK _ _ (hk _ _ _ k5 t5 h3))))
 ·show cW (i:=1) m5 rfl (hK _ _ (aE λK hK=>bS (λQ q=>q) (hK _ _ (hk _ _ _ k5 p5 h1))))
 ·show cW (i:=2) m5 rfl (hK _ _ (aE λK hK=>iF (λQ q=>q) λQ2 hn _=>?_))
  show st ?_;left;exact kH (d:=d) G (bO (hn _ _ (hK _ _ (hk _ _ _ (k5.trans .push) ag k5.len))))
def nD (G:Gen defs){S0:aa}{bs:EI E5}{q:EV}{U:EI (T×W)}(hb:bs∈KB)(hf:Fl S r)(hr:r < S0.length)(kp:Kp r S0 S)(hq:S[q]?=ba (.dic U))(hq0:S0.length<=q)(h4:U.length<=4)(hm:MustE S bs.length S0.length U)
  (k:∀(bs':EI E5) (q':EV) (U':EI (T×W)) S',GoodB bs'->bs'.length=bs.length->S'[q']?=ba (.dic U')->S0.length<=q'->MustE S' bs.length S0.length U'->Fl S' r->Kp r S0 S'->Q (.tup [.tup (af bs'),.ref q'],S')) :
  wO (aQ (ak defs fuel (d+2)) "_law_numbered" 3 [.ref r,.tup (af bs),.ref q] S) Q:=by
 show aw G.numbered rfl rfl λQ' hR=>?_
 replace k:∀(bs':EI E5) (q':EV) (U':EI (T×W)) S',GoodB bs'->bs'.length=bs.length->S'[q']?=ba (.dic U')->S0.length<=q'->MustE S' bs.length S0.length U'->Fl S' r->Kp r S0 S'->Q' (.rt (.tup [.tup (af bs'),.ref q']),S'):=λa b c e f g h i j l m=>hR _ _ (k a b c e f g h i j l m)
 clear hR;show iY (d:=d) G hb ?_;intro m s S1 k1 e1 hs;dsimp only[dr,aM];have hrt:=hf.lt;obtain⟨hb1,hb2,hb3⟩:=ur bs hb;nofun
 left;show oN e1 ?_;rw[ER];show aB (d:=d) G.pick (hf.ka k1) ∅ ∅ λv S2 v0 v1 f2 k2=>?_
 obtain⟨nm,hnmm,enm⟩:=iI (f:=λnm=>W.tup (af nm)) (xs:=mj bs) (i:=v.toNat) ∅
 obtain⟨n1,n2,n3,n4⟩:=xz bs hb nm hnmm;show gB (k2.get _ _ ∅ e1) v0 enm (hK _ _ ?_)
 clear hK K;nofun
 left;show CB ag ∅ (hK _ _ ?_)
 clear hK K;generalize hS4:S2++[O.lst [.int 0]]=S4;have k24:Ka S2 S4:=hS4 ▸ .push;have f4:Fl S4 r:=f2.ka k24;have kp4:Kp r S0 S4:=(kp.trans (k1.kp r)).trans (k2.trans (k24.kp r));have q4:S4[q]?=ba (.dic U):=k24.get _ _ (k2.get _ _ ∅ (k1.get _ _ hq))
 have m4:MustE S4 bs.length S0.length U:=((hm.ka k1).kp hr k2).ka k24;clear hS4 k24 hm hq f2 k2 k1 e1 enm hf;nofun
 show en (bs.length:E5) (λk Z S'=>(∃x8,Z=[ba (.ref r),ba (.tup (af bs)),ba (.ref q),ba (.int bs.length),ba (.ref m),ba (.ref s),ba (.tup (af nm)),ba (.ref S4.length),x8,gV,gV,gV])/\S'[S4.length]?=ba (.lst (af (eJ bs nm k)))/\Ka S4 S') rfl rfl ∅ #[rfl,#[_,rfl],?_,.push] ?_ ?_
 ·rw[ag]; simp[eJ,af]
 ·rintro i Z S5 hi ⟨⟨x8,rfl⟩,e5,k5⟩ Q2 hn _;clear hK k;have hi':i < bs.length:=∅
  have hi1:i < nm.length:=∅
  have c:=n3 _ (d8 hi');have c2:=n2 _ (d8 hi1);show st ?_;left;show al (FB i) (gj (FB i) hi') (al c.1 (gj c.1 (by rw[Ff]; omega)) (al (FB i) (gj (FB i) hi1) ?_))
  rw[Ff];show ae (ym e5 c2.1 (by rw[show(af (eJ bs nm i)).length=_ from ER ..,gh]; omega)) (bO (hn _ _ #[#[_,rfl],?_,k5.late (E2 _)]))
  rw[bC e5];unfold af;rw[eJ,List.map_set]
 ·rintro Z S5 ⟨⟨x8,rfl⟩,e5,k5⟩;rw[Ff]at e5;show hK _ _ (st ?_);clear hK K;dsimp only[wS,wE,E7];have f5:Fl S5 r:=f4.ka k5;have q5:S5[q]?=ba (.dic U):=k5.get _ _ q4;have m5:MustE S5 bs.length S0.length U:=m4.ka k5;have kp5:Kp r S0 S5:=kp4.trans (k5.kp r);have hq5:=du q5;have ht5:=du e5;have hqt:q≠S4.length:=by rintro rfl; rw[e5]at q5; cases q5
  have hn9:(bs.length:E5)<=3:=∅
  have hr5:=f5.lt;clear k5 m4 q4 f4;nofun
  show xA q U (λk Z S'=>(∃x10 x11,Z=[ba (.ref r),ba (.tup (af bs)),ba (.ref q),ba (.int bs.length),ba (.ref m),ba (.ref s),ba (.tup (af nm)),ba (.ref S4.length),x8,ba (.ref S5.length),x10,x11])/\S'[q]?=ba (.frd U)/\MustE S' bs.length S0.length U/\S'[S4.length]?=ba (.lst (af (eJ bs nm bs.length)))/\(∃U',S'[S5.length]?=ba (.dic U')/\U'.length<=k/\MustE S' bs.length S0.length U')/\Fl S' r/\Kp r S0 S') rfl rfl #[rfl,aq q5,#[gV,gV,rfl],bC (aq q5),(m5.ka .push).set (aq q5),?_,#[[],?_,E2 _,λ_ h=>(nomatch h)],(f5.ka .push).own ∅,(kp5.trans .push).late hq0] ?_ ?_
  ·rw[bw hqt]; exact aq e5
  ·rw[bw ∅]; exact ag
  ·rintro i p Z S6 hp ⟨⟨x10,x11,rfl⟩,q6,m6,t6,⟨U',o6,l6,mm6⟩,f6,kp6⟩;clear hK k;have hpm:=Fh hp;have hil:=(E9.mp hp).1;obtain⟨u,v',l,ws,rfl,hu,hv',hl,hws,hl3,hw3⟩:=m6 p hpm;obtain⟨g,hg⟩:=xx hpm;obtain⟨u2,v2,l2,ws2,he2,_,_,hl2,hws2,hl32,hw32⟩:=m6 _ (ma hg);injection he2 with _ he2
   subst he2;have hul:u.toNat < nm.length:=∅
   have hvl:v'.toNat < nm.length:=∅
   show ae (show gI (.tp [10,11]) (aV u v',W.ref l).1.w [ba (.ref r),ba (.tup (af bs)),ba (.ref q),ba (.int bs.length),ba (.ref m),ba (.ref s),ba (.tup (af nm)),ba (.ref S4.length),x8,ba (.ref S5.length),x10,x11] S6=ba ([ba (.ref r),ba (.tup (af bs)),ba (.ref q),ba (.int bs.length),ba (.ref m),ba (.ref s),ba (.tup (af nm)),ba (.ref S4.length),x8,ba (.ref S5.length),ba (.int u),ba (.int v')],S6)from rfl) λQ2 hn _=>?_
   show st ?_;left;show oM l2 (af ws2) (λi zs Z2 S7=>(∃a1,Z2=[gV,a1,ba (.tup (af nm))])/\zs=af ((ws2.take i).map λw=>nm.getD w.toNat 0)/\S7=S6) rfl rfl rfl ?_ ?_ ?_ ?_
   ·dsimp only[wE,wA,wV,wG];exact ae (jD (xj q6) hg) #[rfl,#[_,rfl],rfl,rfl]
   ·rintro i zs Z2 S7 ⟨_,_,rfl⟩;exact hws2
   ·rintro i w zs Z2 S7 hw ⟨⟨a1,rfl⟩,rfl,rfl⟩;unfold af at hw;rw[E1,EQ]at hw;obtain⟨x,hx,rfl⟩:=hw;obtain⟨x0,x1⟩:=hw32 x (Fh hx);have hxl:x.toNat < nm.length:=∅
    show ae (show gI (.nm 1) (.int x) [gV,a1,ba (.tup (af nm))] S7=ba ([gV,ba (.int x),ba (.tup (af nm))],S7)from rfl) ?_
    dsimp only[gK,wC,wE,wA,wV,wG];show#[λ_=>al x0 (gj x0 hxl) #[#[_,rfl],?_,rfl],λz=>by cases z]
    rw[GP,hx];simp[af]
   ·rintro zs Z2 S7 ⟨_,rfl,rfl⟩;rw[show(af ws2).length=ws2.length from ER ..,Hf]
    show#[few (by simp[af]; omega),al hu.1 (gj hu.1 hul) (al hv'.1 (gj hv'.1 hvl) ?_)]
    show ae (ut (aq o6) (by rw[FX]; omega)) (bO (hn _ _ #[#[_,_,rfl],?_,(m6.ka .push).set (aq o6),?_,#[_,bC (aq o6),?_,?_],(f6.ka .push).own ∅,(kp6.trans .push).late kp5.len]))
    ·rw[bw ∅]; exact aq q6
    ·rw[bw ∅]; exact aq t6
    ·exact F2 (b8 ..) (IH l6)
    ·show((mm6.ka .push).put (n2 _ (d8 hul)) (n2 _ (d8 hvl)) kp6.len ag (by simp; omega) ?_).set (aq o6)
     intro w hw;obtain⟨x,hx,rfl⟩:=Fx.mp hw;obtain⟨x0,x1⟩:=hw32 x hx;exact n2 _ (d8 ∅)
  ·rintro Z S6 ⟨⟨x10,x11,rfl⟩,q6,m6,t6,⟨U',o6,l6,mm6⟩,f6,kp6⟩;show hK _ _ (st ?_);left;exact dw t6 (k _ _ U' _ n4 (gh _ _ _) o6 kp5.len mm6 f6 kp6)
end
abbrev qG (x y z:E5):EI (T×W):=[(aV 1 0,.int x),(aV 2 0,.int y),(aV 2 1,.int z)]
abbrev xB (x y z a b c:E5):EV->EI (T×W)
 | 0=>qG x y z
 | 1=>qG x y z++[(aV 0 1,.int a)]
 | 2=>qG x y z++[(aV 0 1,.int a),(aV 0 2,.int b)]
 | _=>qG x y z++[(aV 0 1,.int a),(aV 0 2,.int b),(aV 1 2,.int c)]
def Aq {n x y z a b c:E5}(hx:0<=x/\x < n)(hy:0<=y/\y < n)(hz:0<=z/\z < n)(ha:0<=a/\a < n)(hb:0<=b/\b < n)(hc:0<=c/\c < n):∀i j:EV,i < 3->j < 3->i≠j->∃p:E5,bB (xB x y z a b c 3) (aV i j)=ba (.int p)/\0<=p/\p < n:=by
 intro i j hi hj hij
 match i,j,hi,hj,hij with
 | 0,0,_,_,h=>exact absurd rfl h
 | 0,1,_,_,_=>exact#[a,by rfl,ha]
 | 0,2,_,_,_=>exact#[b,by rfl,hb]
 | 1,0,_,_,_=>exact#[x,by rfl,hx]
 | 1,1,_,_,h=>exact absurd rfl h
 | 1,2,_,_,_=>exact#[c,by rfl,hc]
 | 2,0,_,_,_=>exact#[y,by rfl,hy]
 | 2,1,_,_,_=>exact#[z,by rfl,hz]
 | 2,2,_,_,h=>exact absurd rfl h
def mn:∀t∈aJ,t.length=3/\t.getD 0 0 < 3/\t.getD 1 0 < 3/\t.getD 2 0 < 3/\t.getD 0 0≠t.getD 1 0/\t.getD 1 0≠t.getD 2 0/\t.getD 0 0≠t.getD 2 0:=by decide
def uu {t:EI EV}(h:t∈aJ):∃i j k:EV,t=[i,j,k]/\i < 3/\j < 3/\k < 3/\i≠j/\j≠k/\i≠k:=by
 obtain⟨h1,h2⟩:=mn t h
 match t,h1,h2 with
 | [i,j,k],_,h2=>exact#[i,j,k,rfl,h2]
section
variable{defs:EI (E3×Df)}{fuel d:EV}{S:aa}{r:EV}{Q:QW}
def uw {l:EV}{f:E5}{ws:EI E5}(h:S[l]?=ba (.lst (af ws))):∃b,cV .notin (.int f) (.ref l) S=ba (.bl b,S):=by
 have hf:(aZ (.int f)&&(af ws).all aZ)=true:=by
  (dsimp only[aZ]; simp only[IN,Fu])
  intro x hx;obtain⟨z,_,rfl⟩:=Fx.mp hx;rfl
 show#[!(af ws).any λz=>mM z (.int f),?_]
 (dsimp only[cV,rT,dq,vN,vM,bQ]; simp only[kD h,ap h,hf,HX,FP])
def Ar {q:EV}{U:EI (T×W)}(h:S[q]?=ba (.dic U)):tyOk "dict" S (.ref q)=true:=by simp[tyOk,bX h]
def xC {q:EV}{U:EI (T×W)}(h:S[q]?=ba (.dic U))(k:Q (.ref S.length,S++[.lst (U.map λp=>p.1.w)])):wO (Bi.list.fn [.ref q] S) Q:=by
 show ae ?_ k;have h1:vQ S q=gV:=by simp[vQ,h]
 have h2:jb [.ref q] S=gV:=by(dsimp only[jb,eX,bQ]; simp[h1,kE h])
 simp only[Bi.fn,wY,h2,jg,bX h]
def uy (G:Gen defs){bs:EI E5}{q b0:EV}{U:EI (T×W)}{x y z:E5}(hb:GoodB bs)(hx:0<=x/\x < bs.length)(hy:0<=y/\y < bs.length)(hz:0<=z/\z < bs.length)(hq:S[q]?=ba (.dic U))(hm:MustE S bs.length b0 U)
  (k:∀b S',Ka S S'->Q (.bl b,S')):wO (aQ (ak defs fuel (d+2)) "_law_breaks" 5 [.tup (af bs),.ref q,.int x,.int y,.int z] S) Q:=by
 show aw G.breaks rfl rfl λQ' hR=>?_
 replace k:∀b S',Ka S S'->Q' (.rt (.bl b),S'):=λa b c=>hR _ _ (k a b c)
 clear hR;change wZ _ _ cu [ba (.tup (af bs)),ba (.ref q),ba (.int x),ba (.int y),ba (.int z),gV,gV,gV,gV,gV] S Q';obtain⟨a,ha1,ha⟩:=hb.rng x.toNat ∅
 obtain⟨b,hb1,hb2⟩:=hb.rng y.toNat ∅
 obtain⟨c,hc1,hc⟩:=hb.rng z.toNat ∅
 have hqt:=du hq;unfold cu;nofun
 left;show#[ag,ae (show cm [] [.tup [.int 1,.int 0],.int x,.tup [.int 2,.int 0],.int y,.tup [.int 2,.int 1],.int z]=ba (qG x y z)from rfl) (hK _ _ ?_)]
 clear hK K;have e1:((S++[O.dic []]).set S.length (.dic (qG x y z)))[S.length]?=ba (.dic (qG x y z)):=bC ag;have k1:Ka S ((S++[O.dic []]).set S.length (.dic (qG x y z))):=Ka.push.late (E2 _);have l1:((S++[O.dic []]).set S.length (.dic (qG x y z))).length=S.length+1:=by simp
 generalize(S++[O.dic []]).set S.length (.dic (qG x y z))=S1 at e1 k1 l1 ⊢;nofun
 show d7 rfl rfl ?_;dsimp only[wE,wA,wV,wG];show xC e1 #[S1.length,[cf 1 0,cf 2 0,cf 2 1],(λk Z S'=>(∃x6,Z=[ba (.tup (af bs)),ba (.ref q),ba (.int x),ba (.int y),ba (.int z),ba (.ref S.length),x6,gV,gV,gV])/\S'[S.length]?=ba (.dic (xB x y z a b c k))/\S'[S1.length]?=ba (.lst [cf 1 0,cf 2 0,cf 2 1])/\Ka S S'),rfl,#[#[_,rfl],aq e1,ag,k1.trans .push],λi Z S' h=>h.2.2.1,?_,?_]
 ·have step:∀(u v f g:E5) (kv kv':EI (T×W)) (S':aa) (i:EV),bB kv (aV u v)=ba (.int f)->0<=f->bs[f.toNat]?=ba g->kv.length < 10->dc kv (aV v u) (.int g)=kv'->xB x y z a b c (i+1)=kv'->∀x6:EO W,S'[S.length]?=ba (.dic kv)->S'[S1.length]?=ba (.lst [cf 1 0,cf 2 0,cf 2 1])->Ka S S'->
    wO (gI (.nm 6) (cf u v) [ba (.tup (af bs)),ba (.ref q),ba (.int x),ba (.int y),ba (.int z),ba (.ref S.length),x6,gV,gV,gV] S') λp=>tL (ak defs fuel (d+1)) fuel #v[.put (.v 5) (.tup #v[.ix (.v 6) (.c (.int 1)),.ix (.v 6) (.c (.int 0))]) (.ix (.v 0) (.ix (.v 5) (.v 6)))] p.1 p.2 (λZ S'=>(∃x6,Z=[ba (.tup (af bs)),ba (.ref q),ba (.int x),ba (.int y),ba (.int z),ba (.ref S.length),x6,gV,gV,gV])/\S'[S.length]?=ba (.dic (xB x y z a b c (i+1)))/\S'[S1.length]?=ba (.lst [cf 1 0,cf 2 0,cf 2 1])/\Ka S S') Q':=by
   clear hK k;intro u v f g kv kv' S' i h1 h2 h3 h4 h5 h6 x6 e e' k;show ae (show gI (.nm 6) (cf u v) [ba (.tup (af bs)),ba (.ref q),ba (.int x),ba (.int y),ba (.int z),ba (.ref S.length),x6,gV,gV,gV] S'=ba ([ba (.tup (af bs)),ba (.ref q),ba (.int x),ba (.int y),ba (.int z),ba (.ref S.length),ba (cf u v),gV,gV,gV],S')from rfl) λQ2 hn _=>?_
   show st ?_;left;show ae (jD (bX e) h1) (al h2 (w:=.int g) (by unfold af; rw[E1,h3]; rfl) (al #v[] rfl (al #v[] rfl ?_)))
   show ae (ut e (by rw[FX]; omega)) (bO (hn _ _ #[#[_,rfl],?_,?_,k.late (E2 _)]))
   ·rw[bC e,h5,h6]
   ·rw[bw ∅]; exact e'
  rintro i w Z S2 hw ⟨⟨x6,rfl⟩,e2,l2,k2⟩
  match i,hw,e2 with
  | 0,hw,e2=>cases hw; exact step 1 0 x a _ _ S2 0 (by rfl) hx.1 ha1 (by simp[xB,qG]) (by rfl) (by rfl) x6 e2 l2 k2
  | 1,hw,e2=>cases hw; exact step 2 0 y b _ _ S2 1 (by rfl) hy.1 hb1 (by simp[xB,qG]) (by rfl) (by rfl) x6 e2 l2 k2
  | 2,hw,e2=>cases hw; exact step 2 1 z c _ _ S2 2 (by rfl) hz.1 hc1 (by simp[xB,qG]) (by rfl) (by rfl) x6 e2 l2 k2
  | n+3,hw,_=>simp at hw
 ·rintro Z S2 ⟨⟨x6,rfl⟩,e2,l2,k2⟩;have hv:=Aq hx hy hz ha hb2 hc;have e2:S2[S.length]?=ba (.dic (xB x y z a b c 3)):=e2;show hK _ _ ?_;clear hK K;have hlt2:=du e2;nofun
  show d7 rfl rfl ?_;dsimp only[wE,wA,wV,wG];show kH (d:=d) G #[S2.length,aJ.map (λt=>W.tup (bI t)),(λk Z S'=>(∃x7 x8 x9,Z=[ba (.tup (af bs)),ba (.ref q),ba (.int x),ba (.int y),ba (.int z),ba (.ref S.length),x6,x7,x8,x9])/\S'[S.length]?=ba (.dic (xB x y z a b c 3))/\S'[S2.length]?=ba (.lst (aJ.map (λt=>W.tup (bI t))))/\Ka S S'),rfl,#[#[_,_,_,rfl],aq e2,ag,k2.trans .push],λi Z S' h=>h.2.2.1,?_,?_]
  ·rintro i w Z S3 hw ⟨⟨x7,x8,x9,rfl⟩,e3,l3,k3⟩;clear hK;rw[E1,EQ]at hw;obtain⟨t,ht,rfl⟩:=hw;obtain⟨i1,j1,h1,rfl,hi1,hj1,hh1,n1,n2,n3⟩:=uu (Fh ht);obtain⟨p1,g1,r1⟩:=hv i1 j1 hi1 hj1 n1;obtain⟨p2,g2,r2⟩:=hv j1 h1 hj1 hh1 n2;obtain⟨p3,g3,r3⟩:=hv i1 h1 hi1 hh1 n3;have q3:=k3.get _ _ hq;show ae (show gI (.tp [7,8,9]) (W.tup (bI [i1,j1,h1])) [ba (.tup (af bs)),ba (.ref q),ba (.int x),ba (.int y),ba (.int z),ba (.ref S.length),x6,x7,x8,x9] S3=ba ([ba (.tup (af bs)),ba (.ref q),ba (.int x),ba (.int y),ba (.int z),ba (.ref S.length),x6,ba (.int i1),ba (.int j1),ba (.int h1)],S3)from rfl) λQ2 hn hr=>?_
   nofun
   dsimp only[wS,wT,wE,wA,wV,wG];show ae (jD (bX e3) g3) #[Ar q3,ae (jD (bX e3) g1) (ae (jD (bX e3) g2) (ae (jD (bX e3) g3) ?_))];have hget:Me.get.fn (.ref q) [.tup [.int p1,.int p2],.ref S3.length] (S3++[O.lst [.int p3]])=ba ((bB U (aV p1 p2)).getD (.ref S3.length),S3++[O.lst [.int p3]]):=by
    have hk:eB (.tup [.int p1,.int p2])=ba (aV p1 p2):=fL
    (dsimp only[Me.fn,nX]; simp only[bX (aq q3),hk])
   show ae hget ?_;have hres:∃(l:EV) (ws:EI E5),(bB U (aV p1 p2)).getD (.ref S3.length)=.ref l/\(S3++[O.lst [.int p3]])[l]?=ba (.lst (af ws)):=by
    cases hg:bB U (aV p1 p2)with
    | none=>exact#[S3.length,[p3],rfl,ag]
    | some g=>
     obtain⟨u,v,l,ws,he,_,_,_,hl,_⟩:=(hm.ka k3) _ (ma hg);injection he with _ he
     subst he;exact#[l,ws,rfl,aq hl]
   obtain⟨l,ws,hl1,hl2⟩:=hres;dsimp only;rw[hl1];obtain⟨kb,hkb⟩:=uw (f:=p3) hl2;show ae hkb ?_;dsimp only[wB];show am (Q0:=Q2) (λ_ Q3 _ hr3=>st (hr3 _ _ (hr _ _ (k _ _ (k3.trans .push))))) λ_ Q3 hn3 _=>bO (hn3 _ _ (hK _ _ (bO (hn _ _ #[#[_,_,_,rfl],aq e3,aq l3,k3.trans .push]))))
  ·rintro Z S3 ⟨⟨x7,x8,x9,rfl⟩,e3,l3,k3⟩;exact hK _ _ (st (k _ _ k3))
end
abbrev AM (k:E5):Wd:=[(0,[]),(0,[k]),(0,[k,k])]
def xD:∀g∈[AM 0,AM 1],g∈aD 1 [0,1]:=by decide +kernel
abbrev uz (a k:E5):Wd:=[(0,[]),(k,[0]),(a - 1,[0,0])]
def uA:∀k∈di 2,uz 2 k∈aD 2 [0]:=by decide +kernel
def uB:∀k∈di 3,uz 3 k∈aD 3 [0]:=by decide +kernel
def xE {a x y:E5}(h:uz a x=uz a y):x=y:=by
 unfold uz at h;injection h with _ h
 injection h with h _
 injection h
def yt {a n:EV}{m0 m1 m2 x y z:E5}(h0:0<=m0/\m0 < a)(h1:0<=m1/\m1 < a)(h2:0<=m2/\m2 < a)(hx:0<=x/\x < n)(hy:0<=y/\y < n)(hz:0<=z/\z < n):GoodW a n [(m0,[]),(m1,[x]),(m2,[y,z])]:=by
 show#[λk p h=>?_,λk p h=>?_,λk p h=>?_] <;> match k,h with
 | 0,h=>cases h; first|exact h0|rfl|(intro w hw; cases hw)
 | 1,h=>cases h; first|exact h1|rfl|(intro w hw; rw[Fb.mp hw]; exact hx)
 | 2,h=>cases h; first|exact h2|rfl|(intro w hw; rcases Fc.mp hw with e|hw <;> first|exact e ▸ hy|(rw[Fb.mp hw]; exact hz))
 | n+3,h=>simp at h
def As {M:E3->FF}{Z:Fm}{S:aa}{i n:EV}{Q:QW}(hv:∀Q:W->Prop,Q (.int n)->wV Z i Q)(hn:n<=3)(k:∀j:E5,0<=j->j<=27->j=(n:E5)*n*n->Q (.int j,S)):wE M (.op .mul (.op .mul (.v i) (.v i)) (.v i)) Z S Q:=by
 have b1 : -(2 ^ 64) < (n:E5):=∅
 have b2:(n:E5) < 2 ^ 64:=∅
 have hc:(n:E5)*n*n<=27/\0<=(n:E5)*n*n:=by rcases(show n=0\/n=1\/n=2\/n=3 by omega)with h|h|h|h <;> rw[h] <;> decide
 dsimp only[wE];have em:∀m:E5,dQ .mul (.int m) (.int n) S=ba (.int (m*n),S):=λm=>oK b1 b2
 generalize dQ .mul=B at em ⊢;show hv _ ?_;show hv _ ?_;show ae (em _) ?_;show hv _ ?_;show ae (em _) ?_;have:=k _ hc.2 hc.1 rfl;exact this
def uC {M:E3->FF}{fuel:EV}{Z:Fm}{S:aa}{K:Fm->aa->Prop}{Q:QO}{i0 i n:EV}{b:Ss}(hv:∀Q:W->Prop,Q (.int n)->wV Z i Q)(hn:n<=3)(ok:eQ b=true)
  (h:∀j:E5,0<=j->j<=27->j=(n:E5)*n*n->∃I:EV->Fm->aa->Prop,I 0 Z S/\(∀(i:EV) (Z:Fm) (S:aa),(i:E5) < j->I i Z S->tL M fuel b (Z.set i0 (ba (.int i))) S (I (i+1)) Q)/\∀Z S,I j.toNat Z S->K Z S) :
  Wp (ef M fuel (.loop (.nm i0) (.rng #v[.op .mul (.op .mul (.v i) (.v i)) (.v i)]) b) Z S) (nv K Q):=
 have hw:=As (M:=M) (S:=S) (Q:=λp=>∃(j:E5) (I:EV->Fm->aa->Prop),p.1=.int j/\(-(2 ^ 62)<=j/\j < 2 ^ 62)/\I 0 Z p.2/\(∀(i:EV) (Z:Fm) (S:aa),(i:E5) < j->I i Z S->tL M fuel b (Z.set i0 (ba (.int i))) S (I (i+1)) Q)/\∀Z S,I j.toNat Z S->K Z S) hv hn λj j0 j27 e=>let ⟨I,h0,h1,h2⟩:=h j j0 j27 e; #[j,I,rfl,∅,h0,h1,h2]
 fJ rfl ok hw
section
variable{defs:EI (E3×Df)}{fuel d:EV}{S:aa}{r:EV}{Q:QW}
def uD (hfu:20 < fuel)(G:Gen defs)(hf:Fl S r)(k:∀w S',bW w->Fl S' r->Kp r S S'->Q (w,S')):wO (aQ (ak defs fuel (d+7)) "_law_laying_rule" 1 [.ref r] S) Q:=by
 show aw G.laying_rule rfl rfl λQ' hR=>?_
 replace k:∀w S',bW w->Fl S' r->Kp r S S'->Q' (.rt w,S'):=λz S' a b c=>hR _ _ (k z S' a b c)
 clear hR;change wZ _ _ bg [ba (.ref r),gV,gV,gV,gV,gV,gV,gV,gV,gV,gV,gV,gV,gV,gV] S Q';unfold bg;nofun
 left;show aB (d:=d+5) G.pick hf #v[] #v[] λv S1 v0 v7 f1 k1=>hK _ _ ?_
 clear hK K;nofun
 dsimp only[wS,wT,wE,wV,wG,dN,ar,wB];show am (Q0:=Q') (λ_ Q2 _ hr=>?_) (λ_ Q2 hn _=>bO (hn _ _ (hK _ _ ?_)))
 ·show st ?_;left;exact l9 (d:=d) hfu G f1 λw S2 a b c=>hr _ _ (k w S2 a b (k1.trans c))
 clear hK K hn;nofun
 dsimp only[wS,wT,wE,wV,wG,dN,ar,wB];show am (Q0:=Q') (λ_ Q2 _ hr=>?_) (λ_ Q2 hn _=>bO (hn _ _ (hK _ _ ?_)))
 ·show st ?_;left;exact qD (d:=d) hfu G f1 λw S2 a b c=>hr _ _ (k w S2 a b (k1.trans c))
 clear hK K hn;have hr1:=f1.lt;nofun
 left;show iX (d:=d+4) G f1 λw2 S2 hw2 f2 k2=>?_
 obtain⟨bs0,q0,U0,most,rfl,hbs0,m1,m3,m6,hq0,hq0l,h40,hm0⟩:=hw2;dsimp only[wU];show ae (show ci [2,3,4] [.tup (af bs0),.ref q0,.int most] [ba (.ref r),ba (.int v),gV,gV,gV,gV,gV,gV,gV,gV,gV,gV,gV,gV,gV]=ba [ba (.ref r),ba (.int v),ba (.tup (af bs0)),ba (.ref q0),ba (.int most),gV,gV,gV,gV,gV,gV,gV,gV,gV,gV]from rfl) (hK _ _ ?_)
 clear hK K;nofun
 left;show aB (d:=d+5) G.pick f2 ∅ ∅ λv3 S3 v30 v3m f3 k3=>?_
 dsimp only[bG,ar];obtain⟨a,ea⟩ : ∃a:EV,1+v3=a:=#[(1+v3).toNat,∅]
 rw[ea];show hK _ _ ?_;clear hK K;nofun
 left;show nD (d:=d+4) G (S0:=S1) hbs0 f3 hr1 (k2.trans k3) (k3.get _ _ ∅ hq0) hq0l h40 (hm0.kp hr1 k3) λbs q U S4 hb hbl hq hql hm f4 k4=>?_
 dsimp only[wU];show ae (show ci [2,3] [.tup (af bs),.ref q] [ba (.ref r),ba (.int v),ba (.tup (af bs0)),ba (.ref q0),ba (.int most),ba (.int a),gV,gV,gV,gV,gV,gV,gV,gV,gV]=ba [ba (.ref r),ba (.int v),ba (.tup (af bs)),ba (.ref q),ba (.int most),ba (.int a),gV,gV,gV,gV,gV,gV,gV,gV,gV]from rfl) (hK _ _ ?_)
 clear hK K;rw[<- hbl]at hm m6;have hn:bs.length=2\/bs.length=3:=by rw[hbl]; exact(ur bs0 hbs0).1
 have hsz:SizeOk a bs:=#[∅,hb,by
  have h1:(a:E5)*bs.length<=most*bs.length:=Int.mul_le_mul_of_nonneg_right ∅ ∅
  exact_mod_cast Int.le_trans h1 m6,∅]
 clear m6 hm0 hq0 hq0l h40 hbl hbs0 k2 k3 f2 f3;nofun
 left;show dI (d:=d+1) hfu G f4 ∅ ∅ λms ns S5 hml hnl hnm f5 k5=>hK _ _ ?_
 clear hK K;have kk:Kp r S S5:=k1.trans (k4.trans k5);have hrt:=f5.lt;have hq5:S5[q]?=ba (.dic U):=k5.get _ _ ∅ hq
 have hm5:MustE S5 bs.length S1.length U:=hm.kp hr1 k5;have hqn:q < S5.length:=du hq5;clear k1 k4 k5 f4 hm hq hql f1;show st ?_;dsimp only[wS,wE,E7];nofun
 left;show bE ?_;rw[show(af bs).length=bs.length from ER ..]
 show hK _ _ ?_;clear hK K;nofun
 show uC (n:=bs.length) (λQ q=>q) ∅ rfl λj j0 j27 hj=>?_
 show#[(λ_ Z S'=>(∃x9 x10 x11 x12 x13 x14,Z=[ba (.ref r),ba (.int v),ba (.tup (af bs)),ba (.ref q),ba (.int most),ba (.int a),ba (bh ms ns bs []),ba (.ref S5.length),ba (.int bs.length),x9,x10,x11,x12,x13,x14])/\(∃U fs,S'[S5.length]?=ba (.dic U)/\FigD (aD a bs) U fs)/\S'[q]?=ba (.dic U)/\MustE S' bs.length S1.length U/\Fl S' r/\Kp r S S'),#[#[_,_,_,_,_,_,rfl],#[[],[],ag,.nil],aq hq5,hm5.ka .push,f5.ka .push,kk.trans .push],?_,?_]
 ·rintro i Z S6 hi ⟨⟨x9,x10,x11,x12,x13,x14,rfl⟩,⟨kvd,fs,e6,hd⟩,hq6,hm6,f6,k6⟩ Q2 hn2 _;clear hK k;have hnp:(0:E5) < bs.length:=∅
  have hnb:(bs.length:E5) < 1073741824:=∅
  have y1:0<=(i:E5) % bs.length/\(i:E5) % bs.length < bs.length:=#[HK _ ∅,Hi _ hnp]
  have y2:0<=(i:E5) / bs.length % bs.length/\(i:E5) / bs.length % bs.length < bs.length:=#[HK _ ∅,Hi _ hnp]
  have y3:0<=(i:E5) / bs.length / bs.length/\(i:E5) / bs.length / bs.length < bs.length:=by
   rcases hn with h|h <;> rw[h]at hj ⊢ <;> omega
  nofun
  left;show ae (iD hnp) (ae (iE hnp hnb) (ae (iD hnp) ?_));dsimp only[w2];show hK _ _ ?_;clear hK K;nofun
  left;show ae (iE hnp hnb) (ae (iE hnp hnb) (hK _ _ ?_));clear hK K;dsimp only;generalize(i:E5) % bs.length=z1 at y1 ⊢;generalize(i:E5) / bs.length % bs.length=z2 at y2 ⊢;generalize(i:E5) / bs.length / bs.length=z3 at y3 ⊢;nofun
  dsimp only[wS,wT,wA,wE,wV,wG];show uy (d:=d+4) G hb y1 y2 y3 hq6 hm6 λb S7 k7=>?_
  dsimp only[dB,ar];show am (Q0:=Q2) (λ_ Q3 hn3 _=>?_) (λ_ Q3 hn3 _=>bO (hn3 _ _ (hK _ _ (bO (hn2 _ _ #[#[_,_,_,_,_,_,rfl],#[kvd,fs,k7.get _ _ e6,hd],k7.get _ _ hq6,hm6.ka k7,f6.ka k7,k6.trans (k7.kp r)])))))
  show aE λK3 hK3=>?_
  show d7 rfl rfl ?_;dsimp only[wE,wA,wV,wG];have h56:S5.length < S6.length:=du e6;have h67:=k7.len;show l8 (d:=d+5) G (a:=a) ∅ λt ts S8 e8 ht ht7 k8=>?_
  show#[t,ts.map dj,(λ_ Z S'=>(∃x9 x13 x14,Z=[ba (.ref r),ba (.int v),ba (.tup (af bs)),ba (.ref q),ba (.int most),ba (.int a),ba (bh ms ns bs []),ba (.ref S5.length),ba (.int bs.length),x9,ba (.int z1),ba (.int z2),ba (.int z3),x13,x14])/\(∃U fs,S'[S5.length]?=ba (.dic U)/\FigD (aD a bs) U fs)/\S'[q]?=ba (.dic U)/\MustE S' bs.length S1.length U/\S'[t]?=ba (.lst (ts.map dj))/\Fl S' r/\Kp r S S'),rfl,#[#[_,_,_,rfl],#[kvd,fs,k8.get _ _ (k7.get _ _ e6),hd],k8.get _ _ (k7.get _ _ hq6),(hm6.ka k7).ka k8,e8,(f6.ka k7).ka k8,k6.trans ((k7.trans k8).kp r)],λi Z S' h=>h.2.2.2.2.1,?_,?_]
  ·rintro j w Z S9 hw ⟨⟨x9,x13,x14,rfl⟩,⟨kvd,fs,e9,hd⟩,hq9,hm9,ht9,f9,k9⟩;clear hK3 hn3 hK hn2;rw[E1,EQ]at hw;obtain⟨⟨tr1,tr2,tr3⟩,htr,rfl⟩:=hw;obtain⟨t1,t2,t3⟩:=ht _ (Fh htr);show ae (show gI (.nm 13) (dj (tr1,tr2,tr3)) [ba (.ref r),ba (.int v),ba (.tup (af bs)),ba (.ref q),ba (.int most),ba (.int a),ba (bh ms ns bs []),ba (.ref S5.length),ba (.int bs.length),x9,ba (.int z1),ba (.int z2),ba (.int z3),x13,x14] S9=ba ([ba (.ref r),ba (.int v),ba (.tup (af bs)),ba (.ref q),ba (.int most),ba (.int a),ba (bh ms ns bs []),ba (.ref S5.length),ba (.int bs.length),x9,ba (.int z1),ba (.int z2),ba (.int z3),ba (dj (tr1,tr2,tr3)),x14],S9)from rfl) λQ4 hn4 _=>?_
   have hu:GoodW a bs.length [(tr1,[]),(tr2,[z1]),(tr3,[z2,z3])]:=yt t1 t2 t3 y1 y2 y3;nofun
   left;show al #v[] rfl (al #v[] rfl (hK _ _ ?_))
   clear hK K;show st ?_;left;show al #v[] rfl (ae (tB (dv rfl)) ?_)
   show fH (d:=d+3) (m0:=.tup (ms.map W.str)) (b0:=.tup []) (u:=[(tr1,[]),(tr2,[z1]),(tr3,[z2,z3])]) G hb hnl hu rfl λS10 k10=>?_
   have e10:=k10.get _ _ e9;exact o4 e10 hd hsz hu rfl λo ho=>bO (hn4 _ _ #[#[_,_,_,rfl],ho,by rw[bw ∅]; exact k10.get _ _ hq9,(hm9.ka k10).set e10,by rw[bw ∅]; exact k10.get _ _ ht9,(f9.ka k10).own hrt,(k9.trans (k10.kp r)).late kk.len])
  ·rintro Z S9 ⟨⟨x9,x13,x14,rfl⟩,hdd,hq9,hm9,ht9,f9,k9⟩;exact hK3 _ _ (bO (hn3 _ _ (hK _ _ (bO (hn2 _ _ #[#[_,_,_,_,_,_,rfl],hdd,hq9,hm9,f9,k9])))))
 ·rintro Z S6 ⟨⟨x9,x10,x11,x12,x13,x14,rfl⟩,⟨kvd,fs,e6,hd⟩,hq6,hm6,f6,k6⟩;show hK _ _ (st ?_);left;exact oZ (Q:=λp=>Q' (.rt p.1,p.2)) e6 hd hsz hml hnl hnm λw S8 hw k8=>k w S8 hw (f6.ka k8) (k6.trans (k8.kp r))
def nE (hfu:20 < fuel)(G:Gen defs)(hun:Is defs ("_law_unlaying_rule" : E3) 1 10 aC)(hf:Fl S r)(k:∀w S',bW w->Fl S' r->Kp r S S'->Q (w,S')):wO (aQ (ak defs fuel (d+6)) "_law_unlaying_rule" 1 [.ref r] S) Q:=by
 show aw hun rfl rfl λQ' hR=>?_
 replace k:∀w S',bW w->Fl S' r->Kp r S S'->Q' (.rt w,S'):=λz S' a b c=>hR _ _ (k z S' a b c)
 clear hR;change wZ _ _ aC [ba (.ref r),gV,gV,gV,gV,gV,gV,gV,gV,gV] S Q';unfold aC;nofun
 left;show aB (d:=d+4) G.pick hf #v[] #v[] λv S1 v0 v7 f1 k1=>hK _ _ ?_
 clear hK K;have hlt:=f1.lt;nofun
 dsimp only[wS,wT,wE,wV,wG,dN,ar,wB];show am (Q0:=Q') (λ_ Q2 _ hr=>?_) (λ_ Q2 hn _=>bO (hn _ _ (hK _ _ ?_)))
 ·
  show st ?_;left;show cY 2 (λi zs Z2 S2=>(∃a1,Z2=[gV,a1])/\zs=([AM 0,AM 1].take i).map aT/\S2=S1) rfl rfl rfl #v[] #[rfl,#[gV,rfl],rfl,rfl] ?_ ?_
  ·rintro i zs Z2 S2 hi ⟨⟨a1,rfl⟩,rfl,rfl⟩;clear k hr hK;dsimp only[gK,wC,wE,wA,wV,wG,E7];show#[λ_=>#[#[_,rfl],?_,rfl],λz=>by cases z]
   rcases(show i=0\/i=1 by omega)with h|h
   ·subst h; rfl
   ·subst h; rfl
  ·rintro zs Z2 S2 ⟨_,rfl,rfl⟩;show#[dv rfl,?_];show eu (d:=d) (a:=1) (bs:=[0,1]) (us:=[AM 0,AM 1]) hfu G (f1.ka .push) #v[] #v[] (λS' kk=>?_) #v[] #v[] λms ns S3 hml hnl hnm f3 k3=>?_
   ·simp only[cK,ap (kk.get _ _ ∅ ag)]; rfl
   exact hr _ _ (k _ _ #[1,[0,1],ms,ns,_,rfl,#[#[#v[],.inr (.inl rfl),#v[],#v[]],hml,hnl,hnm,#v[],xD]] f3 (k1.trans (Kp.push.trans k3)))
 clear hK K hn;nofun
 dsimp only[wS,wT,wE,wV,wG,dN,ar,wB];show am (Q0:=Q') (λ_ Q2 _ hr=>?_) (λ_ Q2 hn _=>bO (hn _ _ (hK _ _ ?_)))
 ·
  clear hK;nofun
  left;show dI (d:=d) (a:=2) (bs:=[0,1]) hfu G f1 #v[] #v[] λms ns S3 hml hnl hnm f3 k3=>hK _ _ ?_
  clear hK K;have hsz:SizeOk 2 [0,1]:=#[#v[],.inr (.inl rfl),#v[],#v[]]
  have hrt:=f3.lt;have kk:Kp r S S3:=k1.trans k3;show st ?_;dsimp only[wS,wE,E7];nofun
  show d7 rfl rfl ?_;dsimp only[wE,wA,wV,wG];show l8 (d:=d+4) G (a:=2) #v[] λq ts S4 e4 ht hq k4=>?_
  have hq':S3.length < q:=by simp only[E6,Fy,Gx]at hq; omega
  show#[q,ts.map dj,(λ_ Z S'=>(∃x4 x5 x6 x7 x8 x9,Z=[ba (.ref r),ba (.int v),ba (bh ms ns [0,1] []),ba (.ref S3.length),x4,x5,x6,x7,x8,x9])/\(∃U fs,S'[S3.length]?=ba (.dic U)/\FigD (aD 2 [0,1]) U fs)/\S'[q]?=ba (.lst (ts.map dj))/\Fl S' r/\Kp r S S'),rfl,#[#[_,_,_,_,_,_,rfl],#[[],[],k4.get _ _ ag,.nil],e4,(f3.ka .push).ka k4,(kk.trans .push).trans (k4.kp r)],λi Z S' h=>h.2.2.1,?_,?_]
  ·rintro i w Z S5 hw ⟨⟨x4,x5,x6,x7,x8,x9,rfl⟩,⟨U,fs,e5,hd⟩,hq5,f5,k5⟩;clear hK;rw[E1,EQ]at hw;obtain⟨⟨tr1,tr2,tr3⟩,htt,rfl⟩:=hw;obtain⟨t1,t2,t3⟩:=ht _ (Fh htt);have h53:S3.length < S5.length:=du e5;have hq5l:q < S5.length:=du hq5;show ae (show gI (.nm 4) (dj (tr1,tr2,tr3)) [ba (.ref r),ba (.int v),ba (bh ms ns [0,1] []),ba (.ref S3.length),x4,x5,x6,x7,x8,x9] S5=ba ([ba (.ref r),ba (.int v),ba (bh ms ns [0,1] []),ba (.ref S3.length),ba (dj (tr1,tr2,tr3)),x5,x6,x7,x8,x9],S5)from rfl) λQ3 hn3 _=>?_
   nofun
   show d7 rfl rfl ?_;dsimp only[wE,wA,wV,wG];show#[S5.length,[(1,1,0),(1,1,1),(1,0,1),(0,1,1)].map dj,(λ_ Z S'=>(∃x5 x6 x7 x8 x9,Z=[ba (.ref r),ba (.int v),ba (bh ms ns [0,1] []),ba (.ref S3.length),ba (dj (tr1,tr2,tr3)),x5,x6,x7,x8,x9])/\(∃U fs,S'[S3.length]?=ba (.dic U)/\FigD (aD 2 [0,1]) U fs)/\S'[q]?=ba (.lst (ts.map dj))/\S'[S5.length]?=ba (.lst ([(1,1,0),(1,1,1),(1,0,1),(0,1,1)].map dj))/\Fl S' r/\Kp r S S'),rfl,#[#[_,_,_,_,_,rfl],#[U,fs,aq e5,hd],aq hq5,ag,f5.ka .push,k5.trans .push],λi Z S' h=>h.2.2.2.1,?_,?_]
   ·rintro i w Z S6 hw ⟨⟨x5,x6,x7,x8,x9,rfl⟩,⟨U,fs,e6,hd⟩,hq6,hl6,f6,k6⟩;clear hK hn3;rw[E1,EQ]at hw;obtain⟨⟨y1,y2,y3⟩,hy,rfl⟩:=hw;have hy':(0<=y1/\y1 < 2)/\(0<=y2/\y2 < 2)/\(0<=y3/\y3 < 2):=by
     have:∀p∈([(1,1,0),(1,1,1),(1,0,1),(0,1,1)]:EI (E5×E5×E5)),(0<=p.1/\p.1 < 2)/\(0<=p.2.1/\p.2.1 < 2)/\(0<=p.2.2/\p.2.2 < 2):=by decide
     exact this _ (Fh hy)
    show ae (show gI (.tp [5,6,7]) (dj (y1,y2,y3)) [ba (.ref r),ba (.int v),ba (bh ms ns [0,1] []),ba (.ref S3.length),ba (dj (tr1,tr2,tr3)),x5,x6,x7,x8,x9] S6=ba ([ba (.ref r),ba (.int v),ba (bh ms ns [0,1] []),ba (.ref S3.length),ba (dj (tr1,tr2,tr3)),ba (.int y1),ba (.int y2),ba (.int y3),x8,x9],S6)from rfl) λQ4 hn4 _=>?_
    nofun
    left;show al #v[] rfl (al #v[] rfl (hK _ _ ?_))
    clear hK K;have hu:GoodW 2 2 [(tr1,[]),(tr2,[y1]),(tr3,[y2,y3])]:=yt t1 t2 t3 hy'.1 hy'.2.1 hy'.2.2;show st ?_;left;show al #v[] rfl (ae (tB (dv rfl)) ?_)
    show fH (d:=d+2) (m0:=.tup (ms.map W.str)) (b0:=.tup []) (bs:=[0,1]) (u:=[(tr1,[]),(tr2,[y1]),(tr3,[y2,y3])]) G (.inr (.inl rfl)) hnl hu rfl λS7 k7=>?_
    have e7:=k7.get _ _ e6;exact o4 e7 hd hsz hu rfl λo ho=>bO (hn4 _ _ #[#[_,_,_,_,_,rfl],ho,by rw[bw ∅]; exact k7.get _ _ hq6,by rw[bw ∅]; exact k7.get _ _ hl6,(f6.ka k7).own hrt,(k6.trans (k7.kp r)).late kk.len])
   ·rintro Z S6 ⟨⟨x5,x6,x7,x8,x9,rfl⟩,hdd,hq6,hl6,f6,k6⟩;exact hK _ _ (bO (hn3 _ _ #[#[_,_,_,_,_,_,rfl],hdd,hq6,f6,k6]))
  ·rintro Z S5 ⟨⟨x4,x5,x6,x7,x8,x9,rfl⟩,⟨U,fs,e5,hd⟩,hq5,f5,k5⟩;show hK _ _ (st ?_);left;exact oZ (Q:=λp=>Q2 (.rt p.1,p.2)) e5 hd hsz hml hnl hnm λw S8 hw k8=>hr _ _ (k w S8 hw (f5.ka k8) (k5.trans (k8.kp r)))
 clear hK K hn;nofun
 left;show aB (d:=d+4) G.pick f1 #v[] #v[] λv2 S2 v20 v22 f2 k2=>?_
 dsimp only[bG,ar];obtain⟨a,ea⟩ : ∃a:EV,2+v2=a:=#[(2+v2).toNat,∅]
 rw[ea];have ha:a=2\/a=3:=∅
 show hK _ _ ?_;clear hK K;nofun
 dsimp only[wS,wE,E7];show cY (a:E5) (λi zs Z2 S3=>(∃a1,Z2=[gV,a1,ba (.int a)])/\zs=((di i).map (uz a)).map aT/\S3=S2) rfl rfl rfl ∅ #[rfl,#[gV,rfl],rfl,rfl] ?_ ?_
 ·rintro i zs Z2 S3 hi ⟨⟨a1,rfl⟩,rfl,rfl⟩;dsimp only[gK,wC,wE,wA,wV,wG,E7,tz,ar];show#[λ_=>#[#[_,rfl],?_,rfl],λz=>by cases z]
  simp[di,List.range_succ,uz,aT,iV]
 ·rintro zs Z2 S3 ⟨_,rfl,rfl⟩;rw[Ff];have hul:(di a).length=a:=by simp[di]
  show#[few (by rw[ER,ER,hul]; omega),hK _ _ (st ?_)]
  clear hK K;dsimp only[wS,wE,wA,wP,wV,wG];show aB (d:=d+4) G.pick (f2.ka .push) ∅ ∅ λv4 S4 v40 v4a f4 k4=>?_
  dsimp only[bG,ar,wN];obtain⟨mm,em⟩ : ∃mm:EV,1+v4=mm:=#[(1+v4).toNat,∅]
  rw[em];have hlt2:=f2.lt;have e4:S4[S3.length]?=ba (.lst (((di a).map (uz a)).map aT)):=k4.get _ _ ∅ ag
  have hsl:la (.ref S3.length) gV (ba (mm:E5)) S4=ba (.ref S4.length,S4++[.lst ((((di a).map (uz a)).take mm).map aT)]):=by
   simp only[la,ap e4,fF,Jz]
  show ae hsl ?_;have hlt4:=f4.lt;have hmem:∀g∈((di a).map (uz a)).take mm,g∈aD a [0]:=λg hg=>by
   obtain⟨x,hx,rfl⟩:=Fx.mp (Kr hg);rcases ha with rfl|rfl
   ·exact uA x hx
   ·exact uB x hx
  show eu (d:=d) (a:=a) (bs:=[0]) (us:=((di a).map (uz a)).take mm) hfu G (f4.ka .push) ∅ #v[] (λS' kk=>?_) (by rw[Gg,ER,hul]; omega) (λu hu=>l7 (hmem u hu)) λms ns S5 hml hnl hnm f5 k5=>?_
  ·simp only[cK,ap (kk.get _ _ ∅ ag)]
  show k _ _ #[a,[0],ms,ns,_,rfl,#[#[∅,fK,by simp; omega,∅],hml,hnl,hnm,?_,hmem]] f5 (k1.trans (k2.trans (Kp.push.trans (k4.trans (Kp.push.trans k5)))))
  show No (Lg _ _) ?_;unfold Mq di;rw[IC,IC];exact(List.nodup_range (n:=a)).imp λh e=>h (by have:=xE e; omega)
def Au (hfu:20 < fuel)(G:Gen defs)(hun:Is defs ("_law_unlaying_rule" : E3) 1 10 aC)(hg:Is defs ("_law_rule" : E3) 1 2 cU)(hf:Fl S r)(k:∀w S',bW w->Fl S' r->Kp r S S'->Q (w,S')):wO (aQ (ak defs fuel (d+8)) "_law_rule" 1 [.ref r] S) Q:=by
 show aw hg rfl rfl λQ' hR=>?_
 replace k:∀w S',bW w->Fl S' r->Kp r S S'->Q' (.rt w,S'):=λz S' a b c=>hR _ _ (k z S' a b c)
 clear hR;change wZ _ _ cU [ba (.ref r),gV] S Q';dsimp only[cU];nofun
 left;show aB (d:=d+6) G.pick hf #v[] #v[] λv S1 v0 v7 f1 k1=>hK _ _ ?_
 clear hK K;nofun
 dsimp only[wS,wT,wE,wV,wG,dN,ar,wB];show am (Q0:=Q') (λ_ Q2 _ hr=>?_) (λ_ Q2 hn _=>bO (hn _ _ (hK _ _ ?_)))
 ·show st ?_;left;exact uD (d:=d) hfu G f1 λw S2 a b c=>hr _ _ (k w S2 a b (k1.trans c))
 clear hK K hn;nofun
 dsimp only[wS,wT,wE,wV,wG,dN,ar,wB];show am (Q0:=Q') (λ_ Q2 _ hr=>?_) (λ_ Q2 hn _=>bO (hn _ _ (hK _ _ ?_)))
 ·show st ?_;left;exact nE (d:=d+1) hfu G hun f1 λw S2 a b c=>hr _ _ (k w S2 a b (k1.trans c))
 show st ?_;left;exact nB (d:=d+1) hfu G f1 λw S2 a b c=>k w S2 a b (k1.trans c)
end
abbrev Tr:EV->W->Prop
 | _,.int _=>KP
 | _,.str _=>KP
 | _,.non=>KP
 | n+1,.tup xs=>xs.length<=1000/\∀x∈xs,Tr n x
 | _,_=>F8
def jE:∀n:EV,dC (Fw n (.bl true))=ba (Fw n true)
 | 0=>rfl
 | n+1=>by rw[Gr,dC,jE n]; rfl
def xF (n:EV):(Fw n true).all id=true:=by
 rw[Fu];intro x hx;rw[(List.mem_replicate.mp hx).2]; rfl
section
variable{defs:EI (E3×Df)}{fuel:EV}
def o8 (hg:Is defs ("_law_alike" : E3) 2 2 bo):∀(n d:EV) (w:W) (S:aa) (Q:QW),Tr n w->(∀S',Ka S S'->Q (.bl true,S'))->wO (aQ (ak defs fuel (d+n+1)) "_law_alike" 2 [w,w] S) Q:=by
 intro n
 induction n with
 | zero=>
  intro d w S Q hw k;show aw hg rfl rfl λQ' hR=>?_
  replace k:=hR _ _ (k S .refl);clear hR;change wZ _ _ bo [ba w,ba w] S Q';dsimp only[bo];cases w with
  | int x=>
   show aE λK hK=>bS (λQ q=>q) (hK _ _ ?_)
   show aE λK hK=>bS (λQ q=>#[λz=>(by cases z),λ_=>q]) (hK _ _ ?_)
   show aE λK hK=>iF (λQ q=>q) λQ2 _ hr=>st ?_
   dsimp only[wS,wE,wV,wG];show ae (show qM S (.int x) "int" = ba true from rfl) #[λ_=>?_,λz=>by cases z]
   dsimp only[dN,ar];rw[FQ];exact hr _ _ k
  | str x=>
   show aE λK hK=>bS (λQ q=>q) (hK _ _ ?_)
   show aE λK hK=>bS (λQ q=>#[λz=>(by cases z),λ_=>q]) (hK _ _ ?_)
   show aE λK hK=>bS (λQ q=>q) (hK _ _ ?_)
   show aE λK hK=>iF (λQ q=>q) λQ2 _ hr=>st ?_
   dsimp only[wS,wE,wV,wG];show ae (show qM S (.str x) "str" = ba true from rfl) #[λ_=>?_,λz=>by cases z]
   dsimp only[tD,ar];rw[FQ];exact hr _ _ k
  | non=>
   show aE λK hK=>iF (λQ q=>q) λQ2 _ hr=>st ?_
   dsimp only[wS,wE,wV,wG];exact ae (show cV .is .non .non S=ba (.bl true,S)from rfl) (hr _ _ k)
  | _=>exact hw.elim
 | succ n ih=>
  intro d w S Q hw k;show aw hg rfl rfl λQ' hR=>?_
  replace k:∀S',Ka S S'->Q' (.rt (.bl true),S'):=λS' a=>hR _ _ (k S' a)
  clear hR;change wZ _ _ bo [ba w,ba w] S Q';dsimp only[bo];cases w with
  | int x=>
   show aE λK hK=>bS (λQ q=>q) (hK _ _ ?_)
   show aE λK hK=>bS (λQ q=>#[λz=>(by cases z),λ_=>q]) (hK _ _ ?_)
   show aE λK hK=>iF (λQ q=>q) λQ2 _ hr=>st ?_
   dsimp only[wS,wE,wV,wG];show ae (show qM S (.int x) "int" = ba true from rfl) #[λ_=>?_,λz=>by cases z]
   dsimp only[dN,ar];rw[FQ];exact hr _ _ (k _ .refl)
  | str x=>
   show aE λK hK=>bS (λQ q=>q) (hK _ _ ?_)
   show aE λK hK=>bS (λQ q=>#[λz=>(by cases z),λ_=>q]) (hK _ _ ?_)
   show aE λK hK=>bS (λQ q=>q) (hK _ _ ?_)
   show aE λK hK=>iF (λQ q=>q) λQ2 _ hr=>st ?_
   dsimp only[wS,wE,wV,wG];show ae (show qM S (.str x) "str" = ba true from rfl) #[λ_=>?_,λz=>by cases z]
   dsimp only[tD,ar];rw[FQ];exact hr _ _ (k _ .refl)
  | tup xs=>
   obtain⟨hl,hx⟩:=hw;show aE λK hK=>bS (λQ q=>q) (hK _ _ ?_)
   show aE λK hK=>bS (λQ q=>#[λz=>(by cases z),λ_=>q]) (hK _ _ ?_)
   show aE λK hK=>bS (λQ q=>q) (hK _ _ ?_)
   show aE λK hK=>bS (λQ q=>q) (hK _ _ ?_)
   show aE λK hK=>bS (λQ q=>#[λz=>(by cases z),λ_=>q]) (hK _ _ ?_)
   show st ?_;left;show bE (bE ?_);dsimp only[dN,ar,wB];rw[FQ];show#[λ_=>?_,λz=>by cases z]
   show cY (xs.length:E5) (λi ys Z2 S2=>(∃a1,Z2=[gV,a1,ba (.tup xs),ba (.tup xs)])/\ys=Fw i (.bl true)/\Ka S S2) rfl rfl rfl ∅ ?_ ?_ ?_
   ·dsimp only[wE,wA,wV,wG];exact bE #[rfl,#[gV,rfl],rfl,.refl]
   ·rintro i ys Z2 S2 hi ⟨⟨a1,rfl⟩,rfl,k2⟩;have hi':i < xs.length:=∅
    dsimp only[gK,wC,wE,wA,wV,wG,E7];show#[λ_=>al (FB i) (by rw[Ff]; exact EZ hi') (al (FB i) (by rw[Ff]; exact EZ hi') (ih d _ _ _ (hx _ (Gh hi')) λS3 k3=>#[#[_,rfl],?_,k2.trans k3])),λz=>by cases z]
    rw[List.replicate_succ']
   ·rintro ys Z2 S2 ⟨_,rfl,k2⟩;rw[Ff];show#[few (by rw[J3]; exact hl),ae (a:=(.bl true,S2++[.lst (Fw xs.length (.bl true))])) ?_ (k _ (k2.trans .push))]
    (dsimp only[Bi.fn,vW]; simp only[ap ag,jE,FP,xF])
  | non=>
   show aE λK hK=>iF (λQ q=>q) λQ2 _ hr=>st ?_
   dsimp only[wS,wE,wV,wG];exact ae (show cV .is .non .non S=ba (.bl true,S)from rfl) (hr _ _ (k _ .refl))
  | _=>exact hw.elim
end
section
variable{defs:EI (E3×Df)}{fuel d:EV}{S:aa}{Q:QW}
def CC {n:EV}(h:n<=1000000):n<=sizeLine:=by rw[FX]; omega
end
section
variable{M:E3->FF}{Z:Fm}{S:aa}
def nF {α:Type}{elt:E}{tg:Tg}{it:Ie}{cs:Es}{cap:EI (EO EV)}{mi:MI}{S1:aa}{Q:QW}(L:EI α)(f:α->W)(p:α->Fk)(g:α->W)(td:Fm->Prop)(fr:α->Fm)(hJ:∀x Z S,td Z->gI tg (f x) Z S=ba (fr x,S)/\td (fr x))(oe:cg elt=true)(oc:lS cs=true)(hc:td (cN cap Z))(hl:L.length<=1000000)(hi:gx M it Z S=ba (mi,S1))(k1:Ka S S1)(hat:∀i S',Ka S1 S'->mi.at S' i=ba (L.map f)[i]?)(hn:mi.len S1=ba (L.map f).length)
  (hstep:∀x∈L,∀S',Ka S S'->gK M elt cs (fr x) S' (λy _ S2=>p x=true/\y=g x/\Ka S' S2) (λ_ S2=>p x=false/\Ka S' S2))
  (k:∀S',Ka S S'->Q (.ref S'.length,S'++[.lst ((L.filter p).map g)])):Wp (aj M (.comp elt tg it cs cap) Z S) Q:=by
 rw[tu];show#[_,hi,_,hn,?_];show(cq (xs:=L.map f) (Q:=λq=>q.1.length<=sizeLine/\Q (.ref q.2.length,q.2++[.lst q.1])) (λi ys Z' S'=>td Z'/\ys=((L.take i).filter p).map g/\Ka S1 S') (λi ys Z' S' h=>hat i S' h.2.2) (λi w ys Z' S' hw h=>?_) (λys Z' S' h=>?_) (L.map f).length 0 [] _ S1 ∅ #[hc,rfl,.refl]).mono λq hq=>by simpa using hq
 ·obtain⟨hj,rfl,k2⟩:=h;rw[E1,EQ]at hw;obtain⟨x,hx,rfl⟩:=hw;obtain⟨h1,h2⟩:=hJ x Z' S' hj;show#[_,h1,?_];show(yq oc (hstep x (Fh hx) S' (k1.trans k2))).mono λc hc=>#[λz=>(aA elt oe (hc.1 z)).mono λy hy=>#[h2,?_,k2.trans hy.2.2],λz=>#[h2,?_,k2.trans (hc.2 z).2]]
  ·rw[GP,hx,K8,show(ML (ba x)).filter p=[x]from List.filter_cons_of_pos hy.1,F6,hy.2.1]; rfl
  ·rw[GP,hx,K8,show(ML (ba x)).filter p=[]from List.filter_cons_of_neg (by rw[(hc.2 z).1]; exact E8),HH]
 ·obtain⟨_,rfl,k2⟩:=h;dsimp only;rw[show(L.map f).length=L.length from ER ..,Hf]
  show#[CC ?_,k S' (k1.trans k2)];rw[ER];exact F2 (List.length_filter_le _ _) hl
def uE {α:Type}{elt:E}{it:Ie}{cs:Es}{cap:EI (EO EV)}{mi:MI}{S1:aa}{Q:QW}(L:EI α)(f:α->W)(p:α->Fk)(g:α->W)(R:Fm)(oe:cg elt=true)(oc:lS cs=true)(hc:cN cap Z=gV::gV::R)(hl:L.length<=1000000)(hi:gx M it Z S=ba (mi,S1))(k1:Ka S S1)(hat:∀i S',Ka S1 S'->mi.at S' i=ba (L.map f)[i]?)(hn:mi.len S1=ba (L.map f).length)
  (hstep:∀x∈L,∀S',Ka S S'->gK M elt cs (gV::ba (f x)::R) S' (λy _ S2=>p x=true/\y=g x/\Ka S' S2) (λ_ S2=>p x=false/\Ka S' S2))
  (k:∀S',Ka S S'->Q (.ref S'.length,S'++[.lst ((L.filter p).map g)])):Wp (aj M (.comp elt (.nm 1) it cs cap) Z S) Q:=
 nF L f p g (λZ=>∃a,Z=gV::a::R) (λx=>gV::ba (f x)::R) (λ_ _ _ h=>let ⟨_,e⟩:=h; e ▸ #[rfl,_,rfl]) oe oc #[_,hc] hl hi k1 hat hn hstep k
def Av {α:Type}{elt e:E}{cs:Es}{cap:EI (EO EV)}{Q:QW}(L:EI α)(f:α->W)(p:α->Fk)(g:α->W)(R:Fm)(oi:cg e=true)(oe:cg elt=true)(oc:lS cs=true)(hc:cN cap Z=gV::gV::R)(hl:L.length<=1000000)
  (he:wE M e Z S λq=>∃t,q.1=.ref t/\q.2[t]?=ba (.lst (L.map f))/\Ka S q.2)
  (hstep:∀x∈L,∀S',Ka S S'->gK M elt cs (gV::ba (f x)::R) S' (λy _ S2=>p x=true/\y=g x/\Ka S' S2) (λ_ S2=>p x=false/\Ka S' S2))
  (k:∀S',Ka S S'->Q (.ref S'.length,S'++[.lst ((L.filter p).map g)])):Wp (aj M (.comp elt (.nm 1) (.seq e) cs cap) Z S) Q:=by
 obtain⟨w,S1,e1,t,rfl,ht,k1⟩:=bn oi he;exact uE (mi:=.live t) L f p g R oe oc hc hl (by simp only[gx,cM,e1,ap ht]) k1 (λi S' h=>by simp only[MI.at,ap (h.get _ _ ht)]) (by simp only[MI.len,ap ht,FP]) hstep k
def nG {α:Type}{elt e:E}{cs:Es}{cap:EI (EO EV)}{Q:QW}(L:EI α)(f:α->W)(p:α->Fk)(g:α->W)(R:Fm)(oi:cg e=true)(oe:cg elt=true)(oc:lS cs=true)(hc:cN cap Z=gV::gV::R)(hl:L.length<=1000000)
  (he:wE M e Z S λq=>q.1=.tup (L.map f)/\Ka S q.2)
  (hstep:∀x∈L,∀S',Ka S S'->gK M elt cs (gV::ba (f x)::R) S' (λy _ S2=>p x=true/\y=g x/\Ka S' S2) (λ_ S2=>p x=false/\Ka S' S2))
  (k:∀S',Ka S S'->Q (.ref S'.length,S'++[.lst ((L.filter p).map g)])):Wp (aj M (.comp elt (.nm 1) (.seq e) cs cap) Z S) Q:=by
 obtain⟨w,S1,e1,rfl,k1⟩:=bn oi he;exact uE (mi:=.its (L.map f)) L f p g R oe oc hc hl (by simp only[gx,cM,e1]) k1 (λ_ _ _=>rfl) rfl hstep k
def dy {α:Type}(L:EI α):L.filter (λ_=>true)=L:=List.filter_eq_self.mpr λ_ _=>rfl
end
section
variable{defs:EI (E3×Df)}{fuel d:EV}{S:aa}{Q:QW}
def Aw (hd:Is defs ("_law_flow" : E3) 1 1 cR){ns:EI E5}{u:EV}(hu:S[u]?=ba (.fro (ns.map W.int)))(k:∀r S',Ka S S'->Fl S' r->Q (.ref r,S')) :
  wO (aQ (ak defs fuel (d+1)) "_law_flow" 1 [.ref u] S) Q:=by
 show aw hd rfl rfl λQ' hR=>?_
 change wZ _ _ cR [ba (.ref u)] S Q';dsimp only[cR];show st ?_;left;have e:Bi.list.fn [.ref u] S=ba (.ref S.length,S++[.lst (ns.map W.int)]):=by
  have h1:vQ S u=gV:=by simp[vQ,hu]
  simp only[Bi.fn,wY,jb,h1,eX,bQ,xi hu]
 show ae e (hR _ _ (k _ _ (Ka.push.trans .push) #[S.length,ns,0,0,1,0,?_,?_,?_,#v[],#v[],#v[],#v[]]))
 ·exact ag
 ·exact aq ag
 ·simp
end
def iL {α:Type}:∀L:EI α,dC (L.map λ_=>W.bl true)=ba (L.map λ_=>true)
 | []=>rfl
 | _::L=>by rw[FV,dC,iL L]; rfl
section
variable{M:E3->FF}{Z:Fm}{S:aa}
def yu {α:Type}{elt:E}{tg:Tg}{it:Ie}{cap:EI (EO EV)}{mi:MI}{S1:aa}{Q:QW}(L:EI α)(f:α->W)(td:Fm->Prop)(fr:α->Fm)(hJ:∀x Z S,td Z->gI tg (f x) Z S=ba (fr x,S)/\td (fr x))(oe:cg elt=true)(hc:td (cN cap Z))(hl:L.length<=1000000)(hi:gx M it Z S=ba (mi,S1))(k1:Ka S S1)(hat:∀i S',Ka S1 S'->mi.at S' i=ba (L.map f)[i]?)(hn:mi.len S1=ba (L.map f).length)
  (hstep:∀x∈L,∀S',Ka S S'->wE M elt (fr x) S' λy=>true=true/\y.1=.bl true/\Ka S' y.2)
  (k:∀S',Ka S S'->Q (.bl true,S')):wE M (.bi .all #v[.comp elt tg it .nil cap]) Z S Q:=by
 dsimp only[wE,wA];show nF L f (λ_=>true) (λ_=>.bl true) td fr hJ oe rfl hc hl hi k1 hat hn (λx hx S' k'=>?_) λS' k'=>?_
 ·dsimp only[gK,wC];exact#[λ_=>hstep x hx S' k',λz=>by cases z]
 ·rw[dy];show ae (a:=(.bl true,S'++[.lst (L.map λ_=>W.bl true)])) ?_ (k _ (k'.trans .push))
  dsimp only[Bi.fn,vW];simp only[ap (ag (S:=S') (o:=.lst (L.map λ_=>W.bl true))),iL,FP]
  have:(L.map λ_=>true).all id=true:=by rw[Ln]; exact Fu.mpr λ_ _=>rfl
  rw[this]
def Ei {α:Type}{elt e:E}{cap:EI (EO EV)}{Q:QW}(L:EI α)(f:α->W)(R:Fm)(oi:cg e=true)(oe:cg elt=true)(hc:cN cap Z=gV::gV::R)(hl:L.length<=1000000)
  (he:wE M e Z S λq=>q.1=.tup (L.map f)/\Ka S q.2)
  (hstep:∀x∈L,∀S',Ka S S'->wE M elt (gV::ba (f x)::R) S' λy=>true=true/\y.1=.bl true/\Ka S' y.2)
  (k:∀S',Ka S S'->Q (.bl true,S')):wE M (.bi .all #v[.comp elt (.nm 1) (.seq e) .nil cap]) Z S Q:=by
 obtain⟨w,S1,e1,rfl,k1⟩:=bn oi he;exact yu (mi:=.its (L.map f)) L f (λZ=>∃a,Z=gV::a::R) (λx=>gV::ba (f x)::R) (λ_ _ _ h=>let ⟨_,e⟩:=h; e ▸ #[rfl,_,rfl]) oe #[_,hc] hl (by simp only[gx,cM,e1]) k1 (λ_ _ _=>rfl) rfl hstep k
def CD {α:Type}{elt e:E}{cap:EI (EO EV)}{Q:QW}(L:EI α)(f:α->W)(R:Fm)(oi:cg e=true)(oe:cg elt=true)(hc:cN cap Z=gV::gV::R)(hl:L.length<=1000000)
  (he:wE M e Z S λq=>∃t,q.1=.ref t/\q.2[t]?=ba (.lst (L.map f))/\Ka S q.2)
  (hstep:∀x∈L,∀S',Ka S S'->wE M elt (gV::ba (f x)::R) S' λy=>true=true/\y.1=.bl true/\Ka S' y.2)
  (k:∀S',Ka S S'->Q (.bl true,S')):wE M (.bi .all #v[.comp elt (.nm 1) (.seq e) .nil cap]) Z S Q:=by
 obtain⟨w,S1,e1,t,rfl,ht,k1⟩:=bn oi he;exact yu (mi:=.live t) L f (λZ=>∃a,Z=gV::a::R) (λx=>gV::ba (f x)::R) (λ_ _ _ h=>let ⟨_,e⟩:=h; e ▸ #[rfl,_,rfl]) oe #[_,hc] hl (by simp only[gx,cM,e1,ap ht]) k1 (λi S' h=>by simp only[MI.at,ap (h.get _ _ ht)]) (by simp only[MI.len,ap ht,FP]) hstep k
end
abbrev jl (y:EI EV):EI (EI EV)->EI EV
 | []=>[]
 | [p]=>p
 | p::q::r=>p++(y++jl y (q::r))
def o9 {x y:E3}(h:x.cps.toList=y.cps.toList):x=y:=by
 obtain⟨⟨x⟩⟩:=x;obtain⟨⟨y⟩⟩:=y;cases h; rfl
def ev (y:E3):∀P:EI E3,(y.join P).cps.toList=jl y.cps.toList (P.map λp=>p.cps.toList)
 | []=>rfl
 | [p]=>rfl
 | p::q::r=>by
  rw[NM y p (q::r) (by intro z; cases z)]
  show((p.cps++y.cps)++(y.join (q::r)).cps).toList=p.cps.toList++(y.cps.toList++jl y.cps.toList ((q::r).map λp=>p.cps.toList))
  rw[<- ev y (q::r)];simp
def kJ {x y:E3}{k:EV}:Ji x y x.length k↔k+y.cps.toList.length<=x.cps.toList.length/\(x.cps.toList.drop k).take y.cps.toList.length=y.cps.toList:=by
 unfold Ji;rw[StrLaws.subAt_eq];have e1:y.length=y.cps.toList.length:=by simp[HU]
 have e2:x.length=x.cps.toList.length:=by simp[HU]
 rw[e1,e2,beq_iff_eq]
def mo {x y:E3}{pre post:EI EV}{c:EV}(hy:y.cps.toList=pre++c::post)(hp:c∉pre):∀(P:EI E3) (a:EV) (cuts:EI EV) (f:EV),P≠[]->(∀p∈P,c∉p.cps.toList)->a<=x.cps.toList.length->x.cps.toList.drop a=jl y.cps.toList (P.map λp=>p.cps.toList)->
  StrLaws.ChainG x y x.length a cuts f->(∀k,f<=k->¬ Ji x y x.length k)->StrLaws.partsFrom x y.length a cuts=P
 | [],_,_,_,h,_,_,_,_,_=>absurd rfl h
 | [p],a,cuts,f,_,hc,ha,hx,ch,hf=>by
  have e2:x.length=x.cps.toList.length:=by simp[HU]
  replace hx:x.cps.toList.drop a=p.cps.toList:=hx;have no:∀k,a<=k->¬ Ji x y x.length k:=λk hk z=>by
   obtain⟨z1,z2⟩:=kJ.mp z;have hm:c∈(x.cps.toList.drop k).take y.cps.toList.length:=by rw[z2,hy]; simp
   have hm2:=Kr hm;have e:x.cps.toList.drop k=(x.cps.toList.drop a).drop (k - a):=by rw[Jj]; congr 1; omega
   rw[e,hx]at hm2;exact hc p (by simp) (Ks hm2)
  cases cuts with
  | cons b r=>rw[StrLaws.ChainG.eq_2]at ch; exact absurd ch.2.1 (no b ch.1)
  | nil=>
   rw[StrLaws.partsFrom.eq_1];congr 1;show o9 ?_;rw[Kd,hx,G9];rw[<- hx,GX]; omega
 | p::q::r,a,cuts,f,_,hc,ha,hx,ch,hf=>by
  have e1:y.length=y.cps.toList.length:=by simp[HU]
  have e2:x.length=x.cps.toList.length:=by simp[HU]
  replace hx:x.cps.toList.drop a=p.cps.toList++(y.cps.toList++jl y.cps.toList ((q::r).map λp=>p.cps.toList)):=hx
  have hlen:x.cps.toList.length - a=p.cps.toList.length+(y.cps.toList.length+(jl y.cps.toList ((q::r).map λp=>p.cps.toList)).length):=by rw[<- GX,hx,E6,E6]
  have db:x.cps.toList.drop (a+p.cps.toList.length)=y.cps.toList++jl y.cps.toList ((q::r).map λp=>p.cps.toList):=by
   rw[<- Jj,hx,J2]; rfl
  have yes:Ji x y x.length (a+p.cps.toList.length):=kJ.mpr #[∅,by rw[db,L5]; rfl]
  have no:∀k,a<=k->k < a+p.cps.toList.length->¬ Ji x y x.length k:=λk hk hk2 z=>by
   obtain⟨z1,z2⟩:=kJ.mp z;have e:x.cps.toList.drop k=(x.cps.toList.drop a).drop (k - a):=by rw[Jj]; congr 1; omega
   have g:((x.cps.toList.drop k).take y.cps.toList.length)[pre.length]?=ba c:=by rw[z2,hy]; simp
   rw[Ju (by rw[hy,E6,Fy]; omega),e,hx,List.drop_append_of_le_length ∅]at g
   by_cases h:pre.length < (p.cps.toList.drop (k - a)).length
   ·rw[Fz h]at g;exact hc p (by simp) (Ks (Fh g))
   ·rw[GJ ∅]at g
    have hd:(p.cps.toList.drop (k - a)).length=p.cps.toList.length - (k - a):=GX;rw[hy,Hq,Fz ∅]at g
    exact hp (Fh g)
  cases cuts with
  | nil=>
   rw[StrLaws.ChainG.eq_1]at ch;subst ch;exact absurd yes (hf _ ∅)
  | cons b cs=>
   rw[StrLaws.ChainG.eq_2]at ch;obtain⟨h1,h2,h3,h4⟩:=ch;have hb:b=a+p.cps.toList.length:=by
    rcases Nat.lt_trichotomy b (a+p.cps.toList.length)with h|h|h
    ·exact absurd h2 (no b h1 h)
    ·exact h
    ·exact absurd yes (h3 _ ∅ h)
   subst hb;rw[StrLaws.partsFrom.eq_2];have ih:=mo hy hp (q::r) (a+p.cps.toList.length+y.length) cs f (by simp) (λz hz=>hc z (FC _ hz)) ∅ (by rw[e1,<- Jj,db,J2]; rfl) h4 hf
   rw[ih];congr 1;show o9 ?_;rw[Kd,hx,Nat.add_sub_cancel_left,L5]; rfl
def iM {y:E3}{pre post:EI EV}{c:EV}(hy:y.cps.toList=pre++c::post)(hp:c∉pre)(hk:(y.cps.all λx=>decide (x < 256))=true){P:EI E3}(hP:P≠[])(hc:∀p∈P,c∉p.cps.toList):GF (y.join P) y=P:=by
 have e1:y.length=y.cps.toList.length:=by simp[HU]
 obtain⟨f,ch,hf⟩:=StrLaws.occ_tight (y.join P) y (by rw[e1,hy,E6,Fy]; omega)
 have key:=mo hy hp P 0 _ f hP hc (GC _) (by rw[Mr,ev]) ch hf
 unfold GF;split
 ·rename_i h
  match P,hP with
  | [p],_=>rfl
  | p::q::r,_=>
   exfalso;have k1:G6 y=1:=by unfold G6; rw[Fi hk]
   have k2:1<=G6 (y.join (p::q::r)):=by unfold G6; split <;> (try split) <;> decide
   have l:y.length<=(y.join (p::q::r)).length:=by
    have e2:(y.join (p::q::r)).length=(y.join (p::q::r)).cps.toList.length:=by simp[HU]
    rw[e1,e2,ev];simp only[FV,jl,E6];omega
   simp only[GQ,Ft]at h;omega
 ·split
  ·rename_i h;rw[IL]at h;rw[h,StrLaws.partsFrom.eq_1,StrLaws.sub_whole]at key;exact key
  ·rw[StrLaws.partsBetween_eq]; exact key
abbrev ey (ms ns:EI E3)(p:Pt):EI E3:=ms.getD p.1.toNat "" :: p.2.map λw=>ns.getD w.toNat ""
abbrev gL (ms ns:EI E3)(p:Pt):E3:=(" " : E3).join (ey ms ns p)
abbrev qN (ms ns:EI E3)(u:Wd):E3:=(" ; " : E3).join (u.map (gL ms ns))
structure PtOk (a n:EV)(p:Pt):Prop where
 mark:0<=p.1/\p.1 < a
 way:∀w∈p.2,0<=w/\w < (n:E5)
def GoodW.pt {a n:EV}{u:Wd}(h:GoodW a n u){p:Pt}(hp:p∈u):PtOk a n p:=by
 obtain⟨k,hk,e⟩:=IQ.mp hp;have e':u[k]?=ba p:=by rw[EZ hk,e]
 exact#[h.mark k p e',h.way k p e']
section
variable{ms ns:EI E3}{a n:EV}{p:Pt}
def uF (hm:ms.length=a)(hn:ns.length=n)(hg:GoodN ms ns)(hp:PtOk a n p):∀z∈ey ms ns p,Name z:=by
 intro z hz;rcases Fc.mp hz with e|hz
 ·subst e;have hl:p.1.toNat < ms.length:=by have:=hp.mark; omega
  exact hg.name _ (G0 _ (Fh (aX (d:=("" : E3)) hl)))
 ·obtain⟨w,hw,rfl⟩:=Fx.mp hz;have hl:w.toNat < ns.length:=by have:=hp.way w hw; omega
  exact hg.name _ (Fo _ (Fh (aX (d:=("" : E3)) hl)))
def uG {y:EI EV}{c:EV}:∀ {P:EI (EI EV)},c∈jl y P->c∈y\/∃p∈P,c∈p
 | [],h=>nomatch h
 | [p],h=>.inr #[p,by simp,h]
 | p::q::r,h=>by
  rcases FR.mp (show c∈p++(y++jl y (q::r))from h)with h|h
  ·exact .inr #[p,by simp,h]
  ·rcases FR.mp h with h|h
   ·exact .inl h
   ·rcases uG (P:=q::r) h with h|⟨z,hz,h⟩
    ·exact .inl h
    ·exact .inr #[z,FC _ hz,h]
def iN {k:EV}:∀ {P:EI E3},(∀z∈P,z.length<=k)->(P.map (·.length)).sum<=P.length*k
 | [],_=>by simp
 | p::P,h=>by
  have h1:=h p (by simp)
  have h2:=iN (P:=P) λz hz=>h z (FC _ hz)
  rw[FV,MK,Fy,MU]; omega
def pb (hz:∀z∈ey ms ns p,Name z):(gL ms ns p).length<=(p.2.length+1)*9:=by
 have h1:=JR " " (ey ms ns p);have h2:=iN (P:=ey ms ns p) (k:=8) λz h=>by rw[gR]; exact(hz z h).2.1
 have h3:(ey ms ns p).length=p.2.length+1:=by unfold ey; rw[Fy,ER]
 have h4:(" " : E3).length=1:=by decide
 unfold gL;rw[h3]at h1 h2;rw[h4]at h1;omega
def qH (hz:∀z∈ey ms ns p,Name z):GF (gL ms ns p) " " = ey ms ns p:=
 iM (pre:=[]) (c:=32) (post:=[]) #v[] (by simp) (by decide +kernel) (by unfold ey; simp) λz h c=>by
  have:=(hz z h).2.2 32 c;omega
def uH (hz:∀z∈ey ms ns p,Name z):59∉(gL ms ns p).cps.toList:=λh=>by
 unfold gL at h;rw[ev]at h;rcases uG h with h|⟨q,hq,h⟩
 ·exact absurd h #v[]
 ·obtain⟨z,h1,rfl⟩:=Fx.mp hq;have:=(hz z h1).2.2 59 h;omega
def yv {y p:EI EV}{P:EI (EI EV)}(h:p≠[]):jl y (p::P)≠[]:=by
 cases P with
 | nil=>exact h
 | cons q r=>exact λz=>h (List.append_eq_nil_iff.mp z).1
def Ax (hz:∀z∈ey ms ns p,Name z):(gL ms ns p).cps.toList≠[]:=by
 unfold gL;rw[ev];show yv λh=>?_
 have h:(ms.getD p.1.toNat ("" : E3)).cps.toList=[]:=h;have:=(hz _ (F9 ..)).1;rw[h]at this; simp at this
def qI {u:Wd}(h0:u≠[])(hz:∀p∈u,∀z∈ey ms ns p,Name z):GF (qN ms ns u) " ; " = u.map (gL ms ns):=
 iM (pre:=[32]) (c:=59) (post:=[32]) #v[] #v[] (by decide +kernel) (by simpa using h0) λz h=>by
  obtain⟨p,hp,rfl⟩:=Fx.mp h;exact uH (hz p hp)
def Ay {u:Wd}(h0:u≠[])(hz:∀p∈u,∀z∈ey ms ns p,Name z):(qN ms ns u==("" : E3))=false:=by
 rw[Hw];intro h;cases u with
 | nil=>exact h0 rfl
 | cons p u=>
  have h1:(qN ms ns (p::u)).cps.toList≠[]:=by
   unfold qN;rw[ev];exact yv (Ax (hz p (by simp)))
  rw[h]at h1;exact h1 #v[]
def xG {u:Wd}{k:EV}(hz:∀p∈u,(gL ms ns p).length<=k):(qN ms ns u).length<=u.length*(k+3):=by
 have h1:=JR " ; " (u.map (gL ms ns))
 have h2:=iN (P:=u.map (gL ms ns)) (k:=k) λz h=>by
  obtain⟨p,hp,rfl⟩:=Fx.mp h;exact hz p hp
 have h4:(" ; " : E3).length=3:=by decide
 unfold qN;rw[ER]at h1 h2;rw[h4]at h1;rw[Nat.mul_add]; omega
end
def uI {S:aa}{zs:EI E3}{y:E3}:cV .isin (.str y) (.tup (zs.map W.str)) S=ba (.bl (decide (y∈zs)),S):=by
 show(vM (.str y) (.tup (zs.map W.str)) S).map (λk=>(W.bl k,S))=_
 simp only[vM,bQ];rw[Fi (by rw[fE]; rfl),oQ]
 rfl
def iO:∀zs:EI E3,dS (zs.map W.str)=ba zs
 | []=>rfl
 | z::zs=>by rw[FV,dS,iO zs]; rfl
def nH {S:aa}{l:EV}{x:E3}{zs:EI E3}{Q:QW}(h:S[l]?=ba (.lst (zs.map W.str)))(hl:(zs.map (·.length)).sum+zs.length*x.length<=16777216)(q:Q (.str (x.join zs),S)):wO (Me.join.fn (.str x) [.ref l] S) Q:=by
 show ae (a:=(.str (x.join zs),S)) ?_ q;dsimp only[Me.fn,lb,bQ];simp only[ap h,iO];rw[Fi hl];unfold Mk;rw[Kb]
def nI:∀ {zs:EI E3} {k:EV} {z:E3},zs.Nodup->zs[k]?=ba z->(zs.map W.str).findIdx? (λw=>mM w (.str z))=ba k
 | [],_,_,_,h=>by simp at h
 | x::zs,0,z,hn,h=>by
  cases h;rw[FV,Jh];have:mM (W.str x) (W.str x)=true:=FQ x;rw[this]; rfl
 | x::zs,k+1,z,hn,h=>by
  rw[HI]at hn;rw[FV,Jh];have h:zs[k]?=ba z:=by simpa using h
  have:mM (W.str x) (W.str z)=false:=by
   show(x==z)=false;rw[Hw];intro e;exact hn.1 (e ▸ Fh h)
  rw[this,nI hn.2 h]; rfl
def Az {S:aa}{zs:EI E3}{k:EV}{z:E3}{Q:QW}(hn:zs.Nodup)(hl:zs.length<=1000)(h:zs[k]?=ba z)(q:Q (.int (k:EV),S)):wO (de (.tup (zs.map W.str)) (.str z) S) Q:=by
 show ae (a:=(.int (k:EV),S)) ?_ q;dsimp only[de,bQ];rw[Fi (by rw[fE,Gf (by rw[ER]; omega)]; rfl),nI hn h]; rfl
def AA {S:aa}{l:EV}{zs:EI E3}{k:EV}{z:E3}{Q:QW}(e:S[l]?=ba (.lst (zs.map W.str)))(hn:zs.Nodup)(hl:zs.length<=1000)(h:zs[k]?=ba z)(q:Q (.int (k:EV),S)):wO (de (.ref l) (.str z) S) Q:=by
 show ae (a:=(.int (k:EV),S)) ?_ q;dsimp only[de,bQ];simp only[ap e];rw[Fi (by rw[fE,Gf (by rw[ER]; omega)]; rfl),nI hn h]; rfl
def pc {S:aa}{x y:E3}{zs:EI E3}{Q:QW}(hy:(y.length==0)=false)(hl:x.length<=1000000)(e:GF x y=zs)(q:Q (.ref S.length,S++[.lst (zs.map W.str)])):wO (Me.split.fn (.str x) [.str y] S) Q:=by
 show ae (a:=(.ref S.length,S++[.lst (zs.map W.str)])) ?_ q;dsimp only[Me.fn,kj];rw[Fi #[hy,by rw[FX]; omega],e]
abbrev cw:Ss:=
 #v[.ret (.me .join (.c (.str " ")) #v[.op .add (.lst #v[.ix (.ix (.v 0) (.c (.int 0))) (.ix (.v 1) (.c (.int 0)))]) (.comp (.ix (.ix (.ix (.v 2) (.c (.int 1))) (.v 1)) (.c (.int 0))) (.nm 1) (.seq (.ix (.v 1) (.c (.int 1)))) .nil [gV,gV,ba 0])])]
abbrev cx:Ss:=
 #v[.ret (.me .join (.c (.str " ; ")) #v[.comp (.own "point_text" 2 #v[.v 2,.v 1]) (.nm 1) (.seq (.v 1)) .nil [gV,gV,ba 0]])]
abbrev cy:Ss:=
 #v[.set 4 (.me .split (.v 1) #v[.c (.str " ")]),.set 5 (.comp (.ix (.v 1) (.c (.int 0))) (.nm 1) (.seq (.ix (.v 0) (.c (.int 1)))) .nil [gV,gV]),.set 6 (.and (.cmp .isin (.ix (.v 4) (.c (.int 0))) (.ix (.v 0) (.c (.int 0)))) (.bi .all #v[.comp (.cmp .isin (.v 1) (.v 2)) (.nm 1) (.seq (.sl (.v 4) (.yes (.c (.int 1))) .no)) .nil [gV,gV,ba 5]])),.ite (.or (.not (.v 6)) (.cmp .ne (.bi .len #v[.v 4]) (.op .add (.v 2) (.c (.int 1))))) #v[.bad] .nil,.ret (.tup #v[.idx (.ix (.v 0) (.c (.int 0))) (.ix (.v 4) (.c (.int 0))),.bi .tuple #v[.comp (.idx (.v 2) (.v 1)) (.nm 1) (.seq (.sl (.v 4) (.yes (.c (.int 1))) .no)) .nil [gV,gV,ba 5]]])]
abbrev b7:Ss:=
 #v[.ite (.cmp .eq (.v 1) (.c (.str ""))) #v[.ret (.tup .nil)] .nil,.ret (.bi .tuple #v[.comp (.own "read_point" 4 #v[.v 4,.v 2,.v 1,.v 3]) (.tp [1,2]) (.enu #v[.me .split (.v 1) #v[.c (.str " ; ")]]) .nil [gV,gV,gV,ba 2,ba 0]])]
abbrev cz:Ss:=
 #v[.ite (.not (.isi "str" (.v 1))) #v[.bad] .nil,.ret (.own "read_points" 3 #v[.v 0,.v 1,.c (.int 0)])]
abbrev bu:Ss:=
 #v[.set 2 (.lst .nil),.loop (.tp [3,4]) (.seq (.v 1)) #v[.ex (.me .append (.v 2) #v[.me .join (.c (.str " ")) #v[.op .add (.lst #v[.ix (.ix (.v 0) (.c (.int 0))) (.v 3)]) (.comp (.ix (.ix (.ix (.v 2) (.c (.int 1))) (.v 1)) (.c (.int 0))) (.nm 1) (.seq (.v 4)) .nil [gV,gV,ba 0])]])],.ret (.me .join (.c (.str " ; ")) #v[.v 2])]
abbrev fM:Ss:=
 #v[.set 2 (.own "_law_world_text" 2 #v[.v 0,.v 1]),.ret (.and (.own "_law_alike" 2 #v[.own "show_world" 2 #v[.v 0,.v 1],.v 2]) (.own "_law_alike" 2 #v[.own "read_world" 2 #v[.v 0,.v 2],.v 1]))]
abbrev c8:Ss:=
 #v[.set 1 (.own "_law_rule" 1 #v[.v 0]),.set 2 (.own "_law_pick" 2 #v[.v 0,.c (.int 10)]),.ite (.cmp .eq (.own "_law_pick" 2 #v[.v 0,.c (.int 8)]) (.c (.int 0))) #v[.set 2 (.own "_law_pick" 2 #v[.v 0,.c (.int 25)])] .nil,.ret (.tup #v[.v 1,.own "_law_any_world" 3 #v[.v 0,.v 1,.v 2]])]
abbrev gS:Ss:=
 #v[.set 1 (.own "_law_flow" 1 #v[.v 0]),.asg [2,3] (.own "_law_drawn" 1 #v[.v 1]),.asg [4,5] (.own "_law_drawn" 1 #v[.v 1]),.loop (.nm 6) (.rng #v[.op .add (.bi .min #v[.c (.int 4),.bi .len #v[.v 3]]) (.c (.int 1))]) #v[.ite (.not (.own "_law_holds" 2 #v[.v 2,.sl (.v 3) .no (.yes (.v 6))])) #v[.ret (.c (.bl false))] .nil],.ite (.or (.not (.own "_law_holds" 2 #v[.v 2,.v 3])) (.not (.own "_law_holds" 2 #v[.v 4,.v 5]))) #v[.ret (.c (.bl false))] .nil,.ite (.and (.cmp .eq (.bi .len #v[.ix (.v 4) (.c (.int 0))]) (.bi .len #v[.ix (.v 2) (.c (.int 0))])) (.and (.cmp .eq (.bi .len #v[.ix (.v 4) (.c (.int 1))]) (.bi .len #v[.ix (.v 2) (.c (.int 1))])) (.not (.own "_law_holds" 2 #v[.v 4,.v 3])))) #v[.ret (.c (.bl false))] .nil,.ret (.own "_law_holds" 2 #v[.v 2,.v 3])]
structure Txs (defs:EI (E3×Df)):Prop where
 ptext:Is defs ("point_text" : E3) 2 2 cw
 showw:Is defs ("show_world" : E3) 2 2 cx
 rpoint:Is defs ("read_point" : E3) 4 7 cy
 rpoints:Is defs ("read_points" : E3) 3 3 b7
 rworld:Is defs ("read_world" : E3) 2 2 cz
 wtext:Is defs ("_law_world_text" : E3) 2 5 bu
def AB {ns:EI E3}{bs:EI E5}{k:EV}(hn:ns.length=bs.length)(h:k < ns.length):∃b,(Fd aN ns bs)[k]?=ba (aN (ns.getD k "") b):=by
 show#[bs[k]'∅,?_]
 rw[ID,aX (d:=("" : E3)) h,EZ ∅]
section
variable{M:E3->FF}{Z:Fm}{S:aa}
def AC {α:Type}{elt e:E}{cap:EI (EO EV)}{Q:QW}(L:EI α)(f:α->W)(h:α->W)(R:Fm)(oi:cg e=true)(oe:cg elt=true)(hc:cN cap Z=gV::gV::gV::R)(hl:L.length<=1000000)
  (he:wE M e Z S λq=>∃t,q.1=.ref t/\q.2[t]?=ba (.lst (L.map f))/\Ka S q.2)
  (hstep:∀(i:EV) (x:α),L[i]?=ba x->∀S',Ka S S'->wE M elt (gV::ba (.int (i:EV))::ba (f x)::R) S' λy=>true=true/\y.1=h x/\Ka S' y.2)
  (k:∀S',Ka S S'->Q (.ref S'.length,S'++[.lst (L.map h)])):Wp (aj M (.comp elt (.tp [1,2]) (.enu #v[e]) .nil cap) Z S) Q:=by
 obtain⟨w,S1,e1,t,rfl,ht,k1⟩:=bn oi he;dsimp only at ht k1;have hz:∀i,(L.zipIdx.map λp=>W.tup [.int (p.2:EV),f p.1])[i]?=((L.map f)[i]?).map λx=>W.tup [.int (i:EV),x]:=λi=>by
  rw[E1,IP,E1];cases L[i]? with
  | none=>rfl
  | some x=>simp
 show nF (mi:=.el t) L.zipIdx (λp=>W.tup [.int (p.2:EV),f p.1]) (λ_=>true) (λp=>h p.1) (λZ=>∃a b,Z=gV::a::b::R) (λp=>gV::ba (.int (p.2:EV))::ba (f p.1)::R) (λ_ _ _ h=>let ⟨_,_,e⟩:=h; e ▸ #[rfl,_,_,rfl]) oe rfl #[_,_,hc] (by rw[Jg]; exact hl) (by simp only[gx,bR,b9,eN,wW,e1,BP,ap ht]) k1 (λi S' h=>by simp only[MI.at,ap (h.get _ _ ht),hz]) (by simp only[MI.len,ap ht,FP,ER,Jg]) (λp hp S' k'=>?_) λS' k'=>?_
 ·dsimp only[gK,wC];exact#[λ_=>hstep p.2 p.1 (List.mem_zipIdx_iff_getElem?.mp hp) S' k',λz=>by cases z]
 ·have:(L.zipIdx.filter λ_=>true).map (λp=>h p.1)=L.map h:=by
   rw[dy];apply Js;intro i;rw[E1,IP,E1];cases L[i]? with
   | none=>rfl
   | some x=>rfl
  rw[this];exact k S' k'
def pd {m0 b0:W}{ns:EI E3}{bs:EI E5}{n:EV}{to:EI E5}{e:E}{cap:EI (EO EV)}{Q:QW}(hn:ns.length=bs.length)(hw:∀w∈to,0<=w/\w < (ns.length:E5))(hl:to.length<=1000)(oi:cg e=true)(hc:cN cap Z=[gV,gV,ba (.tup [m0,.tup (Fd aN ns bs),b0])])(he:wE M e Z S λq=>q.1=.tup (to.map W.int)/\Ka S q.2)
  (k:∀S',Ka S S'->Q (.ref S'.length,S'++[.lst ((to.map λw=>ns.getD w.toNat "").map W.str)])):Wp (aj M (.comp (.ix (.ix (.ix (.v 2) (.c (.int 1))) (.v 1)) (.c (.int 0))) (.nm 1) (.seq e) .nil cap) Z S) Q:=by
 show nG to W.int (λ_=>true) (λw=>W.str (ns.getD w.toNat "")) [ba (.tup [m0,.tup (Fd aN ns bs),b0])] oi rfl rfl hc ∅ he (λw hw2 S' _=>?_) λS' k'=>?_
 ·obtain⟨w0,w1⟩:=hw w hw2;obtain⟨b,hb⟩:=AB (k:=w.toNat) hn ∅
  dsimp only[gK,wC,wE,wV,wG];exact#[λ_=>al #v[] rfl (al w0 hb (al #v[] rfl #[rfl,rfl,.refl])),λz=>by cases z]
 ·rw[dy,show(to.map λw=>W.str (ns.getD w.toNat ""))=(to.map λw=>ns.getD w.toNat "").map W.str by rw[Hb]; rfl]
  exact k S' k'
end
section
variable{defs:EI (E3×Df)}{fuel d:EV}{S:aa}{Q:QW}
def xH {ms ns:EI E3}{p:Pt}(hz:∀z∈ey ms ns p,Name z)(hl:p.2.length<=1000):((ey ms ns p).map (·.length)).sum+(ey ms ns p).length*(" " : E3).length<=16777216:=by
 have h2:=iN (P:=ey ms ns p) (k:=8) λz h=>by rw[gR]; exact(hz z h).2.1
 have h3:(ey ms ns p).length=p.2.length+1:=by unfold ey; rw[Fy,ER]
 have h4:(" " : E3).length=1:=by decide
 rw[h3]at h2 ⊢;rw[h4]; omega
def pe {M:E3->FF}{Z:Fm}{a b:E}{ms ns:EI E3}{p:Pt}{Q:QW}(hz:∀z∈ey ms ns p,Name z)(hl:p.2.length<=1000)
  (ha:∀Q:QW,(∀S',Ka S S'->Q (.str (ms.getD p.1.toNat ""),S'))->wE M a Z S Q) (hb:∀(S1:aa) (Q:QW),Ka S S1->(∀S',Ka S1 S'->Q (.ref S'.length,S'++[.lst ((p.2.map λw=>ns.getD w.toNat "").map W.str)]))->wE M b Z S1 Q)
  (k:∀S',Ka S S'->Q (.str (gL ms ns p),S')):wE M (.me .join (.c (.str " ")) #v[.op .add (.lst #v[a]) b]) Z S Q:=by
 show#[rfl,?_];change wE M a Z S λp1=>wE M b Z (p1.2++[.lst [p1.1]]) λq=>wO (dQ .add (.ref p1.2.length) q.1 q.2) λr=>wO (Me.join.fn (.str " ") [r.1] r.2) Q
 show ha _ λS1 k1=>?_
 show hb _ _ (k1.trans .push) λS2 k2=>?_
 dsimp only;have e1:S2[S1.length]?=ba (.lst [.str (ms.getD p.1.toNat "")]):=k2.get _ _ ag;show ae (nu (aq e1) ag (CC (by rw[E6,ER,ER]; show 1+_<=_; omega))) ?_
 show nH (zs:=ey ms ns p) ag (xH hz hl) (k _ (((k1.trans .push).trans k2).trans (Ka.push.trans .push)))
def xI (L:Txs defs){b0:W}{ms ns:EI E3}{bs:EI E5}{a:EV}{p:Pt}(hm:ms.length=a)(hn:ns.length=bs.length)(hp:PtOk a bs.length p)(hz:∀z∈ey ms ns p,Name z)(hl:p.2.length<=1000)(k:∀S',Ka S S'->Q (.str (gL ms ns p),S')) :
  wO (aQ (ak defs fuel (d+1)) "point_text" 2 [.tup [.tup (ms.map W.str),.tup (Fd aN ns bs),b0],iV p] S) Q:=by
 show aw L.ptext rfl rfl λQ' hR=>?_
 change wZ _ _ cw [ba (.tup [.tup (ms.map W.str),.tup (Fd aN ns bs),b0]),ba (iV p)] S Q';dsimp only[cw];show st ?_;dsimp only[wS];have hm1:=hp.mark;show pe hz hl (λQ q=>?_) (λS1 Q k1 q=>?_) λS' k'=>hR _ _ (k S' k')
 ·dsimp only[wE,wV,wG,iV];exact al #v[] rfl (al #v[] rfl (al hm1.1 (by rw[E1,aX (d:=("" : E3)) ∅]; rfl) (q _ .refl)))
 ·exact pd (n:=bs.length) hn (λw hw=>by rw[hn]; exact hp.way w hw) hl rfl rfl (by dsimp only[wE,wV,wG,iV]; exact al #v[] rfl #[rfl,.refl]) q
structure RW (a:EV)(bs:EI E5)(ms ns:EI E3)(u:Wd):Prop where
 ml:ms.length=a
 nl:ns.length=bs.length
 nm:GoodN ms ns
 gu:GoodW a bs.length u
 few:u.length<=24
def RW.name {a:EV}{bs:EI E5}{ms ns:EI E3}{u:Wd}(h:RW a bs ms ns u){p:Pt}(hp:p∈u):∀z∈ey ms ns p,Name z:=uF h.ml h.nl h.nm (h.gu.pt hp)
def RW.ln {a:EV}{bs:EI E5}{ms ns:EI E3}{u:Wd}(h:RW a bs ms ns u){p:Pt}(hp:p∈u):p.2.length < 24:=by
 obtain⟨k,hk,e⟩:=IQ.mp hp;have:=h.gu.len k p (by rw[EZ hk,e])
 have:=h.few;omega
def RW.sl {a:EV}{bs:EI E5}{ms ns:EI E3}{u:Wd}(h:RW a bs ms ns u){p:Pt}(hp:p∈u):(gL ms ns p).length<=216:=by
 have h1:=pb (h.name hp);have h2:=h.ln hp;omega
def RW.sum {a:EV}{bs:EI E5}{ms ns:EI E3}{u:Wd}(h:RW a bs ms ns u):((u.map (gL ms ns)).map (·.length)).sum+(u.map (gL ms ns)).length*(" ; " : E3).length<=16777216:=by
 have h2:=iN (P:=u.map (gL ms ns)) (k:=216) λz hz=>by
  obtain⟨p,hp,rfl⟩:=Fx.mp hz;exact h.sl hp
 have h4:(" ; " : E3).length=3:=by decide
 have:=h.few;rw[ER]at h2 ⊢;rw[h4]; omega
def AD (L:Txs defs){b0:W}{ms ns:EI E3}{bs:EI E5}{a:EV}{u:Wd}(h:RW a bs ms ns u)(k:∀S',Ka S S'->Q (.str (qN ms ns u),S')) :
  wO (aQ (ak defs fuel (d+2)) "show_world" 2 [.tup [.tup (ms.map W.str),.tup (Fd aN ns bs),b0],aT u] S) Q:=by
 show aw L.showw rfl rfl λQ' hR=>?_
 change wZ _ _ cx [ba (.tup [.tup (ms.map W.str),.tup (Fd aN ns bs),b0]),ba (aT u)] S Q';dsimp only[cx];have few:=h.few;show st ?_;dsimp only[wS];show#[rfl,?_];show nG u iV (λ_=>true) (λp=>W.str (gL ms ns p)) [ba (.tup [.tup (ms.map W.str),.tup (Fd aN ns bs),b0])] rfl rfl rfl rfl ∅ #[rfl,.refl] (λp hp S' _=>?_) λS' k'=>?_
 ·dsimp only[gK,wC,wE,wA,wV,wG];exact#[λ_=>xI (d:=d) L h.ml h.nl (h.gu.pt hp) (h.name hp) (by have:=h.ln hp; omega) λS2 k2=>#[rfl,rfl,k2],λz=>by cases z]
 ·rw[dy,show(u.map λp=>W.str (gL ms ns p))=(u.map (gL ms ns)).map W.str by rw[Hb]; rfl]
  exact nH ag h.sum (hR _ _ (k _ (k'.trans .push)))
def xJ (L:Txs defs){b0:W}{ms ns:EI E3}{bs:EI E5}{a:EV}{u:Wd}(h:RW a bs ms ns u)(k:∀S',Ka S S'->Q (.str (qN ms ns u),S')) :
  wO (aQ (ak defs fuel (d+1)) "_law_world_text" 2 [.tup [.tup (ms.map W.str),.tup (Fd aN ns bs),b0],aT u] S) Q:=by
 show aw L.wtext rfl rfl λQ' hR=>?_
 change wZ _ _ bu [ba (.tup [.tup (ms.map W.str),.tup (Fd aN ns bs),b0]),ba (aT u),gV,gV,gV] S Q';dsimp only[bu];have few:=h.few;generalize hRR:W.tup [.tup (ms.map W.str),.tup (Fd aN ns bs),b0]=RR;show st ?_;dsimp only[wS,wE,wA,E7];nofun
 show for_tup (u.map iV) (λi Z S'=>(∃x3 x4,Z=[ba RR,ba (aT u),ba (.ref S.length),x3,x4])/\S'[S.length]?=ba (.lst (((u.take i).map (gL ms ns)).map W.str))/\Ka S S') rfl rfl #[rfl,#[_,_,rfl],ag,.push] ?_ ?_
 ·rintro i w Z S1 hw ⟨⟨x3,x4,rfl⟩,e1,k1⟩;rw[E1,EQ]at hw;obtain⟨p,hpi,rfl⟩:=hw;have hp:=Fh hpi;have hm1:=(h.gu.pt hp).mark;have hml:=h.ml;show ae (show gI (.tp [3,4]) (iV p) [ba RR,ba (aT u),ba (.ref S.length),x3,x4] S1=ba ([ba RR,ba (aT u),ba (.ref S.length),ba (.int p.1),ba (.tup (p.2.map W.int))],S1)from rfl) λQ2 hn2 _=>?_
  clear hK;show st ?_;dsimp only[wS];show#[d4 e1,?_];show pe (h.name hp) (by have:=h.ln hp; omega) (λQ q=>?_) (λS2 Q k2 q=>?_) λS2 k2=>?_
  ·dsimp only[wE,wV,wG];subst hRR;exact al #v[] rfl (al hm1.1 (by rw[E1,aX (d:=("" : E3)) ∅]; rfl) (q _ .refl))
  ·subst hRR;exact pd (n:=bs.length) h.nl (λw hw=>by rw[h.nl]; exact(h.gu.pt hp).way w hw) (by have:=h.ln hp; omega) rfl rfl #[rfl,.refl] q
  ·have e2:=k2.get _ _ e1;show ju e2 (by rw[ER,ER,Gg]; omega) (bO (hn2 _ _ #[#[_,_,rfl],?_,(k1.trans k2).late (E2 _)]))
   rw[bC e2,GP,hpi,F6,F6]; rfl
 ·rintro Z S1 ⟨⟨x3,x4,rfl⟩,e1,k1⟩;rw[ER,Hf]at e1;show hK _ _ (st ?_);left;exact#[rfl,nH e1 h.sum (hR _ _ (k _ k1))]
def xK {S:aa}{l:EV}{xs:EI W}(h:S[l]?=ba (.lst xs))(hl:xs.length<=1000):la (.ref l) (ba 1) gV S=ba (.ref S.length,S++[.lst (xs.drop 1)]):=by
 have:gF xs (ba ((1:EV):E5)) gV=xs.drop 1:=lV;simp only[la,ap h,gZ];rw[show(ba (1:E5))=ba ((1:EV):E5)from rfl,this]
def uJ (L:Txs defs){b0:W}{ms ns:EI E3}{bs:EI E5}{a:EV}{p:Pt}{i:EV}{row:W}(hm:ms.length=a)(ha3:a<=3)(hb3:bs.length<=3)(hn:ns.length=bs.length)(hg:GoodN ms ns)(hp:PtOk a bs.length p)(hz:∀z∈ey ms ns p,Name z)(hpi:p.2.length=i)(hl:i < 24)(k:∀S',Ka S S'->Q (iV p,S')) :
  wO (aQ (ak defs fuel (d+1)) "read_point" 4 [.tup [.tup (ms.map W.str),.tup (Fd aN ns bs),b0],.str (gL ms ns p),.int i,row] S) Q:=by
 have nd:=HN.mp (HN.mp hg.nd).2.1;have hm1:=hp.mark;have hlen:=pb hz;have x0:ms[p.1.toNat]?=ba (ms.getD p.1.toNat ""):=aX (d:=("" : E3)) ∅
 have xw:∀w∈p.2,ns[w.toNat]?=ba (ns.getD w.toNat ""):=λw hw=>aX (d:=("" : E3)) (by have:=hp.way w hw; omega)
 have hzz:Fd aN ns bs=(ns.zip bs).map λp=>aN p.1 p.2:=by rw[List.zip,List.map_zipWith]
 have hz1:(ns.zip bs).map (λp=>W.str p.1)=ns.map W.str:=by
  rw[show(λp:E3×E5=>W.str p.1)=W.str∘Prod.fst from rfl,<- Hb,List.map_fst_zip ∅]
 show aw L.rpoint rfl rfl λQ' hR=>?_
 change wZ _ _ cy [ba (.tup [.tup (ms.map W.str),.tup (Fd aN ns bs),b0]),ba (.str (gL ms ns p)),ba (.int i),ba row,gV,gV,gV] S Q';dsimp only[cy];nofun
 left;show#[rfl,pc #v[] ∅ (qH hz) (hK _ _ ?_)]
 clear hK K;have e1:(S++[O.lst ((ey ms ns p).map W.str)])[S.length]?=ba (.lst ((ey ms ns p).map W.str)):=ag;have k1:Ka S (S++[O.lst ((ey ms ns p).map W.str)]):=.push;generalize S++[O.lst ((ey ms ns p).map W.str)]=S1 at e1 k1 ⊢;generalize S.length=t at e1 ⊢;nofun
 dsimp only[wS,E7];show nG (ns.zip bs) (λp=>aN p.1 p.2) (λ_=>true) (λp=>W.str p.1) [] rfl rfl rfl rfl (by rw[List.length_zip]; omega) (by dsimp only[wE,wV,wG]; exact al #v[] rfl #[congrArg W.tup hzz,.refl]) (λp _ S' _=>?_) λS2 k2=>hK _ _ ?_
 ·dsimp only[gK,wC,wE,wA,wV,wG,aN];exact#[λ_=>al #v[] rfl #[rfl,rfl,.refl],λz=>by cases z]
 rw[dy,hz1];dsimp only;clear hK K;have e2:(S2++[O.lst (ns.map W.str)])[S2.length]?=ba (.lst (ns.map W.str)):=ag;have e1':(S2++[O.lst (ns.map W.str)])[t]?=ba (.lst ((ey ms ns p).map W.str)):=aq (k2.get _ _ e1);have k3:Ka S (S2++[O.lst (ns.map W.str)]):=k1.trans (k2.trans .push);generalize S2++[O.lst (ns.map W.str)]=S3 at e2 e1' k3 ⊢;generalize S2.length=l at e2 ⊢;clear e1 k1 k2;have pl:(ey ms ns p).length=i+1:=by unfold ey; rw[Fy,ER,hpi]
 have hd:((ey ms ns p).map W.str).drop 1=p.2.map λw=>W.str (ns.getD w.toNat ""):=by unfold ey; rw[FV,List.drop_one,List.tail_cons,Hb]; rfl
 have s1:∀S',Ka S3 S'->la (.ref t) (ba 1) gV S'=ba (.ref S'.length,S'++[.lst (p.2.map λw=>W.str (ns.getD w.toNat ""))]):=λS' k'=>by
  rw[xK (k'.get _ _ e1') (by rw[ER,pl]; omega),hd]
 nofun
 dsimp only[wS,E7];change wE _ _ _ S3 λp=>wB p.1 λk=>(k=true->wE _ _ _ p.2 _)/\(k=false->_)
 dsimp only[wE,wV,wG];show gB e1' #v[] rfl (al #v[] rfl (ae uI ?_))
 rw[Gf (Fh x0)];show#[λ_=>?_,λz=>by cases z]
 show CD p.2 (λw=>W.str (ns.getD w.toNat "")) [ba (.ref l)] rfl rfl rfl ∅ (by dsimp only[wE,wP,wV,wG,wN]; exact ae (s1 S3 .refl) #[_,rfl,ag,.push]) (λw hw S' k'=>?_) λS4 k4=>hK _ _ ?_
 ·dsimp only[wE,wV,wG];show ae (jw (k'.get _ _ e2)) #[rfl,?_,.refl];rw[Gf (Fh (xw w hw))]
 clear hK K;nofun
 dsimp only[wS,wT,wE,wA,wV,wG];show ae (show dB S4 (.bl true)=ba true from rfl) #[λz=>(by cases z),λ_=>?_]
 show oN (k4.get _ _ e1') ?_;dsimp only[bG,ar];show ae Cj ?_;rw[ER,pl,show((i+1:EV):E5)=(i:E5)+1 from rfl,FQ]
 dsimp only[wB];show am (Q0:=Q') (λz=>by cases z) (λ_ Q2 hn2 _=>bO (hn2 _ _ (hK _ _ ?_)))
 clear hn2 hK K;show st ?_;left;show al #v[] rfl #[rfl,gB (k4.get _ _ e1') #v[] rfl (Az nd.1 ∅ x0 ?_)]
 show Av p.2 (λw=>W.str (ns.getD w.toNat "")) (λ_=>true) (λw=>W.int w) [ba (.ref l)] rfl rfl rfl rfl ∅ (by dsimp only[wE,wP,wV,wG,wN]; exact ae (s1 S4 k4) #[_,rfl,ag,.push]) (λw hw S' k'=>?_) λS5 k5=>?_
 ·dsimp only[gK,wC,wE,wV,wG];have el:=k'.get _ _ (k4.get _ _ e2);show#[λ_=>#[by simp[tyOk,ap el],AA el nd.2.1 ∅ (xw w hw) #[rfl,?_,.refl]],λz=>by cases z]
  have:=(hp.way w hw).1;change W.int ((w.toNat:EV):E5)=W.int w;rw[Ih this]
 rw[dy];show dw ag ?_;dsimp only;rw[Ih hm1.1];exact hR _ _ (k _ (k3.trans (k4.trans (k5.trans .push))))
def uK (L:Txs defs){b0:W}{ms ns:EI E3}{bs:EI E5}{a:EV}{u:Wd}(h:RW a bs ms ns u)(ha3:a<=3)(hb3:bs.length<=3)(k:∀S',Ka S S'->Q (aT u,S')) :
  wO (aQ (ak defs fuel (d+3)) "read_world" 2 [.tup [.tup (ms.map W.str),.tup (Fd aN ns bs),b0],.str (qN ms ns u)] S) Q:=by
 have few:=h.few;have hwl:=xG (ms:=ms) (ns:=ns) (u:=u) (k:=216) λp hp=>h.sl hp
 show aw L.rworld rfl rfl λQ' hR=>?_
 change wZ _ _ cz [ba (.tup [.tup (ms.map W.str),.tup (Fd aN ns bs),b0]),ba (.str (qN ms ns u))] S Q';dsimp only[cz];nofun
 dsimp only[wS,wT,wE,wA,wV,wG];show ae (show qM S (.str (qN ms ns u)) "str" = ba true from rfl) ?_
 show am (Q0:=Q') (λz=>by cases z) (λ_ Q2 hn2 _=>bO (hn2 _ _ (hK _ _ ?_)))
 clear hn2 hK K;show st ?_;left;show aw L.rpoints rfl rfl λQ2 hR2=>?_
 replace k:∀S',Ka S S'->Q2 (.rt (aT u),S'):=λS' k'=>hR2 _ _ (hR _ _ (k S' k'))
 clear hR hR2;change wZ _ _ b7 [ba (.tup [.tup (ms.map W.str),.tup (Fd aN ns bs),b0]),ba (.str (qN ms ns u)),ba (.int 0)] S Q2;dsimp only[b7];nofun
 dsimp only[wS,wT,wE,wA,wV,wG];show ae tD ?_;dsimp only[wB]
 by_cases h0:u=[]
 ·subst h0;show am (Q0:=Q2) (λ_ Q3 _ hr3=>st ?_) (λz=>absurd z (by change ¬ (((" ; " : E3).join [])==("" : E3))=false; decide))
  dsimp only[wS,wE,wA];exact hr3 _ _ (k S .refl)
 ·show am (Q0:=Q2) (λz=>absurd z (by rw[Ay h0 λp hp=>h.name hp]; exact E8)) (λ_ Q3 hn3 _=>bO (hn3 _ _ (hK _ _ ?_)))
  clear hn3 hK K;show st ?_;dsimp only[wS,wE,wA];show AC u (λp=>W.str (gL ms ns p)) iV [ba (.int 0),ba (.tup [.tup (ms.map W.str),.tup (Fd aN ns bs),b0])] rfl rfl rfl ∅ ?_ (λi p hpi S' k'=>?_) λS' k'=>dw ag (k _ (k'.trans .push))
  ·dsimp only[wE,wA,wV,wG];show#[rfl,pc #v[] ∅ (qI h0 λp hp=>h.name hp) #[_,rfl,?_,.push]]
   rw[Hb]; exact ag
  ·dsimp only[wE,wA,wV,wG];have hp:=Fh hpi;have hi:=h.gu.len i p hpi;exact uJ (d:=d) L h.ml ha3 hb3 h.nl h.nm (h.gu.pt hp) (h.name hp) hi (by have:=h.ln hp; omega) λS2 k2=>#[rfl,rfl,k2]
end
structure Lw07 (defs:EI (E3×Df)):Prop where
 gen:Gen defs
 txs:Txs defs
 flow:Is defs ("_law_flow" : E3) 1 1 cR
 unlay:Is defs ("_law_unlaying_rule" : E3) 1 10 aC
 rule:Is defs ("_law_rule" : E3) 1 2 cU
 world:Is defs ("_law_any_world" : E3) 3 6 a7
 alike:Is defs ("_law_alike" : E3) 2 2 bo
 holds:Is defs ("_law_holds" : E3) 2 3 fM
 drawn:Is defs ("_law_drawn" : E3) 1 3 c8
 law:Is defs ("law" : E3) 1 7 gS
def CF {a n:EV}{u:Wd}(hu:GoodW a n u)(hl:u.length<=1000):Tr 3 (aT u):=by
 show#[by rw[ER]; exact hl,λx hx=>?_]
 obtain⟨p,hp,rfl⟩:=Fx.mp hx;obtain⟨k,hk,e⟩:=IQ.mp hp;have hpl:=hu.len k p (by rw[EZ hk,e])
 show#[IE rfl,λy hy=>?_]
 simp only[Fc,FH,GV]at hy;rcases hy with rfl|rfl
 ·trivial
 ·show#[by rw[ER]; omega,λz hz=>?_]
  obtain⟨w,_,rfl⟩:=Fx.mp hz;trivial
def xL {a n m:EV}{u:Wd}(hu:GoodW a n u):GoodW a n (u.take m):=by
 have:∀ {k:EV} {p:Pt},(u.take m)[k]?=ba p->u[k]?=ba p:=λ{k p} h=>by
  rw[List.getElem?_take]at h;split at h
  ·exact h
  ·cases h
 exact#[λk p h=>hu.mark k p (this h),λk p h=>hu.len k p (this h),λk p h=>hu.way k p (this h)]
structure RX (a:EV)(bs:EI E5)(ms ns:EI E3)(b0 w:W):Prop where
 eq:w=.tup [.tup (ms.map W.str),.tup (Fd aN ns bs),b0]
 size:SizeOk a bs
 ml:ms.length=a
 nl:ns.length=bs.length
 nm:GoodN ms ns
section
variable{defs:EI (E3×Df)}{fuel d:EV}{S:aa}{Q:QW}{r:EV}
def AE (L:Lw07 defs){a:EV}{bs:EI E5}{ms ns:EI E3}{b0 w:W}{u:Wd}(hr:RX a bs ms ns b0 w)(hu:GoodW a bs.length u)(hl:u.length<=24)(k:∀S',Ka S S'->Q (.bl true,S')):wO (aQ (ak defs fuel (d+5)) "_law_holds" 2 [w,aT u] S) Q:=by
 have rw':RW a bs ms ns u:=#[hr.ml,hr.nl,hr.nm,hu,hl];obtain⟨n1,n3⟩:=hr.size.n3;have a3:=hr.size.a3;cases hr.eq;show aw L.holds rfl rfl λQ' hR=>?_
 change wZ _ _ fM [ba (.tup [.tup (ms.map W.str),.tup (Fd aN ns bs),b0]),ba (aT u),gV] S Q';dsimp only[fM];nofun
 left;show xJ (d:=d+3) L.txs rw' λS1 k1=>hK _ _ ?_
 clear hK K;show st ?_;left;show AD (d:=d+2) L.txs rw' λS2 k2=>?_
 show o8 L.alike 0 (d+3) _ _ _ trivial λS3 k3=>#[λ_=>?_,λz=>by cases z]
 show uK (d:=d+1) L.txs rw' a3 n3 λS4 k4=>?_
 exact o8 L.alike 3 d _ _ _ (CF hu ∅) λS5 k5=>hR _ _ (k _ (k1.trans (k2.trans (k3.trans (k4.trans k5)))))
def uL (hfu:20 < fuel)(L:Lw07 defs)(hf:Fl S r)(k:∀(a:EV) (bs:EI E5) (ms ns:EI E3) (b0 w:W) (u:Wd) S',RX a bs ms ns b0 w->GoodW a bs.length u->u.length<=24->Fl S' r->Q (.tup [w,aT u],S')):wO (aQ (ak defs fuel (d+9)) "_law_drawn" 1 [.ref r] S) Q:=by
 have G:=L.gen;show aw L.drawn rfl rfl λQ' hR=>?_
 change wZ _ _ c8 [ba (.ref r),gV,gV] S Q';dsimp only[c8];nofun
 left;show Au (d:=d) hfu G L.unlay L.rule hf λw S1 hw f1 _=>hK _ _ ?_
 clear hK K;obtain⟨a,bs,ms,ns,gs,rfl,hr⟩:=hw;have rx:RX a bs ms ns (.tup ((gC gs).map aT)) (bh ms ns bs (gC gs)):=#[rfl,hr.size,hr.ml,hr.nl,hr.nm];nofun
 left;show aB (d:=d+7) G.pick f1 #v[] #v[] λv S2 v0 v1 f2 _=>hK _ _ ?_
 clear hK K;nofun
 have aY:∀(m:E5) (S3:aa),0<=m->m < 25->Fl S3 r->K [ba (.ref r),ba (bh ms ns bs (gC gs)),ba (.int m)] S3:=λm S3 m0 m1 f3=>by
  show hK _ _ ?_;clear hK K;obtain⟨m,rfl⟩ : ∃j:EV,m=j:=#[m.toNat,∅]
  show st ?_;dsimp only[wS,wE,wA,wV,wG,bh];exact l4 (d:=d+6) G L.world f3 hr.size.pos hr.size.a3 hr.size.good hr.ml hr.nl ∅ λu S4 hul hu f4 _=>hR _ _ (k a bs ms ns _ _ u S4 rx hu ∅ f4)
 clear hK;dsimp only[wS,wT,wE,wA,wV,wG];show aB (d:=d+7) G.pick f2 #v[] #v[] λv8 S3 _ _ f3 _=>?_
 show ae dN ?_;dsimp only[wB];show am (Q0:=Q') (λ_ Q2 hn2 _=>?_) (λ_ Q2 hn2 _=>bO (hn2 _ _ (aY v S3 v0 ∅ f3)))
 show st ?_;left;exact aB (d:=d+7) G.pick f3 #v[] #v[] λv9 S4 w0 w1 f4 _=>bO (hn2 _ _ (aY v9 S4 w0 w1 f4))
end
def uM {defs:EI (E3×Df)}{fuel d:EV}(hfu:50 < fuel)(L:Lw07 defs){zs:EI E5}:∃S',ak defs fuel (d+10) "law" [.ref 0] [.fro (zs.map W.int)]=ba (.bl true,S'):=by
 suffices h:wO (aQ (ak defs fuel (d+10)) "law" 1 [.ref 0] [.fro (zs.map W.int)]) (λp=>p.1=.bl true) by
  obtain⟨⟨v,S'⟩,e,q⟩:=aU h;cases(show v=.bl true from q)
  exact#[S',e]
 have G:=L.gen;show aw L.law rfl rfl λQ' hR=>?_
 change wZ _ _ gS [ba (.ref 0),gV,gV,gV,gV,gV,gV] [.fro (zs.map W.int)] Q';dsimp only[gS];nofun
 left;show Aw (d:=d+8) L.flow (ns:=zs) rfl λr S1 _ f1=>hK _ _ ?_
 clear hK K;nofun
 left;show uL (d:=d) ∅ L f1 λa bs ms ns b0 w u S2 hr hu hl f2=>?_
 dsimp only[wU];show ae (show ci [2,3] [w,aT u] [ba (.ref 0),ba (.ref r),gV,gV,gV,gV,gV]=ba [ba (.ref 0),ba (.ref r),ba w,ba (aT u),gV,gV,gV]from rfl) (hK _ _ ?_)
 clear hK K f1;nofun
 left;show uL (d:=d) ∅ L f2 λa' bs' ms' ns' b0' w' u' S3 hr' hu' hl' f3=>?_
 dsimp only[wU];show ae (show ci [4,5] [w',aT u'] [ba (.ref 0),ba (.ref r),ba w,ba (aT u),gV,gV,gV]=ba [ba (.ref 0),ba (.ref r),ba w,ba (aT u),ba w',ba (aT u'),gV]from rfl) (hK _ _ ?_)
 clear hK K f2 f3;have go:∀ {a:EV} {bs:EI E5} {ms ns:EI E3} {b0 w:W} {u:Wd} {S:aa} {Q:QW},RX a bs ms ns b0 w->GoodW a bs.length u->u.length<=24->(∀S',Q (.bl true,S'))->wO (aQ (ak defs fuel (d+9)) "_law_holds" 2 [w,aT u] S) Q:=λh1 h2 h3 q=>AE (d:=d+4) L h1 h2 h3 λS' _=>q S'
 nofun
 have hmin:∀S:aa,Bi.min.fn [.int 4,.int (u.length:EV)] S=ba (.int (if ((u.length:EV):E5) < 4 then((u.length:EV):E5)else 4),S):=λS=>rfl
 have hj:(if ((u.length:EV):E5) < 4 then((u.length:EV):E5)else 4)+1<=5/\0<=(if ((u.length:EV):E5) < 4 then((u.length:EV):E5)else 4)+1:=by split <;> omega
 generalize(if ((u.length:EV):E5) < 4 then((u.length:EV):E5)else 4)=j at hmin hj
 show fJ rfl rfl ?_;dsimp only[wE,wA,wV,wG,aT];show bE ?_;rw[ER];show ae (hmin _) ?_;dsimp only[bG,ar];show#[j+1,λ_ Z _=>∃x6,Z=[ba (.ref 0),ba (.ref r),ba w,ba (aT u),ba w',ba (aT u'),x6],rfl,∅,#[_,rfl],?_,?_]
 ·rintro i Z S4 hi ⟨x6,rfl⟩ Q2 hn2 _;clear hK;nofun
  dsimp only[wS,wT,wE,wA,wP,wV,wG,wN,E7];show ae (show la (aT u) gV (ba (i:E5)) S4=ba (aT (u.take i),S4) by simp only[aT,la,fF,Jz]) ?_
  show go hr (xL hu) (by rw[Gg]; omega) λS5=>?_
  show ae (show dB S5 (.bl true)=ba true from rfl) ?_
  exact am (Q0:=Q2) (λz=>by cases z) (λ_ Q3 hn3 _=>bO (hn3 _ _ (hK _ _ (bO (hn2 _ _ #[_,rfl])))))
 ·rintro Z S4 ⟨x6,rfl⟩;show hK _ _ ?_;clear hK K;nofun
  dsimp only[wS,wT,wE,wA,wV,wG];show go hr hu hl λS5=>?_
  show ae (show dB S5 (.bl true)=ba true from rfl) #[λz=>(by cases z),λ_=>?_]
  dsimp only;show go hr' hu' hl' λS6=>?_
  show ae (show dB S6 (.bl true)=ba true from rfl) ?_
  show am (Q0:=Q') (λz=>by cases z) (λ_ Q2 hn2 _=>bO (hn2 _ _ (hK _ _ ?_)))
  clear hn2 hK K;nofun
  have fin:∀S7,K [ba (.ref 0),ba (.ref r),ba w,ba (aT u),ba w',ba (aT u'),x6] S7:=λS7=>by
   show hK _ _ (st ?_);left;exact go hr hu hl λS8=>hR _ _ rfl
  clear hK;have zl:(Fd aN ns bs).length=bs.length:=by rw[G8,hr.nl]; omega
  have zl':(Fd aN ns' bs').length=bs'.length:=by rw[G8,hr'.nl]; omega
  have ml:(ms.map W.str).length=a:=by rw[ER]; exact hr.ml
  have ml':(ms'.map W.str).length=a':=by rw[ER]; exact hr'.ml
  have ew:=hr.eq;have ew':=hr'.eq;subst ew ew';dsimp only[wS,wT,wE,wA,wV,wG];show al #v[] rfl (bE (al #v[] rfl (bE (ae dN ?_))))
  dsimp only[wB];show#[λh1=>?_,λ_=>am (Q0:=Q') (λz=>by cases z) (λ_ Q2 hn2 _=>bO (hn2 _ _ (fin _)))]
  show al #v[] rfl (bE (al #v[] rfl (bE (ae dN ?_))))
  dsimp only[wB];show#[λh2=>?_,λ_=>am (Q0:=Q') (λz=>by cases z) (λ_ Q2 hn2 _=>bO (hn2 _ _ (fin _)))]
  have ea:a'=a:=by rw[ml,ml']at h1; have:=eq_of_beq h1; omega
  have eb:bs'.length=bs.length:=by rw[zl,zl']at h2; have:=eq_of_beq h2; omega
  show go hr' (by rw[ea,eb]; exact hu) hl λS7=>?_
  show ae (show dB S7 (.bl true)=ba true from rfl) ?_
  exact am (Q0:=Q') (λz=>by cases z) (λ_ Q2 hn2 _=>bO (hn2 _ _ (fin _)))
abbrev jF (i:EV):Hv:=PySem.Challenge.pw_layworld_k07_worlds_written_and_read.main.body.getD i (.Pass #[0,0,0,0])
abbrev yw:Df:=#[["_law_script"],["_law_script","_law_flow_here","_law_one","_law_world","_law_other","_law_second","_law_k"],gS]
noncomputable abbrev Tw:=E3×EV×Df×EV
noncomputable abbrev tw (x:E3)(i:EV)(d:Df)(a:EV):Tw:=(x,i,d,a)
abbrev TL:EI Tw:=[tw "show_world" 5 #[["rule","world"],["rule","world"],cx] 51,tw "point_text" 6 #[["rule","point"],["rule","point"],cw] 56,tw "read_world" 7 #[["rule","text"],["rule","text"],cz] 63,tw "read_points" 8 #[["rule","text","row"],["rule","text","row"],b7] 68,tw "read_point" 9 #[["rule","text","ahead","row"],["rule","text","ahead","row","words","names","there"],cy] 73,tw "_law_flow" 11 #[["_law_script"],["_law_script"],cR] 80,tw "_law_pick" 12 #[["_law_flow_here","_law_many"],["_law_flow_here","_law_many","_law_cell","_law_digit"],bD] 87,tw "_law_letters" 13 #[["_law_flow_here","_law_many"],["_law_flow_here","_law_many"],bY] 92,tw "_law_name" 14 #[["_law_flow_here","_law_stem"],["_law_flow_here","_law_stem","_law_near"],dF] 99,tw "_law_names" 15 #[["_law_flow_here","_law_many"],["_law_flow_here","_law_many","_law_stem","_law_names_here","_law_k","_law_name_here","_law_spare"],bH] 106,tw "_law_between" 16 #[["_law_rule_here","_law_world","_law_i","_law_j"],["_law_rule_here","_law_world","_law_i","_law_j"],bZ] 113,tw "_law_part" 17 #[["_law_rule_here","_law_world","_law_points"],["_law_rule_here","_law_world","_law_points","_law_told","_law_k","_law_i"],dG] 118,tw "_law_turns" 18 #[[],[],d6] 125,tw "_law_figure" 19 #[["_law_rule_here","_law_three"],["_law_rule_here","_law_three"],cr] 130,tw "_law_backs" 20 #[["_law_flow_here","_law_many"],["_law_flow_here","_law_many","_law_menu"],cZ] 137,tw "_law_rule_of" 21 #[["_law_flow_here","_law_marks","_law_backs_here","_law_barred"],["_law_flow_here","_law_marks","_law_backs_here","_law_barred","_law_names_here","_law_ways"],b6] 142,tw "_law_free_three" 22 #[["_law_flow_here","_law_marks","_law_ways"],["_law_flow_here","_law_marks","_law_ways","_law_told","_law_k"],br] 147,tw "_law_sizes" 23 #[["_law_flow_here"],["_law_flow_here","_law_menu"],c7] 154,tw "_law_any_rule" 24 #[["_law_flow_here"],["_law_flow_here","_law_marks","_law_ways","_law_rule_here","_law_barred","_law_k"],bM] 161,tw "_law_laying_kind" 25 #[["_law_flow_here"],["_law_flow_here","_law_menu"],bf] 168,tw "_law_breaks" 26 #[["_law_backs_here","_law_must","_law_to_one","_law_to_two","_law_between_here"],["_law_backs_here","_law_must","_law_to_one","_law_to_two","_law_between_here","_law_to","_law_pair","_law_x","_law_y","_law_z"],cu] 175,tw "_law_numbered" 27 #[["_law_flow_here","_law_backs_here","_law_must"],["_law_flow_here","_law_backs_here","_law_must","_law_many","_law_menu","_law_some","_law_numbers","_law_told","_law_k","_law_other","_law_u","_law_v"],aM] 180,tw "_law_laying_rule" 28 #[["_law_flow_here"],["_law_flow_here","_law_form","_law_backs_here","_law_must","_law_most","_law_marks","_law_rule_here","_law_barred","_law_many","_law_at","_law_one","_law_two","_law_between_here","_law_some","_law_first"],bg] 187,tw "_law_rising" 29 #[["_law_marks"],["_law_marks","_law_told","_law_i","_law_j"],cv] 192,tw "_law_free_rule" 30 #[["_law_flow_here"],["_law_flow_here","_law_marks","_law_ways","_law_rule_here","_law_k","_law_own","_law_free","_law_barred","_law_three"],bA] 197,tw "_law_one_way_rule" 31 #[["_law_flow_here"],["_law_flow_here","_law_marks","_law_barred"],aW] 202,tw "_law_unlaying_rule" 32 #[["_law_flow_here"],["_law_flow_here","_law_form","_law_rule_here","_law_barred","_law_some","_law_one","_law_two","_law_between_here","_law_first","_law_marks"],aC] 207,tw "_law_any_world" 33 #[["_law_flow_here","_law_rule_here","_law_many"],["_law_flow_here","_law_rule_here","_law_many","_law_told","_law_k","_law_mark"],a7] 212,tw "_law_alike" 34 #[["_law_found","_law_due"],["_law_found","_law_due"],bo] 217,tw "_law_world_text" 35 #[["_law_rule_here","_law_world"],["_law_rule_here","_law_world","_law_points","_law_mark","_law_to"],bu] 222,tw "_law_rule" 36 #[["_law_flow_here"],["_law_flow_here","_law_form"],cU] 229,tw "_law_holds" 37 #[["_law_rule_here","_law_world"],["_law_rule_here","_law_world","_law_due"],fM] 236,tw "_law_drawn" 38 #[["_law_flow_here"],["_law_flow_here","_law_rule_here","_law_many"],c8] 243,tw "law" 39 yw 250]
abbrev gD:EI (E3×Df):=TL.map λp=>(p.1,p.2.2.1)
abbrev D7:EI (E3×EV):=TL.map λp=>(p.1,p.2.2.1.ps.length)
abbrev xM:EI E3:=["range","len","list","tuple","int","sorted","isinstance","bool","str","all","min","enumerate"]
abbrev xN:EI (E3×W):=[("PARTING",.str " ; ")]
abbrev AN:Md:=#[D7,xM,xN]
abbrev BD (x:E3)(st:Hv)(df:Df):Prop:=∀(kV doc pm:EK) (an:EO EU) (cdv ct:EK) (us:EI EK),us.length=df.ps.length->bindArgs (GZ x x (cp st) (bx st) (aG st) .none kV doc pm an cdv ct) #[us,[]]=pure (df.ps.zip us)
def Ej {us:EI EK}(h:us.length=0):us=[]:=HD.mp h
def uc {us:EI EK}{n:EV}(h:us.length=n+1):∃a t,us=a::t/\t.length=n:=by
 cases us with
 | nil=>cases h
 | cons a t=>exact#[a,t,rfl,NP h]
def Ek {us:EI EK}(h:us.length=1):∃a,us=[a]:=by obtain⟨a,t,rfl,g⟩:=uc h; cases Ej g; exact#[a,rfl]
def El {us:EI EK}(h:us.length=2):∃a b,us=[a,b]:=by obtain⟨a,t,rfl,g⟩:=uc h; obtain⟨b,rfl⟩:=Ek g; exact#[a,b,rfl]
def Em {us:EI EK}(h:us.length=3):∃a b c,us=[a,b,c]:=by obtain⟨a,t,rfl,g⟩:=uc h; obtain⟨b,c,rfl⟩:=El g; exact#[a,b,c,rfl]
def En {us:EI EK}(h:us.length=4):∃a b c d,us=[a,b,c,d]:=by obtain⟨a,t,rfl,g⟩:=uc h; obtain⟨b,c,d,rfl⟩:=Em g; exact#[a,b,c,d,rfl]
def Eo {us:EI EK}(h:us.length=5):∃a b c d e,us=[a,b,c,d,e]:=by obtain⟨a,t,rfl,g⟩:=uc h; obtain⟨b,c,d,e,rfl⟩:=En g; exact#[a,b,c,d,e,rfl]
def ED {us:EI EK}(h:us.length=6):∃a b c d e f,us=[a,b,c,d,e,f]:=by obtain⟨a,t,rfl,g⟩:=uc h; obtain⟨b,c,d,e,f,rfl⟩:=Eo g; exact#[a,b,c,d,e,f,rfl]
abbrev DG (p:Tw):Prop:=BW AN (jF p.2.1) p.2.2.1/\FnScope p.2.2.1.N p.2.2.1.ps (aG (jF p.2.1))/\BD p.1 (jF p.2.1) p.2.2.1
def gc {α:Type}{F:α->Prop}{p:α}{L:EI α}(a:F p)(b:∀q∈L,F q):∀q∈p::L,F q:=List.forall_mem_cons.mpr #[a,b]
def gn {α:Type}{F:α->Prop}:∀q∈([]:EI α),F q:=λ_ h=>nomatch h
def EE {p:Tw}(a:oI (cS 20 (tj AN (jF p.2.1) p.2.2.1.N)) (bx (jF p.2.1))=ba p.2.2.1.body)(b:FnScope p.2.2.1.N p.2.2.1.ps (aG (jF p.2.1)))(c:BD p.1 (jF p.2.1) p.2.2.1):DG p:=#[a,b,c]
set_option maxHeartbeats 0 in
def yy:∀p∈TL,DG p:=by
 unfold TL
 repeat show gc (EE (by kernel_rfl) #[rfl,rfl,rfl,by decide +kernel,rfl,by decide +kernel,by decide +kernel] λ_ _ _ _ _ _ us h=>by
  first
   | (obtain⟨a,rfl⟩:=Ek h; rfl)
   | (obtain⟨a,b,rfl⟩:=El h; rfl)
   | (obtain⟨a,b,c,rfl⟩:=Em h; rfl)
   | (obtain⟨a,b,c,d,rfl⟩:=En h; rfl)
   | (obtain⟨a,b,c,d,e,rfl⟩:=Eo h; rfl)
   | (obtain⟨a,b,c,d,e,f,rfl⟩:=ED h; rfl)
   | (obtain rfl:=Ej h; rfl)) ?_
 exact gn
def EF {f:E3}{m n:EV}{b:Ss}(h:((gD.lookup f).map λd=>(d.ps.length,d.N.length,d.body))=ba (m,n,b)):Is gD f m n b:=by
 rw[EQ]at h;obtain⟨d,h1,h2⟩:=h;rw[MM,MM]at h2;exact#[d,h1,h2.1,h2.2.1,h2.2.2]
set_option maxHeartbeats 0 in
def CG:Lw07 gD:=by
 repeat' first
  | exact EF (by kernel_rfl)
  | constructor
def iP:∀(L:EI Tw) (x:E3) (n:EV),(L.map λp=>(p.1,p.2.2.1.ps.length)).lookup x=ba n->∃p∈L,p.1=x/\p.2.2.1.ps.length=n/\(L.map λp=>(p.1,p.2.2.1)).lookup x=ba p.2.2.1
 | [],x,n,h=>by cases h
 | p::L,x,n,h=>by
  rw[FV,Gi]at h;rw[FV,Gi];cases e:x==p.1 with
  | true=>
   rw[e]at h;cases h;exact#[p,F9 ..,(eq_of_beq e).symm,rfl,rfl]
  | false=>
   rw[e]at h;obtain⟨q,h1,h2,h3,h4⟩:=iP L x n h;exact#[q,FC _ h1,h2,h3,h4]
section
variable{P:Fn}{w:Fv}{K:EW}{mg:E3->EO EK}{base:FN}
abbrev uN (K:EW)(mg:E3->EO EK)(x:E3)(st:Hv)(df:Df):Prop:=∃(f:EU) (fd:Hg),Fun K x x st f fd/\mg x=ba (.ref f)/\Ge K (.ref f)=true/\Binds K fd df.ps []
def AF {h:FN}{x:E3}{st:Hv}{df:Df}{f:EU}{oc:EK}{od an:EO EU}{osl:FM (EO EK)}{kV doc pm cdv ct:EK}(X:K.In h)(G:h.Ns mainGlobals mg)
  (b:BD x st df)
  (a:Hr K mainGlobals x=ba (ba (.ref f))) (l:K.lookup f=ba #[oc,od,.func (GZ x x (cp st) (bx st) (aG st) .none kV doc pm an cdv ct),osl]) (c:HB K cdv x=true) (k:Ge K (.ref f)=true):uN K mg x st df:=
 have F:=rB (st:=st) l c k
 #[f,_,F,KM X G a,k,F.binds b]
def uO {fuel:EV}(hb:MdOk w K mg AN)(D:∀p∈TL,uN K mg p.1 (jF p.2.1) p.2.2.1):∀d,yd P w K mg base AN gD fuel d
 | 0=>λf n h=>by
  obtain⟨p,h1,rfl,h2,h3⟩:=iP TL f n h;obtain⟨fa,fd,F,m,kp,b⟩:=D p h1;show#[fa,fd,p.2.2.1.ps,#[λvs H Q E z=>?_,λA outer s H args us vs Q E hr he hbd hv z=>?_],m,kp,b]
  all_goals
   obtain⟨_,_,_,_,_,_,_,_,z,_⟩:=z;cases z
 | d+1=>λf n h=>by
  obtain⟨p,h1,rfl,h2,h3⟩:=iP TL f n h;obtain⟨g1,g2,_⟩:=yy p h1;obtain⟨fa,fd,F,m,kp,b⟩:=D p h1;show#[fa,fd,p.2.2.1.ps,?_,m,kp,b];rw[<- h2];exact ye F g2 h3 g1 hb (uO hb D d)
abbrev CE (K:EW)(p:E3×W):Prop:=∃v u,Hr K mainGlobals p.1=ba (ba u)/\RelV v u/\∀A H,Rel K A H p.2 v
def uP {x:E3}{w:W}:∀ {l:EI (E3×W)},l.lookup x=ba w->(x,w)∈l
 | [],h=>nomatch h
 | (y,v)::l,h=>by
  rw[Gi]at h;split at h
  ·rename_i e;cases h;have:=eq_of_beq e;subst this;exact F9
  ·exact FC _ (uP h)
def CH {x:E3}{z:E3}{t:EV}(e:Hr K mainGlobals x=ba (ba (.str z t))):CE K (x,.str z):=#[.str z,_,e,#[_,rfl],λ_ _=>.str]
def CI {h:FN}(X:K.In h)(G:h.Ns mainGlobals mg)(z:∀y∈xM,Hr K mainGlobals y=ba gV)(c:∀p∈xN,CE K p):MdOk w K mg AN:=#[λy hy=>PySem.W.mg_none_of X G (z y hy),λYq h1 h2 h3 x v h=>by
 subst h2 h3;obtain⟨v',u,e,r,q⟩:=c _ (uP h);exact#[v',u,KM X G e,r,q]]
end
def AG {l:JV}{w:Fv}{K:EW}{h:FN}{mg:E3->EO EK}{fa f:EU}(X:K.In h)(G:h.Ns mainGlobals mg)(hfa:mg "law" = ba (.ref fa))(hb:MdOk w K mg AN)(D:∀p∈TL,uN K mg p.1 (jF p.2.1) p.2.2.1)
  {oc:EK} {od an:EO EU} {osl:FM (EO EK)} {kV doc pm cdv ct:EK} (a:Hr K mainGlobals "law" = ba (ba (.ref f))) (l':K.lookup f=ba #[oc,od,.func (GZ "law" "law" (cp (jF 39)) (bx (jF 39)) (aG (jF 39)) .none kV doc pm an cdv ct),osl]) (c:HB K cdv "law" = true) (k:Ge K (.ref f)=true) :
  ∃fd:Hg,(∀(s:EN) (v:EK),Lf s fd #[[v],[]] [("_law_script",v)])/\∀base:FN,K.In base->base.Ns mainGlobals mg->FnOk l.prog w K mg base qK 10 fa fd ["_law_script"] (spF w K 1 (ak gD 100 10 "law")):=by
 have e:=hfa.symm.trans (KM X G a);cases e;have F:=rB (st:=jF 39) l' c k;exact#[GZ "law" "law" (cp (jF 39)) (bx (jF 39)) (aG (jF 39)) .none kV doc pm an cdv ct,λs v=>.of_eq rfl,λbase _ _=>ye (df:=yw) F #[rfl,rfl,rfl,by decide +kernel,rfl,by decide +kernel,by decide +kernel] (by rfl) (by rfl) hb (uO hb D 9)]
def D8 {l:JV}{q:Fn}{loose:EI E3}{XP:(E3->EO EK)->FN->Prop}{YP:Fv->FN->Prop}{d:DefRec}{K:Kg->EW}(hn:l.most=ba 63)(hdf:d.params.defaults=[])
  (hY:∀(w:Fv) (h:FN),YP w h->(K w.params).In h)
  (F:∀(w:Fv) (mg:E3->EO EK) (fa:EU) (h:FN),(K w.params).In h->h.Ns mainGlobals mg->mg d.name=ba (.ref fa)->
   ∃fd:Hg,(∀(s:EN) (u:EK),Lf s fd #[[u],[]] [("_law_script",u)])/\∀base:FN,(K w.params).In base->base.Ns mainGlobals mg->FnOk l.prog w (K w.params) mg base qK 10 fa fd ["_law_script"] (spF w (K w.params) 1 (ak gD 100 10 "law"))) :
  MB q loose XP YP l.row.toRowW d [] (λf vs=>Mh f vs):=
 L2.vy (n:=63) (k:=10) (x:="_law_script") (CX:=λ_=>qK) (sp:=λw=>spF w (K w.params) 1 (ak gD 100 10 "law")) hn #v[] hdf #[rfl,#v[],#v[]] hY F
  (λw H a ns hl hO hS=>z5 (uM (defs:=gD) (fuel:=100) (d:=0) #v[] CG) hO hS) λ_ _ _ _ _ z=>z
end Mi
open PySem PySem.W PyProof.Rows L2
set_option maxHeartbeats 0
namespace Mi
section
abbrev pw:Fn:=IR
abbrev ge (P:Kg)(n:E3)(t:EV)(v:EK):G2:=#[PyData.keyHash P n,.str n t,v]
abbrev kd (a:EV)(es:EI G2)(n:EV):EU×Gm:=(a,#[.type "dict",gV,.dict es.toArray n,#[]])
abbrev kc (a:EV)(vs:EI EK):EU×Gm:=(a,#[.type "code",gV,.fields vs.toArray,#[]])
abbrev kf (a:EV)(st:Hv)(n:E3)(pm cd:EK):EU×Gm:=(a,#[.type "function",gV,.func (GZ n n (cp st) (bx st) (aG st) .none .none .none pm gV cd .none),#[]])
abbrev D9 (i:EV):EK:=if i<=9 then(.str "layworld.texts" 232)else(.str "law_layworld_k07_worlds_written_and_read" 268)
abbrev kx (a:EV)(b:Fk)(i:EV)(s:E3)(t:EV)(l p:E5)(m:EV)(R:EW):EW:=kc a [.str s t,.str s (t+1),.str "/claim/cut.py" (t+2),.int l 0,.int p 0,.int 0 0,.int 0 0,.int 3 0,.ref (if b then a - 5 else a - 3),.bool true,.int 181 0,.ref (if b then a - 4 else a - 2),.none,if b then .ref (a - 3)else .none,if b then .ref (a - 2)else .none,.ref (a - 1),.int m 0,.int l 0,.str "/claim/cut.py" (m+1)]::kf (a+1) (jF i) s (D9 i) (.ref a)::R
abbrev kq (a:EV)(vs:EI EK)(n:EV)(R:EW):EW:=(a,#[.type "tuple",gV,.seq vs.toArray n,#[]])::R
abbrev K0 (P:Kg):EW:=kd 3 [ge P "__name__" 165 (.str "law_layworld_k07_worlds_written_and_read" 268),ge P "__doc__" 166 .none,ge P "__package__" 167 .none,ge P "__loader__" 168 (.builtin "__main__.__loader__#opaque"),ge P "__spec__" 169 .none,ge P "__annotations__" 170 (.ref 6),ge P "__builtins__" 171 (.ref 4),ge P "__file__" 173 (.str "/claim/cut.py" 172),ge P "__cached__" 174 .none,ge P "LayError" 206 (.ref 24),ge P "BadText" 231 (.ref 44),ge P "PARTING" 235 (.str " ; " 234),ge P "show_world" 241 (.ref 51),ge P "point_text" 247 (.ref 56),ge P "read_world" 255 (.ref 63),ge P "read_points" 261 (.ref 68),ge P "read_point" 267 (.ref 73),ge P "_law_flow" 276 (.ref 80),ge P "_law_pick" 286 (.ref 87),ge P "_law_letters" 292 (.ref 92),ge P "_law_name" 301 (.ref 99),ge P "_law_names" 314 (.ref 106),ge P "_law_between" 324 (.ref 113),ge P "_law_part" 330 (.ref 118),ge P "_law_turns" 336 (.ref 125),ge P "_law_figure" 342 (.ref 130),ge P "_law_backs" 351 (.ref 137),ge P "_law_rule_of" 357 (.ref 142),ge P "_law_free_three" 363 (.ref 147),ge P "_law_sizes" 371 (.ref 154),ge P "_law_any_rule" 383 (.ref 161),ge P "_law_laying_kind" 391 (.ref 168),ge P "_law_breaks" 407 (.ref 175),ge P "_law_numbered" 413 (.ref 180),ge P "_law_laying_rule" 434 (.ref 187),ge P "_law_rising" 440 (.ref 192),ge P "_law_free_rule" 446 (.ref 197),ge P "_law_one_way_rule" 452 (.ref 202),ge P "_law_unlaying_rule" 458 (.ref 207),ge P "_law_any_world" 464 (.ref 212),ge P "_law_alike" 470 (.ref 217),ge P "_law_world_text" 476 (.ref 222),ge P "_law_rule" 484 (.ref 229),ge P "_law_holds" 493 (.ref 236),ge P "_law_drawn" 502 (.ref 243),ge P "law" 515 (.ref 250)] 46::(kx 50 false 5 "show_world" 236 11 2 239
 (kx 55 false 6 "point_text" 242 13 2 245
 (kx 62 true 7 "read_world" 248 15 2 253
 (kx 67 false 8 "read_points" 256 19 3 259
 (kx 72 false 9 "read_point" 262 23 4 265
 (kx 79 true 11 "_law_flow" 270 31 1 274
 (kx 86 true 12 "_law_pick" 277 33 2 284
 (kx 91 false 13 "_law_letters" 287 48 2 290
 (kx 98 true 14 "_law_name" 293 50 2 299
 (kx 105 true 15 "_law_names" 302 58 2 312
 (kx 112 true 16 "_law_between" 315 71 4 322
 (kx 117 false 17 "_law_part" 325 75 3 328
 (kx 124 true 18 "_law_turns" 331 81 0 334
 (kx 129 false 19 "_law_figure" 337 83 2 340
 (kx 136 true 20 "_law_backs" 343 85 2 349
 (kx 141 false 21 "_law_rule_of" 352 88 4 355
 (kx 146 false 22 "_law_free_three" 358 92 3 361
 (kx 153 true 23 "_law_sizes" 364 97 1 369
 (kx 160 true 24 "_law_any_rule" 372 100 1 381
 (kx 167 true 25 "_law_laying_kind" 384 107 1 389
 (kx 174 true 26 "_law_breaks" 392 116 5 405
 (kx 179 false 27 "_law_numbered" 408 124 3 411
 (kx 186 true 28 "_law_laying_rule" 414 139 1 432
 (kx 191 false 29 "_law_rising" 435 159 1 438
 (kx 196 false 30 "_law_free_rule" 441 165 1 444
 (kx 201 false 31 "_law_one_way_rule" 447 178 1 450
 (kx 206 false 32 "_law_unlaying_rule" 453 182 1 456
 (kx 211 false 33 "_law_any_world" 459 197 3 462
 (kx 216 false 34 "_law_alike" 465 203 2 468
 (kx 221 false 35 "_law_world_text" 471 215 2 474
 (kx 228 true 36 "_law_rule" 477 220 1 482
 (kx 235 true 37 "_law_holds" 485 227 2 491
 (kx 242 true 38 "_law_drawn" 494 230 1 500
 (kx 249 true 39 "law" 503 236 1 513 []))))))))))))))))))))))))))))))))))
abbrev Er:EI EV:=[3,50,51,55,56,62,63,67,68,72,73,79,80,86,87,91,92,98,99,105,106,112,113,117,118,124,125,129,130,136,137,141,142,146,147,153,154,160,161,167,168,174,175,179,180,186,187,191,192,196,197,201,202,206,207,211,212,216,217,221,222,228,229,235,236,242,243,249,250]
abbrev vq:Fn:={ pw with main:={ pw.main with body:=[jF 39] } }
abbrev lo:EI E3:=[("LayError" : E3),("BadText" : E3),("PARTING" : E3),("show_world" : E3),("point_text" : E3),("read_world" : E3),("read_points" : E3),("read_point" : E3),("_law_flow" : E3),("_law_pick" : E3),("_law_letters" : E3),("_law_name" : E3),("_law_names" : E3),("_law_between" : E3),("_law_part" : E3),("_law_turns" : E3),("_law_figure" : E3),("_law_backs" : E3),("_law_rule_of" : E3),("_law_free_three" : E3),("_law_sizes" : E3),("_law_any_rule" : E3),("_law_laying_kind" : E3),("_law_breaks" : E3),("_law_numbered" : E3),("_law_laying_rule" : E3),("_law_rising" : E3),("_law_free_rule" : E3),("_law_one_way_rule" : E3),("_law_unlaying_rule" : E3),("_law_any_world" : E3),("_law_alike" : E3),("_law_world_text" : E3),("_law_rule" : E3),("_law_holds" : E3),("_law_drawn" : E3)]
abbrev EL (K:EW)(p:Tw):Prop:=Hr K mainGlobals p.1=ba (ba (.ref p.2.2.2))/\K.lookup p.2.2.2=ba (kf p.2.2.2 (jF p.2.1) p.1 (D9 p.2.1) (.ref (p.2.2.2 - 1))).2/\HB K (.ref (p.2.2.2 - 1)) p.1=true/\Ge K (.ref p.2.2.2)=true
def EG {K:EW}{p:Tw}(e:Hr K mainGlobals p.1=ba (ba (.ref p.2.2.2)))(l:K.lookup p.2.2.2=ba (kf p.2.2.2 (jF p.2.1) p.1 (D9 p.2.1) (.ref (p.2.2.2 - 1))).2)(c:HB K (.ref (p.2.2.2 - 1)) p.1=true)(k:Ge K (.ref p.2.2.2)=true):EL K p:=#[e,l,c,k]
def CJ (P:Kg):∀p∈TL,EL (K0 P) p:=by
 unfold TL
 repeat show gc (EG (by kernel_rfl) (by kernel_rfl) (by kernel_rfl) (by kernel_rfl)) ?_
 exact gn
def CK (P:Kg):∀y∈xM,Hr (K0 P) mainGlobals y=ba gV:=by
 unfold xM
 repeat show gc (F:=λy=>Hr (K0 P) mainGlobals y=ba gV) (by kernel_rfl) ?_
 exact gn
def CL (P:Kg):∀p∈xN,CE (K0 P) p:=by
 unfold xN;show gc (CH (t:=234) (by kernel_rfl)) ?_
 exact gn
def eK:∀P,Er=(K0 P).map (·.1):=λ_=>by kernel_rfl
abbrev hk:PySem.W.Hook:=PySem.W.kHook K0 Er eK
def hl:PySem.W.LeftO pw vq lo (λs=>MW vq [] s&&MN [] s) hk.obs hk.val 3044:=λw=>by kernel_rfl
def s0:PySem.Challenge.rw_layworld_k07_worlds_written_and_read.row.wellSaid=true:=by kernel_rfl
end
end Mi
end
end ZZ.Lean
open ZZ.Lean
theorem PySem.Challenge.cw_layworld_k07_worlds_written_and_read_holds : PySem.Challenge.rw_layworld_k07_worlds_written_and_read.Holds := by
 w_on
 show PySem.W.holds_law (FD (FD (FD (FD (FD (FD (FD (FD (FD (FD (FD (FD (FD (FD (FD (FD (FD (FD (Mi.s0) (by kernel_rfl)) (by kernel_rfl)) (by kernel_rfl)) (by kernel_rfl)) (by kernel_rfl)) (by kernel_rfl)) (by kernel_rfl)) (by kernel_rfl)) (by kernel_rfl)) (by kernel_rfl)) (by kernel_rfl)) (by kernel_rfl)) (by kernel_rfl)) (by kernel_rfl)) (by kernel_rfl)) (by kernel_rfl)) (by kernel_rfl)) (by kernel_rfl)) (λsaid=>?_)
 show PySem.W.holds_open (q:=Mi.vq) (loose:=Mi.lo) (Xt:=λs=>MW Mi.vq [] s&&MN [] s) (XP:=PySem.W.XL Mi.vq []) (Yf:=Mi.hk.obs) (Ya:=Mi.hk.val) (YP:=Mi.hk.says) (N:=3044) Mi.hl Mi.hk.of Mi.hk.keeps (λs e=>PySem.W.xl_of s (Kt.mp e).1) Nz (by rfl) (by rfl) (by rfl) (λs e=>PySem.W.recFacts_of (Kt.mp e).2) (by rfl) said (by decide +kernel) #[rfl,rfl,rfl,rfl,rfl,by decide +kernel] ?hw ?hc
 case hw=>w_witness2
 case hc=>
 show Mi.D8 (l:=IS) (K:=Mi.K0) rfl rfl (λw h Yq=>PySem.W.kIn_of Yq) ?F
 case F=>
  intro w mg fa h KX G hmg;exact Mi.AG KX G hmg (Mi.CI KX G (Mi.CK w.params) (Mi.CL w.params)) (λp hp=>let ⟨e,l,c,k⟩:=Mi.CJ w.params p hp; Mi.AF KX G (Mi.yy p hp).2.2 e l c k)
   (f:=250) (oc:=.type "function") (od:=gV) (an:=gV) (osl:=#[]) (kV:=.none) (doc:=.none) (pm:=(.str "law_layworld_k07_worlds_written_and_read" 268)) (cdv:=.ref 249) (ct:=.none) (by kernel_rfl) (by kernel_rfl) (by kernel_rfl) (by kernel_rfl)
