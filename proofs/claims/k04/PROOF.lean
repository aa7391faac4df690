import PyProof.Rows.All
import Wide.All
import OpenK.AllK
import Wide.FinOn
import Lean
import PyProof.EqAt
import PyProof.EqKinds
import PyProof.TupleCall
import PyProof.ExcClass
import PySem.Challenge.RW_layworld_k04_worlds_looked_at
import PyProof.StationsW
import PyProof.ExcClass3
import PyProof.ExcBaseAll.ValueError
import PyProof.ExcArgsOwn
import PyProof.ExcAttrAll.ValueError
import OpenK.KOwn
import KE.KIsNot
import PyProof.IsiTuple
import PyProof.RulesDel
import KE.KDictList
import PyProof.SetKind
import PyProof.IsRules
import KE.KSortTup
import PyProof.CallStr
import PyProof.Cells
import PyProof.ZipIter
import PyProof.Draws
import PyProof.EnumMake
import PyProof.WalksEnum
noncomputable section
open Option renaming some->ba,none->gV
set_option hygiene false
local macro_rules|`(abbrev $i:declId $s:optDeclSig $v:declVal)=>`(noncomputable def $i:declId $s:optDeclSig $v:declVal)|`(def $i:declId $b* :$t $v:declVal)=>`(theorem $i:declId $b* :$t $v:declVal)|`(tactic|omega)=>`(tactic|first|lia|omega (config:={}))|`(tactic|show $e:term)=>`(tactic|refine $e:term)|`(tactic|left)=>`(tactic|dsimp only[wS,wE,wA,wV,wG,List.set])|`(tactic|nofun)=>`(tactic|refine bn λK hK=>?_)
local macro_rules|`(#v[])=>`((by decide))|`(#v[$x:term])=>`(.cons $x .nil)|`(#v[$x:term,$y:term,*])=>`(.cons $x #v[$y,*])
local macro_rules|`(#[$x:term])=>`(⟨$x⟩)|`(#[$x:term,$y:term,*])=>`(⟨$x,$y,*⟩)
local macro_rules|`(∅)=>`((by omega))
open _root_ renaming List->Ho,Option->Hs,Nat->Hz,if_pos->HN,Bool->HP,Int->HR,if_neg->HY,decide_eq_false->Ik,decide_eq_true_eq->Im,Array->Iu,False->ID,beq_self_eq_true->IP,of_decide_eq_true->IX,String->Jb,decide_eq_true->Ji,if_false->JQ,beq_eq_false_iff_ne->J3,if_true->Kr,DecidableEq->KH,beq_iff_eq->KL,of_decide_eq_false->K7,or_false->L5,True->NK,bne_self_eq_false->N4,Unit->P2,dif_pos->Qe
open PySem renaming wpAny_bind->Hq,Value->Hr,Shared->Ht,Addr->Hv,wpAny_pure->Hy,Str->HC,Expr->HH,Program->HM,Around->HW,World->HX,Heap->Ii,wpAny_newObj_type->IA,wpAny_mono->IE,wpAny_holding->IL,sizeLine_eq->IN,Spec->IQ,FuncData->IY,wpAny_callSpecial?_slot->Ja,Stmt->Jf,Obj->Jg,wpAny_field->Jh,wpAny_call_entry->Jk,wpAny_truthy_bool->Jm,NameKind->Jn,Pos->Jw,ClassData->Jz,codeAny_builtin->JG,wpAny_Call_Name_kw->JR,wpAny_standAt->JV,wpAny_typeNameOfWhole_keyiter->JY,DictEntry->JZ,wpAny_passesOwn->Kf,Scope->Kh,wpAny_typeNameOf_keyiter->Ko,mem_of_lookup->Kq,wpAny_setField->Ku,codeAny_mono->Kx,wpAny_attempt->KA,plainId_quiet->KB,wpAny_loadPart_at->KF,codeAny_call_builtin->KO,wpAny_seqItems->KP,Builtin->K3,wpAny_call->K4,wpAny_bindName->Lb,wpAny_dictEntries->Lf,wpAny_rule->Lm,PassesOwn->Ln,wpAny_letGo->Lv,wpAny_execs_nil->Lx,wpAny_loadPart'->Ly,wpAny_typeOf->LJ,Env->LL,GenState->LM,IsPart->LP,call_meets->LS,Params->LU,wpAny_tryCatch->L3,Model->Mg,wpAny_pyIter_list->Mk,wpAny_comprehension_free->Mq,noFill_tuple_add->Ms,wpAny_isInstance->Mt,Paired->Mw,Result->Mx,Keyword->My,ItemsOf->MB,wpAny_dictEpoch->MK,wpAny_updateSeq->ML,pushCells_keeps->MO,wpAny_isOneOf_keyiter->MS,wpAny_loadPart->MY,wpAny_of_eq->M2,wpAny_pyIter_keyiter->M3,wpAny_runValue->M5,wpAny_isSubtype_exc->Ni,rangeSize_one->Nn,seq_tuple_add->No,wpAny_newList->Nq,wpAny_load->Ny,wpAny_pyIter_tuple->NE,wpAny_assign_Name->NM,Operator->NO,BindsTo->NR,concat_meets->NS,wpAny_sequenceKey->NT,seqIndex_neg->NU,list_append->NV,ExcBaseFacts->NX,wpAny_pyIter_enum->N7,wpAny_pyHash_int->Oa,wpAny_pyHash_str->Ob,wpAny_execs_cons->Od,wpAny_lookBehind->Oj,pastItsLine_dict->Ol,isinstance_outer->Om,wpAny_forIn_list->On,CmpOp->Ow,seqIndex_of->Ox,wpAny_mkInt->Oy,exec_Assign_arm->OA,codeAny_of_tree->OD,call_isinstance->OE,wpAny_Name->OL,typeIs_int->OP,fitsIndex_both->OR,call->OT,arm_exec_Raise->OU,SetTable->OV,wpAny_fieldsOf->OX,isSubtype_stop->OY,wpAny_newTuple->OZ,BoolOp->O0,Sem->O6,intBits_le_64->O7,evalPart_none->O9,call_list_seq->Pa,wpAny_handled->Pf,small_one->Pl,call_range_1->Po,wpAny_nsSet1->Pq,wpAny_mkText->Pr,Drawn->Py,IsRangeIter->Pz,wpAny_point->PM,wpAny_throw->PP,wpAny_alloc->PQ,IsEnum->P9,Expr->Qa,OwnTail->Qc,IsRange->Qf,Flow->Qj,Tok->Qk,Walks->Qp
open Bool renaming and_eq_true->Hu,false_ne_true->HS,false_eq_true->IK,or_eq_true->Jj,not_eq_true'->KG,and_eq_false_iff->Lk,not_true->Ls,eq_false_iff->Mj,and_true->Mn,false_or->Mo,and_false->MW,and_assoc->MZ,and_eq_true_iff->M9,or_false->Np,true_and->Nr,or_true->NY,false_and->OM
open PySem.Heap renaming get?_push_of_some->Hw,lt_size->HF,get?_push_size->HG,get?_update_other->Il,get?_update_self->Jd,get?_update_ne->J4,SameBut->Ki,size_push->Lg,ExtBut->M0,get?_push_at->NZ,size_update->Oq
open Option renaming map_eq_some_iff->Hx,isSome_iff_exists->IM,map_some->IW,bind_some->J9,getD_some->Lp,getD_none->Og,toList->Pj
open PySem.W renaming Frag->HA,look_both->Iy,keepIn->IZ,fnOf->JL,kia_one->Kg,nsIn->Km,codeIn->Kt,findIn->Kv,mg_of->Lu,callWith_K->LO,methodObj->Mf,cellsFrom_some->Mz,OpenLaw->MJ,kat_nil->MN,KdlSrc->M4,callWith_K0->Nf,subIn->Nt,lookIn->ON,WalkO->Pb,recOk->Pc,Looks->Pg,xlAt->Pp
open List renaming length_map->HB,getElem?_eq_some_iff->HD,size_toArray->HE,getElem?_eq_getElem->HI,length_append->HK,getElem?_map->HQ,set->HZ,mem_append_right->Ic,mem_cons_of_mem->Ig,all_eq_true->Ih,mem_cons->Ij,all_cons->Io,replicate->Iq,mem_singleton->Iv,mem_cons_self->Iw,getElem?_append_left->IB,lookup_cons->IC,zipWith->IH,range->IJ,mem_map->IS,map_cons->IT,length_cons->IU,mem_append->IV,getElem_mem->Jl,getElem?_set->Jo,mem_range->Jp,mem_of_getElem?->Jq,length_take->Ju,replicate_succ->Jx,any_cons->JB,append_nil->JD,length_nil->JE,mem_append_left->JH,length_drop->JK,filterMap_cons->JM,getElem?_eq_none_iff->JP,zip_cons_cons->JS,not_mem_nil->JU,length_eq_zero_iff->J0,map_append->J2,take_of_length_le->J8,mem_filter->Ke,flatten_cons->Kj,length_range->Kk,take_add_one->Kl,map_congr_left->Ks,getElem?_set_self->Kw,map_map->Ky,find?_cons->Kz,append_assoc->KD,getElem?_set_ne->KI,lookup->KJ,getElem?_append_right->KM,take_length->KQ,length_zipWith->KU,nodup_cons->K1,all_map->Le,take_append_of_le_length->Lw,forIn_cons->Lz,eraseDups_cons->LG,filterMap_map->LR,contains_cons->LW,forIn_nil->LZ,getD_eq_getElem?_getD->L6,set_comm->Mm,range_succ_eq_map->MA,drop_of_length_le->MD,of_mem_zip->MF,length_set->MG,nil_append->MH,length_replicate->MP,getElem?_eq_none->MU,take_append_drop->MV,nodup_nil->M6,forall_mem_cons->M7,length_dropLast->M8,getElem?_range->Nl,mem_filterMap->Nz,filterMap_nil->NG,mem_eraseDups->NH,filter_append->NI,zip_nil_left->N1,ext_getElem?->N6,nodup_append->N8,getElem_inj->Oc,ext_getElem->Oo,any_toArray->Op,any_eq_true->Os,isEmpty_iff->Ot,drop_subset->Ov,foldr_cons->OF,find?_some->OG,head?_cons->OH,foldl->OQ,drop_zero->O1,map_take->Pi,any_nil->Pu,all_nil->Pw,length->PC,map->Qs
open Nat renaming le_refl->HJ,ne_of_lt->HU,lt_of_lt_of_le->HV,le_trans->Ix,le_of_ble_eq_true->II,lt_irrefl->Jc,ne_of_gt->JC,zero_le->JJ,le_succ->JN,lt_succ_self->JT,le_of_lt->J5,lt_succ_of_lt->Lh,not_lt->Lq,min_eq_left->LD,lt_of_le_of_lt->LY,min_eq_right->Ou,add_assoc->Pe,min_self->Ps,sub_zero->Px,ble->Qv
open PySem.Value renaming ref->HL,none->Iz,bool->Jv,builtin->JX,type->td,str->Ll,int->Mr
open Array renaming length_toList->Ip,getElem?_eq_some_iff->IF,getElem?_toList->Jy,getElem?_setIfInBounds_ne->Li,perm_iff_toList_perm->L4,getElem?_eq_getElem->L9,append_assoc->Nw,forIn_toList->NC,toList->Pn,getD->P8
open Int renaming toNat_natCast->Ir,natCast_nonneg->IR,emod_lt_of_pos->K6,emod_nonneg->LC,zero_add->MC,toNat_of_nonneg->Nj,ediv_nonneg->OI
open Option.some renaming injEq->IG,inj->Jt
open PySem.Str renaming ofString->Je,length->P4,join->Qr
open PySem.Obj renaming mapSeq->Jr,mapFields->JW,data_mapFields->Kc,isFreed_of_fields->Lj,cls_mapFields->N2
open PySem.Around renaming under_plainId->Js,under->NP
open PySem.Builtin.Tuple renaming tupleExact->JA,tupleItemsOf->KN,tupleHashOf->L8,tupleCompareSizes->N9,tupleIsExact->OW
open ForInStep renaming yield->JF
open PySem.Builtin.Range renaming rangeSize->JI,small->LF
open PyProof.Rows renaming slot_tuple_getitem->JO,callWith_type1->J6,assignInOrder_cons->Kb,subscriptTail_builtinR->Ld,AllBare->LH,assignInOrder_nil->Mh,listUpdate_at->Mp,SortKind->Mu,get?_update_seq->MM,entry_tuple_getitem->Ng,lt_int->Nk,args_tuple_getitem->NA,IsTup->NL,unpackItems_tuple->NN,listItems_at->N3,callWith_builtin1->Of,seqEpoch_at->Oz,IntsAre->OJ,slicePart_none->OO,tupleItemsOf_->O8
open PySem.Builtin.List renaming listExtendWith->J7,listTooLong->Kn,listFitsIndex->OS
open PySem.Builtin.Slice renaming slicePlaces->Kd,sliceAdjust->KR,sliceApplied->LQ,slicePartIndex->OB,sliceFields->O2
open PySem.NameKind renaming cell->KC,free->KZ
open Classical renaming byContradiction->KS,propDecidable->K9
open PySem.Heap.SameBut renaming update->KT,refl->Qg
open PySem.F renaming args_tuple_add_2->KW,entry_tuple_add->K8,plainAttrs_list->La,slot_tuple_add->Lc,excBase_ValueError->LX,slot_dict_get->MQ
open PySem.Builtin.SmallTypes renaming ownedTupleIsFree->KY,nextOf->Mb,ownedTupleHandOut->Nm
open PySem.Env renaming kindOf->K5,blockKind->Ph
open PySem.SeqAt renaming EqAt->Lo,notIn_listAt->NB,in_tupleAt->Oh,in_listAt->OC
open True renaming intro->Lr
open PySem.Builtin.Dict_items renaming ownsTuple->LA
open PySem.PassesOwn renaming never->LB,leaving->Qh
open PySem.Builtin.Builtins renaming bindParams->LK
open PySem.Calls renaming Name_function_global->LN,call_function_entry->Ma,Constant_str->Nx
open PySem.Code renaming quiet_builtin->LV,isFrame->NQ,frames->PB
open PySem.Challenge renaming pw_layworld_k04_worlds_looked_at->L7,rw_layworld_k04_worlds_looked_at->Mc
open PySem.Paired renaming length->Ml
open PySem.Builtin.Dict renaming showsAll->MR,dictSlotNone->O4,pendingCount->O5
open Sum renaming inl->Na,inr->Nb
open PyProof.Rows.IsTup renaming new->Nc
open PySem.Expr renaming Name->Nd,pos->Qq
open PySem.EntryCells renaming newEntry->Nh
open PySem.SeqAt.EqAt renaming int_str->Nu,str_int->Nv,none_bool->PF,bool_none->PH,bool_bool->PJ,none_int->PR,none_str->PU,bool_int->PV,bool_str->PX,int_none->PY,int_bool->PZ,str_none->P0,str_bool->P1,int_int->P5,str_str->P6,same->Qo
open PUnit renaming unit->ND
open PySem.ScopeKind renaming function->NF
open PySem.AutoListH renaming list___mul___list_int_3->NJ
open PySem.AutoSeq1 renaming list_extend_list_list_0->NW,sub_tuple_tuple->Pd
open Function renaming comp_def->N5
open PySem.Flow renaming next->Oe
open PySem.IsL renaming update->Oi
open PySem.Builtin.Str renaming tooLong->O3,glued->Qi
open Prod.mk renaming injEq->Pk
open Prod renaming ext->PD
open PySem.MeetsSeq renaming list_pop_at->PK
open PySem.Within renaming cons->PL
open PySem.Txt renaming join->PN,mul->Qu
open PySem.Heap.IsSliceOf renaming new->P3
open PySem.Walks renaming list->P7
open List.Pairwise renaming nil->Qb
open PySem.Heap.Ns1 renaming of_empty->Qd
open PySem.DictEntry renaming refKey->Ql
open PySem.W.Looks renaming ld->Qm
open PySem.W.XL renaming keeps->Qn
open PySem.Value.ref renaming inj->Qt
open Nat.succ renaming inj->Qw
set_option genSizeOf false
namespace ZZ.Lean
noncomputable section
set_option Elab.async false
set_option linter.all false
set_option maxRecDepth 100000
namespace L2
open PySem PySem.Spec PyProof.Rows
noncomputable abbrev kB:=Sum HR HC
abbrev y4:kB->Hr->HP
 | .inl k,v=>Value.isInt k v
 | .inr x,v=>Value.isStrOf x v
abbrev Ff (w:HX):kB->HR
 | .inl k=>hashInt k
 | .inr x=>hashStr w x
def aS:∀ {k:kB} {v:Hr},y4 k v=true->(∃i t,k=Na i/\v=Mr i t)\/(∃x t,k=Nb x/\v=Ll x t)
 | .inl i,v,h=>by
  obtain⟨t,e⟩:=Value.isInt_shape (k:=i) (v:=v) h;exact .inl #[i,t,rfl,e]
 | .inr x,v,h=>by
  obtain⟨t,e⟩:=Value.isStrOf_shape (x:=x) (v:=v) h;exact .inr #[x,t,rfl,e]
def zZ (a b:HR):decide ((Na a:kB)=Na b)=(a==b):=by
 by_cases e:a=b
 ·subst e; simp
 ·have h:¬ (Na a:kB)=Na b:=λq=>e (Sum.inl.inj q)
  rw[Ik h];exact(J3.mpr e).symm
def z5 (a b:HC):decide ((Nb a:kB)=Nb b)=decide (a=b):=by
 by_cases e:a=b
 ·subst e; simp
 ·have h:¬ (Nb a:kB)=Nb b:=λq=>e (Sum.inr.inj q)
  rw[Ik h,Ik e]
def z6 (a:HR)(b:HC):decide ((Na a:kB)=Nb b)=false:=Ik (λq=>nomatch q)
def z7 (a:HC)(b:HR):decide ((Nb a:kB)=Na b)=false:=Ik (λq=>nomatch q)
abbrev kC (prog:HM)(w:HX):PySem.KeyKind prog w kB where
 is:=y4
 hash:=Ff w
 inj:=λv a b ha hb=>by
  rcases aS ha with⟨i,t,rfl,rfl⟩|⟨x,t,rfl,rfl⟩
  ·rcases aS hb with⟨j,u,rfl,e⟩|⟨y,u,rfl,e⟩
   ·injection e with e1 _; rw[e1]
   ·exact nomatch e
  ·rcases aS hb with⟨j,u,rfl,e⟩|⟨y,u,rfl,e⟩
   ·exact nomatch e
   ·injection e with e1 _; rw[e1]
 byValue:=λk v h=>by
  rcases aS h with⟨i,t,rfl,rfl⟩|⟨x,t,rfl,rfl⟩ <;> rfl
 pyHash:=λhv h=>by
  rcases aS hv with⟨i,t,rfl,rfl⟩|⟨x,t,rfl,rfl⟩
  ·exact Oa h
  ·exact Ob h
 eqBool:=λhu hv h=>by
  rcases aS hu with⟨i,t,rfl,rfl⟩|⟨x,t,rfl,rfl⟩
  ·rcases aS hv with⟨j,u,rfl,rfl⟩|⟨y,u,rfl,rfl⟩
   ·rw[zZ]at h; exact wpAny_eqBool_int h
   ·rw[z6]at h; exact Nu i t y u _ _ _ _ h
  ·rcases aS hv with⟨j,u,rfl,rfl⟩|⟨y,u,rfl,rfl⟩
   ·rw[z7]at h; exact Nv x t j u _ _ _ _ h
   ·rw[z5]at h; exact wpAny_eqBool_str h
 «strs»:=λk x t v h=>by
  rcases aS h with⟨i,u,rfl,e⟩|⟨y,u,rfl,e⟩
  ·exact nomatch e
  ·injection e with e1 _
   subst e1;cases v <;> rfl
inductive V where
 | non|bl (b:HP)|int (i:HR)|str (x:HC)|byt (b:Iu UInt8)|flt (b:UInt64)|ref (a:Hv)|ty (n:Jb)
 deriving KH
abbrev RelV:V->Hr->Prop
 | .non,u=>u=Iz
 | .bl b,u=>u=Jv b
 | .int i,u=>∃t,u=Mr i t
 | .str x,u=>∃t,u=Ll x t
 | .byt b,u=>∃t,u=Value.bytes b t
 | .flt b,u=>∃t,u=Value.float b t
 | .ref a,u=>u=HL a
 | .ty n,u=>u=td n
noncomputable abbrev Vals:Ho V->Ho Hr->Prop:=Mw RelV
def Vals.length {xs:Ho V}{us:Ho Hr}(r:Vals xs us):xs.length=us.length:=Ml r
def Vals.get:∀ {xs:Ho V} {us:Ho Hr} {i:Hz} {x:V},Vals xs us->xs[i]?=ba x->∃u,us[i]?=ba u/\RelV x u
 | _,_,_,_,.nil,e=>by simp at e
 | _,_,0,_,.cons r _,e=>by simp at e; subst e; exact#[_,rfl,r]
 | _,_,i+1,x,.cons _ t,e=>by
  obtain⟨u,h1,h2⟩:=Vals.get (i:=i) (x:=x) t (by simpa using e)
  exact#[u,by simpa using h1,h2]
def Vals.set {x:V}{u:Hr}(r:RelV x u):∀ {xs:Ho V} {us:Ho Hr} (i:Hz),Vals xs us->Vals (xs.set i x) (us.set i u)
 | _,_,_,.nil=>.nil
 | _,_,0,.cons _ t=>.cons r t
 | _,_,i+1,.cons q t=>.cons q (Vals.set r i t)
def Vals.append:∀ {xs ys:Ho V} {us ws:Ho Hr},Vals xs us->Vals ys ws->Vals (xs++ys) (us++ws)
 | _,_,_,_,.nil,s=>s
 | _,_,_,_,.cons r t,s=>.cons r (Vals.append t s)
def Vals.take:∀ {xs:Ho V} {us:Ho Hr} (n:Hz),Vals xs us->Vals (xs.take n) (us.take n)
 | _,_,0,_=>.nil
 | _,_,_+1,.nil=>.nil
 | _,_,n+1,.cons r t=>.cons r (Vals.take n t)
def Vals.drop:∀ {xs:Ho V} {us:Ho Hr} (n:Hz),Vals xs us->Vals (xs.drop n) (us.drop n)
 | _,_,0,r=>r
 | _,_,_+1,.nil=>.nil
 | _,_,n+1,.cons _ t=>Vals.drop n t
abbrev r9:Hs V->Hs Hr->Prop
 | some v,ba u=>RelV v u
 | none,gV=>NK
 | _,_=>ID
abbrev KV {κ:Type}:Ho (κ×V)->Ho (κ×Hr)->Prop:=Mw λ(p:κ×V) (q:κ×Hr)=>p.1=q.1/\RelV p.2 q.2
abbrev kV:kB->V
 | .inl i=>.int i
 | .inr x=>.str x
inductive HO where
 | lst (xs:Ho V)
 | tup (xs:Ho V)
 | dK (U:Ho (kB×V))|dT (U:Ho (Ho kB×V))
 | set (S:HR->HP) (n:Hz)
 | ins (C dx:Hv) (fs:Ho (HC×V))
 | own (x:Hv)
 | xd (fs:Ho (HC×V))
 | met (f x:Hv)
 | rng (lo hi:HR)
 | frz (o:Jg) (u:HO)
 | tbl (ps:Iu Hr)
 | ext (φ:Ii->Prop)
noncomputable abbrev Hp:=Hv->Hs HO
abbrev aA (H:Hp)(a:Hv)(o:HO):Hp:=λb=>if b=a then ba o else H b
def ak {H:Hp}{a:Hv}{o:HO}:aA H a o a=ba o:=by unfold aA; rw[HN rfl]
def aj {H:Hp}{a b:Hv}{o:HO}(h:b≠a):aA H a o b=H b:=by unfold aA; rw[HY h]
def v8 {H:Hp}{a:Hv}{o u:HO}:aA (aA H a o) a u=aA H a u:=by
 funext b; unfold aA; split <;> rfl
def ci {H:Hp}{a b:Hv}{o:HO}(h:H a=ba o)(h':H b=gV):a≠b:=by
 intro e; subst e; rw[h]at h'; cases h'
section
variable (P:HM) (w:HX)
abbrev NoD (h:Ii)(a:Hv):Prop:=∃o,h.get? a=ba o/\o.dict=gV
def NoD.new (h:Ii)(its:Iu Hr)(n:Hz):NoD (h.push { cls:=.type "tuple",data:=.seq its n }) h.objs.size:=#[_,HG _ rfl,rfl]
abbrev ObjOk (H:Hp)(h:Ii)(a:Hv):HO->Prop
 | .lst xs=>xs.length<=sizeLine/\∃(its:Ho Hr) (n:Hz),Vals xs its/\h.get? a=ba { cls:=.type "list",data:=.seq its.toArray n }
 | .tup xs=>(xs.length<=sizeLine/\NoD h a)/\∃its:Ho Hr,Vals xs its/\NL h a its.toArray
 | .dK U=>U.length<=sizeLine/\(a==sysModules)=false/\∃vs,KV U vs/\h.DictOf (kC P w) a vs
 | .dT U=>U.length<=sizeLine/\(a==sysModules)=false/\∃xs:Ho (Ho kB×Hv×Hr),
   Mw (λ(p:Ho kB×V) (q:Ho kB×Hv×Hr)=>p.1=q.1/\H q.2.1=ba (.tup (p.1.map kV))/\RelV p.2 q.2.2) U xs/\
   ∃o es ep,h.get? a=ba o/\o.ExactDict/\o.data=.dict es ep/\es.toList=xs.map (entryOfKey (tupleKind (kC P w)))/\(xs.map (·.1)).Nodup
 | .set S n=>h.SetOf (intKind P w) a S n
 | .ins C dx fs=>H dx=ba (.own a)/\fs.length<=1000/\dx≠a/\h.get? a=ba (PySem.W.instObj C dx)/\
   ∃mA,h.Ns1 dx mA/\(∀f,r9 (fs.lookup f) (mA f))/\PySem.Within mA (fs.map (·.1))
 | .own _=>∃o,h.get? a=ba o
 | .xd fs=>∃mA,h.Ns1 a mA/\∀f,r9 (fs.lookup f) (mA f)
 | .rng lo hi=>∃t u v,h.get? a=ba { cls:=.type "range",data:=.fields [.int lo t,.int hi u,.int 1 v].toArray }
 | .frz o u=>h.get? a=ba o/\ObjOk H h a u
 | .tbl ps=>h.get? a=ba { cls:=.none,data:=.fields ps }
 | .met f x=>h.get? a=ba (Mf (.ref f) (.ref x))
 | .ext φ=>φ h/\(∃o,h.get? a=ba o)/\∀h1 h2:Ii,φ h1->(∀o,h1.get? a=ba o->h2.get? a=ba o)->φ h2
abbrev HOk (H:Hp)(h:Ii):Prop:=∀a o,H a=ba o->ObjOk P w H h a o
end
section
variable{P:HM}{w:HX}{H H':Hp}{h h':Ii}{a:Hv}{o:HO}
def ObjOk.lt (x:ObjOk P w H h a o):a < h.objs.size:=by
 cases o with
 | lst xs=>obtain⟨_,_,_,_,e⟩:=x; exact HF e
 | tup xs=>obtain⟨_,_,_,p⟩:=x; exact p.lt
 | dK U=>obtain⟨_,_,_,_,o,_,_,e,_⟩:=x; exact HF e
 | dT U=>obtain⟨_,_,_,_,o,_,_,e,_⟩:=x; exact HF e
 | set S n=>obtain⟨o,_,_,_,e,_⟩:=x; exact HF e
 | ins C dx fs=>obtain⟨_,_,_,e,_⟩:=x; exact HF e
 | own y=>obtain⟨_,e⟩:=x; exact HF e
 | xd fs=>obtain⟨_,⟨_,_,_,e,_⟩,_⟩:=x; exact HF e
 | rng lo hi=>obtain⟨_,_,_,e⟩:=x; exact HF e
 | frz ob u=>obtain⟨e,_⟩:=x; exact HF e
 | tbl ps=>exact HF (show h.get? a=ba _ from x)
 | met f y=>exact HF (show h.get? a=ba _ from x)
 | ext φ=>obtain⟨_,⟨_,e⟩,_⟩:=x; exact HF e
def Paired.mapP {α β:Type}{F G:α->β->Prop}:∀ {l₁:Ho α} {l₂:Ho β},Mw F l₁ l₂->(∀a b,F a b->G a b)->Mw G l₁ l₂
 | _,_,.nil,_=>.nil
 | _,_,.cons r t,f=>.cons (f _ _ r) (Paired.mapP t f)
def ObjOk.stay (x:ObjOk P w H h a o)(k:∀b u,(b=a\/H b=ba (.own a))->h.get? b=ba u->h'.get? b=ba u)
  (ho:∀b,H b=ba (.own a)->H' b=ba (.own a)) (ht:∀b xs,H b=ba (.tup xs)->H' b=ba (.tup xs)):ObjOk P w H' h' a o:=by
 induction o with
 | lst xs=>obtain⟨z,its,n,r,e⟩:=x; exact#[z,its,n,r,k _ _ (.inl rfl) e]
 | tup xs=>obtain⟨⟨z,ob',e',d⟩,its,r,ob,e,c⟩:=x; exact#[#[z,ob',k _ _ (.inl rfl) e',d],its,r,ob,k _ _ (.inl rfl) e,c]
 | dK U=>obtain⟨z,y,vs,r,ob,es,ep,e,c⟩:=x; exact#[z,y,vs,r,ob,es,ep,k _ _ (.inl rfl) e,c]
 | dT U=>
  obtain⟨z,y,xs,r,ob,es,ep,e,c⟩:=x;exact#[z,y,xs,Paired.mapP r λp q z=>#[z.1,ht _ _ z.2.1,z.2.2],ob,es,ep,k _ _ (.inl rfl) e,c]
 | set S n=>obtain⟨ob,es,ep,t,e,c⟩:=x; exact#[ob,es,ep,t,k _ _ (.inl rfl) e,c]
 | ins C dx fs=>
  obtain⟨d,z,ne,e,mA,⟨od,es,ep,e2,c⟩,r⟩:=x;exact#[ho _ d,z,ne,k _ _ (.inl rfl) e,mA,#[od,es,ep,k _ _ (.inr d) e2,c],r]
 | own y=>obtain⟨ob,e⟩:=x; exact#[ob,k _ _ (.inl rfl) e]
 | xd fs=>obtain⟨mA,⟨od,es,ep,e,c⟩,r⟩:=x; exact#[mA,#[od,es,ep,k _ _ (.inl rfl) e,c],r]
 | rng lo hi=>obtain⟨t,u,v,e⟩:=x; exact#[t,u,v,k _ _ (.inl rfl) e]
 | frz ob u ih=>obtain⟨e,q⟩:=x; exact#[k _ _ (.inl rfl) e,ih q]
 | tbl ps=>
  have e:h.get? a=ba { cls:=.none,data:=.fields ps }:=x;change h'.get? a=ba { cls:=.none,data:=.fields ps };exact k a _ (.inl rfl) e
 | met f y=>
  have e:h.get? a=ba (Mf (.ref f) (.ref y)):=x;change h'.get? a=ba (Mf (.ref f) (.ref y));exact k a _ (.inl rfl) e
 | ext φ=>obtain⟨p,⟨o,e⟩,st⟩:=x; exact#[st _ _ p λo q=>k _ _ (.inl rfl) q,#[o,k _ _ (.inl rfl) e],st]
def HOk.lt (x:HOk P w H h)(e:H a=ba o):a < h.objs.size:=(x a o e).lt
def HOk.fresh (x:HOk P w H h)(e:h.objs.size<=a):H a=gV:=by
 cases q:H a with
 | none=>rfl
 | some u=>exact absurd (HV (x.lt q) e) (Jc _)
def HOk.kept (x:HOk P w H h)(k:∀b u,h.get? b=ba u->h'.get? b=ba u):HOk P w H h':=λa o e=>
 (x a o e).stay (λb u _ q=>k b u q) (λ_ q=>q) λ_ _ q=>q
def HOk.laid (x:HOk P w H h)(k:∀b u,h.get? b=ba u->h'.get? b=ba u)(hp:h.objs.size<=a)(new:ObjOk P w (aA H a o) h' a o):HOk P w (aA H a o) h':=λb u e=>by
 have hn:=x.fresh hp
 by_cases hb:b=a
 ·subst hb; rw[ak]at e; cases e; exact new
 ·rw[aj hb]at e;exact(x b u e).stay (λc v _ q=>k c v q) (λc q=>by rw[aj (ci q hn)]; exact q) λc xs q=>by rw[aj (ci q hn)]; exact q
end
abbrev Rd (H:Hp)(a:Hv)(u:HO):Prop:=H a=ba u\/∃o,H a=ba (.frz o u)
def Rd.ok {P:HM}{w:HX}{H:Hp}{h:Ii}{a:Hv}{u:HO}(r:Rd H a u)(x:HOk P w H h):ObjOk P w H h a u:=by
 rcases r with r|⟨o,r⟩
 ·exact x a u r
 ·obtain⟨_,q⟩:=x a _ r;exact q
abbrev CC:Hs HO->Prop
 | some (.lst _)=>NK
 | some (.dK _)=>NK
 | some (.dT _)=>NK
 | some (.set _ _)=>NK
 | some (.ins _ _ _)=>NK
 | some (.ext _)=>NK
 | _=>ID
section
variable{P:HM}{w:HX}{H:Hp}{h h':Ii}{x e:Hv}{o':HO}
def HOk.write (ok:HOk P w H h)(mu:CC (H x))(he:e=x\/H e=ba (.own x))(k:∀b u,b≠e->h.get? b=ba u->h'.get? b=ba u)(heo:∃u,h'.get? e=ba u)
  (new:ObjOk P w (aA H x o') h' x o'):HOk P w (aA H x o') h':=λb u q=>by
 have nown:∀c y,H c=ba (.own y)->c≠x:=λc y r z=>by subst z; rw[r]at mu; exact mu
 have ntup:∀c xs,H c=ba (.tup xs)->c≠x:=λc xs r z=>by subst z; rw[r]at mu; exact mu
 by_cases hb:b=x
 ·subst hb; rw[ak]at q; cases q; exact new
 ·rw[aj hb]at q
  by_cases hbe:b=e
  ·have q':H b=ba (.own x):=by
    rcases he with z|z
    ·exact absurd (hbe.trans z) hb
    ·rw[hbe]; exact z
   rw[q]at q'; cases q'
   obtain⟨v,hv⟩:=heo;exact#[v,by rw[hbe]; exact hv]
  ·show(ok b u q).stay (λc v hc r=>k c v ?_ r) (λc r=>by rw[aj (nown c b r)]; exact r) λc xs r=>by rw[aj (ntup c xs r)]; exact r
   rcases hc with rfl|hc
   ·exact hbe
   ·rintro rfl;rcases he with z|z
    ·exact nown c b hc z
    ·rw[hc]at z; cases z; exact hb rfl
end
structure Un (fs ex:Ho Hv)(H H':Hp)(h h':Ii):Prop where
 keep:∀b o,h.get? b=ba o->H b=gV->b∉fs->b∉ex->h'.get? b=ba o
 slot:∀b o,h.get? b=ba o->H b=gV->b∈fs->b∉ex->∃sl,h'.get? b=ba { o with slots:=sl }
 free:∀b o,h.get? b=ba o->H b=gV->b∉ex->H' b=gV
 there:∀b o,h.get? b=ba o->b∉ex->∃o',h'.get? b=ba o'
 tups:∀b xs,H b=ba (.tup xs)->H' b=ba (.tup xs)
 frzs:∀b o u,H b=ba (.frz o u)->H' b=ba (.frz o u)
 tbls:∀b ps,H b=ba (.tbl ps)->∃more,H' b=ba (.tbl (ps++more))
section
variable{fs fs' ex ex':Ho Hv}{H H1 H2:Hp}{h h1 h2 h':Ii}{a x e:Hv}{o:HO}
def Un.any (u:Un fs ex H H1 h h1){b:Hv}{ob:Jg}(q:h.get? b=ba ob)(n:H b=gV)(hx:b∉ex):∃sl,h1.get? b=ba { ob with slots:=sl }:=by
 by_cases hb:b∈fs
 ·exact u.slot b ob q n hb hx
 ·exact#[ob.slots,u.keep b ob q n hb hx]
def Un.trans (a:Un fs ex H H1 h h1)(b:Un fs ex H1 H2 h1 h2):Un fs ex H H2 h h2 where
 keep:=λc ob q n hc hx=>b.keep c ob (a.keep c ob q n hc hx) (a.free c ob q n hx) hc hx
 slot:=λc ob q n hc hx=>by
  obtain⟨sl,e1⟩:=a.slot c ob q n hc hx;obtain⟨sl',e2⟩:=b.slot c _ e1 (a.free c ob q n hx) hc hx;exact#[sl',e2]
 free:=λc ob q n hx=>by
  obtain⟨o',e1⟩:=a.there c ob q hx;exact b.free c o' e1 (a.free c ob q n hx) hx
 there:=λc ob q hx=>by
  obtain⟨o',e1⟩:=a.there c ob q hx;exact b.there c o' e1 hx
 tups:=λc xs q=>b.tups c xs (a.tups c xs q)
 frzs:=λc ob xs q=>b.frzs c ob xs (a.frzs c ob xs q)
 tbls:=λc ps q=>by
  obtain⟨m1,e1⟩:=a.tbls c ps q;obtain⟨m2,e2⟩:=b.tbls c _ e1;exact#[m1++m2,by rw[e2,Nw]]
def Un.kept (k:∀b u,h.get? b=ba u->h'.get? b=ba u):Un fs ex H H h h':=
 #[λb ob q _ _ _=>k b ob q,λb ob q _ _ _=>#[ob.slots,k b ob q],λ_ _ _ n _=>n,λb ob q _=>#[ob,k b ob q],λ_ _ q=>q,λ_ _ _ q=>q,λ_ ps q=>#[#[],by rw[q]; simp]]
def Un.refl:Un fs ex H H h h:=Un.kept λ_ _ q=>q
def Un.laid (k:∀b u,h.get? b=ba u->h'.get? b=ba u)(hp:h.objs.size<=a)(hn:H a=gV):Un fs ex H (aA H a o) h h' where
 keep:=λb u q _ _ _=>k b u q
 slot:=λb u q _ _ _=>#[u.slots,k b u q]
 free:=λb u q n _=>by rw[aj (HU (HV (HF q) hp))]; exact n
 there:=λb u q _=>#[u,k b u q]
 tups:=λb xs q=>by rw[aj (ci q hn)]; exact q
 frzs:=λb u xs q=>by rw[aj (ci q hn)]; exact q
 tbls:=λb ps q=>#[#[],by rw[aj (ci q hn),q]; simp]
def Un.write (mu:CC (H x))(he:e=x\/H e=ba (.own x))(k:∀b u,b≠e->h.get? b=ba u->h'.get? b=ba u)(heo:∃u,h'.get? e=ba u):Un fs ex H (aA H x o) h h':=by
 have hx:∀b,H b=gV->b≠x:=λb n z=>by subst z; rw[n]at mu; exact mu
 have hb:∀b,H b=gV->b≠e:=λb n z=>by
  subst z;rcases he with r|r
  ·exact hx b n r
  ·rw[n]at r; cases r
 have hm:∀b u,H b=ba u->¬ CC (ba u)->b≠x:=λb u q nm z=>by subst z; rw[q]at mu; exact nm mu
 show#[λb u q n _ _=>k b u (hb b n) q,λb u q n _ _=>#[u.slots,k b u (hb b n) q],λb u q n _=>by rw[aj (hx b n)]; exact n,λb u q _=>?_,
  λb xs q=>by rw[aj (hm b _ q λz=>z)]; exact q,λb u xs q=>by rw[aj (hm b _ q λz=>z)]; exact q,λb ps q=>#[#[],by rw[aj (hm b _ q λz=>z),q]; simp]]
 by_cases hbe:b=e
 ·subst hbe; exact heo
 ·exact#[u,k b u hbe q]
end
abbrev E1 (h:Ii)(H:Hp):Ho Hv:=(IJ h.objs.size).filter λa=>(H a).isSome
abbrev kD (h:Ii)(H:Hp):Ii:=PySem.W.hideAll h (E1 h H)
def qD (h:Ii)(H:Hp):(kD h H).objs.size=h.objs.size:=PySem.W.hideAll_size _ _
def sf {h:Ii}{H:Hp}{b:Hv}{o:Jg}(e:h.get? b=ba o)(n:H b=gV):(kD h H).get? b=ba o:=
 PySem.W.hideAll_get _ e λhm=>by
  have q:(H b).isSome=true:=(Ke.mp hm).2;rw[n]at q; simp at q
def wa {h:Ii}{H:Hp}{b:Hv}{o:Jg}(e:(kD h H).get? b=ba o):h.get? b=ba o/\H b=gV:=by
 have e':h.get? b=ba o:=PySem.W.of_hideAll (E1 h H) e;show#[e',?_];cases q:H b with
 | none=>rfl
 | some x=>
  have hm:b∈E1 h H:=Ke.mpr #[Jp.mpr (HF e'),by simp[q]]
  have z:(kD h H).get? b=gV:=PySem.W.hideAll_none (E1 h H) hm;rw[z]at e; cases e
abbrev wb (g h:Ii)(L:Hv):Ho (Hv×Jg):=(IJ h.objs.size).filterMap λa=>if a=L\/(g.get? a).isSome=true then gV else(h.get? a).map λo=>(a,o)
abbrev au (g h:Ii)(L d:Hv):Ho (Hv×Jg):=(wb g h L).filter λp=>decide (p.1≠d)
structure Mod (K:HA)(mg:HC->Hs Hr)(base:Ii):Prop where
 kin:K.In base
 glob:base.Ns mainGlobals mg
 blt:∃mb,base.Ns builtinsNs mb/\∀x:HC,x≠"__name__"->mb x=bootBuiltins x
 nolimit:base.NoLimit
structure Cx where
 prog:HM
 w:HX
 K:HA
 mg:HC->Hs Hr
 base:Ii
 A:HW
 N:Ho HC
 s₀:Ht
 H₀:Hp
 env:LL
 outer:Ho LL
 stack:Ho LL
 ex:Ho Hv
 fn:HC->HP
 calm:HP
 pn:Ho (Hv×Jg)
 xe:Hr->Ht->Prop
abbrev jI (l:Ho LL):Ho Hv:=l.filterMap (·.frame)
noncomputable abbrev Cx.fs (X:Cx):Ho Hv:=jI X.outer
abbrev Fg (sc:Kh)(x:HC):Prop:=sc.names.lookup x=ba .local\/sc.names.lookup x=ba .cell\/sc.names.lookup x=ba .free
abbrev sg (sc:Kh)(x:HC):Prop:=sc.names.lookup x=ba .local\/sc.names.lookup x=ba .cell
abbrev Fh (env:LL)(h:Ii)(m:HC->Hs Hr)(x:HC)(u:Hr):Prop:=
 (env.kindOf x=ba .local/\m x=ba u)\/((env.kindOf x=ba .cell\/env.kindOf x=ba .free)/\∃c,env.cells.lookup x=ba c/\h.IsCell c (ba u))
structure Cx.Ok (X:Cx):Prop where
 mod:Mod X.K X.mg X.base
 kind:X.env.scope.kind=.function
 glob:X.env.globals=mainGlobals
 blt:X.env.builtins=builtinsNs
 above:X.s₀.heap.objs.size<=X.env.locals
 inj:∀x y c,X.env.cells.lookup x=ba c->X.env.cells.lookup y=ba c->x=y
 has:∀x,(X.env.kindOf x=ba .cell\/X.env.kindOf x=ba .free)->∃c,X.env.cells.lookup x=ba c
 cab:∀x c,X.fn x=true->X.env.cells.lookup x=ba c->X.s₀.heap.objs.size<=c
 hd:X.calm=true->X.A.handled=gV
 frames:X.A.frames=ba X.stack
 stk:X.stack=X.outer\/(X.stack=X.env::X.outer/\X.env.frame=ba X.env.locals)
 exf:∀b∈X.ex,b≠X.env.locals/\∀x c,X.env.cells.lookup x=ba c->c≠b
 bs:∀b o,X.base.get? b=ba o->X.s₀.heap.get? b=ba o/\X.H₀ b=gV
 bsz:X.base.objs.size<=X.s₀.heap.objs.size
 noex:∀b o,X.base.get? b=ba o->b∉X.ex
 exfs:∀b∈X.ex,b∉X.fs
 funs:X.s₀.heap.FunFrames X.base X.outer
 frf:∀b∈X.fs,X.H₀ b=gV
structure Inv (X:Cx)(J:Ho (Hv×Jg))(Y:Ho (Hs V))(H:Hp)(s:Ht):Prop where
 ok:X.Ok
 os:s.os=X.s₀.os
 bare:LH s.gens
 base:Un X.fs X.ex X.H₀ H X.s₀.heap s.heap
 loc:∃m,s.heap.Ns X.env.locals m/\∀(i:Hz) (x:HC) (v:V),X.N[i]?=ba x->Y[i]?=ba (ba v)->Fg X.env.scope x->∃u,RelV v u/\Fh X.env s.heap m x u
 cell:∀x c,X.env.cells.lookup x=ba c->∃v,s.heap.IsCell c v
 free:H X.env.locals=gV
 freeC:∀x c,X.env.cells.lookup x=ba c->H c=gV
 pin:∀p∈X.pn++J,s.heap.get? p.1=ba p.2/\H p.1=gV/\p.1≠X.env.locals/\p.1∉X.fs/\∀v,p.2.data≠.cell v
 hok:HOk X.prog X.w H s.heap
 len:Y.length=X.N.length
section
variable{X:Cx}{J:Ho (Hv×Jg)}{Y:Ho (Hs V)}{H H':Hp}{s:Ht}{h':Ii}
def Cx.Ok.nofr (ok:X.Ok){b:Hv}{o:Jg}(e:X.base.get? b=ba o):b∉X.fs:=λhb=>by
 have:=(ok.funs.mem hb).1;rw[e]at this; cases this
def Inv.bs (I:Inv X J Y H s):∀b o,X.base.get? b=ba o->s.heap.get? b=ba o/\H b=gV:=λb o e=>
 #[I.base.keep b o (I.ok.bs b o e).1 (I.ok.bs b o e).2 (I.ok.nofr e) (I.ok.noex b o e),I.base.free b o (I.ok.bs b o e).1 (I.ok.bs b o e).2 (I.ok.noex b o e)]
def Inv.bk (I:Inv X J Y H s):∀b o,X.base.get? b=ba o->s.heap.get? b=ba o:=λb o e=>(I.bs b o e).1
def Inv.mod (I:Inv X J Y H s):Mod X.K X.mg X.base:=I.ok.mod
def Inv.kIn (I:Inv X J Y H s):X.K.In s.heap:=I.ok.mod.kin.keeps I.bk
def Inv.lt (I:Inv X J Y H s):X.env.locals < s.heap.objs.size:=let ⟨_,hn,_⟩:=I.loc; hn.lt
def Inv.sz (I:Inv X J Y H s):X.s₀.heap.objs.size<=s.heap.objs.size:=Ix I.ok.above (J5 I.lt)
def Inv.nofs (I:Inv X J Y H s){a:Hv}(h:s.heap.objs.size<=a):a∉X.fs:=λhb=>by
 obtain⟨_,o,ho,_⟩:=I.ok.funs.mem hb;exact absurd (HV (HF ho) (Ix I.sz h)) (Jc _)
def Inv.cne (I:Inv X J Y H s):∀x c,X.env.cells.lookup x=ba c->c≠X.env.locals:=λx c e z=>by
 obtain⟨v,o,ho,hd⟩:=I.cell x c e;obtain⟨m,⟨o',es,ep,ho',hd',_⟩,_⟩:=I.loc;rw[z,ho']at ho; cases ho; rw[hd']at hd; cases hd
def Inv.funs (I:Inv X J Y H s):s.heap.FunFrames X.base X.outer:=by
 have all:∀(l:Ho LL),(∀b∈jI l,b∈X.fs)->X.s₀.heap.FunFrames X.base l->s.heap.FunFrames X.base l:=by
  intro l
  induction l with
  | nil=>intro _ _; trivial
  | cons env r ih=>
   intro hs hl;obtain⟨hk,⟨L,o,hf,hn,ho,hd⟩,hr⟩:=hl;have hL:L∈X.fs:=hs L (by unfold jI; rw[JM,hf]; exact Iw)
   obtain⟨sl,e⟩:=I.base.slot L o ho (I.ok.frf L hL) hL λz=>I.ok.exfs L z hL
   exact#[hk,#[L,_,hf,hn,e,hd],ih (λb hb=>hs b (by unfold jI; rw[JM,hf]; exact Ig _ hb)) hr]
 exact all X.outer (λ_ hb=>hb) I.ok.funs
def Inv.stack (I:Inv X J Y H s):s.heap.FunFrames X.base X.stack:=by
 rcases I.ok.stk with e|⟨e,hf⟩
 ·rw[e]; exact I.funs
 ·rw[e];obtain⟨m,hn,_⟩:=I.loc;show .cons (by rw[I.ok.kind]; decide) hf hn ?_ I.funs
  exact Heap.get?_none_of_le (Ix I.ok.bsz I.ok.above)
def Inv.stkSub (I:Inv X J Y H s):∀b∈jI X.stack,b∈X.env.locals::X.fs:=λb hb=>by
 rcases I.ok.stk with e|⟨e,hf⟩
 ·rw[e]at hb; exact Ig _ hb
 ·rw[e]at hb;unfold jI at hb;rw[JM,hf]at hb;exact hb
def Inv.stkFree (I:Inv X J Y H s):∀b∈jI X.stack,H b=gV:=λb hb=>by
 rcases Ij.mp (I.stkSub b hb)with e|hb
 ·rw[e]; exact I.free
 ·obtain⟨_,o,ho,_⟩:=I.ok.funs.mem hb;exact I.base.free b o ho (I.ok.frf b hb) λz=>I.ok.exfs b z hb
def Inv.step {g':Iu LM}{t':Hz}{d':Py}{ch:Ho Hv}(I:Inv X J Y H s)
  (hch:∀b∈ch,(b∈X.ex\/X.s₀.heap.objs.size<=b)/\b≠X.env.locals/\(∀x c,X.env.cells.lookup x=ba c->c≠b)/\∀p∈X.pn++J,p.1≠b)
  (keep:∀b o,b≠X.env.locals->b∉X.fs->b∉ch->s.heap.get? b=ba o->H b=gV->h'.get? b=ba o)
  (slot:∀b o,b≠X.env.locals->b∈X.fs->b∉ch->s.heap.get? b=ba o->H b=gV->∃sl,h'.get? b=ba { o with slots:=sl }) (free:∀b o,b∉ch->s.heap.get? b=ba o->H b=gV->H' b=gV)
  (there:∀b o,b∉ch->s.heap.get? b=ba o->∃o',h'.get? b=ba o')
  (tups:∀b xs,H b=ba (.tup xs)->H' b=ba (.tup xs)) (frzs:∀b o u,H b=ba (.frz o u)->H' b=ba (.frz o u)) (tbls:∀b ps,H b=ba (.tbl ps)->∃more,H' b=ba (.tbl (ps++more)))
  (ns:∀m,s.heap.Ns X.env.locals m->h'.Ns X.env.locals m) (hok:HOk X.prog X.w H' h') (hg:LH g') :
  Inv X J Y H' { s with heap:=h',gens:=g',drawn:=d',toks:=t' }:=by
 have neL:∀b o,X.s₀.heap.get? b=ba o->b≠X.env.locals:=λb o e=>HU (HV (HF e) I.ok.above)
 have neC:∀b o,X.s₀.heap.get? b=ba o->b∉X.ex->b∉ch:=λb o e hx hb=>by
  rcases(hch b hb).1 with z|z
  ·exact hx z
  ·exact absurd (HV (HF e) z) (Jc _)
 have cellK:∀x c,X.env.cells.lookup x=ba c->∀v,s.heap.IsCell c v->h'.IsCell c v:=λx c e v #[o,ho,hd]=>by
  have nch:c∉ch:=λz=>(hch c z).2.2.1 x c e rfl
  by_cases hc:c∈X.fs
  ·obtain⟨sl,q⟩:=slot c o (I.cne x c e) hc nch ho (I.freeC x c e);exact#[_,q,hd]
  ·exact#[o,keep c o (I.cne x c e) hc nch ho (I.freeC x c e),hd]
 show#[I.ok,I.os,hg,#[λb o e n hb hx=>?_,λb o e n hb hx=>?_,λb o e n hx=>?_,λb o e hx=>?_,λb xs e=>tups b xs (I.base.tups b xs e),λb o xs e=>frzs b o xs (I.base.frzs b o xs e),λb ps e=>?_],?_,λx c e=>?_,?_,λx c e=>?_,λp hp=>?_,hok,I.len]
 ·exact keep b o (neL b o e) hb (neC b o e hx) (I.base.keep b o e n hb hx) (I.base.free b o e n hx)
 ·obtain⟨sl,e1⟩:=I.base.slot b o e n hb hx;obtain⟨sl',e2⟩:=slot b _ (neL b o e) hb (neC b o e hx) e1 (I.base.free b o e n hx);exact#[sl',e2]
 ·obtain⟨o',e1⟩:=I.base.there b o e hx;exact free b o' (neC b o e hx) e1 (I.base.free b o e n hx)
 ·obtain⟨o',e1⟩:=I.base.there b o e hx;exact there b o' (neC b o e hx) e1
 ·obtain⟨m1,e1⟩:=I.base.tbls b ps e;obtain⟨m2,e2⟩:=tbls b _ e1;exact#[m1++m2,by rw[e2,Nw]]
 ·obtain⟨m,hn,hl⟩:=I.loc;show#[m,ns m hn,λi x v e1 e2 e3=>?_]
  obtain⟨u,r,l⟩:=hl i x v e1 e2 e3;show#[u,r,?_];rcases l with l|⟨k,c,e,z⟩
  ·exact .inl l
  ·exact .inr #[k,c,e,cellK x c e _ z]
 ·obtain⟨v,z⟩:=I.cell x c e;exact#[v,cellK x c e v z]
 ·obtain⟨m,⟨o,_,_,ho,_⟩,_⟩:=I.loc;exact free _ o (λz=>(hch _ z).2.1 rfl) ho I.free
 ·obtain⟨v,o,ho,hd⟩:=I.cell x c e;exact free c o (λz=>(hch c z).2.2.1 x c e rfl) ho (I.freeC x c e)
 ·obtain⟨e,n,ne,nf,d⟩:=I.pin p hp;have nch:p.1∉ch:=λz=>(hch p.1 z).2.2.2 p hp rfl
  exact#[keep p.1 p.2 ne nf nch e n,free p.1 p.2 nch e n,ne,nf,d]
def Inv.un {t':Hz}(I:Inv X J Y H s)(u:Un X.fs [] H H' s.heap h')(hok:HOk X.prog X.w H' h'):Inv X J Y H' { s with heap:=h',toks:=t' }:=by
 obtain⟨m,⟨o,es,ep,ho,r⟩,_⟩:=id I.loc;obtain⟨sl,hL⟩:=u.any ho I.free (by simp)
 exact I.step (g':=s.gens) (d':=s.drawn) (ch:=[]) (λ_ z=>nomatch z) (λb o _ hb _ e n=>u.keep b o e n hb (by simp)) (λb o _ hb _ e n=>u.slot b o e n hb (by simp)) (λb o _ e n=>u.free b o e n (by simp)) (λb o _ e=>u.there b o e (by simp)) u.tups u.frzs u.tbls (λm' hm=>by
  obtain⟨o',es',ep',ho',r'⟩:=hm;rw[ho]at ho'; cases ho'
  exact#[_,es',ep',hL,r']) hok I.bare
def Inv.call {g':Iu LM}{t':Hz}{d':Py}{ch:Ho Hv}(I:Inv X J Y H s)(u:Un (jI X.stack) ch H H' s.heap h')(hok:HOk X.prog X.w H' h')(hg:LH g')
  (hch:∀b∈ch,(b∈X.ex\/X.s₀.heap.objs.size<=b)/\b≠X.env.locals/\(∀x c,X.env.cells.lookup x=ba c->c≠b)/\∀p∈X.pn++J,p.1≠b) :
  Inv X J Y H' { s with heap:=h',gens:=g',drawn:=d',toks:=t' }:=by
 obtain⟨m,⟨o,es,ep,ho,r⟩,_⟩:=id I.loc;obtain⟨sl,hL⟩:=u.any ho I.free λz=>(hch _ z).2.1 rfl
 exact I.step (ch:=ch) hch (λb o hL hb hc e n=>u.keep b o e n (λz=>(Ij.mp (I.stkSub b z)).elim hL hb) hc) (λb o _ _ hc e n=>u.any e n hc) (λb o hc e n=>u.free b o e n hc) (λb o hc e=>u.there b o e hc) u.tups u.frzs u.tbls (λm' hm=>by
  obtain⟨o',es',ep',ho',r'⟩:=hm;rw[ho]at ho'; cases ho'
  exact#[_,es',ep',hL,r']) hok hg
def Inv.turned {t':Hz}{it:Hv}(I:Inv X J Y H s)(k:∀b o,b≠it->s.heap.get? b=ba o->h'.get? b=ba o)(hn:H it=gV)(hL:it≠X.env.locals)
  (h1:it∈X.ex\/X.s₀.heap.objs.size<=it) (h2:∀x c,X.env.cells.lookup x=ba c->c≠it) (h3:∀p∈X.pn++J,p.1≠it):Inv X J Y H { s with heap:=h',toks:=t' }:=by
 have nit:∀b u,H b=ba u->b≠it:=λb u e z=>by rw[z,hn]at e; cases e
 show I.step (g':=s.gens) (d':=s.drawn) (ch:=[it]) (λb hb=>?_) (λb o _ _ hc e _=>k b o (λz=>hc (by simp[z])) e) (λb o _ _ hc e _=>#[o.slots,k b o (λz=>hc (by simp[z])) e]) (λ_ _ _ _ n=>n)
  (λb o hc e=>#[o,k b o (λz=>hc (by simp[z])) e]) (λ_ _ e=>e) (λ_ _ _ e=>e) (λb ps e=>#[#[],by rw[e]; simp]) (λm hm=>?_) (λb u e=>?_) I.bare
 ·have e:b=it:=by simpa using hb
  subst e;exact#[h1,hL,h2,h3]
 ·obtain⟨o,es,ep,ho,r⟩:=hm;exact#[o,es,ep,k _ o (Ne.symm hL) ho,r]
 ·show(I.hok b u e).stay (λc v hc q=>k c v ?_ q) (λ_ q=>q) λ_ _ q=>q
  rcases hc with z|z
  ·rw[z]; exact nit b u e
  ·exact nit c _ z
def Inv.tok (I:Inv X J Y H s)(t:Hz):Inv X J Y H { s with toks:=t }:=I.un (h':=s.heap) (t':=t) Un.refl I.hok
def Inv.kept {t':Hz}(I:Inv X J Y H s)(k:∀b u,s.heap.get? b=ba u->h'.get? b=ba u):Inv X J Y H { s with heap:=h',toks:=t' }:=I.un (Un.kept k) (I.hok.kept k)
def Inv.laid {a:Hv}{o:HO}{t':Hz}(I:Inv X J Y H s)(k:∀b u,s.heap.get? b=ba u->h'.get? b=ba u)(hp:s.heap.objs.size<=a)(new:ObjOk X.prog X.w (aA H a o) h' a o) :
  Inv X J Y (aA H a o) { s with heap:=h',toks:=t' }:=I.un (Un.laid k hp (I.hok.fresh hp)) (I.hok.laid k hp new)
def Inv.write {x e:Hv}{o:HO}{t':Hz}(I:Inv X J Y H s)(mu:CC (H x))(he:e=x\/H e=ba (.own x))(k:∀b u,b≠e->s.heap.get? b=ba u->h'.get? b=ba u)(heo:∃u,h'.get? e=ba u)
  (new:ObjOk X.prog X.w (aA H x o) h' x o):Inv X J Y (aA H x o) { s with heap:=h',toks:=t' }:=I.un (Un.write mu he k heo) (I.hok.write mu he k heo new)
def Inv.pins_of {J':Ho (Hv×Jg)}(I:Inv X J Y H s)(h:∀p∈J',s.heap.get? p.1=ba p.2/\H p.1=gV/\p.1≠X.env.locals/\p.1∉X.fs/\∀v,p.2.data≠.cell v):Inv X J' Y H s:=
 #[I.ok,I.os,I.bare,I.base,I.loc,I.cell,I.free,I.freeC,λp hp=>(IV.mp hp).elim (λz=>I.pin p (JH _ z)) (h p),I.hok,I.len]
def iy {N:Ho HC}(hN:N.Nodup){i j:Hz}{x:HC}(a:N[i]?=ba x)(b:N[j]?=ba x):i=j:=by
 obtain⟨h1,e1⟩:=HD.mp a;obtain⟨h2,e2⟩:=HD.mp b;exact(Oc hN).mp (e1.trans e2.symm)
def qE {Mqa:Mg}{A:HW}{E:Hr->Ht->Prop}{i:Hz}{x:HC}{v:V}{u:Hr}{Q:P2->Ht->Prop}(I:Inv X J Y H s)(hN:X.N.Nodup)(hi:X.N[i]?=ba x)(hx:sg X.env.scope x)(r:RelV v u)
  (h:∀s',Inv X J (Y.set i (ba v)) H s'->(∃a,Ki a s.heap s'.heap/\(a=X.env.locals\/X.env.cells.lookup x=ba a))->Q () s') (hf:X.fn x=true\/X.env.scope.names.lookup x=ba .local):wpAny Mqa A (storeName X.env x u) Q E s:=by
 obtain⟨m,hn,hl⟩:=id I.loc;have hcls:(X.env.scope.kind==.class||(X.env.scope.kind==.module&&X.env.locals != X.env.globals))=false:=by rw[I.ok.kind]; rfl
 have hiσ:i < Y.length:=by rw[I.len]; exact(HD.mp hi).1
 have cne:=I.cne;have tracked:∀ {a:Hv} {h':Ii},(∃o,s.heap.get? a=ba o/\H a=gV)->Ki a s.heap h'->HOk X.prog X.w H h':=λ{a h'} ha hs b ob e=>by
  obtain⟨_,_,hfree⟩:=ha;show(I.hok b ob e).stay (λc w' hc q=>(hs.2 c ?_).trans q) (λ_ q=>q) λ_ _ q=>q
  rintro rfl;rcases hc with rfl|hc
  ·rw[hfree]at e; cases e
  ·rw[hfree]at hc; cases hc
 rcases hx with hk|hk
 ·show wpAny_storeName_local hk hn (λh' hn' hs=>?_) hcls
  obtain⟨oL,_,_,hoL,_⟩:=id hn;show h _ #[I.ok,I.os,I.bare,#[λb o e n hb hx=>?_,λb o e n hb hx=>?_,I.base.free,λb o e hx=>?_,I.base.tups,I.base.frzs,I.base.tbls],#[_,hn',λj y v' e1 e2 e3=>?_],λy c e=>?_,I.free,I.freeC,λp hp=>?_,tracked #[oL,hoL,I.free] hs,by simpa using I.len] #[_,hs,.inl rfl]
  ·exact(hs.2 b (HU (HV (HF e) I.ok.above))).trans (I.base.keep b o e n hb hx)
  ·obtain⟨sl,e1⟩:=I.base.slot b o e n hb hx;exact#[sl,(hs.2 b (HU (HV (HF e) I.ok.above))).trans e1]
  ·obtain⟨o',e1⟩:=I.base.there b o e hx;exact#[o',(hs.2 b (HU (HV (HF e) I.ok.above))).trans e1]
  ·by_cases hj:j=i
   ·subst hj;rw[hi]at e1; cases e1
    rw[Kw hiσ]at e2;cases e2;exact#[u,r,.inl #[hk,by simp]]
   ·rw[KI (Ne.symm hj)]at e2;obtain⟨u',r',q⟩:=hl j y v' e1 e2 e3;show#[u',r',?_];rcases q with⟨k,e⟩|⟨k,c,e,z⟩
    ·show .inl #[k,?_];have:y≠x:=λe=>hj (iy hN e1 (e ▸ hi))
     simp[this,e]
    ·exact .inr #[k,c,e,z.sameBut hs (cne y c e)]
  ·obtain⟨w',z⟩:=I.cell y c e;exact#[w',z.sameBut hs (cne y c e)]
  ·obtain⟨e,n,ne,nf,d⟩:=I.pin p hp;exact#[(hs.2 p.1 ne).trans e,n,ne,nf,d]
 ·have hfn:X.fn x=true:=by
   rcases hf with z|z
   ·exact z
   ·rw[z]at hk; cases hk
  obtain⟨c,hc⟩:=I.ok.has x (.inl hk);obtain⟨w',z⟩:=I.cell x c hc;show wpAny_storeName_cell I.ok.kind hk hc z (λh' hc' hs=>?_)
  obtain⟨oc,hoc,hocd⟩:=id z;show h { s with heap:=h' } #[I.ok,I.os,I.bare,#[λb o e n hb hx=>?_,λb o e n hb hx=>?_,I.base.free,λb o e hx=>?_,I.base.tups,I.base.frzs,I.base.tbls],#[m,hn.sameBut hs (Ne.symm (cne x c hc)),λj y v' e1 e2 e3=>?_],λy c' e=>?_,I.free,I.freeC,λp hp=>?_,tracked #[oc,hoc,I.freeC x c hc] hs,by simpa using I.len] #[c,hs,.inr hc]
  ·exact(hs.2 b (HU (HV (HF e) (I.ok.cab x c hfn hc)))).trans (I.base.keep b o e n hb hx)
  ·obtain⟨sl,e1⟩:=I.base.slot b o e n hb hx;exact#[sl,(hs.2 b (HU (HV (HF e) (I.ok.cab x c hfn hc)))).trans e1]
  ·obtain⟨o',e1⟩:=I.base.there b o e hx;exact#[o',(hs.2 b (HU (HV (HF e) (I.ok.cab x c hfn hc)))).trans e1]
  ·by_cases hj:j=i
   ·subst hj;rw[hi]at e1; cases e1
    rw[Kw hiσ]at e2;cases e2;exact#[u,r,.inr #[.inl hk,c,hc,hc']]
   ·rw[KI (Ne.symm hj)]at e2;obtain⟨u',r',q⟩:=hl j y v' e1 e2 e3;show#[u',r',?_];rcases q with q|⟨k,c',e,z'⟩
    ·exact .inl q
    ·show .inr #[k,c',e,z'.sameBut hs ?_];rintro rfl;exact hj (iy hN e1 (I.ok.inj _ _ _ e hc ▸ hi))
  ·by_cases hcc:c'=c
   ·subst hcc; exact#[_,hc']
   ·obtain⟨w2,z2⟩:=I.cell y c' e;exact#[w2,z2.sameBut hs hcc]
  ·obtain⟨e,n,ne,nf,d⟩:=I.pin p hp;show#[(hs.2 p.1 ?_).trans e,n,ne,nf,d];intro q;rw[q,hoc]at e;have q':oc=p.2:=Jt e;exact d w' (by rw[<- q']; exact hocd)
def bI {Mqa:Mg}{A:HW}{E:Hr->Ht->Prop}{i:Hz}{x:HC}{v:V}{u:Hr}{Q:P2->Ht->Prop}(I:Inv X J Y H s)(hN:X.N.Nodup)(hi:X.N[i]?=ba x)(hx:sg X.env.scope x)(r:RelV v u)
  (h:∀s',Inv X J (Y.set i (ba v)) H s'->Q () s') (hf:X.fn x=true\/X.env.scope.names.lookup x=ba .local):wpAny Mqa A (storeName X.env x u) Q E s:=
 qE I hN hi hx r (λs' I' _=>h s' I') hf
def Inv.call' {s':Ht}{ch:Ho Hv}(I:Inv X J Y H s)(ho:s'.os=s.os)(u:Un (jI X.stack) ch H H' s.heap s'.heap)(hok:HOk X.prog X.w H' s'.heap)(hg:LH s'.gens)
  (hch:∀b∈ch,(b∈X.ex\/X.s₀.heap.objs.size<=b)/\b≠X.env.locals/\(∀x c,X.env.cells.lookup x=ba c->c≠b)/\∀p∈X.pn++J,p.1≠b):Inv X J Y H' s':=by
 obtain⟨h',g',d',t',o'⟩:=s';have e:o'=s.os:=ho;subst e;exact I.call (g':=g') (t':=t') (d':=d') u hok hg hch
end
noncomputable abbrev XK:=Hr->Hs Hv->Hp->Prop
noncomputable abbrev St:=Ho (Hs V)
noncomputable abbrev VK:=V->Hp->Prop
noncomputable abbrev TE:=St->Hp->VK->Prop
noncomputable abbrev TT:=St->Hp->(HP->Hp->Prop)->Prop
noncomputable abbrev TA:=St->Hp->(Ho V->Hp->Prop)->Prop
structure Ends where
 nx:St->Hp->Prop
 rt:VK
 bk:St->Hp->Prop:=λ_ _=>ID
 ct:St->Hp->Prop:=λ_ _=>ID
noncomputable abbrev TS:=Ends->St->Hp->Prop
inductive EP (X:Cx)(J:Ho (Hv×Jg))(Y:St)(Q:VK)(u:Hr)(s':Ht):Prop
 | mk (v:V) (H':Hp) (i:Inv X J Y H' s') (r:RelV v u) (q:Q v H'):EP X J Y Q u s'
inductive TP (X:Cx)(J:Ho (Hv×Jg))(Y:St)(Q:HP->Hp->Prop)(b:HP)(s':Ht):Prop
 | mk (H':Hp) (i:Inv X J Y H' s') (q:Q b H'):TP X J Y Q b s'
inductive AP (X:Cx)(J:Ho (Hv×Jg))(Y:St)(Q:Ho V->Hp->Prop)(us:Ho Hr)(s':Ht):Prop
 | mk (vs:Ho V) (H':Hp) (i:Inv X J Y H' s') (r:Vals vs us) (q:Q vs H'):AP X J Y Q us s'
abbrev SP (X:Cx)(J:Ho (Hv×Jg))(D:Ends)(f:Qj)(s':Ht):Prop:=
 match f with
 | .next=>∃Y' H',Inv X J Y' H' s'/\D.nx Y' H'
 | .brk=>∃Y' H',Inv X J Y' H' s'/\D.bk Y' H'
 | .cont=>∃Y' H',Inv X J Y' H' s'/\D.ct Y' H'
 | .ret u=>∃v Y' H',Inv X J Y' H' s'/\RelV v u/\D.rt v H'
abbrev PE (X:Cx)(e:HH)(t:TE):Prop:=
 ∀(J:Ho (Hv×Jg)) (s:Ht) (Y:St) (H:Hp) (Q:VK),Inv X J Y H s->t Y H Q->wpAny (model X.prog X.w) X.A (eval e X.env) (EP X J Y Q) X.xe s
abbrev PT (X:Cx)(e:HH)(t:TT):Prop:=
 ∀(J:Ho (Hv×Jg)) (s:Ht) (Y:St) (H:Hp) (Q:HP->Hp->Prop),Inv X J Y H s->t Y H Q->wpAny (model X.prog X.w) X.A (isTrue e X.env (eval e X.env)) (TP X J Y Q) X.xe s
abbrev PW (X:Cx)(e:HH)(t:TT):Prop:=
 ∀(whole:O6 Hr) (J:Ho (Hv×Jg)) (s:Ht) (Y:St) (H:Hp) (Q:HP->Hp->Prop),Inv X J Y H s->t Y H Q->wpAny (model X.prog X.w) X.A (isTrue e X.env whole) (TP X J Y Q) X.xe s
def PW.pt {X:Cx}{e:HH}{t:TT}(h:PW X e t):PT X e t:=h _
abbrev PA (X:Cx)(es:Ho HH)(t:TA):Prop:=
 ∀(pos:Jw) (J:Ho (Hv×Jg)) (s:Ht) (Y:St) (H:Hp) (Q:Ho V->Hp->Prop),Inv X J Y H s->t Y H Q->wpAny (model X.prog X.w) X.A (spliced (backTo pos (starEach es X.env))) (AP X J Y Q) X.xe s
abbrev PS (X:Cx)(st:Jf)(t:TS):Prop:=
 ∀(J:Ho (Hv×Jg)) (s:Ht) (Y:St) (H:Hp) (D:Ends),Inv X J Y H s->t D Y H->wpAny (model X.prog X.w) X.A (exec st X.env) (SP X J D) X.xe s
abbrev PSs (X:Cx)(st:Ho Jf)(t:TS):Prop:=
 ∀(J:Ho (Hv×Jg)) (s:Ht) (Y:St) (H:Hp) (D:Ends),Inv X J Y H s->t D Y H->wpAny (model X.prog X.w) X.A (execs st X.env) (SP X J D) X.xe s
def aG {α:Type}{t:O6 α}{Q Q':α->Ht->Prop}{Mqa:Mg}{A:HW}{E:Hr->Ht->Prop}{s:Ht}(h:wpAny Mqa A t Q E s)(hQ:∀a s,Q a s->Q' a s):wpAny Mqa A t Q' E s:=IE h hQ λ_ _ x=>x
section
variable{X:Cx}
def Hn {a b:HH}{ta tb:TE}(ha:PE X a ta)(hb:PE X b tb){J:Ho (Hv×Jg)}{s:Ht}{Y:St}{H:Hp}{R:V->V->Hp->Prop}(I:Inv X J Y H s)(h:ta Y H λx H1=>tb Y H1 λy H2=>R x y H2)
  {α:Type} {Q:α->Ht->Prop} {f:Hr->Hr->O6 α}
  (hf:∀v u s2 x y H2,Inv X J Y H2 s2->RelV x v->RelV y u->R x y H2->wpAny (model X.prog X.w) X.A (f v u) Q X.xe s2) :
  wpAny (model X.prog X.w) X.A (eval a X.env) (λv s₁=>wpAny (model X.prog X.w) X.A (eval b X.env) (λu s₂=>wpAny (model X.prog X.w) X.A (f v u) Q X.xe s₂) X.xe s₁) X.xe s:=by
 show aG (ha J s Y H _ I h) λv s1 #[x,H1,I1,r1,q1]=>?_
 show aG (hb J s1 Y H1 _ I1 q1) λu s2 #[y,H2,I2,r2,q2]=>?_
 exact hf v u s2 x y H2 I2 r1 r2 q2
abbrev nB (i:Hz):TE:=λY H Q=>∃v,Y[i]?=ba (ba v)/\Q v H
abbrev tC (v:V):TE:=λ_ H Q=>Q v H
def gq {i:Hz}{x:HC}{pos:Jw}(hN:X.N[i]?=ba x)(hv:Fg X.env.scope x)(hd:(x==("__debug__" : HC))=false:=by decide)(hcd:(x==("__classdict__" : HC))=false:=by decide):PE X (.Name x pos) (nB i):=by
 intro J s Y H Q I h;obtain⟨v,e,h⟩:=h;obtain⟨m,hn,hl⟩:=I.loc;obtain⟨u,r,l⟩:=hl i x v hN e hv;have fin:EP X J Y Q u s:=#[v,H,I,r,h];rcases l with⟨hk,hm⟩|⟨hk,c,hc,hcell⟩
 ·exact OL (wpAny_loadName_local I.ok.kind hk hn hm fin) hd
 ·rcases hk with hk|hk
  ·exact OL (wpAny_loadName_cell I.ok.kind hk hc hcell fin) hd
  ·exact OL (wpAny_loadName_free I.ok.kind hk hc hcell fin hcd) hd
def kE {i j pos}:PE X (.Constant (.int i) j pos) (tC (.int i)):=λ_ _ _ H _ I h=>wpAny_Constant_int #[.int i,H,I.tok _,#[_,rfl],h]
def lL {b j pos}:PE X (.Constant (.bool b) j pos) (tC (.bl b)):=λ_ _ _ H _ I h=>Constant_bool #[.bl b,H,I,rfl,h]
def kF {j pos}:PE X (.Constant .none j pos) (tC .non):=λ_ _ _ H _ I h=>Constant_none #[.non,H,I,rfl,h]
def kG {x j pos}:PE X (.Constant (.str x) j pos) (tC (.str x)):=λ_ _ _ H _ I h=>Nx #[.str x,H,I.tok _,#[_,rfl],h]
abbrev Gl (X:Cx)(x:HC):Prop:=X.env.kindOf x=ba .globalImplicit
def cz {E:Hr->Ht->Prop}{J:Ho (Hv×Jg)}{s:Ht}{Y:St}{H:Hp}{x:HC}{u:Hr}{pos:Jw}{Q:Hr->Ht->Prop}(I:Inv X J Y H s)(hg:Gl X x)(hm:X.mg x=ba u)(h:Q u s)
  (hd:(x==("__debug__" : HC))=false:=by decide):wpAny (model X.prog X.w) X.A (eval (.Name x pos) X.env) Q E s:=
 LN I.ok.kind hg (Calls.loadGlobal_global (by rw[I.ok.glob]; exact I.mod.glob.keeps I.bk) hm h) hd
def gr {E:Hr->Ht->Prop}{J:Ho (Hv×Jg)}{s:Ht}{Y:St}{H:Hp}{x:HC}{u:Hr}{pos:Jw}{Q:Hr->Ht->Prop}(I:Inv X J Y H s)(hg:Gl X x)(hm:X.mg x=gV)(hv:bootBuiltins x=ba u)(h:Q u s)
  (hn:x≠"__name__":=by decide) (hd:(x==("__debug__" : HC))=false:=by decide):wpAny (model X.prog X.w) X.A (eval (.Name x pos) X.env) Q E s:=by
 obtain⟨mb,h1,h2⟩:=I.mod.blt;exact LN I.ok.kind hg (Calls.loadGlobal_builtin (by rw[I.ok.glob]; exact I.mod.glob.keeps I.bk) hm (by rw[I.ok.blt]; exact h1.keeps I.bk) ((h2 x hn).trans hv) h) hd
def oX {x:HC}{v:V}{u:Hr}{pos:Jw}(hg:Gl X x)(hm:X.mg x=ba u)(r:RelV v u)(hd:(x==("__debug__" : HC))=false:=by decide):PE X (.Name x pos) (tC v):=
 λ_ _ _ H _ I h=>cz I hg hm #[v,H,I,r,h] hd
def oY {x:HC}{v:V}{u:Hr}{pos:Jw}(hg:Gl X x)(hm:X.mg x=gV)(hv:bootBuiltins x=ba u)(r:RelV v u)(hn:x≠"__name__":=by decide)(hd:(x==("__debug__" : HC))=false:=by decide):PE X (.Name x pos) (tC v):=
 λ_ _ _ H _ I h=>gr I hg hm hv #[v,H,I,r,h] hn hd
variable{a b:HH}{ta tb:TE}{pos:Jw}
variable{tA tB':TT}{au:Ho HH}
abbrev CD (t u:TT):TT:=λY H Q=>t Y H λc H1=>if c=true then u Y H1 Q else Q false H1
abbrev GK (t u:TT):TT:=λY H Q=>t Y H λc H1=>if c=true then Q true H1 else u Y H1 Q
abbrev Fi (t:TT):TT:=λY H Q=>t Y H λc H1=>Q (!c) H1
def wc (ha:PT X a tA):PW X (.BoolOp .And [a] pos) tA:=by
 intro wh J s Y H Q I h;show isTrue_and (aG (ha J s Y H Q I h) λc s1 e=>?_)
 cases c with
 | true=>exact isTrue_and_nil e
 | false=>exact e
def z8 (ha:PT X a tA):PW X (.BoolOp .Or [a] pos) tA:=by
 intro wh J s Y H Q I h;show isTrue_or (aG (ha J s Y H Q I h) λc s1 e=>?_)
 cases c with
 | false=>exact isTrue_or_nil e
 | true=>exact e
def z9 (ha:PT X a tA)(hb:PW X (.BoolOp .And (b::au) pos) tB'):PW X (.BoolOp .And (a::b::au) pos) (CD tA tB'):=by
 intro wh J s Y H Q I h;show isTrue_and (aG (ha J s Y H _ I h) λc s1 #[H1,I1,q1]=>?_)
 cases c with
 | true=>exact hb wh J s1 Y H1 Q I1 q1
 | false=>exact#[H1,I1,q1]
def CF (ha:PT X a tA)(hb:PW X (.BoolOp .Or (b::au) pos) tB'):PW X (.BoolOp .Or (a::b::au) pos) (GK tA tB'):=by
 intro wh J s Y H Q I h;show isTrue_or (aG (ha J s Y H _ I h) λc s1 #[H1,I1,q1]=>?_)
 cases c with
 | true=>exact#[H1,I1,q1]
 | false=>exact hb wh J s1 Y H1 Q I1 q1
def Aa (ha:PT X a tA):PT X (.UnaryOp .Not a pos) (Fi tA):=by
 intro J s Y H Q I h;exact isTrue_not (aG (ha J s Y H (λc H1=>Q (!c) H1) I h) λ_ _ #[H1,i,q]=>#[H1,i,q])
abbrev CG (ta tb:TE):TE:=λY H Q=>ta Y H λx H1=>∃c,x=.bl c/\if c=true then tb Y H1 Q else Q (.bl false) H1
abbrev Fj (ta tb:TE):TE:=λY H Q=>ta Y H λx H1=>∃c,x=.bl c/\if c=true then Q (.bl true) H1 else tb Y H1 Q
abbrev CH (ta:TE):TE:=λY H Q=>ta Y H λx H1=>∃c,x=.bl c/\Q (.bl (!c)) H1
def Ab {op}{t:TE}(h:PE X a t):PE X (.BoolOp op [a] pos) t:=λJ s Y H Q I hw=>BoolOp_one (h J s Y H Q I hw)
def Ac (ha:PE X a ta)(hb:PE X (.BoolOp .And (b::au) pos) tb):PE X (.BoolOp .And (a::b::au) pos) (CG ta tb):=by
 intro J s Y H Q I h;show BoolOp_and (aG (ha J s Y H _ I h) λv s1 #[x,H1,I1,r1,q1]=>?_)
 obtain⟨c,rfl,q1⟩:=q1;cases r1;show Jm ?_;cases c with
 | true=>exact hb J s1 Y H1 Q I1 q1
 | false=>exact#[.bl false,H1,I1,rfl,q1]
def CI (ha:PE X a ta)(hb:PE X (.BoolOp .Or (b::au) pos) tb):PE X (.BoolOp .Or (a::b::au) pos) (Fj ta tb):=by
 intro J s Y H Q I h;show BoolOp_or (aG (ha J s Y H _ I h) λv s1 #[x,H1,I1,r1,q1]=>?_)
 obtain⟨c,rfl,q1⟩:=q1;cases r1;show Jm ?_;cases c with
 | false=>exact hb J s1 Y H1 Q I1 q1
 | true=>exact#[.bl true,H1,I1,rfl,q1]
def Ad (ha:PE X a ta):PE X (.UnaryOp .Not a pos) (CH ta):=by
 intro J s Y H Q I h;show UnaryOp_ (aG (ha J s Y H _ I h) λv s1 #[x,H1,I1,r1,q1]=>?_)
 obtain⟨c,rfl,q1⟩:=q1;cases r1;exact not_of (Jm #[.bl (!c),H1,I1,rfl,q1])
abbrev G1 (t:TT)(ta tb:TE):TE:=λY H Q=>t Y H λc H1=>if c=true then ta Y H1 Q else tb Y H1 Q
def sh {c:HH}(hc:PT X c tA)(ha:PE X a ta)(hb:PE X b tb):PE X (.IfExp c a b pos) (G1 tA ta tb):=by
 intro J s Y H Q I h;show wpAny_IfExp (aG (hc J s Y H _ I h) λd s1 #[H1,I1,q1]=>?_)
 cases d with
 | true=>exact ha J s1 Y H1 Q I1 q1
 | false=>exact hb J s1 Y H1 Q I1 q1
end
abbrev SqL (K:HA)(H:Hp)(a:Hv)(xs:Ho V):Prop:=
 Rd H a (.lst xs)\/
  ∃(o:Jg) (its:Iu Hr) (n:Hz),K.lookup a=ba o/\o.cls=.type "list"/\o.dict=gV/\o.data=.seq its n/\its.size<=sizeLine/\Vals xs its.toList
abbrev SqT (K:HA)(H:Hp)(a:Hv)(xs:Ho V):Prop:=
 Rd H a (.tup xs)\/
  ∃(o:Jg) (its:Iu Hr) (n:Hz),K.lookup a=ba o/\o.cls=.type "tuple"/\o.dict=gV/\o.data=.seq its n/\its.size<=sizeLine/\Vals xs its.toList
abbrev Fk:Hr->Hs V
 | .none=>ba .non
 | .bool b=>ba (.bl b)
 | .int i _=>ba (.int i)
 | .str x _=>ba (.str x)
 | .bytes b _=>ba (.byt b)
 | .float b _=>ba (.flt b)
 | .ref a=>ba (.ref a)
 | .type n=>ba (.ty n)
 | _=>gV
def RelV.abs {x:V}{u:Hr}(r:RelV x u):Fk u=ba x:=by
 cases x with
 | non=>cases r; rfl
 | bl _=>cases r; rfl
 | int _=>obtain⟨t,rfl⟩:=r; rfl
 | str _=>obtain⟨t,rfl⟩:=r; rfl
 | byt _=>obtain⟨t,rfl⟩:=r; rfl
 | flt _=>obtain⟨t,rfl⟩:=r; rfl
 | ref _=>cases r; rfl
 | ty _=>cases r; rfl
def RelV.inj {x y:V}{u:Hr}(r:RelV x u)(q:RelV y u):x=y:=Jt (r.abs.symm.trans q.abs)
def Vals.inj:∀ {xs ys:Ho V} {us:Ho Hr},Vals xs us->Vals ys us->xs=ys
 | _,_,_,.nil,.nil=>rfl
 | _,_,_,.cons r t,.cons r' t'=>by rw[r.inj r',Vals.inj t t']
section
variable{X:Cx}{J:Ho (Hv×Jg)}{Y:St}{H:Hp}{s:Ht}{a:Hv}{xs ys:Ho V}
def SqL.of {K:HA}(h:H a=ba (.lst xs)):SqL K H a xs:=.inl (.inl h)
def SqT.of {K:HA}(h:H a=ba (.tup xs)):SqT K H a xs:=.inl (.inl h)
def Inv.list (I:Inv X J Y H s)(h:SqL X.K H a xs):∃its:Ho Hr,Vals xs its/\PlainL s.heap a its.toArray/\xs.length<=sizeLine:=by
 rcases h with h|⟨o,its,n,hk,hc,hd,hs,hz,r⟩
 ·obtain⟨z,its,n,r,e⟩:=h.ok I.hok;exact#[its,r,#[_,n,e,rfl,rfl,rfl],z]
 ·show#[its.toList,r,#[o,n,I.kIn a o hk,hc,hd,by simpa using hs],?_]
  have e:=r.length;simp only[Ip]at e;omega
def Inv.tuple (I:Inv X J Y H s)(h:SqT X.K H a xs):∃its:Ho Hr,Vals xs its/\NL s.heap a its.toArray/\xs.length<=sizeLine:=by
 rcases h with h|⟨o,its,n,hk,hc,hd,hs,hz,r⟩
 ·obtain⟨z,its,r,p⟩:=h.ok I.hok;exact#[its,r,p,z.1]
 ·show#[its.toList,r,#[o,I.kIn a o hk,hc,n,by simpa using hs],?_]
  have e:=r.length;simp only[Ip]at e;omega
def Inv.list_inj (I:Inv X J Y H s)(h:SqL X.K H a xs)(h':SqL X.K H a ys):xs=ys:=by
 obtain⟨its,r,⟨o,n,e,_,_,d⟩,_⟩:=I.list h;obtain⟨its',r',⟨o',n',e',_,_,d'⟩,_⟩:=I.list h';rw[e]at e'; cases e'
 rw[d]at d';injection d' with d1 _
 have:its=its':=by simpa using congrArg Pn d1
 subst this;exact r.inj r'
def Inv.tuple_inj (I:Inv X J Y H s)(h:SqT X.K H a xs)(h':SqT X.K H a ys):xs=ys:=by
 obtain⟨its,r,⟨o,e,_,n,d⟩,_⟩:=I.tuple h;obtain⟨its',r',⟨o',e',_,n',d'⟩,_⟩:=I.tuple h';rw[e]at e'; cases e'
 rw[d]at d';injection d' with d1 _
 have:its=its':=by simpa using congrArg Pn d1
 subst this;exact r.inj r'
end
noncomputable abbrev Cx.wish (X:Cx)(E:Hr->Ht->Prop):Cx:={ X with xe:=E }
noncomputable abbrev Cx.nox (X:Cx):Cx:=X.wish λ_ _=>ID
def Cx.Ok.wish {X:Cx}(ok:X.Ok)(E:Hr->Ht->Prop):(X.wish E).Ok:=
 #[ok.mod,ok.kind,ok.glob,ok.blt,ok.above,ok.inj,ok.has,ok.cab,ok.hd,ok.frames,ok.stk,ok.exf,ok.bs,ok.bsz,ok.noex,ok.exfs,ok.funs,ok.frf]
def Cx.Ok.unwish {X:Cx}{E:Hr->Ht->Prop}(ok:(X.wish E).Ok):X.Ok:=
 #[ok.mod,ok.kind,ok.glob,ok.blt,ok.above,ok.inj,ok.has,ok.cab,ok.hd,ok.frames,ok.stk,ok.exf,ok.bs,ok.bsz,ok.noex,ok.exfs,ok.funs,ok.frf]
section
variable{X:Cx}{J:Ho (Hv×Jg)}{Y:St}{H:Hp}{s:Ht}{E:Hr->Ht->Prop}
def Inv.wish (I:Inv X J Y H s)(E:Hr->Ht->Prop):Inv (X.wish E) J Y H s:=#[I.ok.wish E,I.os,I.bare,I.base,I.loc,I.cell,I.free,I.freeC,I.pin,I.hok,I.len]
def Inv.unwish (I:Inv (X.wish E) J Y H s):Inv X J Y H s:=#[I.ok.unwish,I.os,I.bare,I.base,I.loc,I.cell,I.free,I.freeC,I.pin,I.hok,I.len]
def SP.unwish {D:Ends}{f:Qj}{s':Ht}(h:SP (X.wish E) J D f s'):SP X J D f s':=by
 cases f with
 | next=>obtain⟨Y',H',I,q⟩:=h; exact#[Y',H',I.unwish,q]
 | brk=>obtain⟨Y',H',I,q⟩:=h; exact#[Y',H',I.unwish,q]
 | cont=>obtain⟨Y',H',I,q⟩:=h; exact#[Y',H',I.unwish,q]
 | ret u=>obtain⟨v,Y',H',I,r,q⟩:=h; exact#[v,Y',H',I.unwish,r,q]
def PSs.nox {st:Ho Jf}{t:TS}(h:PSs X.nox st t):PSs X st t:=λJ s Y H D I hw=>
 IE (h J s Y H D (I.wish _) hw) (λ_ _ q=>q.unwish) λ_ _ z=>ID.elim z
end
section
variable{X:Cx}{st:Jf}{au:Ho Jf}{t u:TS}{e:HH}{te:TE}{pos:Jw}
abbrev si:TS:=λD Y H=>D.nx Y H
abbrev CJ (t u:TS):TS:=λD Y H=>t { D with nx:=u D } Y H
def we:PSs X [] si:=λ_ _ Y H _ I h=>Lx #[Y,H,I,h]
def iz (h1:PS X st t)(h2:PSs X au u):PSs X (st::au) (CJ t u):=by
 intro J s Y H D I h;show Od (aG (h1 J s Y H { D with nx:=u D } I h) λf s1 q=>?_)
 cases f with
 | next=>
  obtain⟨Y',H',I',q⟩:=q;exact h2 J s1 Y' H' D I' q
 | ret v=>exact q
 | brk=>exact q
 | cont=>exact q
def fF (h1:PS X st t):PSs X [st] t:=by
 intro J s Y H D I h;show Od (aG (h1 J s Y H D I h) λf s1 q=>?_)
 cases f with
 | next=>exact Lx q
 | ret v=>exact q
 | brk=>exact q
 | cont=>exact q
abbrev Ae:TS:=λD Y H=>D.bk Y H
abbrev CM:TS:=λD Y H=>D.ct Y H
def wf:PS X (.Pass pos) si:=λ_ _ Y H _ I h=>wpAny_Pass #[Y,H,I,h]
def sj:PS X (.Break pos) Ae:=λ_ _ Y H _ I h=>wpAny_Break #[Y,H,I,h]
def lM:PS X (.Continue pos) CM:=λ_ _ Y H _ I h=>wpAny_Continue #[Y,H,I,h]
def Inv.quiet {J:Ho (Hv×Jg)}{Y:St}{H:Hp}{s:Ht}(I:Inv X J Y H s):interactive X.env=false:=by simp[interactive,I.ok.kind]
def Ag {x j pos pos'}:PS X (.Expr (.Constant (.str x) j pos) pos') si:=λ_ s Y H _ I h=>wpAny_Expr (Nx (show SP X _ _ .next { s with toks:=s.toks+1 } from#[Y,H,I.tok _,h])) I.quiet
abbrev y6 (te:TE):TS:=λD Y H=>te Y H λ_ H1=>D.nx Y H1
def kH (he:PE X e te)(hs:swapsWith e gV pos.line X.env=pure false:=by rfl):PS X (.Expr e pos) (y6 te):=by
 intro J s Y H D I h;exact wpAny_Expr_any (aG (he J s Y H _ I h) λv s1 #[x,H1,I1,r1,q1]=>#[Y,H1,I1,q1]) I.quiet hs
abbrev Fn (te:TE):TS:=λD Y H=>te Y H D.rt
def Ah (he:PE X e te):PS X (.Return (ba e) pos) (Fn te):=by
 intro J s Y H D I h;exact wpAny_Return_some (aG (he J s Y H _ I h) λv s1 #[x,H1,I1,r1,q1]=>#[x,Y,H1,I1,r1,q1])
abbrev CN:TS:=λD _ H=>D.rt .non H
def wg:PS X (.Return gV pos) CN:=λ_ _ Y H _ I h=>wpAny_Return_none #[.non,Y,H,I,rfl,h]
abbrev Fo (c:TT)(t u:TS):TS:=λD Y H=>c Y H λb H1=>if b=true then t D Y H1 else u D Y H1
def sm {c:HH}{a b:Ho Jf}{tc:TT}(hc:PT X c tc)(ha:PSs X a t)(hb:PSs X b u):PS X (.If c a b pos) (Fo tc t u):=by
 intro J s Y H D I h;show wpAny_If (aG (hc J s Y H _ I h) λd s1 #[H1,I1,q1]=>?_)
 cases d with
 | true=>exact ha J s1 Y H1 D I1 q1
 | false=>exact hb J s1 Y H1 D I1 q1
end
noncomputable abbrev TG:=V->St->Hp->(St->Hp->Prop)->Prop
noncomputable abbrev Ai:=Ho V->St->Hp->(St->Hp->Prop)->Prop
abbrev PG (X:Cx)(target:HH)(t:TG):Prop:=
 ∀(J:Ho (Hv×Jg)) (s:Ht) (Y:St) (H:Hp) (v:V) (u:Hr) (Q:St->Hp->Prop),Inv X J Y H s->RelV v u->t v Y H Q->
  wpAny (model X.prog X.w) X.A (assign target X.env u) (λ_ s'=>∃Y' H',Inv X J Y' H' s'/\Q Y' H') X.xe s
abbrev CO (X:Cx)(ts:Ho HH)(t:Ai):Prop:=
 ∀(J:Ho (Hv×Jg)) (s:Ht) (Y:St) (H:Hp) (vs:Ho V) (us:Ho Hr) (Q:St->Hp->Prop),Inv X J Y H s->Vals vs us->t vs Y H Q->
  wpAny (model X.prog X.w) X.A (assignInOrder ((assignEach ts X.env).map (·.2)) us) (λ_ s'=>∃Y' H',Inv X J Y' H' s'/\Q Y' H') X.xe s
noncomputable abbrev Aj:=V->V->V->Hp->(Hp->Prop)->Prop
abbrev Ak (X:Cx)(t:Aj):Prop:=
 ∀(J:Ho (Hv×Jg)) (s:Ht) (Y:St) (H:Hp) (o i v:V) (ov iv u:Hr) (Q:Hp->Prop),Inv X J Y H s->RelV o ov->RelV i iv->RelV v u->t o i v H Q->
  wpAny (model X.prog X.w) X.A (setItem ov iv u) (λ_ s'=>∃H',Inv X J Y H' s'/\Q H') X.xe s
section
variable{X:Cx}{pos:Jw}
abbrev CP (i:Hz):TG:=λv Y H Q=>Q (Y.set i (ba v)) H
def oZ {i:Hz}{x:HC}(hN:X.N.Nodup)(hi:X.N[i]?=ba x)(hx:sg X.env.scope x)(hf:X.fn x=true\/X.env.scope.names.lookup x=ba .local):PG X (.Name x pos) (CP i):=by
 intro J s Y H v u Q I r h;exact NM (bI I hN hi hx r (λs' I'=>#[_,H,I',h]) hf)
abbrev Fp:Ai:=λvs Y H Q=>vs=[]/\Q Y H
abbrev CQ (t:TG)(u:Ai):Ai:=λvs Y H Q=>∃v r,vs=v::r/\t v Y H λY' H'=>u r Y' H' Q
def wj:CO X [] Fp:=by
 intro J s Y H vs us Q I r h;obtain⟨e,h⟩:=h;subst e;cases r;exact Mh #[Y,H,I,h]
def su {e:HH}{es:Ho HH}{t:TG}{u:Ai}(h1:PG X e t)(h2:CO X es u)
  (hs:(assignEach (e::es) X.env).map (·.2)=assign e X.env::(assignEach es X.env).map (·.2):=by rfl):CO X (e::es) (CQ t u):=by
 intro J s Y H vs us Q I r h;obtain⟨v,vr,e1,h⟩:=h;subst e1;cases r with
 | cons r rr=>
  rw[hs];show Kb (aG (h1 J s Y H _ _ _ I r h) λ_ s1 #[Y1,H1,I1,q1]=>?_)
  exact h2 J s1 Y1 H1 _ _ Q I1 rr q1
abbrev Fq (K:HA)(n:Hz)(t:Ai):TG:=λv Y H Q=>∃a xs,v=.ref a/\SqT K H a xs/\xs.length=n/\t xs Y H Q
def Al {es:Ho HH}{k:Hz}{t:Ai}{n:Hz}(hc:X.calm=true)(h:CO X es t)
  (hn:(assignEach es X.env).length=n:=by rfl) (hst:(assignEach es X.env).findIdx? (·.1)=gV:=by rfl):PG X (.Tuple es k pos) (Fq X.K n t):=by
 intro J s Y H v u Q I r hw;obtain⟨a,xs,e1,hq,hl,hw⟩:=hw;subst e1;cases r;obtain⟨its,rv,ht,hz⟩:=I.tuple hq;show assign_Tuple_tuple (I.ok.hd hc) ht (by simp[hn,<- hl,rv.length]) hst λh' hx=>?_
 have I1:Inv X J Y H { s with heap:=h' }:=I.kept (t':=s.toks) λb o e=>hx b o (HU (HF e)) e
 exact h J _ Y H xs _ Q I1 (by simpa using rv) hw
abbrev Fs (to ti:TE)(t:Aj):TG:=λv Y H Q=>to Y H λo H1=>ti Y H1 λi H2=>t o i v H2 λH3=>Q Y H3
def Am {o i:HH}{to ti:TE}{t:Aj}(ho:PE X o to)(hi:PE X i ti)(hs:Ak X t)
  (ha:∀v,assign (.Subscript o i pos) X.env v=(do
   let ov <- holding [v] (eval o X.env)
   let iv <- holding [v,ov] (eval i X.env)
   standAt pos
   holding [v,ov,iv] (setItem ov iv v)
   release [v,ov,iv] []):=by intro _; rfl):PG X (.Subscript o i pos) (Fs to ti t):=by
 intro J s Y H v u Q I r h;rw[ha];show Hq (IL (aG (ho J s Y H _ I h) λov s1 #[x,H1,I1,r1,q1]=>?_))
 show Hq (IL (aG (hi J s1 Y H1 _ I1 q1) λiv s2 #[y,H2,I2,r2,q2]=>?_))
 show Hq (JV (Hq (IL (aG (hs J s2 Y H2 x y v ov iv u _ I2 r1 r2 r q2) λ_ s3 #[H3,I3,q3]=>?_))))
 exact wpAny_release #[Y,H3,I3,q3]
abbrev Ft (te:TE)(g:TG):TS:=λD Y H=>te Y H λx H1=>g x Y H1 D.nx
def sv {tg e:HH}{te:TE}{g:TG}(he:PE X e te)(hg:PG X tg g)(hs:swapsWithSole [tg] e pos.line X.env=pure false:=by rfl)(hw:swappedStores [tg] e X.env=pure gV:=by rfl)
  (h1:(assignEach [tg] X.env).map (·.2)=[assign tg X.env]:=by rfl):PS X (.Assign [tg] e pos) (Ft te g):=by
 intro J s Y H D I h;show wpAny_Assign_stores (aG (he J s Y H _ I h) λv s1 #[x,H1,I1,r1,q1]=>?_) hs hw
 rw[h1];exact aG (hg J s1 Y H1 x v _ I1 r1 q1) λ_ s2 q=>q
abbrev Fu (i j:Hz)(ta:TA):TS:=λD Y H=>ta Y H λvs H1=>∃v w,vs=[v,w]/\D.nx ((Y.set i (ba v)).set j (ba w)) H1
def An {i j:Hz}{x y:HC}{a b:HH}{ta:TA}{px py pt:Jw}{kt k2 pt2}(hc:X.calm=true)(hN:X.N.Nodup)(hi:X.N[i]?=ba x)(hj:X.N[j]?=ba y)(hij:i≠j)
  (hx:X.env.scope.names.lookup x=ba .local) (hy:X.env.scope.names.lookup y=ba .local) (ha:PA X [a,b] ta)
  (hw:swappedStores [.Tuple [.Name x px,.Name y py] kt pt] (.Tuple [a,b] k2 pt2) X.env=pure (ba [x,y]))
  (hs:swapsWithSole [.Tuple [.Name x px,.Name y py] kt pt] (.Tuple [a,b] k2 pt2) pos.line X.env=pure false:=by rfl) :
  PS X (.Assign [.Tuple [.Name x px,.Name y py] kt pt] (.Tuple [a,b] k2 pt2) pos) (Fu i j ta):=by
 intro J s Y H D I h;rw[OA];show Hq (JV ?_);rw[hs];show Hq (Hy ?_);rw[HY #v[]]
 show Hq (Tuple_ (aG (ha _ J s Y H _ I h) λus s1 #[vs,H1,I1,r1,q1]=>?_))
 obtain⟨v,w,e1,q1⟩:=q1;subst e1;obtain⟨u1,u2,rfl,rv,rw'⟩ : ∃u1 u2,us=[u1,u2]/\RelV v u1/\RelV w u2:=by
  cases r1 with
  | cons p q=>
   cases q with
   | cons p' q'=>
    cases q';exact#[_,_,rfl,p,p']
 show IA ?_ (by change 2<=sizeLine; decide)
 have I2:Inv X J Y H1 { s1 with heap:=s1.heap.push { cls:=.type "tuple",data:=.seq [u1,u2].toArray } }:=I1.kept (t':=s1.toks) λb o e=>Hw _ e
 rw[hw];show Hq (Hy ?_);change wpAny (model X.prog X.w) X.A (do rule "assign.swapped-stores"; let items <- unpackItems (.ref s1.heap.objs.size) 2 gV; assignInOrder [λv=>bindName X.env y v,λv=>bindName X.env x v] items.reverse; pure Oe) _ _ _
 show Hq (Lm (Hq (NN (items:=[u1,u2].toArray) (I.ok.hd hc) (Nc s1.heap _) λh' hx'=>?_)))
 have I3:=I2.kept (h':=h') (t':=s1.toks) λb o e=>hx' b o (HU (HF e)) e
 change wpAny _ _ (assignInOrder [λv=>bindName X.env y v,λv=>bindName X.env x v] [u2,u1] >>= λ_=>pure Oe) _ _ _
 show Hq (Kb (Lb (bI I3 hN hj (.inl hy) rw' (λs2 I4=>?_) (.inr hy))))
 show Kb (Lb (bI I4 hN hi (.inl hx) rv (λs3 I5=>Mh (Hy ?_)) (.inr hx)))
 rw[Mm _ _ (Ne.symm hij)]at I5;exact#[_,H1,I5,q1]
abbrev Ao (c:TT)(tb:TS):TS:=λD Y H=>∃W:Hz->St->Hp->Prop,(∃m,W m Y H)/\∀m Y H,W m Y H->
 c Y H λb H1=>if b=true then ∃N:St->Hp->Prop,(∀Y' H',N Y' H'->∃m',m' < m/\W m' Y' H')/\tb { D with nx:=N,ct:=N,bk:=D.nx } Y H1 else D.nx Y H1
def sw {c:HH}{body:Ho Jf}{tc:TT}{tb:TS}(hp:Ln (model X.prog X.w) X.A X.env X.xe)(hc:PT X c tc)(hb:PSs X body tb):PS X (.While c body [] pos) (Ao tc tb):=by
 intro J s Y H D I h;obtain⟨W,⟨m0,w0⟩,turn⟩:=h;show wpAny_While (codeAny_whileLoop (λn s'=>∃Y' H',Inv X J Y' H' s'/\W n Y' H') ?_ m0 #[Y,H,I,w0])
 rintro n s1 ⟨Y1,H1,I1,w1⟩;show Kf hp (aG (hc J s1 Y1 H1 _ I1 (turn n Y1 H1 w1)) λb s2 #[H2,I2,q2]=>?_)
 cases b with
 | true=>
  obtain⟨N,hN,q2⟩:=q2;rw[HN rfl];show Kf hp (aG (hb J s2 Y1 H2 _ I2 q2) λf s3 q3=>?_)
  cases f with
  | next=>
   obtain⟨Y3,H3,I3,n3⟩:=q3;obtain⟨m',hm,w3⟩:=hN Y3 H3 n3;exact#[m',hm,Y3,H3,I3,w3]
  | cont=>
   obtain⟨Y3,H3,I3,n3⟩:=q3;obtain⟨m',hm,w3⟩:=hN Y3 H3 n3;exact#[m',hm,Y3,H3,I3,w3]
  | brk=>exact q3
  | ret v=>exact q3
 | false=>
  rw[HY HS];exact Lx #[Y1,H2,I2,q2]
end
structure It where
 go:Hz->Hp->Prop
 yld:Hz->Hp->V->Hp->Prop
 stop:Hz->Hp->Prop
abbrev gv (X:Cx)(J:Ho (Hv×Jg))(H:Hp)(b:Hv):Prop:=
 H b=gV/\b≠X.env.locals/\b∉X.fs/\(b∈X.ex\/X.s₀.heap.objs.size<=b)/\(∀x c,X.env.cells.lookup x=ba c->c≠b)/\∀p∈X.pn++J,p.1≠b
def Inv.fpOk {X:Cx}{J:Ho (Hv×Jg)}{Y:St}{H H':Hp}{s:Ht}{b:Hv}(I:Inv X J Y H s)(hb:s.heap.objs.size<=b)(hn:H' b=gV):gv X J H' b:=by
 show#[hn,JC (HV I.lt hb),I.nofs hb,.inr (Ix I.sz hb),λx c e z=>?_,λp hp z=>?_]
 ·obtain⟨v,q⟩:=I.cell x c e;exact absurd (HV q.lt (by rw[z]; exact hb)) (Jc _)
 ·exact absurd (HV (HF (I.pin p hp).1) (by rw[z]; exact hb)) (Jc _)
structure Turn (P:HM)(w:HX)(K:HA)(tg:HH)(Jqa:It)(fp:Ho Hv)(it:Hv)(tn:Hz->Ii->Prop):Prop where
 mem:it∈fp
 obj:∀i h,tn i h->∀b∈fp,∃o,h.get? b=ba o/\∀v,o.data≠.cell v
 keep:∀i h h',tn i h->(∀b∈fp,∀o,h.get? b=ba o->h'.get? b=ba o)->tn i h'
 item:∀(X:Cx),X.prog=P->X.w=w->X.K=K->X.calm=true->∀(i:Hz) (J:Ho (Hv×Jg)) (s:Ht) (Y:St) (H:Hp) (E:Hr->Ht->Prop),Inv X J Y H s->(∀b∈fp,gv X J H b)->tn i s.heap->Jqa.go i H->
  wpAny (model P w) X.A (pyNext (.ref it)) (λr s1=>∃u,r=ba u/\
   wpAny (model P w) X.A (letOwnedTupleGo tg (.ref it) u) (λ_ s2=>∃x H',Inv X J Y H' s2/\RelV x u/\Jqa.yld i H x H'/\tn (i+1) s2.heap/\∀b∈fp,H' b=gV) E s1) E s
 done:∀(X:Cx),X.prog=P->X.w=w->X.K=K->X.calm=true->∀(i:Hz) (J:Ho (Hv×Jg)) (s:Ht) (Y:St) (H:Hp) (E:Hr->Ht->Prop),Inv X J Y H s->(∀b∈fp,gv X J H b)->tn i s.heap->Jqa.stop i H->
  wpAny (model P w) X.A (pyNext (.ref it)) (λr s1=>r=gV/\Inv X J Y H s1) E s
 self:∀(A:HW) (i:Hz) (s:Ht) (Q:Hr->Ht->Prop) (E:Hr->Ht->Prop),tn i s.heap->Q (.ref it) s->wpAny (model P w) A (pyIter (.ref it)) Q E s
noncomputable abbrev TI:=St->Hp->(It->Hp->Prop)->Prop
abbrev E2 (X:Cx)(J:Ho (Hv×Jg))(Y:St)(tg:HH)(R:It->Hp->Prop)(itv:Hr)(s2:Ht):Prop:=
 ∃(it:Hv) (fp:Ho Hv) (tn:Hz->Ii->Prop) (Jqa:It) (H':Hp),itv=.ref it/\Inv X J Y H' s2/\Turn X.prog X.w X.K tg Jqa fp it tn/\tn 0 s2.heap/\(∀b∈fp,gv X J H' b)/\R Jqa H'
abbrev PI (X:Cx)(tg iter:HH)(wi:TI):Prop:=
 ∀(J:Ho (Hv×Jg)) (s:Ht) (Y:St) (H:Hp) (R:It->Hp->Prop),Inv X J Y H s->wi Y H R->
  wpAny (model X.prog X.w) X.A (eval iter X.env) (λv s1=>wpAny (model X.prog X.w) X.A (pyIter v) (E2 X J Y tg R) X.xe s1) X.xe s
def o4 {Mqa:Mg}{A:HW}{E:Hr->Ht->Prop}{s:Ht}{tg:HH}{it:Hv}{u:Hr}{o:Jg}{n:Jb}{vs:Iu Hr}{Q:P2->Ht->Prop}(ho:s.heap.get? it=ba o)(hc:o.cls=.type n)(hd:o.data=.fields vs)
    (hn:["enumerate","zip","dict_itemiterator","dict_reverseitemiterator","odict_iterator","itertools.zip_longest","itertools.pairwise"].contains n=false) (hQ:Q () s):wpAny Mqa A (letOwnedTupleGo tg (.ref it) u) Q E s:=by
  unfold letOwnedTupleGo;cases tg <;> first
    | exact Hy hQ
    | (cases u <;> first
        | exact Hy hQ
        | (show Hq (Ny ho ?_)
           rw[hc,hd];change wpAny Mqa A (if (["enumerate","zip","dict_itemiterator","dict_reverseitemiterator","odict_iterator","itertools.zip_longest","itertools.pairwise"].contains n&&vs[0]?==ba (rawInt _))=true then _ else _) Q E s
           rw[HY (by intro h; rw[hn,OM]at h; cases h)]
           exact Hy hQ))
abbrev Fv (K:HA)(a:Hv):It:=
 #[λi H=>∃xs x,SqL K H a xs/\xs[i]?=ba x,λi H x H'=>H'=H/\∀xs,SqL K H a xs->xs[i]?=ba x,λi H=>∃xs,SqL K H a xs/\xs.length<=i]
abbrev Cs (K:HA)(a:Hv):It:=
 #[λi H=>∃xs x,SqT K H a xs/\xs[i]?=ba x,λi H x H'=>H'=H/\∀xs,SqT K H a xs->xs[i]?=ba x,λi H=>∃xs,SqT K H a xs/\xs.length<=i]
abbrev CS (lo:HR)(n:Hz):It:=#[λi _=>i < n,λi H x H'=>H'=H/\x=.int (lo+i),λi _=>n<=i]
def qF {P:HM}{w:HX}{K:HA}{tg:HH}(a it:Hv):Turn P w K tg (Fv K a) [it] it (λi h=>h.IsListIter it a i) where
 mem:=by simp
 obj:=λi h st b hb=>by
  have e:b=it:=by simpa using hb
  subst e;obtain⟨o,e,c,d⟩:=st;exact#[o,e,λv z=>by rw[d]at z; cases z]
 keep:=λi h h' st k=>st.at λo e=>k it (by simp) o e
 item:=by
  intro X hP hw hK hc i J s Y H E I hf st hg;subst hP hw hK;obtain⟨xs,x,hq,hx⟩:=hg;obtain⟨its,rv,p,hz⟩:=I.list hq;obtain⟨u,hu,ru⟩:=rv.get hx;obtain⟨f0,f1,f2,f3,f4,f5⟩:=hf it (by simp)
  show wpAny_pyNext_list_item st p.isList (x:=u) (by simpa using hu) λh' st' sb=>?_
  have I1:Inv X J Y H { s with heap:=h' }:=I.turned (t':=s.toks) (λb o hb e=>(sb.2 b hb).trans e) f0 f1 f3 f4 f5
  obtain⟨o,e,c,d⟩:=id st';exact#[u,rfl,o4 (s:={ s with heap:=h' }) e c d #v[] #[x,H,I1,ru,#[rfl,λys hy=>by rw[I.list_inj hy hq]; exact hx],st',λb hb=>(hf b hb).1]]
 done:=by
  intro X hP hw hK hc i J s Y H E I hf st hg;subst hP hw hK;obtain⟨xs,hq,hx⟩:=hg;obtain⟨its,rv,p,hz⟩:=I.list hq;obtain⟨f0,f1,f2,f3,f4,f5⟩:=hf it (by simp)
  have hl:=rv.length;exact wpAny_pyNext_list_end (I.ok.hd hc) st p.isList (by simp; omega) λh' eb=>#[rfl,I.turned (t':=s.toks) (λb o hb e=>eb b o hb e) f0 f1 f3 f4 f5]
 self:=λ_ _ _ _ _ st h=>wpAny_pyIter_listiter st h
def nC {P:HM}{w:HX}{K:HA}{tg:HH}(a it:Hv):Turn P w K tg (Cs K a) [it] it (λi h=>h.IsTupleIter it a i) where
 mem:=by simp
 obj:=λi h st b hb=>by
  have e:b=it:=by simpa using hb
  subst e;obtain⟨o,e,c,d⟩:=st;exact#[o,e,λv z=>by rw[d]at z; cases z]
 keep:=λi h h' st k=>st.at λo e=>k it (by simp) o e
 item:=by
  intro X hP hw hK hc i J s Y H E I hf st hg;subst hP hw hK;obtain⟨xs,x,hq,hx⟩:=hg;obtain⟨its,rv,p,hz⟩:=I.tuple hq;obtain⟨u,hu,ru⟩:=rv.get hx;obtain⟨f0,f1,f2,f3,f4,f5⟩:=hf it (by simp)
  show wpAny_pyNext_tuple_item st (show s.heap.IsTuple a its.toArray from p) (x:=u) (by simpa using hu) λh' st' sb=>?_
  have I1:Inv X J Y H { s with heap:=h' }:=I.turned (t':=s.toks) (λb o hb e=>(sb.2 b hb).trans e) f0 f1 f3 f4 f5
  obtain⟨o,e,c,d⟩:=id st';exact#[u,rfl,o4 (s:={ s with heap:=h' }) e c d #v[] #[x,H,I1,ru,#[rfl,λys hy=>by rw[I.tuple_inj hy hq]; exact hx],st',λb hb=>(hf b hb).1]]
 done:=by
  intro X hP hw hK hc i J s Y H E I hf st hg;subst hP hw hK;obtain⟨xs,hq,hx⟩:=hg;obtain⟨its,rv,p,hz⟩:=I.tuple hq;obtain⟨f0,f1,f2,f3,f4,f5⟩:=hf it (by simp)
  have hl:=rv.length;exact wpAny_pyNext_tuple_end (I.ok.hd hc) st (show s.heap.IsTuple a its.toArray from p) (by simp; omega) λh' eb=>#[rfl,I.turned (t':=s.toks) (λb o hb e=>eb b o hb e) f0 f1 f3 f4 f5]
 self:=λ_ _ _ _ _ st h=>wpAny_pyIter_tupleiter st h
def nD {P:HM}{w:HX}{K:HA}{tg:HH}(it:Hv)(lo:HR)(n:Hz):Turn P w K tg (CS lo n) [it] it (λi h=>Pz h it (lo+(i:Hz)*1) ((n:HR) - (i:Hz)) 1) where
 mem:=by simp
 obj:=λi h st b hb=>by
  have e:b=it:=by simpa using hb
  subst e;exact#[_,st,λv z=>by
   have z':Data.fields _=Data.cell v:=z;cases z']
 keep:=λi h h' st k=>k it (by simp) _ st
 item:=by
  intro X hP hw hK hc i J s Y H E I hf st hg;subst hP hw hK;obtain⟨f0,f1,f2,f3,f4,f5⟩:=hf it (by simp)
  have W:=Walks.range (prog:=X.prog) (w:=X.w) (I.ok.hd hc) it lo 1 n;show W.item i s _ _ hg st λv h' tk hv st' kk=>?_
  obtain⟨t,rfl⟩:=hv;have I1:Inv X J Y H { s with heap:=h',toks:=tk }:=I.turned (λb o hb e=>kk b o (by simpa using hb) e) f0 f1 f3 f4 f5
  show#[_,rfl,o4 (s:={ s with heap:=h',toks:=tk }) (n:="range_iterator") st' rfl rfl #v[] #[.int (lo+i),H,I1,#[t,?_],#[rfl,rfl],st',λb hb=>(hf b hb).1]]
  rw[Int.mul_one]
 done:=by
  intro X hP hw hK hc i J s Y H E I hf st hg;subst hP hw hK;obtain⟨f0,f1,f2,f3,f4,f5⟩:=hf it (by simp)
  exact wpAny_pyNext_range_end (I.ok.hd hc) st (by have:n<=i:=hg; omega) λh' eb=>#[rfl,I.turned (t':=s.toks) (λb o hb e=>eb b o hb e) f0 f1 f3 f4 f5]
 self:=λ_ _ _ _ _ st h=>wpAny_pyIter_rangeiter st h
section
variable{X:Cx}{tg:HH}
def lN {J:Ho (Hv×Jg)}{Y:St}{H:Hp}{s:Ht}{R:It->Hp->Prop}{E:Hr->Ht->Prop}{lo hi:HR}{t u v:Qk}{tk:Hz}(I:Inv X J Y H s)(h1 : -(2 ^ 62)<=lo)(h2:lo < 2 ^ 62)(h3 : -(2 ^ 62)<=hi)(h4:hi < 2 ^ 62)
  (q:R (CS lo (hi - lo).toNat) H):wpAny (model X.prog X.w) X.A (pyIter (.ref s.heap.objs.size)) (E2 X J Y tg R) E { s with heap:=s.heap.push { cls:=.type "range",data:=.fields [.int lo t,.int hi u,.int 1 v].toArray },toks:=tk }:=by
 show wpAny_pyIter_range (IsRange.new ..) (Pl h1 h2 h3 h4) ?_;have I1:Inv X J Y H { s with heap:=s.heap.push { cls:=.type "range",data:=.fields [.int lo t,.int hi u,.int 1 v].toArray },toks:=tk }:=I.kept λb o e=>Hw _ e
 show#[(s.heap.push { cls:=.type "range",data:=.fields [.int lo t,.int hi u,.int 1 v].toArray }).objs.size,[(s.heap.push { cls:=.type "range",data:=.fields [.int lo t,.int hi u,.int 1 v].toArray }).objs.size],_,_,H,rfl,
  I1.kept (t':=tk) λb o e=>Hw _ e,nD _ lo (hi - lo).toNat,?_,λb hb=>?_,q]
 ·have e1:lo+((0:Hz):HR)*1=lo:=by simp
  have e2:(((hi - lo).toNat:Hz):HR) - ((0:Hz):HR)=JI lo hi 1:=by rw[Nn]; split <;> omega
  change Pz _ _ (lo+((0:Hz):HR)*1) ((((hi - lo).toNat:Hz):HR) - ((0:Hz):HR)) 1;rw[e1,e2];exact HG _ rfl
 ·have e:b=(s.heap.push { cls:=.type "range",data:=.fields [.int lo t,.int hi u,.int 1 v].toArray }).objs.size:=by simpa using hb
  subst e;exact I1.fpOk (HJ _) (I1.hok.fresh (HJ _))
abbrev CT (ta:TA):TI:=λY H R=>ta Y H λvs H1=>∃j:HR,vs=[.int j]/\-(2 ^ 62)<=j/\j < 2 ^ 62/\R (CS 0 j.toNat) H1
abbrev iRng2 (ta:TA):TI:=λY H R=>ta Y H λvs H1=>∃i j:HR,vs=[.int i,.int j]/\(-(2 ^ 62)<=i/\i < 2 ^ 62/\-(2 ^ 62)<=j/\j < 2 ^ 62)/\R (CS i (j - i).toNat) H1
def qG {a:HH}{ta:TA}{p pos:Jw}(hg:Gl X "range")(hm:X.mg "range" = gV)(ha:PA X [a] ta)(hs:starEach [a] X.env=[(false,eval a X.env)]:=by rfl):PI X tg (.Call (.Name "range" p) [a] [] pos) (CT ta):=by
 intro J s Y H R I h;show Call_ (gr I hg hm boot_range (J6 (aG (ha pos J s Y H _ I h) λus s1 #[vs,H1,I1,r1,q1]=>?_) hs rfl))
 obtain⟨j,e,q1,q2,q⟩:=q1;subst e;cases r1 with
 | cons r rr=>
  cases rr;obtain⟨t,rfl⟩:=r;exact Po (lN I1 ∅ ∅ q1 q2 (by simpa using q))
def qH {a b:HH}{ta:TA}{p pos:Jw}(hg:Gl X "range")(hm:X.mg "range" = gV)(ha:PA X [a,b] ta)(hs:starEach [a,b] X.env=[(false,eval a X.env),(false,eval b X.env)]:=by rfl)(hs2:starEach [b] X.env=[(false,eval b X.env)]:=by rfl) :
  PI X tg (.Call (.Name "range" p) [a,b] [] pos) (iRng2 ta):=by
 intro J s Y H R I h;show Call_ (gr I hg hm boot_range (J6 (aG (ha pos J s Y H _ I h) λus s1 #[vs,H1,I1,r1,q1]=>?_) (by rw[hs,hs2]) (by rw[hs2]; rfl)))
 obtain⟨i,j,e,⟨q1,q2,q3,q4⟩,q⟩:=q1;subst e;cases r1 with
 | cons r rr=>
  cases rr with
  | cons r' rr=>
   cases rr;obtain⟨t,rfl⟩:=r;obtain⟨t',rfl⟩:=r';exact call_range_2 (lN I1 q1 q2 q3 q4 q)
abbrev Fw (wi:TI)(g:TG)(tb:TS):TS:=λD Y H=>wi Y H λJqa H1=>∃W:Hz->Hz->St->Hp->Prop,(∃m,W 0 m Y H1)/\∀i m Y H,W i m Y H->
 (Jqa.stop i H/\D.nx Y H)\/(Jqa.go i H/\∃N:St->Hp->Prop,(∀Y' H',N Y' H'->∃m',m' < m/\W (i+1) m' Y' H')/\∀x H',Jqa.yld i H x H'->g x Y H' λY2 H2=>tb { D with nx:=N,ct:=N,bk:=D.nx } Y2 H2)
abbrev gw (fp:Ho Hv)(h:Ii):Ho (Hv×Jg):=fp.filterMap λb=>(h.get? b).map λo=>(b,o)
def dj {fp:Ho Hv}{h:Ii}{b:Hv}{o:Jg}(hb:b∈fp)(e:h.get? b=ba o):(b,o)∈gw fp h:=Nz.mpr #[b,hb,by rw[e]; rfl]
def qI {fp:Ho Hv}{h:Ii}{p:Hv×Jg}(hp:p∈gw fp h):p.1∈fp/\h.get? p.1=ba p.2:=by
 obtain⟨b,hb,e⟩:=Nz.mp hp;cases q:h.get? b with
 | none=>rw[q]at e; cases e
 | some o=>
  rw[q]at e;have e':(b,o)=p:=Jt e;subst e';exact#[hb,q]
def Inv.pinned {J:Ho (Hv×Jg)}{Y:St}{H:Hp}{s:Ht}{fp:Ho Hv}(I:Inv X J Y H s)(hf:∀b∈fp,gv X J H b)(ho:∀b∈fp,∃o,s.heap.get? b=ba o/\∀v,o.data≠.cell v):Inv X (J++gw fp s.heap) Y H s:=
 I.pins_of λp hp=>(IV.mp hp).elim (λz=>I.pin p (Ic _ z)) λz=>by
  obtain⟨hb,e⟩:=qI z;obtain⟨f0,f1,f2,_⟩:=hf p.1 hb;obtain⟨o,e',d⟩:=ho p.1 hb;rw[e]at e'; cases e'
  exact#[e,f0,f1,f2,d]
def Inv.unpinned {J pl:Ho (Hv×Jg)}{Y:St}{H:Hp}{s:Ht}(I:Inv X (J++pl) Y H s):Inv X J Y H s:=I.pins_of λp hp=>I.pin p (Ic _ (JH _ hp))
def sx {iter:HH}{body:Ho Jf}{wi:TI}{g:TG}{tb:TS}{pos:Jw}(hp:Ln (model X.prog X.w) X.A X.env X.xe)(hc:X.calm=true)(hi:PI X tg iter wi)(hg:PG X tg g)(hb:PSs X body tb)
  (hs:∀x,foldedSetIterable iter X.env x=pure x:=by intro _; rfl):PS X (.For tg iter body [] pos) (Fw wi g tb):=by
 intro J s Y H D I h;show wpAny_For (aG (hi J s Y H _ I h) λv s1 h1=>aG h1 λitv s2 h2=>?_) hs
 obtain⟨it,fp,tn,Jqa,H2,e,I2,T,bn,f2,W,⟨m0,w0⟩,turn⟩:=h2;subst e;have stat:∀ {H':Hp},(∀b∈fp,H' b=gV)->∀b∈fp,gv X J H' b:=λhn b hb=>#[hn b hb,(f2 b hb).2]
 show codeAny_forLoop_any (λn s'=>∃i Y' H',Inv X J Y' H' s'/\tn i s'.heap/\(∀b∈fp,H' b=gV)/\W i n Y' H') ?_ m0 #[0,Y,H2,I2,bn,λb hb=>(f2 b hb).1,w0]
 rintro n s3 ⟨i,Y3,H3,I3,st3,fr3,w3⟩;rcases turn i n Y3 H3 w3 with⟨stop,qn⟩|⟨go,N,hN,step⟩
 ·show Kf hp (aG (T.done X rfl rfl rfl hc i J s3 Y3 H3 X.xe I3 (stat fr3) st3 stop) λr s4 #[hr,I4]=>?_)
  subst hr;exact Lx #[Y3,H3,I4,qn]
 ·show Kf hp (aG (T.item X rfl rfl rfl hc i J s3 Y3 H3 X.xe I3 (stat fr3) st3 go) λr s4 #[u,hr,h4]=>?_)
  subst hr;show Kf hp (aG h4 λ_ s5 #[x,H5,I5,r5,y5,st5,fr5]=>?_)
  have I5':=I5.pinned (stat fr5) (T.obj _ _ st5);show Kf hp (aG (hg _ s5 Y3 H5 x u _ I5' r5 (step x H5 y5)) λ_ s6 #[Y6,H6,I6,q6]=>?_)
  show Kf hp (aG (hb _ s6 Y6 H6 _ I6 q6) λf s7 q7=>?_)
  have again:∀ {Y7:St} {H7:Hp},Inv X (J++gw fp s5.heap) Y7 H7 s7->N Y7 H7->∃m,m < n/\∃i Y' H',Inv X J Y' H' s7/\tn i s7.heap/\(∀b∈fp,H' b=gV)/\W i m Y' H':=λ{Y7 H7} I7 n7=>by
   obtain⟨m',hm,w7⟩:=hN Y7 H7 n7;show#[m',hm,i+1,Y7,H7,I7.unpinned,T.keep _ _ _ st5 λb hb o e=>(I7.pin (b,o) (Ic _ (Ic _ (dj hb e)))).1,λb hb=>?_,w7]
   obtain⟨o,e,d⟩:=T.obj _ _ st5 b hb;exact(I7.pin (b,o) (Ic _ (Ic _ (dj hb e)))).2.1
  cases f with
  | next=>obtain⟨Y7,H7,I7,n7⟩:=q7; exact again I7 n7
  | cont=>obtain⟨Y7,H7,I7,n7⟩:=q7; exact again I7 n7
  | brk=>obtain⟨Y7,H7,I7,q7⟩:=q7; exact#[Y7,H7,I7.unpinned,q7]
  | ret v=>obtain⟨x7,Y7,H7,I7,r7,q7⟩:=q7; exact#[x7,Y7,H7,I7.unpinned,r7,q7]
end
def for_tup {K:HA}{a:Hv}{xs:Ho V}{g:TG}{tb:TS}{D:Ends}{Y:St}{H:Hp}(Pv:Hz->St->Hp->Prop)(h0:Pv 0 Y H)(hl:∀i Y H,i<=xs.length->Pv i Y H->SqT K H a xs)
  (hs:∀i x Y H,xs[i]?=ba x->Pv i Y H->g x Y H λY2 H2=>tb { D with nx:=Pv (i+1),ct:=Pv (i+1),bk:=D.nx } Y2 H2) (hd:∀Y H,Pv xs.length Y H->D.nx Y H) :
  ∃W:Hz->Hz->St->Hp->Prop,(∃m,W 0 m Y H)/\∀i m Y H,W i m Y H->
   ((Cs K a).stop i H/\D.nx Y H)\/((Cs K a).go i H/\∃N:St->Hp->Prop,(∀Y' H',N Y' H'->∃m',m' < m/\W (i+1) m' Y' H')/\∀x H',(Cs K a).yld i H x H'->g x Y H' λY2 H2=>tb { D with nx:=N,ct:=N,bk:=D.nx } Y2 H2):=by
 show#[λi m Y H=>m=xs.length - i/\i<=xs.length/\Pv i Y H,#[xs.length,by simp,JJ _,h0],?_]
 rintro i m Y H ⟨rfl,hi,p⟩;have q:=hl i Y H hi p
 by_cases hlt:i < xs.length
 ·show .inr #[#[xs,xs[i],q,by simp[hlt]],Pv (i+1),λY' H' p'=>#[xs.length - (i+1),∅,rfl,hlt,p'],λx H' y=>?_]
  obtain⟨e,y⟩:=y;subst e;exact hs i x Y _ (y xs q) p
 ·have e:i=xs.length:=∅
  subst e;exact .inl #[#[xs,q,HJ _],hd Y H p]
noncomputable abbrev R2:=V->V->Hp->VK->Prop
abbrev OpR (X:Cx)(f:Hr->Hr->O6 Hr)(r:R2):Prop:=
 ∀(J:Ho (Hv×Jg)) (s:Ht) (Y:St) (H:Hp) (x y:V) (v u:Hr) (Q:VK),Inv X J Y H s->RelV x v->RelV y u->r x y H Q->
  wpAny (model X.prog X.w) X.A (f v u) (EP X J Y Q) X.xe s
abbrev Fy (X:Cx)(f:Hr->O6 Hr)(r:V->Hp->VK->Prop):Prop:=
 ∀(J:Ho (Hv×Jg)) (s:Ht) (Y:St) (H:Hp) (x:V) (v:Hr) (Q:VK),Inv X J Y H s->RelV x v->r x H Q->
  wpAny (model X.prog X.w) X.A (f v) (EP X J Y Q) X.xe s
abbrev CallR (X:Cx)(f:Hr)(r:Ho V->Hp->VK->Prop):Prop:=
 ∀(J:Ho (Hv×Jg)) (s:Ht) (Y:St) (H:Hp) (xs:Ho V) (us:Ho Hr) (Q:VK),Inv X J Y H s->Vals xs us->r xs H Q->
  wpAny (model X.prog X.w) X.A (call f us) (EP X J Y Q) X.xe s
abbrev Fz (X:Cx)(r:V->Hp->(HP->Hp->Prop)->Prop):Prop:=
 ∀(J:Ho (Hv×Jg)) (s:Ht) (Y:St) (H:Hp) (x:V) (v:Hr) (Q:HP->Hp->Prop),Inv X J Y H s->RelV x v->r x H Q->
  wpAny (model X.prog X.w) X.A (truthy v) (TP X J Y Q) X.xe s
abbrev E3 (r:R2)(ta tb:TE):TE:=λY H Q=>ta Y H λx H1=>tb Y H1 λy H2=>r x y H2 Q
abbrev G2 (r:V->Hp->VK->Prop)(ta:TE):TE:=λY H Q=>ta Y H λx H1=>r x H1 Q
abbrev rI (C:HR->HR->Prop)(g:HR->HR->V):R2:=λx y H Q=>∃i j,x=.int i/\y=.int j/\C i j/\Q (g i j) H
abbrev y8 (g:HR->HR->V):R2:=λx y H Q=>∃i j,x=.int i/\y=.int j/\Q (g i j) H
abbrev rU (g:HR->V):V->Hp->VK->Prop:=λx H Q=>∃i,x=.int i/\Q (g i) H
section
variable{X:Cx}{a b c:HH}{ta tb tc:TE}{pos:Jw}
def Ap (ha:PE X a ta)(hb:PE X b tb){J:Ho (Hv×Jg)}{s:Ht}{Y:St}{H:Hp}{R:V->V->Hp->Prop}(I:Inv X J Y H s)
  (h:ta Y H λx H1=>tb Y H1 λy H2=>R x y H2) {Q:Hr->Ht->Prop} {f:Hr->Hr->O6 Hr}
  (hf:∀v u s2 x y H2,Inv X J Y H2 s2->RelV x v->RelV y u->R x y H2->wpAny (model X.prog X.w) X.A (f v u) Q X.xe s2) :
  wpAny (model X.prog X.w) X.A (eval a X.env) (λv s₁=>wpAny (model X.prog X.w) X.A (eval b X.env) (λu s₂=>wpAny (model X.prog X.w) X.A (f v u) Q X.xe s₂) X.xe s₁) X.xe s:=by
 show aG (ha J s Y H _ I h) λv s1 #[x,H1,I1,r1,q1]=>?_
 show aG (hb J s1 Y H1 _ I1 q1) λu s2 #[y,H2,I2,r2,q2]=>?_
 exact hf v u s2 x y H2 I2 r1 r2 q2
def CU {op:NO}{r:R2}(ho:OpR X (binaryOp op) r)(ha:PE X a ta)(hb:PE X b tb):PE X (.BinOp a op b pos) (E3 r ta tb):=by
 intro J s Y H Q I h;exact wpAny_BinOp (Ap ha hb I h λv u s2 x y H2 I2 rx ry q=>ho J s2 Y H2 x y v u Q I2 rx ry q)
def CV {op:UnaryOp}{r:V->Hp->VK->Prop}(ho:Fy X (unaryOp op) r)(ha:PE X a ta):PE X (.UnaryOp op a pos) (G2 r ta):=by
 intro J s Y H Q I h;exact UnaryOp_ (aG (ha J s Y H _ I h) λv s1 #[x,H1,I1,r1,q1]=>ho J s1 Y H1 x v Q I1 r1 q1)
def E4 {f:Hr->Hr->O6 Hr}{C:HR->HR->Prop}{g:HR->HR->HR}
  (rule:∀(i j:HR) (t u:Qk) (s:Ht) (Q:Hr->Ht->Prop) (E:Hr->Ht->Prop),C i j->Q (.int (g i j) s.toks) { s with toks:=s.toks+1 }->wpAny (model X.prog X.w) X.A (f (.int i t) (.int j u)) Q E s) :
  OpR X f (rI C λi j=>.int (g i j)):=by
 intro J s Y H x y v u Q I rx ry h;obtain⟨i,j,rfl,rfl,hc,q⟩:=h;obtain⟨t,rfl⟩:=rx;obtain⟨t',rfl⟩:=ry;exact rule i j t t' s _ _ hc #[.int (g i j),H,I.tok _,#[_,rfl],q]
def CW {f:Hr->Hr->O6 Hr}{g:HR->HR->HR}
  (rule:∀(i j:HR) (t u:Qk) (s:Ht) (Q:Hr->Ht->Prop) (E:Hr->Ht->Prop),Q (.int (g i j) s.toks) { s with toks:=s.toks+1 }->wpAny (model X.prog X.w) X.A (f (.int i t) (.int j u)) Q E s) :
  OpR X f (y8 λi j=>.int (g i j)):=by
 intro J s Y H x y v u Q I rx ry h;obtain⟨i,j,rfl,rfl,q⟩:=h;obtain⟨t,rfl⟩:=rx;obtain⟨t',rfl⟩:=ry;exact rule i j t t' s _ _ #[.int (g i j),H,I.tok _,#[_,rfl],q]
def wl {f:Hr->Hr->O6 Hr}{g:HR->HR->HP}
  (rule:∀(i j:HR) (t u:Qk) (s:Ht) (Q:Hr->Ht->Prop) (E:Hr->Ht->Prop),Q (.bool (g i j)) s->wpAny (model X.prog X.w) X.A (f (.int i t) (.int j u)) Q E s) :
  OpR X f (y8 λi j=>.bl (g i j)):=by
 intro J s Y H x y v u Q I rx ry h;obtain⟨i,j,rfl,rfl,q⟩:=h;obtain⟨t,rfl⟩:=rx;obtain⟨t',rfl⟩:=ry;exact rule i j t t' s _ _ #[.bl (g i j),H,I,rfl,q]
abbrev FB (i j:HR):Prop:=0 < j/\j < 1073741824
abbrev FC (i j:HR):Prop:=0<=j/\j<=1000000/\i.natAbs < 2 ^ 64
abbrev CMul (i j:HR):Prop:=(-(2 ^ 64) < i/\i < 2 ^ 64)\/(-(2 ^ 64) < j/\j < 2 ^ 64)
def CMul.ok {i j:HR}(h:CMul i j):IntMulOk i j:=by
 rcases h with⟨h1,h2⟩|⟨h1,h2⟩
 ·exact .of_left (O7 h1 h2)
 ·exact .of_right (O7 h1 h2)
def Aq:OpR X (binaryOp .Add) (y8 λi j=>.int (i+j)):=CW λ_ _ _ _ _ _ _ q=>add_int q
def Ar:OpR X (binaryOp .Sub) (y8 λi j=>.int (i - j)):=CW λ_ _ _ _ _ _ _ q=>sub_int q
def As:OpR X (binaryOp .Mult) (rI CMul λi j=>.int (i*j)):=E4 λ_ _ _ _ _ _ _ hc q=>mul_int q hc.ok
def wm:OpR X (binaryOp .FloorDiv) (rI FB λi j=>.int (i / j)):=E4 λi j _ _ _ _ _ hc q=>by
 have h1:(0:HR) < j:=hc.1;have h2:j < 1073741824:=hc.2;exact floordiv_int ∅ (by rw[Int.fdiv_eq_ediv_of_nonneg i ∅]; exact q) (.inl (PyProof.noPylong_small ∅))
def At:OpR X (binaryOp .Mod) (rI (λ_ j=>0 < j) λi j=>.int (i % j)):=E4 λi j _ _ _ _ _ hc q=>by
 have h1:(0:HR) < j:=hc;exact mod_int' ∅ (by rw[Int.fmod_eq_emod_of_nonneg i ∅]; exact q)
def Au:OpR X (binaryOp .Pow) (rI FC λi j=>.int (i ^ j.toNat)):=E4 λ_ _ _ _ _ _ _ hc q=>pow_int_small hc.1 hc.2.1 hc.2.2 q
def G3 {f:Hr->O6 Hr}{g:HR->HR}
  (rule:∀(i:HR) (t:Qk) (s:Ht) (Q:Hr->Ht->Prop) (E:Hr->Ht->Prop),Q (.int (g i) s.toks) { s with toks:=s.toks+1 }->wpAny (model X.prog X.w) X.A (f (.int i t)) Q E s) :
  Fy X f (rU λi=>.int (g i)):=by
 intro J s Y H x v Q I rx h;obtain⟨i,rfl,q⟩:=h;obtain⟨t,rfl⟩:=rx;exact rule i t s _ _ #[.int (g i),H,I.tok _,#[_,rfl],q]
def Av:Fy X (unaryOp .USub) (rU λi=>.int (-i)):=G3 λ_ _ _ _ _ q=>neg_int q
def sy {J:Ho (Hv×Jg)}{Y:St}{H:Hp}{s:Ht}{Q:VK}{k k':HP}(I:Inv X J Y H s)(q:Q (.bl k) H)(e:k=k'):EP X J Y Q (.bool k') s:=by
 subst e;exact#[.bl k,H,I,rfl,q]
def CY:OpR X (compareOp .Lt) (y8 λi j=>.bl (decide (i < j))):=wl λ_ _ _ _ _ _ _ q=>lt_int q
def CZ:OpR X (compareOp .LtE) (y8 λi j=>.bl (decide (i<=j))):=wl λ_ _ _ _ _ _ _ q=>le_int q
def C0:OpR X (compareOp .Gt) (y8 λi j=>.bl (decide (j < i))):=wl λ_ _ _ _ _ _ _ q=>gt_int q
def C3:OpR X (compareOp .GtE) (y8 λi j=>.bl (decide (j<=i))):=wl λ_ _ _ _ _ _ _ q=>ge_int q
def Aw:OpR X (compareOp .Is) (λx y H Q=>y=.non/\Q (.bl (decide (x=.non))) H):=by
 intro J s Y H x y v u Q I rx ry h;obtain⟨rfl,q⟩:=h;cases ry;show is_none_gen (sy I q ?_);cases x <;> first
  | (cases rx; rfl)
  | (obtain⟨t,rfl⟩:=rx; rfl)
def wn:OpR X (compareOp .IsNot) (λx y H Q=>y=.non/\Q (.bl (!decide (x=.non))) H):=by
 intro J s Y H x y v u Q I rx ry h;obtain⟨rfl,q⟩:=h;cases ry;show isnot_none_gen (sy I q ?_);cases x <;> first
  | (cases rx; rfl)
  | (obtain⟨t,rfl⟩:=rx; rfl)
def wo {op:Ow}{r:R2}(ho:OpR X (compareOp op) r)(ha:PE X a ta)(hb:PE X b tb)(hm:behindInMarks op b=false):PE X (.Compare a [op] [b] pos) (E3 r ta tb):=by
 intro J s Y H Q I h;exact wpAny_Compare1 (Ap ha hb I h λv u s2 x y H2 I2 rx ry q=>ho J s2 Y H2 x y v u Q I2 rx ry q) hm
abbrev y9 (t:TE):TT:=λY H Q=>t Y H λx H'=>∃k,x=.bl k/\Q k H'
def o5 {op:Ow}{r:R2}(ho:OpR X (compareOp op) r)(ha:PE X a ta)(hb:PE X b tb)(hm:behindInMarks op b=false):PT X (.Compare a [op] [b] pos) (y9 (E3 r ta tb)):=by
 intro J s Y H Q I h;show wpAny_isTrue_Compare1 (aG (ha J s Y H _ I h) λv s1 #[x,H1,I1,r1,q1]=>aG (hb J s1 Y H1 _ I1 q1) λu s2 #[y,H2,I2,r2,q2]=>
  aG (ho J s2 Y H2 x y v u _ I2 r1 r2 q2) λc s3 #[z,H3,I3,r3,k,e,q3]=>?_) hm
 subst e;cases r3;exact Jm #[H3,I3,q3]
abbrev nE (r r':R2)(ta tb tc:TE):TE:=λY H Q=>ta Y H λx H1=>tb Y H1 λy H2=>r x y H2 λz H3=>∃k,z=.bl k/\
 (if k=true then tc Y H3 λw' H4=>r' y w' H4 Q else Q (.bl false) H3)
def sA {op op':Ow}{r r':R2}(ho:OpR X (compareOp op) r)(ho':OpR X (compareOp op') r')(ha:PE X a ta)(hb:PE X b tb)(hc:PE X c tc)
  (hm:lastMarks [op,op'] [b,c]=false:=by with_unfolding_all rfl):PE X (.Compare a [op,op'] [b,c] pos) (nE r r' ta tb tc):=by
 intro J s Y H Q I h;show Compare_chain (aG (ha J s Y H _ I h) λv s1 #[x,H1,I1,r1,q1]=>chain_link (aG (hb J s1 Y H1 _ I1 q1) λu s2 #[y,H2,I2,r2,q2]=>
  aG (ho J s2 Y H2 x y v u _ I2 r1 r2 q2) λd s3 #[z,H3,I3,r3,k,e,q3]=>?_)) hm
 subst e;cases r3;show Jm ?_;cases k with
 | false=>exact ite_ff #[.bl false,H3,I3,rfl,q3]
 | true=>exact ite_tt (chain_last (aG (hc J s3 Y H3 _ I3 q3) λw' s4 #[z',H4,I4,r4,q4]=>ho' J s4 Y H4 y z' u w' Q I4 r2 r4 q4))
def sB {op op':Ow}{r r':R2}(ho:OpR X (compareOp op) r)(ho':OpR X (compareOp op') r')(ha:PE X a ta)(hb:PE X b tb)(hc:PE X c tc)
  (hm:lastMarks [op,op'] [b,c]=false:=by with_unfolding_all rfl):PT X (.Compare a [op,op'] [b,c] pos) (y9 (nE r r' ta tb tc)):=by
 intro J s Y H Q I h;show isTrue_chain (aG (ha J s Y H _ I h) λv s1 #[x,H1,I1,r1,q1]=>test_link (aG (hb J s1 Y H1 _ I1 q1) λu s2 #[y,H2,I2,r2,q2]=>
  aG (ho J s2 Y H2 x y v u _ I2 r1 r2 q2) λd s3 #[z,H3,I3,r3,k,e,q3]=>?_)) hm
 subst e;cases r3;show Jm ?_;cases k with
 | false=>
  obtain⟨k',e',q'⟩:=q3;cases e';exact ite_ff #[H3,I3,q']
 | true=>
  show ite_tt (test_last (aG (hc J s3 Y H3 _ I3 q3) λw' s4 #[z',H4,I4,r4,q4]=>aG (ho' J s4 Y H4 y z' u w' _ I4 r2 r4 q4) λd' s5 #[z2,H5,I5,r5,k2,e2,q5]=>?_))
  subst e2;cases r5;exact Jm #[H5,I5,q5]
abbrev FD (K:HA)(x:V)(H:Hp)(k:HP):Prop:=
 match x with
 | .non=>k=false
 | .bl b=>k=b
 | .int i=>k=(i != 0)
 | .str y=>y.length<=sizeLine/\k=((y.length:HR) != 0)
 | .byt y=>y.size<=sizeLine/\k=((y.size:HR) != 0)
 | .ref p=>(∃xs,SqL K H p xs/\k = !xs.isEmpty)\/(∃xs,SqT K H p xs/\k = !xs.isEmpty)\/∃U,H p=ba (.dK U)/\k = !U.isEmpty
 | _=>ID
def nF {κ:Type}{U:Ho (κ×V)}{vs:Ho (κ×Hr)}(r:KV U vs):(!vs.isEmpty) = !U.isEmpty:=by
 cases r <;> rfl
def iA {xs:Ho V}{its:Ho Hr}(r:Vals xs its):(!its.toArray.isEmpty) = !xs.isEmpty:=by
 cases r <;> simp
def gy:(sizeLine:Hz) < 2 ^ 63:=by rw[IN]; decide
def Ax:Fz X (λx H Q=>∃k,FD X.K x H k/\Q k H):=by
 intro J s Y H x v Q I rx h;obtain⟨k,e,q⟩:=h;have hl:=gy;have hs:sizeLine=16777216:=IN;cases x with
 | non=>
  cases rx;have e':k=false:=e;subst e';exact truthy_none #[H,I,q]
 | bl b=>
  cases rx;have e':k=b:=e;subst e';exact Jm #[H,I,q]
 | int i=>
  obtain⟨t,rfl⟩:=rx;have e':k=(i != 0):=e;subst e';exact PySem.P.truthy_int #[H,I,q]
 | str y=>
  obtain⟨t,rfl⟩:=rx;obtain⟨hy,e'⟩ : y.length<=sizeLine/\k=((y.length:HR) != 0):=e;subst e';exact PySem.P.truthy_str ∅ #[H,I.tok _,q]
 | byt y=>
  obtain⟨t,rfl⟩:=rx;obtain⟨hy,e'⟩ : y.size<=sizeLine/\k=((y.size:HR) != 0):=e;subst e';exact PySem.W.truthy_bytes ∅ #[H,I.tok _,q]
 | ref p=>
  cases rx;have e':(∃xs,SqL X.K H p xs/\k = !xs.isEmpty)\/(∃xs,SqT X.K H p xs/\k = !xs.isEmpty)\/∃U,H p=ba (.dK U)/\k = !U.isEmpty:=e;rcases e' with⟨xs,hx,e'⟩|⟨xs,hx,e'⟩|⟨U,hx,e'⟩
  ·subst e';obtain⟨its,r,pl,hz⟩:=I.list hx;have hlen:=r.length;exact wpAny_truthy_list pl.isList (by simp only[HE]; omega) #[H,I.tok _,by rw[iA r]; exact q]
  ·subst e';obtain⟨its,r,pl,hz⟩:=I.tuple hx;have hlen:=r.length;exact truthy_tuple pl (by simp only[HE]; omega) #[H,I.tok _,by rw[iA r]; exact q]
  ·subst e';obtain⟨hz,hS,vs,r,m⟩ : U.length<=sizeLine/\(p==sysModules)=false/\∃vs,KV U vs/\s.heap.DictOf (kC X.prog X.w) p vs:=I.hok p _ hx;have hlen:U.length=vs.length:=Ml r;exact wpAny_truthy_dict hS m ∅ #[H,I.tok _,by rw[nF r]; exact q]
 | _=>exact(show ID from e).elim
def nG:OpR X (binaryOp .Add) (λx y H Q=>∃i j,x=.str i/\y=.str j/\i.length+j.length<=sizeLine/\Q (.str (i++j)) H):=by
 intro J s Y H x y v u Q I rx ry h;obtain⟨i,j,rfl,rfl,hz,q⟩:=h;obtain⟨t,rfl⟩:=rx;obtain⟨t',rfl⟩:=ry;exact add_str (λt' tk=>#[.str (i++j),H,I.tok _,#[_,rfl],q]) hz
def iB {x:V}{us:Ho Hr}(r:Vals [x] us):∃u,us=[u]/\RelV x u:=by
 cases r with
 | cons r1 r2=>cases r2; exact#[_,rfl,r1]
def C4 {x y:V}{us:Ho Hr}(r:Vals [x,y] us):∃u w',us=[u,w']/\RelV x u/\RelV y w':=by
 cases r with
 | cons r1 r2=>
  cases r2 with
  | cons r3 r4=>cases r4; exact#[_,_,rfl,r1,r3]
def qJ (hc:X.calm=true):CallR X (.builtin "min") (λxs H Q=>∃i j,xs=[.int i,.int j]/\Q (.int (if j < i then j else i)) H):=by
 intro J s Y H xs us Q I r h;obtain⟨i,j,rfl,q⟩:=h;obtain⟨u,w',rfl,⟨t,rfl⟩,⟨t',rfl⟩⟩:=C4 r;show min_two_ints (I.ok.hd hc) λh' tk k=>#[_,H,I.kept k,?_,q]
 by_cases hj:j < i
 ·rw[HN hj,HN hj]; exact#[_,rfl]
 ·rw[HY hj,HY hj]; exact#[_,rfl]
def jJ:CallR X (.type "int") (λxs H Q=>(∃i,xs=[.int i]/\Q (.int i) H)\/∃k,xs=[.bl k]/\Q (.int (if k then 1 else 0)) H):=by
 intro J s Y H xs us Q I r h;rcases h with⟨i,rfl,q⟩|⟨k,rfl,q⟩
 ·obtain⟨u,rfl,t,rfl⟩:=iB r;exact call_int_int #[.int i,H,I,#[_,rfl],q]
 ·obtain⟨u,rfl,r1⟩:=iB r;cases r1;exact call_int_bool #[.int (if k then 1 else 0),H,I.tok _,#[_,rfl],q]
abbrev FH (K:HA)(x:V)(H:Hp)(n:Hz):Prop:=
 match x with
 | .str y=>y.length<=sizeLine/\n=y.length
 | .byt y=>y.size<=sizeLine/\n=y.size
 | .ref p=>(∃xs,SqL K H p xs/\n=xs.length)\/∃xs,SqT K H p xs/\n=xs.length
 | _=>ID
def iC:CallR X (.builtin "len") (λxs H Q=>∃x n,xs=[x]/\FH X.K x H n/\Q (.int n) H):=by
 intro J s Y H xs us Q I r h;obtain⟨x,n,rfl,e,q⟩:=h;obtain⟨u,rfl,rx⟩:=iB r;have hl:=gy;have hs:sizeLine=16777216:=IN;cases x with
 | str y=>
  obtain⟨t,rfl⟩:=rx;obtain⟨hy,e'⟩ : y.length<=sizeLine/\n=y.length:=e;subst e';exact len_str ∅ #[.int _,H,I.tok _,#[_,rfl],q]
 | byt y=>
  obtain⟨t,rfl⟩:=rx;obtain⟨hy,e'⟩ : y.size<=sizeLine/\n=y.size:=e;subst e';exact PySem.W.len_bytes ∅ #[.int _,H,I.tok _,#[_,rfl],q]
 | ref p=>
  cases rx;have e':(∃xs,SqL X.K H p xs/\n=xs.length)\/∃xs,SqT X.K H p xs/\n=xs.length:=e;rcases e' with⟨xs,hx,e'⟩|⟨xs,hx,e'⟩
  ·subst e';obtain⟨its,r',pl,hz⟩:=I.list hx;have hlen:=r'.length;exact Calls.call_len_list pl.isList (by simp only[HE]; omega) #[.int xs.length,H,I.tok _,#[_,by simp only[HE]; rw[hlen]],q]
  ·subst e';obtain⟨its,r',pl,hz⟩:=I.tuple hx;have hlen:=r'.length;exact len_tuple pl (by simp only[HE]; omega) #[.int xs.length,H,I.tok _,#[_,by simp only[HE]; rw[hlen]],q]
 | _=>exact(show ID from e).elim
end
def qK {h:Ii}{dx:Hv}{mA:HC->Hs Hr}(n:h.Ns1 dx mA):∃od,h.get? dx=ba od/\∀name,ON name od=ba (mA name):=by
 obtain⟨o,es,ep,ho,hd,hk,_,hm⟩:=n;show#[o,ho,λname=>?_]
 have e:=hm name;unfold nsFind findBy at e;rw[<- Array.find?_toList]at e;unfold ON;rw[hd];dsimp only;split
 ·rename_i y q;rw[q]at e;exact congrArg ba e
 ·rename_i q;rw[q]at e;have a:es.toList.any (·.refKey)=false:=by
   rw[List.any_eq_false];intro y hy;obtain⟨z,t,hkey⟩:=hk y (Array.mem_toList_iff.mp hy);simp[Ql,hkey]
  have a':¬ es.toList.any (·.refKey)=true:=by rw[a]; exact HS
  rw[HY a'];exact congrArg ba e
abbrev fG (f:HC)(v:V):Ho (HC×V)->Ho (HC×V)
 | []=>[(f,v)]
 | (g,x)::r=>if g=f then(g,v)::r else(g,x)::fG f v r
def dO (f g:HC)(v:V):∀fs:Ho (HC×V),(fG f v fs).lookup g=if g=f then ba v else fs.lookup g
 | []=>by
  change KJ g [(f,v)]=_
  by_cases h:g=f
  ·have hb:(g==f)=true:=KL.mpr h;simp only[KJ,hb,HN h]
  ·have hb:(g==f)=false:=J3.mpr h;simp only[KJ,hb,HY h]
 | (k,x)::r=>by
  have ih:=dO f g v r;rw[show fG f v ((k,x)::r)=(if k=f then(k,v)::r else(k,x)::fG f v r)from rfl]
  by_cases hk:k=f
  ·rw[HN hk]
   by_cases h:g=k
   ·have hb:(g==k)=true:=KL.mpr h;simp only[KJ,hb,HN (h.trans hk)]
   ·have hb:(g==k)=false:=J3.mpr h;simp only[KJ,hb,HY (λe:g=f=>h (e.trans hk.symm))]
  ·rw[HY hk]
   by_cases h:g=k
   ·have hb:(g==k)=true:=KL.mpr h;simp only[KJ,hb,HY (λe:g=f=>hk (h.symm.trans e))]
   ·have hb:(g==k)=false:=J3.mpr h;simp only[KJ,hb];exact ih
def gz (f:HC)(v:V):∀fs:Ho (HC×V),f∈(fG f v fs).map (·.1)/\∀g,g∈fs.map (·.1)->g∈(fG f v fs).map (·.1)
 | []=>#[by simp[fG],λg h=>by simp at h]
 | (k,x)::r=>by
  obtain⟨i1,i2⟩:=gz f v r;rw[show fG f v ((k,x)::r)=(if k=f then(k,v)::r else(k,x)::fG f v r)from rfl]
  by_cases hk:k=f
  ·rw[HN hk];subst hk;exact#[by simp,λg h=>by simpa using h]
  ·rw[HY hk];show#[?_,λg h=>?_]
   ·rw[IT];exact Ig _ i1
   ·rw[IT]at h ⊢;rcases Ij.mp h with e|e
    ·exact Ij.mpr (.inl e)
    ·exact Ig _ (i2 g e)
section
variable{X:Cx}{J:Ho (Hv×Jg)}{Y:St}{H:Hp}{s:Ht}{a C dx:Hv}{fs:Ho (HC×V)}{f:HC}{v:V}{A:HW}{E:Hr->Ht->Prop}
def wp {prog:HM}{w:HX}{env:LL}{e:HH}{f:HC}{pos:Jw}{s:Ht}{Q:Hr->Ht->Prop}(hb:attributeBase e f env (eval e env)=eval e env)
  (h:wpAny (model prog w) A (eval e env) (λo s₁=>wpAny (model prog w) A (getAttr o f true) Q E s₁) E s):wpAny (model prog w) A (eval (.Attribute e f pos) env) Q E s:=
 Attribute_any_ h (by rw[arm_eval_Attribute,hb])
end
structure Room (k:Hz)(A:HW):Prop where
 hd:A.handled=gV
 dp:A.depth+3*k+5 < recursionLimit
 un:A.units+16*k+200 < cLine
def Room.mono {j k:Hz}{A:HW}(r:Room k A)(h:j<=k):Room j A:=#[r.hd,by have:=r.dp; omega,by have:=r.un; omega]
def Room.deeper {k:Hz}{A:HW}(r:Room (k+1) A)(env:LL):Room k (A.deeper env):=
 #[r.hd,by have:=r.dp; show A.depth+1+3*k+5 < _; omega,by have:=r.un; show A.units+3+16*k+200 < _; omega]
def nH {A:HW}{C:Hv}{us:Ho Hr}{kw:Ho (HC×Hr)}:(A.under (.builtin "type.__call__" #[.ref C::us,kw])).depth=A.depth+1:=by
 first|rfl|simp[NP,Code.weight,Code.isCreation,Code.isGuard,Code.isCaller,PB,NQ,guardIds]
def nI {A:HW}{C:Hv}{us:Ho Hr}{kw:Ho (HC×Hr)}:(A.under (.builtin "type.__call__" #[.ref C::us,kw])).units=A.units+1:=by
 first|rfl|simp[NP,Code.cUnits,PB,NQ]
def Room.make {k:Hz}{A:HW}(r:Room (k+1) A)(C:Hv)(us:Ho Hr)(kw:Ho (HC×Hr)):Room k (A.under (.builtin "type.__call__" #[.ref C::us,kw])):=
 #[r.hd,by have:=r.dp; rw[nH]; omega,by have:=r.un; rw[nI]; omega]
def Room.depth {k:Hz}{A:HW}(r:Room k A):A.depth < recursionLimit:=by have:=r.dp; omega
abbrev wq:TA:=λ_ H Q=>Q [] H
abbrev sC (ta:TE)(tr:TA):TA:=λY H Q=>ta Y H λx H1=>tr Y H1 λxs H2=>Q (x::xs) H2
section
variable{X:Cx}{e:HH}{es:Ho HH}{te:TE}{t:TA}{pos:Jw}
def ff:PA X [] wq:=λ_ _ _ _ H Q I h=>Calls.spliced_nil #[[],H,I,.nil,h]
def bA (ha:PE X e te)(hr:PA X es t)(hs:starEach (e::es) X.env=(false,eval e X.env)::starEach es X.env:=by rfl):PA X (e::es) (sC te t):=by
 intro pos J s Y H Q I h;rw[hs];change wpAny _ _ (spliced ((false,eval e X.env)::backTo pos (starEach es X.env))) _ _ s;show Calls.spliced_cons (aG (ha J s Y H _ I h) λu s1 #[x,H1,I1,r1,q1]=>?_)
 exact aG (hr pos J s1 Y H1 _ I1 q1) λus s2 #[xs,H2,I2,r2,q2]=>#[x::xs,H2,I2,.cons r1 r2,q2]
abbrev FJ (t:TA):TE:=λY H Q=>t Y H λxs H1=>xs.length<=sizeLine/\∀p,H1 p=gV->Q (.ref p) (aA H1 p (.tup xs))
abbrev FK (t:TA):TE:=λY H Q=>t Y H λxs H1=>xs.length<=sizeLine/\∀p,H1 p=gV->Q (.ref p) (aA H1 p (.lst xs))
def sD {x1}(h:PA X es t):PE X (.Tuple es x1 pos) (FJ t):=by
 intro J s Y H Q I hq;show wpAny_Tuple_spliced (aG (h pos J s Y H _ I hq) λus s1 #[xs,H1,I1,r,z,q]=>#[by rw[<- r.length]; exact z,?_])
 have hf:H1 s1.heap.objs.size=gV:=I1.hok.fresh (HJ _);show#[.ref s1.heap.objs.size,aA H1 s1.heap.objs.size (.tup xs),I1.laid (t':=s1.toks) (λb u e=>Hw _ e) (HJ _) ?_,rfl,q _ hf]
 exact#[#[z,NoD.new _ _ _],us,r,#[_,HG _ rfl,rfl,_,rfl]]
def Ay (h:PA X es t):PE X (.List es pos) (FK t):=by
 intro J s Y H Q I hq;show wpAny_List_spliced (aG (h pos J s Y H _ I hq) λus s1 #[xs,H1,I1,r,z,q]=>#[by rw[<- r.length]; exact z,?_])
 have hf:H1 s1.heap.objs.size=gV:=I1.hok.fresh (HJ _);show#[.ref s1.heap.objs.size,aA H1 s1.heap.objs.size (.lst xs),I1.laid (t':=s1.toks) (λb u e=>Hw _ e) (HJ _) ?_,rfl,q _ hf]
 exact#[z,us,0,r,HG _ rfl]
end
noncomputable abbrev Sp:=Ho V->Hp->VK->XK->Prop
noncomputable abbrev nJ:=Ho LL->Hp->Ht->XK->Hr->Ht->Prop
structure Env0 (P:HM)(w:HX)(K:HA)(mg:HC->Hs Hr)(base:Ii)(A:HW)(outer:Ho LL)(s:Ht)(H:Hp):Prop where
 frames:A.frames=ba outer
 mod:Mod K mg base
 bs:∀b o,base.get? b=ba o->s.heap.get? b=ba o/\H b=gV
 bsz:base.objs.size<=s.heap.objs.size
 funs:s.heap.FunFrames base outer
 frf:∀b∈jI outer,H b=gV
 hok:HOk P w H s.heap
 bare:LH s.gens
abbrev CE (outer:Ho LL)(P:HM)(w:HX)(H:Hp)(s:Ht)(Q:VK)(u:Hr)(s':Ht):Prop:=
 ∃v H',s'.os=s.os/\LH s'.gens/\Un (jI outer) [] H H' s.heap s'.heap/\HOk P w H' s'.heap/\RelV v u/\Q v H'
abbrev CR (CX:nJ)(outer:Ho LL)(P:HM)(w:HX)(H:Hp)(s:Ht)(Q:VK)(E:XK)(r:Mx)(s':Ht):Prop:=
 match r with
 | .ok (.ret u)=>CE outer P w H s Q u s'
 | .ok _=>ID
 | .error e=>CX outer H s E e s'
structure FnOk (P:HM)(w:HX)(K:HA)(mg:HC->Hs Hr)(base:Ii)(CX:nJ)(k:Hz)(f:Hv)(fd:IY)(ps:Ho HC)(sp:Sp):Prop where
 len:∀vs H Q E,sp vs H Q E->vs.length=ps.length
 run:∀(A:HW) (outer:Ho LL) (s:Ht) (H:Hp) (args:Args) (us:Ho Hr) (vs:Ho V) (Q:VK) (E:XK),Room k A->Env0 P w K mg base A outer s H->NR s fd args (ps.zip us)->Vals vs us->sp vs H Q E->
  codeAny (model P w) A (.call (.ref f) args) (CR CX outer P w H s Q E) s
def FnOk.imp {P:HM}{w:HX}{K:HA}{mg:HC->Hs Hr}{base:Ii}{CX:nJ}{k:Hz}{f:Hv}{fd:IY}{ps:Ho HC}{sp sp':Sp}(F:FnOk P w K mg base CX k f fd ps sp)
  (h:∀vs H Q E,sp' vs H Q E->sp vs H Q E):FnOk P w K mg base CX k f fd ps sp':=
 #[λvs H Q E q=>F.len vs H Q E (h _ _ _ _ q),λA outer s H args us vs Q E hr he hb hv hs=>F.run A outer s H args us vs Q E hr he hb hv (h _ _ _ _ hs)]
def Env0.make {P:HM}{w:HX}{K:HA}{mg:HC->Hs Hr}{base:Ii}{A:HW}{outer:Ho LL}{s:Ht}{H:Hp}(e:Env0 P w K mg base A outer s H)(C:Hv)(us:Ho Hr)(kw:Ho (HC×Hr)) :
  Env0 P w K mg base (A.under (.builtin "type.__call__" #[.ref C::us,kw])) outer s H:=#[by first|exact e.frames|(simpa [NP,Code.envs,NQ,pushEnvs]using e.frames),e.mod,e.bs,e.bsz,e.funs,e.frf,e.hok,e.bare]
section
variable{X:Cx}{J:Ho (Hv×Jg)}{Y:St}{H:Hp}{s s':Ht}
def Inv.env0 (I:Inv X J Y H s):Env0 X.prog X.w X.K X.mg X.base X.A X.stack s H:=
 #[I.ok.frames,I.ok.mod,I.bs,Ix I.ok.bsz I.sz,I.stack,I.stkFree,I.hok,I.bare]
def Inv.after {Q:VK}{u:Hr}(I:Inv X J Y H s)(h:CE X.stack X.prog X.w H s Q u s'):EP X J Y Q u s':=by
 obtain⟨v,H',os,bare,un,hok,r,q⟩:=h;obtain⟨hh,g,d,t,os'⟩:=s';obtain rfl:os'=s.os:=os;exact#[v,H',I.call (h':=hh) (g':=g) (d':=d) (t':=t) (ch:=[]) un hok bare (λb z=>absurd z (by simp)),r,q]
end
abbrev sE (sp:Sp)(dvs:Ho V)(E:XK)(t:TA):TE:=λY H Q=>t Y H λvs H1=>sp (vs++dvs) H1 Q E
abbrev Binds (K:HA)(fd:IY)(ps:Ho HC)(ds:Ho Hr):Prop:=
 ∀(s:Ht) (us:Ho Hr),K.In s.heap->(us++ds).length=ps.length->NR s fd #[us,[]] (ps.zip (us++ds))
def Binds.all {K:HA}{fd:IY}{ps:Ho HC}(h:∀us:Ho Hr,us.length=ps.length->bindArgs fd #[us,[]]=pure (ps.zip us)):Binds K fd ps []:=λs us _ hl=>by
 rw[JD]at hl ⊢;exact .of_eq (h us hl)
abbrev fg (CX:nJ)(X:Cx)(E:XK):Prop:=∀(J:Ho (Hv×Jg)) (Y:St) (H:Hp) (s:Ht) (e:Hr) (s':Ht),Inv X J Y H s->CX X.stack H s E e s'->X.xe e s'
section
variable{X:Cx}{CX:nJ}{k:Hz}{f C:Hv}{fd:IY}{ps:Ho HC}{sp:Sp}{dvs:Ho V}{ds:Ho Hr}{E:XK}{x m:HC}{p pos apos:Jw}{e o:HH}{es:Ho HH}{ta:TE}{t:TA}
def sF {J:Ho (Hv×Jg)}{Y:St}{H:Hp}{s:Ht}{Q:VK}{us:Ho Hr}{vs:Ho V}(F:FnOk X.prog X.w X.K X.mg X.base CX k f fd ps sp)(hr:Room k X.A)(hb:Binds X.K fd ps ds)(hd:Vals dvs ds)(hx:fg CX X E)
  (I:Inv X J Y H s) (r:Vals vs us) (h:sp (vs++dvs) H Q E):wpAny (model X.prog X.w) X.A (call (.ref f) us) (EP X J Y Q) X.xe s:=by
 have r2:Vals (vs++dvs) (us++ds):=r.append hd;have hl:(us++ds).length=ps.length:=by rw[<- r2.length]; exact F.len _ _ _ _ h
 show K4 (Kx (F.run X.A X.stack s H #[us,[]] (us++ds) (vs++dvs) Q E hr I.env0 (hb s us I.kIn hl) r2 h) λr s' hq=>?_)
 cases r with
 | error e=>exact hx J Y H s e s' I hq
 | ok fl=>
  cases fl with
  | ret u=>exact I.after hq
  | next=>exact ID.elim hq
  | brk=>exact ID.elim hq
  | cont=>exact ID.elim hq
def wt (F:FnOk X.prog X.w X.K X.mg X.base CX k f fd ps sp)(hr:Room k X.A)(hg:Gl X x)(hm:X.mg x=ba (.ref f))(hk:IZ X.K (.ref f)=true)(hb:Binds X.K fd ps ds)(hd:Vals dvs ds)(hx:fg CX X E)
  (ha:PA X (e::es) t) (hdb:(x==("__debug__" : HC))=false:=by decide) (he:starEach (e::es) X.env=(false,eval e X.env)::starEach es X.env:=by rfl) (hpl:(backTo pos (starEach es X.env)).any (·.1)=false:=by rfl) :
  PE X (.Call (.Name x p) (e::es) [] pos) (sE sp dvs E t):=by
 intro J s Y H Q I h;show JR (cz I hg hm ?_ hdb);show LO (h₀:=X.base) I.ok.mod.kin hk (aG (ha pos J s Y H _ I h) λus s1 #[vs,H1,I1,r,q]=>#[I1.kIn,?_]) he hpl
 exact sF F hr hb hd hx I1 r q
def sG (F:FnOk X.prog X.w X.K X.mg X.base CX k f fd ps sp)(hr:Room k X.A)(hg:Gl X x)(hm:X.mg x=ba (.ref f))(hk:IZ X.K (.ref f)=true)(hb:Binds X.K fd ps ds)(hd:Vals dvs ds)(hx:fg CX X E)
  (hdb:(x==("__debug__" : HC))=false:=by decide):PE X (.Call (.Name x p) [] [] pos) (sE sp dvs E wq):=by
 intro J s Y H Q I h;show JR (cz I hg hm ?_ hdb);exact Nf I.kIn hk (sF (us:=[]) F hr hb hd hx I .nil h)
end
structure FnScope (N P:Ho HC)(sc:Kh):Prop where
 kind:sc.kind=.function
 co:sc.isCoroutine=false
 gen:sc.isGenerator=false
 nd:N.Nodup
 pre:N.take P.length=P
 par:∀x∈P,sc.names.lookup x=ba .local\/sc.names.lookup x=ba .cell
 nofree:∀y∈sc.names,y.2≠.free
def jK {kindOf:HC->Hs Jn}{x:HC}:∀ {binds:Ho (HC×Hr)} {m:HC->Hs Hr},(∀v,(x,v)∉binds)->bindL kindOf binds m x=m x
 | [],_,_=>rfl
 | (n,v)::r,m,h=>by
  unfold bindL;rw[jK λw hw=>h w (Ig _ hw)]
  split
  ·have:x≠n:=by rintro rfl; exact h v Iw
   simp[this]
  ·rfl
def jL {kindOf:HC->Hs Jn}{x:HC}:∀ {binds:Ho (HC×Hr)} {m:HC->Hs Hr},(∀v,(x,v)∉binds)->bindC kindOf binds m x=m x
 | [],_,_=>rfl
 | (n,v)::r,m,h=>by
  unfold bindC;rw[jL λw hw=>h w (Ig _ hw)]
  split
  ·rfl
  ·have:x≠n:=by rintro rfl; exact h v Iw
   simp[this]
def jM {kindOf:HC->Hs Jn}{x:HC}{v:Hr}:∀ {P:Ho HC} {vs:Ho Hr} {i:Hz} {m:HC->Hs Hr},P.Nodup->P[i]?=ba x->vs[i]?=ba v->kindOf x=ba .local->
  bindL kindOf (P.zip vs) m x=ba v
 | [],_,_,_,_,h,_,_=>by simp at h
 | _::_,[],_,_,_,_,h,_=>by simp at h
 | p::P,w::vs,0,m,nd,h1,h2,hk=>by
  simp at h1 h2; subst h1; subst h2
  change bindL kindOf ((p,w)::P.zip vs) m p=_;unfold bindL;rw[jK λv hv=>(K1.mp nd).1 (MF hv).1,HN hk]
  simp
 | p::P,w::vs,i+1,m,nd,h1,h2,hk=>by
  change bindL kindOf ((p,w)::P.zip vs) m x=_;unfold bindL;exact jM (i:=i) (K1.mp nd).2 (by simpa using h1) (by simpa using h2) hk
def jN {kindOf:HC->Hs Jn}{x:HC}{v:Hr}:∀ {P:Ho HC} {vs:Ho Hr} {i:Hz} {m:HC->Hs Hr},P.Nodup->P[i]?=ba x->vs[i]?=ba v->kindOf x≠ba .local->
  bindC kindOf (P.zip vs) m x=ba v
 | [],_,_,_,_,h,_,_=>by simp at h
 | _::_,[],_,_,_,_,h,_=>by simp at h
 | p::P,w::vs,0,m,nd,h1,h2,hk=>by
  simp at h1 h2; subst h1; subst h2
  change bindC kindOf ((p,w)::P.zip vs) m p=_;unfold bindC;rw[jL λv hv=>(K1.mp nd).1 (MF hv).1,HY hk]
  simp
 | p::P,w::vs,i+1,m,nd,h1,h2,hk=>by
  change bindC kindOf ((p,w)::P.zip vs) m x=_;unfold bindC;exact jN (i:=i) (K1.mp nd).2 (by simpa using h1) (by simpa using h2) hk
abbrev dP (N:Ho HC)(vs:Ho V):St:=vs.map ba++Iq (N.length - vs.length) gV
abbrev dQ (CX:nJ)(P:HM)(w:HX)(K:HA)(mg:HC->Hs Hr)(base:Ii)(N:Ho HC)(qual:HC)(scope:Kh)(f:Hv)(cd:Hr)(A:HW)(outer:Ho LL)(s:Ht)(H:Hp)(E:XK):Cx where
 prog:=P
 w:=w
 K:=K
 mg:=mg
 base:=base
 A:=A.deeper (envOfC qual scope s.heap.objs.size f cd)
 N:=N
 s₀:=s
 H₀:=H
 env:=envOfC qual scope s.heap.objs.size f cd
 outer:=outer
 stack:=envOfC qual scope s.heap.objs.size f cd::outer
 ex:=[]
 calm:=true
 fn:=λ_=>true
 pn:=[]
 xe:=λe s'=>wpAny (model P w) (A.deeper (envOfC qual scope s.heap.objs.size f cd)) (leaving (envOfC qual scope s.heap.objs.size f cd) e) (λ_ s''=>CX outer H s E e s'') (λe' s''=>CX outer H s E e' s'') s'
def lO {sc:Kh}{n:Hz}{x:HC}(h:sc.names.lookup x=ba .cell):∃c,(cellsFrom n sc.names []).lookup x=ba c:=by
 have q:=Mz sc.names n [] (.inl h);exact IM.mp q
def qL {CX:nJ}{P:HM}{w:HX}{K:HA}{mg:HC->Hs Hr}{base:Ii}{N ps:Ho HC}{qual:HC}{scope:Kh}{f:Hv}{cd:Hr}{A:HW}{outer:Ho LL}{s s1:Ht}{H:Hp}{E:XK}{us:Ho Hr}{vs:Ho V}
  (S:FnScope N ps scope) (hd:A.handled=gV) (e0:Env0 P w K mg base A outer s H) (hl:vs.length=ps.length) (r:Vals vs us)
  (x:InCallC s s.heap.objs.size (bindL (envOfC qual scope s.heap.objs.size f cd).kindOf (ps.zip us) λ_=>gV) (cellsFrom (s.heap.objs.size+1) scope.names []) (bindC (envOfC qual scope s.heap.objs.size f cd).kindOf (ps.zip us) λ_=>gV) s1) :
  Inv (dQ CX P w K mg base N qual scope f cd A outer s H E) [] (dP N vs) H s1:=by
 have hpl:ps.length<=N.length:=by have:=congrArg PC S.pre; rw[Ju]at this; omega
 obtain⟨h1,tk,rfl,hk⟩:=x.done;have noA:∀b:Hv,b∉(dQ CX P w K mg base N qual scope f cd A outer s H E).ex:=λb z=>absurd (show b∈([]:Ho Hv)from z) (by simp)
 show#[#[e0.mod,S.kind,rfl,rfl,HJ _,λy z c h1 h2=>?_,λy hy=>?_,λy c _ h=>?_,λ_=>hd,Around.frames_deeper e0.frames,.inr #[rfl,rfl],λb z=>absurd z (noA b),e0.bs,e0.bsz,λb _ _=>noA b,λb z=>absurd z (noA b),e0.funs,e0.frf],
  rfl,e0.bare,Un.kept hk,#[_,x.toInCall.ns,λi y v h1 h2 h3=>?_],λy c h=>#[_,x.cell y c h],e0.hok.fresh (HJ _),λy c h=>?_,λp hp=>absurd (show p∈([]:Ho (Hv×Jg))from hp) (by simp),e0.hok.kept hk,?_]
 ·exact name_of_addr x.apart (Kq h1) (Kq h2)
 ·have hy:scope.names.lookup y=ba .cell\/scope.names.lookup y=ba .free:=hy;rcases hy with hy|hy
  ·exact lO hy
  ·exact absurd rfl (S.nofree _ (Kq hy))
 ·exact J5 (x.above y c (Kq h))
 ·have hi:i < vs.length:=by
   unfold dP at h2
   by_cases hi:i < vs.length
   ·exact hi
   ·rw[KM (by simpa using hi)]at h2
    rw[List.getElem?_replicate]at h2;split at h2 <;> cases h2
  have ha:vs[i]?=ba v:=by
   unfold dP at h2;rw[IB (by simpa using hi),HQ]at h2
   cases e:vs[i]? with
   | none=>rw[e]at h2; cases h2
   | some a=>rw[e]at h2; cases h2; rfl
  obtain⟨u,hu,rv⟩:=r.get ha;have hp:ps[i]?=ba y:=by
   rw[<- S.pre,List.getElem?_take_of_lt ∅]; exact h1
  have ndP:ps.Nodup:=by rw[<- S.pre]; exact S.nd.sublist (List.take_sublist _ _)
  show#[u,rv,?_];rcases S.par y (Jq hp)with k|k
  ·exact .inl #[k,jM ndP hp hu k]
  ·obtain⟨c,e⟩:=lO (n:=s.heap.objs.size+1) k;show .inr #[.inl k,c,e,?_];have q:=x.cell y c e;rw[jN ndP hp hu (by change scope.names.lookup y≠_; rw[k]; decide)]at q
   exact q
 ·exact e0.hok.fresh (J5 (x.above y c (Kq h)))
 ·unfold dP;change _=N.length;rw[HK,HB,MP];omega
def zb {CX:nJ}{P:HM}{w:HX}{K:HA}{mg:HC->Hs Hr}{base:Ii}{k:Hz}{f:Hv}{name qual:HC}{params:Arguments}{body:Ho Jf}{scope:Kh}{dV kV doc pm cdv ct oc:Hr}{an od:Hs Hv}
  {osl:Iu (Hs Hr)} {N ps:Ho HC} {sp:Sp} (lk:K.lookup f=ba #[oc,od,.func (JL name qual params body scope dV kV doc pm an cdv ct),osl]) (hcd:Kt K cdv qual=true) (S:FnScope N ps scope)
  (len:∀vs H Q E,sp vs H Q E->vs.length=ps.length)
  (hbody:∀(A:HW) (outer:Ho LL) (s:Ht) (H:Hp) (vs:Ho V) (Q:VK) (E:XK),Room k (A.deeper (envOfC qual scope s.heap.objs.size f cdv))->sp vs H Q E->
   ∃t,PSs (dQ CX P w K mg base N qual scope f cdv A outer s H E) body t/\t { nx:=λ_ H'=>Q .non H',rt:=Q } (dP N vs) H) :
  FnOk P w K mg base CX (k+1) f (JL name qual params body scope dV kV doc pm an cdv ct) ps sp:=by
 show#[len,λA outer s H args us vs Q E hr e0 hb r hsp=>?_]
 have hl:=len _ _ _ _ hsp;have KX:K.In s.heap:=e0.mod.kin.keeps λb o e=>(e0.bs b o e).1
 have lim:s.heap.NoLimit:=e0.mod.nolimit.keeps λb o e=>(e0.bs b o e).1
 have hkind:∀y∈ps.zip us,scope.names.lookup y.1=ba .local\/(scope.names.lookup y.1=ba .cell/\((cellsFrom (s.heap.objs.size+1) scope.names []).lookup y.1).isSome=true):=λ#[n,v] hy=>by
  rcases S.par n (MF hy).1 with q|q
  ·exact .inl q
  ·exact .inr #[q,Mz _ _ _ (.inl q)]
 show codeAny_call_function hr.depth (KX _ _ lk) rfl S.co S.gen rfl (PySem.W.codeRec_of KX hcd) (hb _ _ _ _ ?_);show wpAny_newFunctionEnv_cells S.kind hkind λenv he s1 x=>?_
 subst he;show#[lim.keeps x.toInCall.keep,codeAny_func ?_];obtain⟨t,ht,hq⟩:=hbody A outer s H vs Q E (hr.deeper _) hsp;have I:Inv (dQ CX P w K mg base N qual scope f cdv A outer s H E) [] (dP N vs) H s1:=qL S hr.hd e0 hl r x;show IE (ht [] s1 (dP N vs) H _ I hq) (λfl s' hs=>?_) λe s' hs=>hs
 have fin:∀ {Y':St} {H':Hp} {v:V} {u:Hr},Inv (dQ CX P w K mg base N qual scope f cdv A outer s H E) [] Y' H' s'->RelV v u->Q v H'->CE outer P w H s Q u s':=
  λ{Y' H' v u} Jqa rv q=>#[v,H',Jqa.os,Jqa.bare,Jqa.base,Jqa.hok,rv,q]
 cases fl with
 | ret u=>
  obtain⟨v,Y',H',Jqa,rv,q⟩:=hs;exact fin Jqa rv q
 | next=>
  obtain⟨Y',H',Jqa,q⟩:=hs;exact fin (v:=V.non) (u:=Iz) Jqa rfl q
 | brk=>
  obtain⟨_,_,_,q⟩:=hs;exact ID.elim q
 | cont=>
  obtain⟨_,_,_,q⟩:=hs;exact ID.elim q
section
variable{X:Cx}{x:HC}{p pos:Jw}{e:HH}{es:Ho HH}{t:TA}{id T:Jb}{r:Ho V->Hp->VK->Prop}
abbrev GL (r:Ho V->Hp->VK->Prop)(t:TA):TE:=λY H Q=>t Y H λvs H1=>r vs H1 Q
def dR (hc:CallR X (.builtin id) r)(hg:Gl X x)(hm:X.mg x=gV)(hv:bootBuiltins x=ba (.builtin id))(ha:PA X (e::es) t)(hn:x≠"__name__":=by decide)(hdb:(x==("__debug__" : HC))=false:=by decide)
  (he:starEach (e::es) X.env=(false,eval e X.env)::starEach es X.env:=by rfl) (hpl:(backTo pos (starEach es X.env)).any (·.1)=false:=by rfl):PE X (.Call (.Name x p) (e::es) [] pos) (GL r t):=by
 intro J s Y H Q I h;show JR (gr I hg hm hv ?_ hn hdb);exact Of (aG (ha pos J s Y H _ I h) λus s1 #[vs,H1,I1,r1,q1]=>hc J s1 Y H1 vs us Q I1 r1 q1) he hpl
def qM (hc:CallR X (.type T) r)(hg:Gl X x)(hm:X.mg x=gV)(hv:bootBuiltins x=ba (.type T))(ha:PA X (e::es) t)(hn:x≠"__name__":=by decide)(hdb:(x==("__debug__" : HC))=false:=by decide)
  (he:starEach (e::es) X.env=(false,eval e X.env)::starEach es X.env:=by rfl) (hpl:(backTo pos (starEach es X.env)).any (·.1)=false:=by rfl):PE X (.Call (.Name x p) (e::es) [] pos) (GL r t):=by
 intro J s Y H Q I h;show JR (gr I hg hm hv ?_ hn hdb);exact J6 (aG (ha pos J s Y H _ I h) λus s1 #[vs,H1,I1,r1,q1]=>hc J s1 Y H1 vs us Q I1 r1 q1) he hpl
end
end L2
namespace HT
open PySem PyProof.Rows
section
open PySem.SeqAt
open PySem.AutoSeq1 (wpAny_loadPart')
open PySem.MeetsSeq PySem.MeetsSeq2 PySem.MeetsSeq3
end
section
variable{prog:HM}{w:HX}{A:HW}{E:Hr->Ht->Prop}{s:Ht}
def wu {t b:Hv}{vs ws:Ho Hr}{Q:Hr->Ht->Prop}(ht:NL s.heap t vs.toArray)(hb:NL s.heap b ws.toArray)(hv:vs≠[])
  (h1:ws=[]->Q (.ref t) s) (h2:ws≠[]->Q (.ref s.heap.objs.size) { s with heap:=s.heap.push { cls:=.type "tuple",data:=.seq (vs++ws).toArray } })
  (hsz:vs.length+ws.length<=sizeLine):wpAny (model prog w) A (binaryOp .Add (.ref t) (.ref b)) Q E s:=by
 obtain⟨⟨cls,dd,data,sl⟩,ho,hc,n,hd⟩:=id ht;obtain⟨⟨cls2,dd2,data2,sl2⟩,ho2,hc2,n2,hd2⟩:=id hb;simp only at hc hd hc2 hd2;subst hc hd hc2 hd2;have e:vs.toArray++ws.toArray=(vs++ws).toArray:=by simp
 by_cases hw:ws=[]
 ·exact NS #[_,ho,rfl] #[_,ho2,rfl] Ms No Lc K8 (KW _ _)
   (tuple_addW1 t b vs.toArray ws.toArray n n2 dd dd2 sl sl2 (by simpa using hv) (by simp[hw])) #[ho,ho2,h1 hw]
 ·show NS #[_,ho,rfl] #[_,ho2,rfl] Ms No Lc K8 (KW _ _)
   (tuple_addW2 t b vs.toArray ws.toArray n n2 dd dd2 sl sl2 (by simpa using hv) (by simpa using hw) (by rw[HE,HE]; exact hsz)) #[ho,ho2,?_]
  rw[e];exact h2 hw
abbrev bu (n d:Hz):Hs HR->Hz
 | none=>d
 | some v=>if v < 0 then(v+(n:HR)).toNat else min v.toNat n
def iD (n d:Hz):bu n d gV=d:=rfl
def hZ (n d k:Hz):bu n d (ba (k:HR))=min k n:=by
 show(if (k:HR) < 0 then((k:HR)+(n:HR)).toNat else min (k:HR).toNat n)=min k n
 rw[HY ∅,Ir]
def Az (n d:Hz)(hd:d<=n)(o:Hs HR):bu n d o<=n:=by
 cases o with
 | none=>exact hd
 | some v=>
  show(if v < 0 then(v+(n:HR)).toNat else min v.toNat n)<=n
  by_cases hv:v < 0
  ·rw[HN hv]; omega
  ·rw[HY hv]; exact Nat.min_le_right _ _
def o6 (v:HR)(n d:Hz):(if v < 0 then max (v+(n:HR)) 0 else min v (n:HR))=((bu n d (ba v):Hz):HR):=by
 show(if v < 0 then max (v+(n:HR)) 0 else min v (n:HR))=(((if v < 0 then(v+(n:HR)).toNat else min v.toNat n):Hz):HR)
 by_cases hv:v < 0
 ·simp only[HN hv]; omega
 ·simp only[HY hv]; omega
def nK (lo hi:Hs HR)(n:Hz):KR lo hi 1 (n:HR)=(((bu n 0 lo:Hz):HR),((bu n n hi:Hz):HR)):=by
 have h1:¬ ((1:HR) < 0):=∅
 unfold KR;simp only[h1,JQ];show PD ?_ ?_
 ·cases lo with
  | none=>rfl
  | some v=>exact o6 v n 0
 ·cases hi with
  | none=>rfl
  | some v=>exact o6 v n n
def nL (i j:Hz):Kd (i:HR) (j:HR) 1=j - i:=by
 unfold Kd;have h1:(1:HR) > 0:=∅
 simp only[h1,Kr,Int.ediv_one];split <;> omega
def iE {v:Hr}{o:Hs HR}{Q:Hs HR->Ht->Prop}(p:LP v o)(h:Q o s):wpAny (model prog w) A (OB v) Q E s:=by
 cases p with
 | none=>exact OO h
 | int i t=>exact slicePart_int h
def cO {sl:Hv}{vl vu:Hr}{lo hi:Hs HR}{n:Hz}{Q:HR×HR×Hz->Ht->Prop}(hs:s.heap.IsSliceOf sl vl vu .none)(pl:LP vl lo)(pu:LP vu hi)
  (h:Q (((bu n 0 lo:Hz):HR),1,bu n n hi - bu n 0 lo) s):wpAny (model prog w) A (LQ (.ref sl) (pure (n:HR))) Q E s:=by
 obtain⟨os,hos,hcs,hds⟩:=id hs;unfold LQ O2;show Hq (Hq (Jh hos hds (x:=vl) rfl (Hq (Jh hos hds (x:=vu) rfl (Hq (Jh hos hds (x:=.none) rfl (Hy ?_)))))));show Hq (OO ?_);change wpAny _ _ (if ((1:HR)==0)=true then _ else _) _ _ s
 rw[HY #v[]]
 show Hq (iE pl (Hq (iE pu (Hq (Hy ?_)))));change wpAny _ _ (match KR lo hi 1 (n:HR)with|(lo,hi)=>pure (lo,(1:HR),Kd lo hi 1)) _ _ s
 rw[nK lo hi n];change wpAny _ _ (pure (((bu n 0 lo:Hz):HR),(1:HR),Kd ((bu n 0 lo:Hz):HR) ((bu n n hi:Hz):HR) 1)) _ _ s;rw[nL];exact Hy h
def sH (xs:Iu Hr)(i k:Hz):((IJ k).filterMap λ(m:Hz)=>xs[((i:HR)+(m:HR)*1).toNat]?).toArray=((xs.toList.drop i).take k).toArray:=by
 have e:(λ(m:Hz)=>xs[((i:HR)+(m:HR)*1).toNat]?)=λm=>xs[i+m]?:=by
  funext m
  have:((i:HR)+(m:HR)*1).toNat=i+m:=∅
  rw[this]
 rw[e];have:=pick_run xs i k;rw[LR]at this;have e2:((λx=>xs[x]?)∘λx=>i+x)=λm=>xs[i+m]?:=rfl
 rw[e2]at this;rw[this]
def fH {t sl:Hv}{items:Iu Hr}{vl vu:Hr}{lo hi:Hs HR}{Q:Hr->Ht->Prop}(ht:NL s.heap t items)(hs:s.heap.IsSliceOf sl vl vu .none)(pl:LP vl lo)(pu:LP vu hi)
  (hw:¬ (bu items.size 0 lo=0/\bu items.size items.size hi=items.size))
  (h:Q (.ref s.heap.objs.size) { s with heap:=s.heap.push { cls:=.type "tuple",data:=.seq ((items.toList.drop (bu items.size 0 lo)).take (bu items.size items.size hi - bu items.size 0 lo)).toArray } })
  (hsz:items.size<=sizeLine):wpAny (model prog w) A (getItem (.ref t) (.ref sl)) Q E s:=by
 have htake:sizeOk (.seq ((items.toList.drop (bu items.size 0 lo)).take (bu items.size items.size hi - bu items.size 0 lo)).toArray):=by
  show((items.toList.drop (bu items.size 0 lo)).take (bu items.size items.size hi - bu items.size 0 lo)).toArray.size<=sizeLine;rw[HE,Ju,JK,Ip];omega
 have hj:bu items.size items.size hi<=items.size:=Az _ _ (HJ _) hi;obtain⟨os,hos,hcs,hds⟩:=id hs;have hTs:s.TypeIs (.ref sl) "slice":=#[os,hos,hcs];unfold getItem
 try with_reducible show IL ?_
 first|refine Hq (Hy ?_)|skip
 show Hq (NT ht.typeIs #v[] ?_)
 show Hq (Ja (name:=Je "__getitem__") ht.typeIs JO
  (Jk JO ht.typeIs Ng ?_ (NA _ _)))
 change wpAny _ _ (KN (.ref t) >>= _) _ _ s;show Hq (O8 ht ?_);show Hq (LJ hTs ?_);rw[HN #v[]]
 show Hq (cO hs pl pu ?_);have hno:¬ ((((bu items.size 0 lo:Hz):HR)==0&&(1:HR)==1&&(bu items.size items.size hi - bu items.size 0 lo)==items.size)=true):=by
  intro q;rw[Hu,Hu]at q;have q1:((bu items.size 0 lo:Hz):HR)=0:=eq_of_beq q.1.1;have q2:bu items.size items.size hi - bu items.size 0 lo=items.size:=eq_of_beq q.2;exact hw #[∅,∅]
 change wpAny _ _ (if (((bu items.size 0 lo:Hz):HR)==0&&(1:HR)==1&&(bu items.size items.size hi - bu items.size 0 lo)==items.size)=true then _ else _) _ _ s
 rw[HY hno,sH]
 first
  | exact Hq (m:=JA _) (IA (Hy #[_,rfl,Hy h]) htake)
  | exact Hq (m:=JA _) (IA (Hq (Hy (Hy #[_,rfl,Hy h]))) htake)
  | exact Hq (Hq (m:=JA _) (IA (Hy (Hy #[_,rfl,Hy h])) htake))
  | exact Hq (Hq (m:=JA _) (IA (Hy #[_,rfl,Hy h]) htake))
end
end HT
namespace L2
open PySem PySem.Spec PyProof.Rows
noncomputable abbrev TO:=St->Hp->(Hs HR->Hp->Prop)->Prop
abbrev PO (X:Cx)(e:Hs HH)(t:TO):Prop:=
 ∀(J:Ho (Hv×Jg)) (s:Ht) (Y:St) (H:Hp) (Q:Hs HR->Hp->Prop),Inv X J Y H s->t Y H Q->
  wpAny (model X.prog X.w) X.A (evalPart e X.env) (λu s'=>∃o H',Inv X J Y H' s'/\LP u o/\Q o H') X.xe s
abbrev ww:TO:=λ_ H Q=>Q gV H
abbrev C5 (t:TE):TO:=λY H Q=>t Y H λx H1=>∃i,x=.int i/\Q (ba i) H1
section
variable{X:Cx}{e:HH}{te:TE}{lo hi:Hs HH}{tl th:TO}{pos p2:Jw}
def wx:PO X gV ww:=by
 intro J s Y H Q I h;rw[O9];exact Hy #[gV,H,I,.none,h]
def wy (h:PE X e te):PO X (ba e) (C5 te):=by
 intro J s Y H Q I hw;rw[evalPart_some];show aG (h J s Y H _ I hw) λu s1 #[x,H1,I1,r1,q1]=>?_
 obtain⟨i,rfl,q⟩:=q1;obtain⟨t,rfl⟩:=r1;exact#[ba i,H1,I1,.int i t,q]
abbrev C6 (X:Cx)(r:V->Hs HR->Hs HR->Hp->VK->Prop):Prop:=
 ∀(J:Ho (Hv×Jg)) (s:Ht) (Y:St) (H:Hp) (x:V) (v vl vu:Hr) (lo hi:Hs HR) (sl:Hv) (Q:VK),Inv X J Y H s->RelV x v->s.heap.IsSliceOf sl vl vu .none->LP vl lo->LP vu hi->r x lo hi H Q->
  ∃T id,typeLookup (.type T) "__getitem__" = pure (ba (.builtin id))/\s.TypeIs v T/\wpAny (model X.prog X.w) X.A (getItem v (.ref sl)) (EP X J Y Q) X.xe s
abbrev G4 (r:V->Hs HR->Hs HR->Hp->VK->Prop)(te:TE)(tl th:TO):TE:=λY H Q=>te Y H λx H1=>tl Y H1 λl H2=>th Y H2 λu H3=>r x l u H3 Q
def sI {r:V->Hs HR->Hs HR->Hp->VK->Prop}(hr:C6 X r)(he:PE X e te)(hl:PO X lo tl)(hu:PO X hi th):PE X (.Subscript e (.Slice lo hi gV p2) pos) (G4 r te tl th):=by
 intro J s Y H Q I h;show Subscript_ (aG (he J s Y H _ I h) λv s1 #[x,H1,I1,r1,q1]=>?_)
 show wpAny_Slice (aG (hl J s1 Y H1 _ I1 q1) λvl s2 #[l,H2,I2,pl,q2]=>aG (hu J s2 Y H2 _ I2 q2) λvu s3 #[u,H3,I3,pu,q3]=>?_)
 rw[O9];show Hy ?_;have I4:Inv X J Y H3 { s3 with heap:=s3.heap.push { cls:=.type "slice",data:=.fields [vl,vu,.none].toArray } }:=I3.kept (t':=s3.toks) λb ob q=>Hw _ q
 obtain⟨T,id,hT,ht,hg⟩:=hr J { s3 with heap:=s3.heap.push { cls:=.type "slice",data:=.fields [vl,vu,.none].toArray } } Y H3 x v vl vu l u s3.heap.objs.size Q I4 r1 (P3 ..) pl pu q3
 change wpAny (model X.prog X.w) X.A (subscriptTail e (.Slice lo hi gV p2) v (.ref s3.heap.objs.size)) (EP X J Y Q) X.xe { s3 with heap:=s3.heap.push { cls:=.type "slice",data:=.fields [vl,vu,.none].toArray } }
 exact tail_any (ops:=[.ref s3.heap.objs.size,v]) ht hT hg (by with_unfolding_all rfl)
abbrev iF (xs:Ho V)(lo hi:Hs HR):Ho V:=(xs.drop (HT.bu xs.length 0 lo)).take (HT.bu xs.length xs.length hi - HT.bu xs.length 0 lo)
def gQ (xs:Ho V)(lo hi:Hs HR):(iF xs lo hi).length<=xs.length:=by
 unfold iF;rw[Ju,JK];omega
abbrev FL (K:HA):V->Hs HR->Hs HR->Hp->VK->Prop:=λx lo hi H Q=>∃a xs,x=.ref a/\SqT K H a xs/\
 ¬ (HT.bu xs.length 0 lo=0/\HT.bu xs.length xs.length hi=xs.length)/\∀p,H p=gV->Q (.ref p) (aA H p (.tup (iF xs lo hi)))
def AA:C6 X (FL X.K):=by
 intro J s Y H x v vl vu lo hi sl Q I rx hs pl pu h;obtain⟨a,xs,rfl,hx,hw,q⟩:=h;cases rx;obtain⟨its,r,ht,hz⟩:=I.tuple hx;have hlen:its.toArray.size=xs.length:=by rw[HE]; exact r.length.symm
 show#["tuple",_,PyProof.Rows.slot_tuple_getitem.lookup,ht.typeIs,?_];show HT.fH ht hs pl pu (by rw[hlen]; exact hw) ?_ (by rw[hlen]; exact hz)
 rw[hlen];show#[.ref s.heap.objs.size,_,I.laid (t':=s.toks) (o:=.tup (iF xs lo hi)) (λb ob q=>Hw _ q) (HJ _) ?_,rfl,q _ (I.hok.fresh (HJ _))]
 exact#[#[Ix (gQ xs lo hi) hz,NoD.new _ _ _],_,(r.drop (HT.bu xs.length 0 lo)).take (HT.bu xs.length xs.length hi - HT.bu xs.length 0 lo),Nc _ _]
def Vals.nil_iff {xs:Ho V}{us:Ho Hr}(r:Vals xs us):us=[]↔xs=[]:=by
 cases r with
 | nil=>simp
 | cons _ _=>simp
end
abbrev r6 (n:Hz)(i:HR):Hs Hz:=if 0<=i then(if i < n then ba i.toNat else gV)else if -(n:HR)<=i then ba (i+n).toNat else gV
abbrev nz {α:Type}(xs:Ho α)(i:HR):Hs α:=(r6 xs.length i).bind λj=>xs[j]?
def o7 {n:Hz}{i:HR}{j:Hz}(h:r6 n i=ba j):seqIndex? i n=ba j/\j < n/\-(n:HR)<=i/\i < n:=by
 unfold r6 at h
 by_cases h0:0<=i
 ·rw[HN h0]at h
  by_cases h1:i < n
  ·rw[HN h1]at h;have e:i.toNat=j:=Jt h;exact#[by rw[Ox h0 h1,e],∅,∅,h1]
  ·rw[HY h1]at h; cases h
 ·rw[HY h0]at h
  by_cases h1 : -(n:HR)<=i
  ·rw[HN h1]at h;have e:(i+n).toNat=j:=Jt h;exact#[by rw[NU ∅ h1,e],∅,h1,∅]
  ·rw[HY h1]at h; cases h
def kI {α:Type}{xs:Ho α}{i:HR}{v:α}(h:nz xs i=ba v):∃j,seqIndex? i xs.length=ba j/\xs[j]?=ba v/\j < xs.length/\-(xs.length:HR)<=i/\i < xs.length:=by
 unfold nz at h;cases e:r6 xs.length i with
 | none=>rw[e]at h; cases h
 | some j=>
  rw[e]at h;obtain⟨h1,h2,h3,h4⟩:=o7 e;exact#[j,h1,h,h2,h3,h4]
def atI_nat {α:Type}{xs:Ho α}{j:Hz}{v:α}(h:xs[j]?=ba v):nz xs (j:HR)=ba v:=by
 have hj:j < xs.length:=(HD.mp h).1;have e:r6 xs.length (j:HR)=ba j:=by
  unfold r6;rw[HN ∅,HN ∅]; simp
 unfold nz; rw[e]; exact h
abbrev kJ (b:HH):Prop:=∀o i,subscripted b false o i=operate [o,i] (getItem o i)
abbrev IxR (X:Cx)(r:R2):Prop:=
 ∀(value slice:HH) (J:Ho (Hv×Jg)) (s:Ht) (Y:St) (H:Hp) (x y:V) (v u:Hr) (Q:VK),Inv X J Y H s->RelV x v->RelV y u->r x y H Q->
  subscripted slice false v u=operate [v,u] (getItem v u)->wpAny (model X.prog X.w) X.A (subscriptTail value slice v u) (EP X J Y Q) X.xe s
abbrev MtR (X:Cx)(id:Jb)(r:V->Ho V->Hp->VK->Prop):Prop:=
 ∀(J:Ho (Hv×Jg)) (s:Ht) (Y:St) (H:Hp) (x:V) (xs:Ho V) (v:Hr) (us:Ho Hr) (Q:VK),Inv X J Y H s->RelV x v->Vals xs us->r x xs H Q->
  wpAny (model X.prog X.w) X.A (call (.builtin id) (v::us)) (EP X J Y Q) X.xe s
section
variable{X:Cx}{a b:HH}{ta tb:TE}{pos:Jw}
def C7 {r:R2}(hr:IxR X r)(ha:PE X a ta)(hb:PE X b tb)(hs:kJ b):PE X (.Subscript a b pos) (E3 r ta tb):=by
 intro J s Y H Q I h;exact Subscript_ (Ap ha hb I h λv u s2 x y H2 I2 rx ry q=>hr a b J s2 Y H2 x y v u Q I2 rx ry q (hs _ _))
abbrev FM (K:HA):R2:=λx y H Q=>∃p xs i v,x=.ref p/\y=.int i/\SqL K H p xs/\nz xs i=ba v/\Q v H
abbrev FN (K:HA):R2:=λx y H Q=>∃p xs i v,x=.ref p/\y=.int i/\SqT K H p xs/\nz xs i=ba v/\Q v H
abbrev FP:R2:=λx y H Q=>∃z i c,x=.str z/\y=.int i/\z.length<=sizeLine/\nz z.cps.toList i=ba c/\Q (.str #[[c].toArray]) H
def wz:IxR X (FM X.K):=by
 intro value slice J s Y H x y v u Q I rx ry h hs;obtain⟨p,xs,i,z,rfl,rfl,hq,he,q⟩:=h;cases rx;obtain⟨t,rfl⟩:=ry;obtain⟨its,r,pl,hz⟩:=I.list hq;obtain⟨j,h1,h2,h3,h4,h5⟩:=kI he;obtain⟨w,ew,rw'⟩:=r.get h2;have hl:=r.length;have hn:=gy;have fin:EP X J Y Q w s:=#[z,H,I,rw',q]
 by_cases h0:0<=i
 ·have hj:i.toNat=j:=by
   rw[Ox h0 h5]at h1;exact Jt h1
  exact item_listR pl.isList h0 ∅ (by rw[hj]; simpa using ew) fin hs
 ·have hj:(i+(its.toArray.size:HR)).toNat=j:=by
   rw[NU ∅ h4]at h1
   rw[HE,<- hl];exact Jt h1
  exact Ld (x:=w) pl.isList.typeIs slot_list_getitem.lookup
   (wpAny_getItem_list_neg (Q:=λr s'=>r=w/\EP X J Y Q r s') pl.isList ∅ (by rw[HE] <;> omega) ∅ (by rw[hj]; simpa using ew) #[rfl,fin]) hs
def AB:IxR X (FN X.K):=by
 intro value slice J s Y H x y v u Q I rx ry h hs;obtain⟨p,xs,i,z,rfl,rfl,hq,he,q⟩:=h;cases rx;obtain⟨t,rfl⟩:=ry;obtain⟨its,r,pl,hz⟩:=I.tuple hq;obtain⟨j,h1,h2,h3,h4,h5⟩:=kI he;obtain⟨w,ew,rw'⟩:=r.get h2;have hl:=r.length;have hn:=gy;have fin:EP X J Y Q w s:=#[z,H,I,rw',q];exact Ld (x:=w) pl.typeIs slot_tuple_getitem.lookup
  (getItem_tuple (j:=j) (Q:=λr s'=>r=w/\EP X J Y Q r s') pl ∅ ∅ (by rw[HE,<- hl]; exact h1) (by simpa using ew) #[rfl,fin]) hs
def AC:IxR X FP:=by
 intro value slice J s Y H x y v u Q I rx ry h hs;obtain⟨z,i,c,rfl,rfl,hz,he,q⟩:=h;obtain⟨t,rfl⟩:=rx;obtain⟨t',rfl⟩:=ry;obtain⟨j,h1,h2,h3,h4,h5⟩:=kI he;have hl:z.cps.toList.length=z.length:=by simp[P4]
 rw[hl]at h1 h4 h5;have hn:=gy;exact tail_any (typeIs_str s z t) slot_str_getitem.lookup (getItem_str (c:=c) (by
  have e1:decide (i < -(2 ^ 63:HR))=false:=Ik ∅
  have e2:decide (i>=2 ^ 63)=false:=Ik ∅
  rw[e1,e2,Np]) (by rw[h1]; simpa using h2) #[.str #[[c].toArray],H,I.tok _,#[_,rfl],q]) hs
def nM (its:Ho Hr)(n j:Hz)(u:Hr):Jr (·.setIfInBounds j u) { cls:=.type "list",data:=.seq its.toArray n }={ cls:=.type "list",data:=.seq (its.set j u).toArray n }:=by
 simp[Jr]
def Inv.lst {J:Ho (Hv×Jg)}{Y:St}{H:Hp}{s:Ht}{p:Hv}{xs:Ho V}(I:Inv X J Y H s)(h:H p=ba (.lst xs)) :
  ∃(its:Ho Hr) (n:Hz),Vals xs its/\s.heap.get? p=ba { cls:=.type "list",data:=.seq its.toArray n }/\xs.length<=sizeLine:=by
 obtain⟨z,its,n,r,e⟩:=I.hok p _ h;exact#[its,n,r,e,z]
def Inv.lstUpd {J:Ho (Hv×Jg)}{Y:St}{H:Hp}{s:Ht}{p:Hv}{xs ys:Ho V}{its its':Ho Hr}{n n':Hz}{f:Jg->Jg}(I:Inv X J Y H s)(h:H p=ba (.lst xs))
  (ho:s.heap.get? p=ba { cls:=.type "list",data:=.seq its.toArray n }) (hf:f { cls:=.type "list",data:=.seq its.toArray n }={ cls:=.type "list",data:=.seq its'.toArray n' }) (r:Vals ys its') (hz:ys.length<=sizeLine) (t:Hz) :
  Inv X J Y (aA H p (.lst ys)) { s with heap:=s.heap.update p f,toks:=t }:=by
 have e:(s.heap.update p f).get? p=ba { cls:=.type "list",data:=.seq its'.toArray n' }:=by
  rw[Jd f ho (by rw[hf] <;> rfl),hf]
 show I.write (x:=p) (e:=p) (by rw[h]; trivial) (.inl rfl) (λb u hb q=>(Il _ _ (Ne.symm hb)).trans q) #[_,e] ?_
 exact#[hz,its',n',r,e]
abbrev C8:V->V->V->Hp->(Hp->Prop)->Prop:=λo i v H Q=>∃p xs k j,o=.ref p/\i=.int k/\H p=ba (.lst xs)/\r6 xs.length k=ba j/\Q (aA H p (.lst (xs.set j v)))
def sJ:Ak X C8:=by
 intro J s Y H o i v ov iv u Q I ro ri rv h;obtain⟨p,xs,k,j,rfl,rfl,hp,hj,q⟩:=h;cases ro;obtain⟨t,rfl⟩:=ri;obtain⟨its,n,r,ho,hz⟩:=I.lst hp;obtain⟨h1,h2,h3,h4⟩:=o7 hj;have hl:=r.length;have hn:=gy;have I':Inv X J Y (aA H p (.lst (xs.set j v))) { s with heap:=s.heap.update p (Jr (·.setIfInBounds j u)) }:=
  I.lstUpd hp ho (nM its n j u) (r.set rv j) (by rw[MG]; exact hz) s.toks
 by_cases h0:0<=k
 ·have hk:k.toNat=j:=by
   rw[Ox h0 h4]at h1;exact Jt h1
  exact PySem.W.ki_setAt ho h0 ∅ (by rw[HE,<- hl]; exact h4) (by rw[hk]; exact#[_,I',q])
 ·have hk:(k+(its.toArray.size:HR)).toNat=j:=by
   rw[NU ∅ h3]at h1
   rw[HE,<- hl];exact Jt h1
  exact PySem.W.ki_setBack ho ∅ (by rw[HE,<- hl]; exact h3) ∅ (by rw[hk]; exact#[_,I',q])
def kK (lo hi:Hs HR)(n:Hz):(sliceBounds lo hi gV n).1=((HT.bu n 0 lo:Hz):HR)/\(sliceBounds lo hi gV n).2.1=((HT.bu n n hi:Hz):HR)/\(sliceBounds lo hi gV n).2.2=1:=by
 show#[?_,?_,rfl]
 ·cases lo with
  | none=>simp[sliceBounds,HT.bu]
  | some i=>
   simp only[sliceBounds,HT.bu,Og,show(1:HR) > 0 by decide,Kr]
   by_cases h:i < 0
   ·simp only[h,Kr] <;> omega
   ·simp only[h,JQ] <;> omega
 ·cases hi with
  | none=>simp[sliceBounds,HT.bu]
  | some i=>
   simp only[sliceBounds,HT.bu,Og,show(1:HR) > 0 by decide,Kr]
   by_cases h:i < 0
   ·simp only[h,Kr] <;> omega
   ·simp only[h,JQ] <;> omega
def jC (its:Ho Hr)(lo hi:Hs HR):slicePick its.toArray lo hi gV=((its.drop (HT.bu its.length 0 lo)).take (HT.bu its.length its.length hi - HT.bu its.length 0 lo)).toArray:=by
 obtain⟨h1,h2,h3⟩:=kK lo hi its.toArray.size;unfold slicePick;rw[h1,h2,h3];simp only[sliceRange_one,pick_run,HE] <;> rfl
abbrev FQ (K:HA):V->Hs HR->Hs HR->Hp->VK->Prop:=λx lo hi H Q=>∃a xs,x=.ref a/\SqL K H a xs/\∀p,H p=gV->Q (.ref p) (aA H p (.lst (iF xs lo hi)))
def wD:C6 X (FQ X.K):=by
 intro J s Y H x v vl vu lo hi sl Q I rx hs pl pu h;obtain⟨a,xs,rfl,hx,q⟩:=h;cases rx;obtain⟨its,r,ht,hz⟩:=I.list hx;have hlen:=r.length;show#["list",_,slot_list_getitem.lookup,ht.isList.typeIs,?_];show wpAny_getItem_list_slice ht.isList hs pl pu .none (by simp) ?_ (by rw[HE] <;> omega)
 rw[jC,<- hlen];show#[.ref s.heap.objs.size,_,I.laid (t':=s.toks) (o:=.lst (iF xs lo hi)) (λb ob q=>Hw _ q) (HJ _) ?_,rfl,q _ (I.hok.fresh (HJ _))]
 exact#[Ix (gQ xs lo hi) hz,_,0,(r.drop (HT.bu xs.length 0 lo)).take (HT.bu xs.length xs.length hi - HT.bu xs.length 0 lo),HG _ rfl]
abbrev eQ:V->HP
 | .non=>true
 | .bl _=>true
 | .int _=>true
 | .str _=>true
 | _=>false
abbrev wF:V->V->HP
 | .non,.non=>true
 | .bl a,.bl b=>a==b
 | .bl a,.int b=>(if a then 1 else 0)==b
 | .int a,.bl b=>a==(if b then 1 else 0)
 | .int a,.int b=>a==b
 | .str a,.str b=>a==b
 | _,_=>false
def AD {A:HW}{s:Ht}{y x:V}{u v:Hr}(ry:RelV y u)(rx:RelV x v)(fy:eQ y=true)(fx:eQ x=true):Lo A s u v (wF y x):=by
 cases y with
 | non=>
  cases ry;cases x with
  | non=>cases rx; exact Qo _
  | bl b=>cases rx; exact PF b
  | int b=>obtain⟨t,rfl⟩:=rx; exact PR b t
  | str b=>obtain⟨t,rfl⟩:=rx; exact PU b t
  | _=>exact absurd (show false=true from fx) HS
 | bl a=>
  cases ry;cases x with
  | non=>cases rx; exact PH a
  | bl b=>cases rx; exact PJ a b
  | int b=>obtain⟨t,rfl⟩:=rx; exact PV a b t
  | str b=>obtain⟨t,rfl⟩:=rx; exact PX a b t
  | _=>exact absurd (show false=true from fx) HS
 | int a=>
  obtain⟨t',rfl⟩:=ry;cases x with
  | non=>cases rx; exact PY a t'
  | bl b=>cases rx; exact PZ a t' b
  | int b=>obtain⟨t,rfl⟩:=rx; exact P5 a t' b t
  | str b=>obtain⟨t,rfl⟩:=rx; exact Nu a t' b t
  | _=>exact absurd (show false=true from fx) HS
 | str a=>
  obtain⟨t',rfl⟩:=ry;cases x with
  | non=>cases rx; exact P0 a t'
  | bl b=>cases rx; exact P1 a t' b
  | int b=>obtain⟨t,rfl⟩:=rx; exact Nv a t' b t
  | str b=>obtain⟨t,rfl⟩:=rx; exact P6 a t' b t
  | _=>exact absurd (show false=true from fx) HS
 | _=>exact absurd (show false=true from fy) HS
abbrev nN (x:V)(u:Hr):HP:=match u with
 | .none=>wF .non x
 | .bool b=>wF (.bl b) x
 | .int i _=>wF (.int i) x
 | .str z _=>wF (.str z) x
 | _=>false
def sK {x y:V}{u:Hr}(r:RelV y u)(f:eQ y=true):nN x u=wF y x:=by
 cases y with
 | non=>cases r; rfl
 | bl b=>cases r; rfl
 | int i=>obtain⟨t,rfl⟩:=r; rfl
 | str z=>obtain⟨t,rfl⟩:=r; rfl
 | _=>exact absurd (show false=true from f) HS
def fI {x:V}:∀ {xs:Ho V} {us:Ho Hr},Vals xs us->xs.all eQ=true->us.any (nN x)=xs.any λy=>wF y x
 | _,_,.nil,_=>rfl
 | y::xs,u::us,.cons r t,f=>by
  rw[Io,Hu]at f;rw[JB,JB,sK r f.1,fI t f.2]
def dS {A:HW}{s:Ht}{x:V}{v:Hr}(rx:RelV x v)(fx:eQ x=true):∀ {xs:Ho V} {us:Ho Hr},Vals xs us->xs.all eQ=true->∀u∈us,Lo A s u v (nN x u)
 | _,_,.nil,_=>λu hu=>by cases hu
 | y::xs,u::us,.cons r t,f=>λu' hu=>by
  rw[Io,Hu]at f;rcases Ij.mp hu with rfl|hu
  ·rw[sK r f.1]; exact AD r rx f.1 fx
  ·exact dS rx fx t f.2 u' hu
abbrev E5 (x:V)(xs:Ho V):HP:=xs.any λy=>wF y x
abbrev FR (K:HA)(neg:HP):R2:=λx y H Q=>∃p xs,y=.ref p/\(SqL K H p xs\/SqT K H p xs)/\eQ x=true/\xs.all eQ=true/\Q (.bl (if neg then !E5 x xs else E5 x xs)) H
def qN:OpR X (compareOp .In) (FR X.K false):=by
 intro J s Y H x y v u Q I rx ry h;obtain⟨p,xs,rfl,hq,fx,fs,q⟩:=h;cases ry;rcases hq with hq|hq
 ·obtain⟨its,r,pl,hz⟩:=I.list hq;show OC (nN x) pl.isList (λw hw=>dS rx fx r fs w (by simpa using hw)) #[.bl _,H,I,rfl,?_]
  rw[show its.toArray.any (nN x)=its.any (nN x) by simp,fI r fs]
  exact q
 ·obtain⟨its,r,pl,hz⟩:=I.tuple hq;show Oh (nN x) pl (λw hw=>dS rx fx r fs w (by simpa using hw)) #[.bl _,H,I,rfl,?_]
  rw[show its.toArray.any (nN x)=its.any (nN x) by simp,fI r fs]
  exact q
def kL:OpR X (compareOp .NotIn) (FR X.K true):=by
 intro J s Y H x y v u Q I rx ry h;obtain⟨p,xs,rfl,hq,fx,fs,q⟩:=h;cases ry;rcases hq with hq|hq
 ·obtain⟨its,r,pl,hz⟩:=I.list hq;show NB (nN x) pl.isList (λw hw=>dS rx fx r fs w (by simpa using hw)) #[.bl _,H,I,rfl,?_]
  rw[show its.toArray.any (nN x)=its.any (nN x) by simp,fI r fs]
  exact q
 ·obtain⟨its,r,pl,hz⟩:=I.tuple hq;show SeqAt.notIn_tupleAt (nN x) pl (λw hw=>dS rx fx r fs w (by simpa using hw)) #[.bl _,H,I,rfl,?_]
  rw[show its.toArray.any (nN x)=its.any (nN x) by simp,fI r fs]
  exact q
def kM:CallR X (.type "list") (λxs H Q=>∃p ys,xs=[.ref p]/\(SqL X.K H p ys\/SqT X.K H p ys)/\∀l,H l=gV->Q (.ref l) (aA H l (.lst ys))):=by
 intro J s Y H xs us Q I r h;obtain⟨p,ys,rfl,hq,q⟩:=h;obtain⟨u,rfl,rx⟩:=iB r;cases rx;have fin:∀(its:Ho Hr),Vals ys its->ys.length<=sizeLine->∀(h':Ii) (c':Hz),(∀b o',s.heap.get? b=ba o'->h'.get? b=ba o')->
   h'.get? s.heap.objs.size=ba { cls:=.type "list",dict:=gV,data:=.seq its.toArray c',slots:=#[] }->EP X J Y Q (.ref s.heap.objs.size) { s with heap:=h' }:=λits r' hz h' c' kp e=>
  #[.ref s.heap.objs.size,_,I.laid (t':=s.toks) kp (HJ _) (show ObjOk X.prog X.w _ h' _ (.lst ys)from#[hz,its,c',r',e]),rfl,q _ (I.hok.fresh (HJ _))]
 rcases hq with hq|hq
 ·obtain⟨its,r',pl,hz⟩:=I.list hq;have hlen:=r'.length;obtain⟨o,ho,hc,n,hd⟩:=pl.isList;exact Pa p (.inl rfl) ho hc hd (λh' c' kp e=>fin its r' hz h' c' kp e) (by simp only[HE] <;> omega)
 ·obtain⟨its,r',pl,hz⟩:=I.tuple hq;have hlen:=r'.length;obtain⟨o,ho,hc,n,hd⟩:=pl;exact Pa p (.inr rfl) ho hc hd (λh' c' kp e=>fin its r' hz h' c' kp e) (by simp only[HE] <;> omega)
def eR:CallR X (.type "tuple") (λxs H Q=>∃p ys,xs=[.ref p]/\((SqL X.K H p ys/\∀l,H l=gV->Q (.ref l) (aA H l (.tup ys)))\/(SqT X.K H p ys/\Q (.ref p) H))):=by
 intro J s Y H xs us Q I r h;obtain⟨p,ys,rfl,h⟩:=h;obtain⟨u,rfl,rx⟩:=iB r;cases rx;rcases h with⟨hq,q⟩|⟨hq,q⟩
 ·obtain⟨its,r',pl,hz⟩:=I.list hq;have hlen:=r'.length;show call_tuple_list pl.isList (λh' kp=>?_) (by simp only[HE] <;> omega)
  have I1:Inv X J Y H { s with heap:=h' }:=I.kept (t':=s.toks) kp
  have I2:Inv X J Y (aA H h'.objs.size (.tup ys)) { s with heap:=h'.push { cls:=.type "tuple",data:=.seq its.toArray } }:=
   I1.laid (t':=s.toks) (λb o e=>Hw _ e) (HJ _) (show ObjOk X.prog X.w _ _ _ (.tup ys)from#[#[hz,NoD.new _ _ _],its,r',Nc _ _])
  exact#[.ref h'.objs.size,_,I2,rfl,q _ (I1.hok.fresh (HJ _))]
 ·obtain⟨its,r',pl,hz⟩:=I.tuple hq;exact call_tuple_same pl #[.ref p,H,I,rfl,q]
abbrev FU (K:HA)(T:Jb)(x:V)(H:Hp):Prop:=match x with
 | .str _=>T = "str"
 | .int _=>T = "int"
 | .ref p=>(T = "list"/\∃xs,SqL K H p xs)\/(T = "tuple"/\∃o,K.lookup p=ba o/\o.cls=.type "tuple"/\o.dict=gV)\/
   (T = "dict"/\((∃U,H p=ba (.dK U))\/∃U,H p=ba (.dT U)))\/(T = "set"/\∃S n,H p=ba (.set S n))
 | _=>ID
def sL {J:Ho (Hv×Jg)}{Y:St}{H:Hp}{s:Ht}{T:Jb}{x:V}{v:Hr}(I:Inv X J Y H s)(r:RelV x v)(ty:FU X.K T x H) :
  s.TypeIs v T/\∀a,v=.ref a->∃ob,s.heap.get? a=ba ob/\ob.dict=gV:=by
 cases x with
 | str z=>
  obtain⟨t,rfl⟩:=r;cases(show T = "str" from ty)
  exact#[typeIs_str s z t,λ_ e=>nomatch e]
 | int i=>
  obtain⟨t,rfl⟩:=r;cases(show T = "int" from ty)
  exact#[OP s i t,λ_ e=>nomatch e]
 | ref p=>
  cases r;rcases ty with⟨rfl,xs,hq⟩|⟨rfl,o,hk,hc,hd⟩|⟨rfl,hk⟩|⟨rfl,S,n,hk⟩
  ·obtain⟨its,_,pl,_⟩:=I.list hq;show#[pl.isList.typeIs,λa e=>?_]
   cases e;obtain⟨o,n,e,c,hd,_⟩:=pl;exact#[o,e,hd]
  ·show#[#[o,I.kIn p o hk,hc],λa e=>?_]
   cases e;exact#[o,I.kIn _ o hk,hd]
  ·have z:∃o,s.heap.get? p=ba o/\o.ExactDict:=by
    rcases hk with⟨U,hk⟩|⟨U,hk⟩
    ·obtain⟨_,_,_,_,o,_,_,e,ex,_⟩:=I.hok p _ hk;exact#[o,e,ex]
    ·obtain⟨_,_,_,_,o,_,_,e,ex,_⟩:=I.hok p _ hk;exact#[o,e,ex]
   obtain⟨o,e,ex⟩:=z;show#[#[o,e,ex.1],λa e2=>?_]
   cases e2;exact#[o,e,ex.2.1]
  ·obtain⟨o,_,_,_,e,ex,_⟩:=I.hok p _ hk;show#[#[o,e,ex.1],λa e2=>?_]
   cases e2;exact#[o,e,ex.2.1]
 | _=>exact ID.elim ty
variable{o e:HH}{es:Ho HH}{to:TE}{t:TA}{name:HC}{apos cpos:Jw}{T id:Jb}{r:V->Ho V->Hp->VK->Prop}
end
abbrev FV (X:Cx)(id:Jb)(r:V->Ho V->Hp->VK->Prop):Prop:=
 ∀(J:Ho (Hv×Jg)) (s:Ht) (Y:St) (H:Hp) (x:V) (xs:Ho V) (v:Hr) (us:Ho Hr) (Q:VK),Inv X J Y H s->RelV x v->Vals xs us->r x xs H Q->
  wpAny (model X.prog X.w) X.A (call (.builtin id) (v::us)) (EP X J Y Q) X.xe s
def Vals.one:∀ {x:V} {us:Ho Hr},Vals [x] us->∃u,us=[u]/\RelV x u
 | _,_,.cons r .nil=>#[_,rfl,r]
def Vals.eraseIdx:∀ {xs:Ho V} {us:Ho Hr} (i:Hz),Vals xs us->Vals (xs.eraseIdx i) (us.eraseIdx i)
 | _,_,_,.nil=>.nil
 | _,_,0,.cons _ t=>t
 | _,_,i+1,.cons r t=>.cons r (Vals.eraseIdx i t)
def Vals.rep {xs:Ho V}{us:Ho Hr}(h:Vals xs us):∀k:Hz,Vals (Iq k xs).flatten (Iq k us).flatten
 | 0=>.nil
 | k+1=>by
  rw[Jx,Jx,Kj,Kj];exact Vals.append h (Vals.rep h k)
def jO {α:Type}:∀(l:Ho α) (i:Hz),(l.eraseIdx i).length<=l.length
 | [],_=>HJ _
 | _::_,0=>JN _
 | _::r,i+1=>Nat.succ_le_succ (jO r i)
def jP (its:Ho Hr):∀(k:Hz) (acc:Ho Hr),
  OQ (λx1 x2=>x1++x2) acc.toArray (Iq k its.toArray)=(acc++(Iq k its).flatten).toArray
 | 0,acc=>by simp
 | k+1,acc=>by
  have e:acc.toArray++its.toArray=(acc++its).toArray:=by simp
  have e2:(acc++its)++(Iq k its).flatten=acc++(Iq (k+1) its).flatten:=by
   rw[Jx,Kj,KD]
  rw[<- e2,<- jP its k (acc++its),<- e,Jx,List.foldl_cons]
section
variable{X:Cx}{J:Ho (Hv×Jg)}{Y:St}{H:Hp}{s:Ht}{l b:Hv}{xs ys zs:Ho V}
def Inv.lset {its its':Ho Hr}{n:Hz}{f:Iu Hr->Iu Hr}{t':Hz}(I:Inv X J Y H s)(hH:H l=ba (.lst xs))
  (e:s.heap.get? l=ba { cls:=.type "list",data:=.seq its.toArray n }) (hf:f its.toArray=its'.toArray) (hv:Vals ys its') (hz:ys.length<=sizeLine) :
  Inv X J Y (aA H l (.lst ys)) { s with heap:=s.heap.update l (Jr f),toks:=t' }:=by
 have q:=Oi e f;rw[hf]at q;show I.write (x:=l) (e:=l) (by rw[hH]; exact trivial) (.inl rfl) (λb' u hb hu=>(Il s.heap (Jr f) (Ne.symm hb)).trans hu) #[_,q] ?_
 exact#[hz,its',_,hv,q]
def Inv.lnew {its:Ho Hr}{t':Hz}(I:Inv X J Y H s)(hv:Vals ys its)(hz:ys.length<=sizeLine) :
  Inv X J Y (aA H s.heap.objs.size (.lst ys)) { s with heap:=s.heap.push { cls:=.type "list",data:=.seq its.toArray },toks:=t' }:=
 I.laid (λ_ _ q=>Hw _ q) (HJ _) #[hz,its,0,hv,HG _ rfl]
def Inv.fresh (I:Inv X J Y H s):H s.heap.objs.size=gV:=I.hok.fresh (HJ _)
def Inv.lstM (I:Inv X J Y H s)(hH:H l=ba (.lst xs)):xs.length<=sizeLine/\∃(its:Ho Hr) (n:Hz),Vals xs its/\xs.length=its.length/\s.heap.get? l=ba { cls:=.type "list",data:=.seq its.toArray n }:=by
 obtain⟨z,its,n,r,e⟩:=I.hok l _ hH;exact#[z,its,n,r,r.length,e]
def lP {n:Hz}(h:n<=sizeLine):Kn n=false:=by
 unfold Kn;exact Ik ∅
end
section
variable{X:Cx}
abbrev wH:V->Ho V->Hp->VK->Prop:=λx vs H Q=>∃l xs y,x=.ref l/\vs=[y]/\H l=ba (.lst xs)/\xs.length < sizeLine/\Q .non (aA H l (.lst (xs++[y])))
def qO:FV X "list.append" wH:=by
 intro J s Y H x vs v us Q I rx rv h;obtain⟨l,xs,y,rfl,rfl,hH,hz,q⟩:=h;cases rx;obtain⟨u,rfl,ru⟩:=rv.one;obtain⟨z,its,n,r,hl,e⟩:=I.lstM hH;show LS F.slot_list_append #[_,e,rfl] F.entry_list_append (F.args_list_append_2 _ _) (NV l its.toArray n u (by rw[HE]; omega)) #[e,?_]
 show#[.non,_,I.lset (its':=its++[u]) hH e (by simp) (r.append #v[ru]) ?_,rfl,q]
 rw[HK,List.length_singleton];omega
abbrev wI:V->Ho V->Hp->VK->Prop:=λx vs H Q=>∃l b xs zs,x=.ref l/\vs=[.ref b]/\H l=ba (.lst xs)/\H b=ba (.lst zs)/\xs.length+zs.length<=sizeLine/\Q .non (aA H l (.lst (xs++zs)))
def qP:FV X "list.extend" wI:=by
 intro J s Y H x vs v us Q I rx rv h;obtain⟨l,b,xs,zs,rfl,rfl,hH,hB,hz,q⟩:=h;cases rx;obtain⟨u,rfl,ru⟩:=rv.one;cases ru;obtain⟨z,its,n,r,hl,e⟩:=I.lstM hH;obtain⟨z2,its2,n2,r2,hl2,e2⟩:=I.lstM hB;have hsz:its.toArray.size+its2.toArray.size<=sizeLine:=by rw[HE,HE]; omega
 have hlong:¬ (!its.toArray.isEmpty&&Kn (its.toArray.size+its2.toArray.size))=true:=by
  rw[lP hsz,MW];exact HS
 show LS F.slot_list_extend #[_,e,rfl] F.entry_list_extend (F.args_list_extend_2 _ _)
  (NW l its.toArray n b its2.toArray n2 hlong (by rw[HE]; omega) ∅) #[e,e2,?_]
 show#[.non,_,I.lset (its':=its++its2) hH e (by simp) (r.append r2) ?_,rfl,q]
 rw[HK];omega
abbrev AE:V->Ho V->Hp->VK->Prop:=λx vs H Q=>∃l xs i k y,x=.ref l/\vs=[.int i]/\H l=ba (.lst xs)/\-(2 ^ 63)<=i/\i < 2 ^ 63/\seqIndex? i xs.length=ba k/\xs[k]?=ba y/\Q y (aA H l (.lst (xs.eraseIdx k)))
def sM:FV X "list.pop" AE:=by
 intro J s Y H x vs v us Q I rx rv h;obtain⟨l,xs,i,k,y,rfl,rfl,hH,h1,h2,hk,hy,q⟩:=h;cases rx;obtain⟨u,rfl,ru⟩:=rv.one;obtain⟨t,rfl⟩:=ru;obtain⟨z,its,n,r,hl,e⟩:=I.lstM hH;obtain⟨w,hw,rw'⟩:=r.get hy;show LS F.slot_list_pop #[_,e,rfl] F.entry_list_pop (F.args_list_pop_2 _ _)
  (PK l its.toArray n i t k w (OR h1 h2) (by rw[HE,<- hl]; exact hk) (by rw[<- Jy]; exact hw) (by rw[HE]; omega)) #[e,?_]
 show#[y,_,I.lset (its':=its.eraseIdx k) hH e ?_ (r.eraseIdx k) ?_,rw',q]
 ·change its.toArray.eraseIdxIfInBounds k=(its.eraseIdx k).toArray;rw[List.eraseIdxIfInBounds_toArray]
 ·have:=jO xs k;omega
abbrev FW:R2:=λx y H Q=>∃l b xs zs,x=.ref l/\y=.ref b/\H l=ba (.lst xs)/\H b=ba (.lst zs)/\xs.length+zs.length<=sizeLine/\∀p,H p=gV->Q (.ref p) (aA H p (.lst (xs++zs)))
def AF:OpR X (binaryOp .Add) FW:=by
 intro J s Y H x y v u Q I rx ry h;obtain⟨l,b,xs,zs,rfl,rfl,hH,hB,hz,q⟩:=h;cases rx;cases ry;obtain⟨z,its,n,r,hl,e⟩:=I.lstM hH;obtain⟨z2,its2,n2,r2,hl2,e2⟩:=I.lstM hB;show PySem.P.add_list e e2 ?_ (by rw[HE,HE]; omega)
 have ea:its.toArray++its2.toArray=(its++its2).toArray:=by simp
 rw[ea];exact#[.ref _,_,I.lnew (t':=s.toks) (r.append r2) (by rw[HK]; omega),rfl,q _ I.fresh]
abbrev FY:R2:=λx y H Q=>∃l k xs,x=.ref l/\y=.int k/\H l=ba (.lst xs)/\-(2 ^ 63)<=k/\k < 2 ^ 63/\xs.length*k.toNat<=sizeLine/\
 ∀p,H p=gV->Q (.ref p) (aA H p (.lst (Iq k.toNat xs).flatten))
def wJ {α:Type}(xs:Ho α)(k:Hz):(Iq k xs).flatten.length=k*xs.length:=by
 induction k with
 | zero=>simp
 | succ k ih=>rw[Jx,Kj,HK,ih,Nat.succ_mul,Nat.add_comm]
def AG:OpR X (binaryOp .Mult) FY:=by
 intro J s Y H x y v u Q I rx ry h;obtain⟨l,k,xs,rfl,rfl,hH,h1,h2,hz,q⟩:=h;cases rx;obtain⟨t,rfl⟩:=ry;obtain⟨z,its,n,r,hl,e⟩:=I.lstM hH;have hlen:its.toArray.size*k.toNat<=sizeLine:=by rw[HE,<- hl]; exact hz
 have hcap:¬ its.toArray.size*k.toNat > (2 ^ 63 - 1) / 8:=by
  have:(sizeLine:Hz)<=(2 ^ 63 - 1) / 8:=by decide
  omega
 have hfit:¬ (!OS k)=true:=by
  rw[OR h1 h2];exact HS
 have hlong:¬ Kn (its.toArray.size*k.toNat)=true:=by
  rw[lP hlen];exact HS
 have hnew:OQ (λx1 x2=>x1++x2) #[] (Iq (if its.toArray.isEmpty=true then 0 else k.toNat) its.toArray)=(Iq k.toNat its).flatten.toArray:=by
  have f0:∀m:Hz,OQ (λx1 x2=>x1++x2) #[] (Iq m its.toArray)=(Iq m its).flatten.toArray:=λm=>by
   have:=jP its m [];rw[MH]at this;exact this
  rw[f0];cases its with
  | nil=>simp
  | cons a r'=>rw[HY (by simp)]
 show wpAny_binaryOp_repeat_ref (T:="list") (U:="int") #v[] #[_,e,rfl] (λs'=>OP s' k t) noFill_list_mul F.fills_int_mul F.slot_int_rmul repeat_list F.slot_int_index.lookup
  (LS F.slot_int_rmul (OP s k t) F.entry_int_rmul (F.args_int_rmul_2 _ _) (int___rmul___int_list k t l its.toArray n)
   #[e,rfl,#[_,e,rfl],LS F.slot_list_mul #[_,e,rfl] F.entry_list_mul (F.args_list_mul_2 _ _) (NJ l its.toArray n k t hfit hcap hlong) #[e,?_]])
 rw[hnew];exact#[.ref _,_,I.lnew (t':=s.toks) (r.rep k.toNat) (by rw[wJ,Nat.mul_comm]; exact hz),rfl,q _ I.fresh]
end
section
variable{X:Cx}{J:Ho (Hv×Jg)}{Y:St}{H:Hp}{s:Ht}{a:Hv}{y v:V}{u r:Hr}{o:Hs V}{A:HW}{E:Hr->Ht->Prop}
def Inv.big (I:Inv X J Y H s):sysModules < s.heap.objs.size:=by
 have h:mainGlobals < s.heap.objs.size:=(I.mod.glob.keeps I.bk).lt;exact Nat.lt_trans #v[] h
def kN {h':Ii}{t':Hz}{ob:HO}(I:Inv X J Y H s)(mu:CC (H a))(hs:Ki a s.heap h')(he:∃q,h'.get? a=ba q)(new:ObjOk X.prog X.w (aA H a ob) h' a ob) :
  Inv X J Y (aA H a ob) { s with heap:=h',toks:=t' }:=
 I.write (x:=a) (e:=a) mu (.inl rfl) (λb q hb z=>(hs.2 b hb).trans z) he new
end
noncomputable abbrev VV:Ho (V×V)->Ho (Hr×Hr)->Prop:=Mw λp q=>RelV p.1 q.1/\RelV p.2 q.2
structure M1 (X:Cx)(o:HH)(m:HC)(apos:Jw)(e:HH)(cpos:Jw):Prop where
 base:attributeBase o m X.env (eval o X.env)=eval o X.env
 vo:((backTo cpos (starEach [e] X.env)).all (λx=>!x.1)&&(backToKw cpos (keywordEach [] X.env)).all (λx=>x.1.isSome)
  && decide (([e]:Ho HH).length+([]:Ho My).length+(if ([]:Ho My).isEmpty then 0 else 1) < 30))=true
 line:(apos.endLine==cpos.line)=true
 trees:backTo cpos (starEach [e] X.env)=[(false,eval e X.env)]
end L2
namespace Att
open PySem PySem.W PySem.Calls PyProof.Rows
def g5 {P:LU}{h:Ii}:∀(ns:Ho HR) (vs:Ho Hr),WellAll P h vs (ns.map WData.int)->OJ vs ns:=by
 intro ns
 induction ns with
 | nil=>
  intro vs w;rw[List.map_nil]at w;cases w;exact .nil
 | cons n ns ih=>
  intro vs w;rw[IT]at w;cases w with
  | cons a b=>
   cases a;exact .cons _ _ (ih _ b)
def qQ {l:OpenLaw}{n:Hz}(hn:l.most=ba n){P:LU}{h:Ii}{args:Ho WData}{vals:Ho Hr}
  (hpre:l.row.toRowW.claim.pre args=true) (hwl:WellAll P h vals args) :
  ∃a vs ns,vals=[HL a]/\args=[WData.list (ns.map WData.int)]/\h.get? a=ba { cls:=.type "list",data:=.seq vs.toArray }/\OJ vs ns/\ns.length<=n:=by
 have hsh:WShape.hasAll [] args [.list .int]=true:=(pre_splitW hpre).1;have hc:l.pre.holds [] { args:=args }=true:=(pre_splitW hpre).2;obtain⟨d,r,rfl,h1,h2⟩:=hasAllW_cons hsh;obtain rfl:=hasAllW_nil h2;obtain⟨xs,rfl,h3⟩:=hasW_list h1;obtain⟨ns,rfl⟩:=items_int h3;have hlen:ns.length<=n:=by
  unfold OpenLaw.pre at hc;have h4:(WTm.not (.lt (.lit (.int (n:HR))) (.len (.arg 0)))).holds [] { args:=[.list (ns.map .int)] }=true:=by
   have h4:=(holds_andW hc).1;rw[hn]at h4;exact h4
  have h5:=condW_of h4 (w_not (w_lt w_lit (w_len_list (w_arg rfl))));rw[HB]at h5;show Nat.le_of_not_lt λq=>?_
  have q':(n:HR) < ((ns.length:Hz):HR):=∅
  first
   | (rw[Ji q']at h5; exact absurd h5 #v[])
   | (simp at h5; omega)
 cases hwl with
 | cons w1 w2=>
  cases w2;cases w1 with
  | list ho hall=>exact#[_,_,ns,rfl,rfl,ho,g5 ns _ hall,hlen]
def qR (l:OpenLaw)(args:Ho WData):l.row.toRowW.claim.post args (.bool true) args=true:=
 postW_of (r:=l.row.toRowW) (X:=(true==true))
  (show WShape.has [] (.bool true) .bool=true by first|rfl|decide|simp[WShape.has,WShape.arms,WShape.armsAll])
  (show(WTm.eq .res (.lit (.bool true))).value [] { args:=args,res:=ba (.bool true),after:=args }=ba (.bool (true==true))from w_eq_bool (w_res rfl) w_lit) rfl
def attach_call {l:OpenLaw}{n:Hz}{q:HM}{loose:Ho HC}{XP:(HC->Hs Hr)->Ii->Prop}{YP:HX->Ii->Prop}{d:DefRec}
  (hn:l.most=ba n) (hdf:d.params.defaults=[])
  (call:∀(w:HX) (s₀ s₁:Ht) (mg mb:HC->Hs Hr) (fa:Hv) (o:Jg) (pm cd doc:Hr) (a:Hv) (vs:Ho Hr) (ns:Ho HR),
   Ground q loose [] XP w s₀ mg mb s₁.heap->YP w s₁.heap->
   s₁.heap.get? fa=ba o->o.data=.func (docDef d.name d.params d.body d.scope pm cd doc)->s₁.heap.CodeRec cd d.name->mg d.name=ba (.ref fa)->
   s₁.heap.get? a=ba { cls:=.type "list",data:=.seq vs.toArray }->OJ vs ns->ns.length<=n->s₁.gens=#[]->
   codeAny (model l.prog w) callerA (.call (.ref fa) #[[.ref a],[]]) (λr s'=>r=.ok (.ret (.bool true))/\OldK s₁.heap s'.heap/\s'.os=s₁.os/\LH s'.gens) s₁) :
  WalkO q loose XP YP l.row.toRowW d [] (λf vs=>OT f vs):=by
 intro w s₀ s₁ mg mb G Yj fa o pm cd doc dV kV ho hd hcd hD hmg hg args vals as hpre hlay hrd hwl hlo;obtain rfl:dV=.none:=Dflts.none hD hdf;obtain rfl:kV=.none:=Dflts.noKw hD;obtain⟨a,vs,ns,rfl,rfl,hobj,hints,hlen⟩:=qQ hn hpre hwl;show enter_call (Kx (call w s₀ s₁ mg mb fa o pm cd doc a vs ns G Yj ho (fd_plain hd) hcd hmg hobj hints hlen hg) λr s' hq=>?_)
 obtain⟨rfl,h2,h3,h4⟩:=hq;exact#[.inl #[.bool true,.bool true,[],rfl,λ_=>rfl,.bool true,qR l _,λ_=>#[Qb,λ_ hm=>(nomatch hm)]],h2,h3,h4]
end Att
namespace L2
open PySem PySem.Spec PyProof.Rows
def jQ:∀ {vs:Ho Hr} {ns:Ho HR},OJ vs ns->Vals (ns.map V.int) vs
 | _,_,.nil=>.nil
 | _,_,.cons n t h=>.cons #[t,rfl] (jQ h)
abbrev sN (H:Hp):Prop:=∀b,H b=gV\/∃o xs,H b=ba (.frz o (.lst xs))
def sO {P:HM}{w:HX}{K:HA}{mg mb:HC->Hs Hr}{CX:nJ}{k:Hz}{fa a:Hv}{fd:IY}{x:HC}{sp:Sp}{s₁:Ht}{vs:Ho Hr}{ns:Ho HR}
  (KX:K.In s₁.heap) (hns:s₁.heap.Ns mainGlobals mg) (hb:s₁.heap.Ns builtinsNs mb) (hbb:∀x:HC,x≠"__name__"->mb x=bootBuiltins x) (hlim:s₁.heap.NoLimit) (hg:s₁.gens=#[])
  (ha:s₁.heap.get? a=ba { cls:=.type "list",data:=.seq vs.toArray }) (hi:OJ vs ns) (hl:ns.length<=sizeLine) (hr:Room k callerA)
  (F:∀base:Ii,K.In base->base.Ns mainGlobals mg->FnOk P w K mg base CX k fa fd [x] sp) (hbind:∀(s:Ht) (u:Hr),NR s fd #[[u],[]] [(x,u)])
  (hsp:∀H:Hp,sN H->SqL K H a (ns.map V.int)->sp [.ref a] H (λv _=>v=.bl true) λ_ _ _=>ID)
  (hCX:∀H e s',CX [] H s₁ (λ_ _ _=>ID) e s'->ID) :
  codeAny (model P w) callerA (.call (.ref fa) #[[.ref a],[]]) (λr s'=>r=.ok (.ret (.bool true))/\OldK s₁.heap s'.heap/\s'.os=s₁.os/\LH s'.gens) s₁:=by
 have rv:=jQ hi;have lenV:=hi.length;have core:∀H:Hp,sN H->SqL K H a (ns.map V.int)->HOk P w H s₁.heap->(∀b,H b≠gV->b=a)->(H a≠gV->K.lookup a=gV)->
   codeAny (model P w) callerA (.call (.ref fa) #[[.ref a],[]]) (λr s'=>r=.ok (.ret (.bool true))/\OldK s₁.heap s'.heap/\s'.os=s₁.os/\LH s'.gens) s₁:=by
  intro H hO hS hok hA hK;have base_of:∀ {b:Hv} {o:Jg},s₁.heap.get? b=ba o->H b=gV->(kD s₁.heap H).get? b=ba o:=λe n=>sf e n
  have noA:∀ {b:Hv} {o:Jg} {es:Iu JZ} {ep:Hz},s₁.heap.get? b=ba o->o.data=.dict es ep->H b=gV:=λ{b o es ep} e d=>by
   cases q:H b with
   | none=>rfl
   | some u=>
    have e':b=a:=hA b (by rw[q]; simp)
    subst e';rw[ha]at e; cases e
    have d':Data.seq vs.toArray _=Data.dict es ep:=d;cases d'
  have nsK:∀ {b:Hv} {m:HC->Hs Hr},s₁.heap.Ns b m->(kD s₁.heap H).Ns b m:=λ{b m} #[o,es,ep,e,d,r]=>#[o,es,ep,base_of e (noA e d),d,r]
  have hKb:K.In (kD s₁.heap H):=λb o e=>base_of (KX b o e) (by
   cases q:H b with
   | none=>rfl
   | some u=>
    have e':b=a:=hA b (by rw[q]; simp)
    subst e';rw[hK (by rw[q]; simp)]at e; cases e)
  have hM:Mod K mg (kD s₁.heap H):=#[hKb,nsK hns,#[mb,nsK hb,hbb],let ⟨mc,h1,h2⟩:=hlim; #[mc,nsK h1,h2]]
  have e0:Env0 P w K mg (kD s₁.heap H) callerA [] s₁ H:=#[rfl,hM,λb o e=>wa e,Nat.le_of_eq (qD _ _),trivial,λb hb=>absurd (show b∈([]:Ho Hv)from hb) (by simp),hok,.of_eq hg]
  show Kx ((F _ hKb (nsK hns)).run callerA [] s₁ H #[[.ref a],[]] [.ref a] [.ref a] _ _ hr e0 (hbind s₁ (.ref a)) #v[rfl] (hsp H hO hS)) λr s' h=>?_
  cases r with
  | error e=>exact(hCX H e s' h).elim
  | ok fl=>
   cases fl with
   | next=>exact ID.elim h
   | brk=>exact ID.elim h
   | cont=>exact ID.elim h
   | ret u=>
    obtain⟨v,H',os,bare,un,hok',r',q⟩:=h;have q':v=.bl true:=q;subst q';obtain rfl:u=Jv true:=r';show#[rfl,OldK.of_keep λb o e=>?_,os,bare]
    cases q:H b with
    | none=>exact un.keep b o e q (by intro z; exact absurd (show b∈([]:Ho Hv)from z) (by simp)) (by simp)
    | some u=>
     rcases hO b with z|⟨ob,xs,z⟩
     ·rw[q]at z; cases z
     ·have z2:=un.frzs b ob _ z;obtain⟨e1,_⟩:=hok b _ z;obtain⟨e2,_⟩:=hok' b _ z2;rw[e]at e1; cases e1
      exact e2
 cases hk:K.lookup a with
 | some o=>
  have e:=KX a o hk;rw[ha]at e;cases e;show core (λ_=>gV) (λ_=>.inl rfl) (.inr #[_,vs.toArray,_,hk,rfl,rfl,rfl,by rw[HE,lenV]; exact hl,by simpa using rv]) (λb u z=>by have z':(gV:Hs HO)=ba u:=z; cases z') (λb z=>absurd rfl z) λz=>absurd rfl z
 | none=>
  show core (λb=>if b=a then ba (.frz { cls:=.type "list",data:=.seq vs.toArray } (.lst (ns.map V.int)))else gV) (λb=>?_) (.inl (.inr #[{ cls:=.type "list",data:=.seq vs.toArray },HN rfl])) (λb u z=>?_) (λb z=>?_) λ_=>hk
  ·by_cases hb:b=a
   ·exact .inr #[_,_,HN hb]
   ·exact .inl (HY hb)
  ·by_cases hb:b=a
   ·have z':=(HN hb).symm.trans z;cases z';subst hb;exact#[ha,by rw[HB]; exact hl,vs,_,rv,ha]
   ·have z':=(HY hb).symm.trans z;cases z'
  ·by_cases hb:b=a
   ·exact hb
   ·exact absurd (HY hb) z
def wK {l:MJ}{n k:Hz}{q:HM}{loose:Ho HC}{XP:(HC->Hs Hr)->Ii->Prop}{YP:HX->Ii->Prop}{d:DefRec}{K:LU->HA}{CX:HX->nJ}{sp:HX->Sp}{x:HC}
  (hn:l.most=ba n) (hn2:n<=sizeLine) (hdf:d.params.defaults=[]) (hr:Room k callerA)
  (hY:∀(w:HX) (h:Ii),YP w h->(K w.params).In h)
  (F:∀(w:HX) (mg:HC->Hs Hr) (fa:Hv) (h:Ii),(K w.params).In h->h.Ns mainGlobals mg->mg d.name=ba (.ref fa)->
   ∃fd:IY,(∀(s:Ht) (u:Hr),NR s fd #[[u],[]] [(x,u)])/\
    ∀base:Ii,(K w.params).In base->base.Ns mainGlobals mg->FnOk l.prog w (K w.params) mg base (CX w) k fa fd [x] (sp w))
  (hsp:∀(w:HX) (H:Hp) (a:Hv) (ns:Ho HR),ns.length<=n->sN H->SqL (K w.params) H a (ns.map V.int)->sp w [.ref a] H (λv _=>v=.bl true) λ_ _ _=>ID)
  (hCX:∀(w:HX) (H:Hp) (s:Ht) (e:Hr) (s':Ht),CX w [] H s (λ_ _ _=>ID) e s'->ID) :
  Pb q loose XP YP l.row.toRowW d [] (λf vs=>OT f vs):=by
 show Att.attach_call hn hdf λw s₀ s₁ mg mb fa o pm cd doc a vs ns G Yj ho hd hcd hmg hobj hints hlen hg=>?_
 have KX:=hY w _ Yj;obtain⟨fd,hb,hF⟩:=F w mg fa _ KX G.T.g hmg;exact sO KX G.T.g G.T.b G.T.builtins G.T.nolimit hg hobj hints (Ix hlen hn2) hr hF hb (λH hO hS=>hsp w H a ns hlen hO hS) λH e s'=>hCX w H s₁ e s'
abbrev bP (s:Jf):Arguments:=match s with
 | .FunctionDef _ a _ _ _ _ _ _ _ _=>a
 | _=>{ posonlyargs:=[],args:=[],vararg:=gV,kwonlyargs:=[],kw_defaults:=[],kwarg:=gV,defaults:=[] }
abbrev aD (s:Jf):Ho Jf:=match s with
 | .FunctionDef _ _ b _ _ _ _ _ _ _=>b
 | _=>[]
abbrev am (s:Jf):Kh:=match s with
 | .FunctionDef _ _ _ _ _ _ sc _ _ _=>sc
 | _=>{ kind:=.function,names:=[],isGenerator:=false,isCoroutine:=false }
noncomputable abbrev iG:nJ:=λ_ _ _ _ _ _=>ID
noncomputable abbrev E0:XK:=λ_ _ _=>ID
def o8 {X:Cx}:fg iG X E0:=λ_ _ _ _ _ _ _ h=>h.elim
structure Fun (K:HA)(x qual:HC)(st:Jf)(f:Hv)(fd:IY):Prop where
 ex:∃(oc:Hr) (od:Hs Hv) (kV doc pm:Hr) (an:Hs Hv) (cdv ct:Hr) (osl:Iu (Hs Hr)),
  fd=JL x qual (bP st) (aD st) (am st) .none kV doc pm an cdv ct/\K.lookup f=ba #[oc,od,.func fd,osl]/\Kt K cdv qual=true
 kp:IZ K (.ref f)=true
section
variable{P:HM}{w:HX}{K:HA}{mg:HC->Hs Hr}{base:Ii}
def Fun.ok {x qual:HC}{st:Jf}{f:Hv}{fd:IY}{N ps:Ho HC}{k:Hz}{sp:Sp}(F:Fun K x qual st f fd)(S:FnScope N ps (am st))(len:∀vs H Q E,sp vs H Q E->vs.length=ps.length)
  (hbody:∀(cdv:Hr) (A:HW) (outer:Ho LL) (s:Ht) (H:Hp) (vs:Ho V) (Q:VK) (E:XK),Room k (A.deeper (envOfC qual (am st) s.heap.objs.size f cdv))->sp vs H Q E->
   ∃t,PSs (dQ iG P w K mg base N qual (am st) f cdv A outer s H E).nox (aD st) t/\t { nx:=λ_ H'=>Q .non H',rt:=Q } (dP N vs) H):FnOk P w K mg base iG (k+1) f fd ps sp:=by
 obtain⟨oc,od,kV,doc,pm,an,cdv,ct,osl,rfl,lk,hcd⟩:=F.ex;show zb lk hcd S len λA outer s H vs Q E hr hsp=>?_
 obtain⟨t,h,q⟩:=hbody cdv A outer s H vs Q E hr hsp;exact#[t,h.nox,q]
def Fun.binds {x qual:HC}{st:Jf}{f:Hv}{fd:IY}{ps:Ho HC}(F:Fun K x qual st f fd)
  (h:∀(kV doc pm:Hr) (an:Hs Hv) (cdv ct:Hr) (us:Ho Hr),us.length=ps.length->bindArgs (JL x qual (bP st) (aD st) (am st) .none kV doc pm an cdv ct) #[us,[]]=pure (ps.zip us)):Binds K fd ps []:=by
 obtain⟨oc,od,kV,doc,pm,an,cdv,ct,osl,rfl,lk,hcd⟩:=F.ex;exact .all (h kV doc pm an cdv ct)
def nO {x qual:HC}{st:Jf}{f:Hv}{oc:Hr}{od an:Hs Hv}{osl:Iu (Hs Hr)}{kV doc pm cdv ct:Hr}(l:K.lookup f=ba #[oc,od,.func (JL x qual (bP st) (aD st) (am st) .none kV doc pm an cdv ct),osl])
  (c:Kt K cdv qual=true) (k:IZ K (.ref f)=true):Fun K x qual st f (JL x qual (bP st) (aD st) (am st) .none kV doc pm an cdv ct):=#[#[oc,od,kV,doc,pm,an,cdv,ct,osl,rfl,l,c],k]
end
end L2
open PySem PySem.W PyProof.Rows L2
set_option maxHeartbeats 0
namespace Mi
section
abbrev top (i:Hz):Jf:=PySem.Challenge.pw_layworld_k04_worlds_looked_at.main.body.getD i (.Pass #[0,0,0,0])
abbrev pw:HM:=L7
abbrev ge (P:LU)(n:HC)(t:Hz)(v:Hr):JZ:=#[PyData.keyHash P n,.str n t,v]
abbrev kd (a:Hz)(es:Ho JZ)(n:Hz):Hv×Jg:=(a,#[.type "dict",gV,.dict es.toArray n,#[]])
abbrev kc (a:Hz)(vs:Ho Hr):Hv×Jg:=(a,#[.type "code",gV,.fields vs.toArray,#[]])
abbrev kf (a:Hz)(st:Jf)(n:HC)(pm cd:Hr):Hv×Jg:=(a,#[.type "function",gV,.func (JL n n (bP st) (aD st) (am st) .none .none .none pm gV cd .none),#[]])
abbrev FZ (i:Hz):Hr:=if i<=13 then(.str "layworld.kinds" 403)else if i<=17 then(.str "layworld.worlds" 426)else(.str "law_layworld_k04_worlds_looked_at" 452)
abbrev kx (a:Hz)(b:HP)(i:Hz)(s:HC)(t:Hz)(l p:HR)(m:Hz)(R:HA):HA:=kc a [.str s t,.str s (t+1),.str "/claim/cut.py" (t+2),.int l 0,.int p 0,.int 0 0,.int 0 0,.int 3 0,.ref (if b then a - 5 else a - 3),.bool true,.int 181 0,.ref (if b then a - 4 else a - 2),.none,if b then .ref (a - 3)else .none,if b then .ref (a - 2)else .none,.ref (a - 1),.int m 0,.int l 0,.str "/claim/cut.py" (m+1)]::kf (a+1) (top i) s (FZ i) (.ref a)::R
abbrev F1 (i:Hz):Jf:=match top i with
 | .ClassDef _ _ _ b ..=>b.getD 0 (.Pass #[0,0,0,0])
 | s=>s
abbrev ke (C:Hz)(nm:HC)(N:Hz)(bs bm sub:Ho Hr)(k0:Hz)(t2 t3:Hz):Hv×Jg:=(C,excClassObj nm nm C N bs bm true [] sub false gV gV (ba (.ref k0)) gV (ba (.str nm t2)) (ba (.str nm t3)) (ba (.bool true)) "ValueError.__new__")
abbrev kg (a:Hz)(st:Jf)(q:HC)(pm cd:Hr):Hv×Jg:=(a,#[.type "function",gV,.func (JL "__init__" q (bP st) (aD st) (am st) .none .none .none pm gV cd .none),#[]])
abbrev G5 (P:LU):HA:=[(2,#[.none,gV,.dict #[] 0,#[]]),
 kd 23 [ge P "__module__" 196 (.str "layworld.errors" 187),ge P "__firstlineno__" 200 (.int 2 199),ge P "__static_attributes__" 201 (.ref 22),ge P "__weakref__" 203 (.ref 25),ge P "__doc__" 204 .none] 3,
 ke 24 "LayError" 23 [(.type "ValueError")] [(.type "ValueError"),(.type "Exception"),(.type "BaseException"),(.type "object")] [(.ref 44),(.ref 63),(.ref 82),(.ref 101),(.ref 120),(.ref 139),(.ref 158),(.ref 177)] 15 189 197,
 kd 62 [ge P "__module__" 239 (.str "layworld.errors" 187),ge P "__firstlineno__" 243 (.int 9 242),ge P "__init__" 251 (.ref 60),ge P "__static_attributes__" 253 (.ref 61),ge P "__doc__" 254 .none] 2,
 kc 59 [(.str "__init__" 244),(.str "NoWorld.__init__" 245),(.str "/claim/cut.py" 246),(.int 11 0),(.int 2 0),(.int 0 0),(.int 0 0),(.int 3 0),(.ref 54),(.bool true),(.int 181 0),(.ref 55),.none,(.ref 56),(.ref 57),(.ref 58),(.int 249 0),(.int 11 0),(.str "/claim/cut.py" 250)],
 kg 60 (F1 3) "NoWorld.__init__" (.str "layworld.errors" 187) (.ref 59),
 ke 63 "NoWorld" 62 [(.ref 24)] [(.ref 24),(.type "ValueError"),(.type "Exception"),(.type "BaseException"),(.type "object")] [] 47 232 240,
 ke 82 "BadText" 81 [(.ref 24)] [(.ref 24),(.type "ValueError"),(.type "Exception"),(.type "BaseException"),(.type "object")] [] 66 257 265,
 ke 101 "NoLaying" 100 [(.ref 24)] [(.ref 24),(.type "ValueError"),(.type "Exception"),(.type "BaseException"),(.type "object")] [] 85 282 290,
 ke 177 "NoRow" 176 [(.ref 24)] [(.ref 24),(.type "ValueError"),(.type "Exception"),(.type "BaseException"),(.type "object")] [] 161 380 388,
 ke 44 "NoRule" 43 [(.ref 24)] [(.ref 24),(.type "ValueError"),(.type "Exception"),(.type "BaseException"),(.type "object")] [] 28 207 215,
 ke 158 "NoSentence" 157 [(.ref 24)] [(.ref 24),(.type "ValueError"),(.type "Exception"),(.type "BaseException"),(.type "object")] [] 142 355 363,
 ke 120 "NoShare" 119 [(.ref 24)] [(.ref 24),(.type "ValueError"),(.type "Exception"),(.type "BaseException"),(.type "object")] [] 104 309 317,
 ke 139 "NoWish" 138 [(.ref 24)] [(.ref 24),(.type "ValueError"),(.type "Exception"),(.type "BaseException"),(.type "object")] [] 123 332 340]
abbrev K0 (P:LU):HA:=kd 3 [ge P "__name__" 165 (.str "law_layworld_k04_worlds_looked_at" 452),ge P "__doc__" 166 .none,ge P "__package__" 167 .none,ge P "__loader__" 168 (.builtin "__main__.__loader__#opaque"),ge P "__spec__" 169 .none,ge P "__annotations__" 170 (.ref 6),ge P "__builtins__" 171 (.ref 4),ge P "__file__" 173 (.str "/claim/cut.py" 172),ge P "__cached__" 174 .none,ge P "LayError" 206 (.ref 24),ge P "NoRule" 231 (.ref 44),ge P "NoWorld" 256 (.ref 63),ge P "BadText" 281 (.ref 82),ge P "NoLaying" 308 (.ref 101),ge P "NoShare" 331 (.ref 120),ge P "NoWish" 354 (.ref 139),ge P "NoSentence" 379 (.ref 158),ge P "NoRow" 402 (.ref 177),ge P "is_whole" 411 (.ref 186),ge P "is_tuple_of" 419 (.ref 193),ge P "is_numbers" 425 (.ref 198),ge P "look_world" 437 (.ref 205),ge P "is_point" 443 (.ref 210),ge P "has_point_form" 451 (.ref 217),ge P "_law_flow" 460 (.ref 224),ge P "_law_pick" 470 (.ref 231),ge P "_law_letters" 476 (.ref 236),ge P "_law_name" 485 (.ref 243),ge P "_law_names" 498 (.ref 250),ge P "_law_between" 508 (.ref 257),ge P "_law_part" 514 (.ref 262),ge P "_law_turns" 520 (.ref 269),ge P "_law_figure" 526 (.ref 274),ge P "_law_backs" 535 (.ref 281),ge P "_law_rule_of" 541 (.ref 286),ge P "_law_free_three" 547 (.ref 291),ge P "_law_sizes" 555 (.ref 298),ge P "_law_any_world" 561 (.ref 303),ge P "_law_alike" 567 (.ref 308),ge P "_law_of_rule" 573 (.ref 313),ge P "_law_put" 582 (.ref 320),ge P "_law_rule" 594 (.ref 327),ge P "_law_bad_point" 608 (.ref 334),ge P "_law_told" 619 (.ref 341),ge P "law" 625 (.ref 346)] 45::(kx 185 true 11 "is_whole" 405 43 1 409
 (kx 192 true 12 "is_tuple_of" 412 45 2 417
 (kx 197 false 13 "is_numbers" 420 47 2 423
 (kx 204 true 15 "look_world" 428 50 2 435
 (kx 209 false 16 "is_point" 438 57 3 441
 (kx 216 true 17 "has_point_form" 444 62 2 449
 (kx 223 true 19 "_law_flow" 454 65 1 458
 (kx 230 true 20 "_law_pick" 461 67 2 468
 (kx 235 false 21 "_law_letters" 471 82 2 474
 (kx 242 true 22 "_law_name" 477 84 2 483
 (kx 249 true 23 "_law_names" 486 92 2 496
 (kx 256 true 24 "_law_between" 499 105 4 506
 (kx 261 false 25 "_law_part" 509 109 3 512
 (kx 268 true 26 "_law_turns" 515 115 0 518
 (kx 273 false 27 "_law_figure" 521 117 2 524
 (kx 280 true 28 "_law_backs" 527 119 2 533
 (kx 285 false 29 "_law_rule_of" 536 122 4 539
 (kx 290 false 30 "_law_free_three" 542 126 3 545
 (kx 297 true 31 "_law_sizes" 548 131 1 553
 (kx 302 false 32 "_law_any_world" 556 134 3 559
 (kx 307 false 33 "_law_alike" 562 140 2 565
 (kx 312 false 34 "_law_of_rule" 568 152 2 571
 (kx 319 true 35 "_law_put" 574 157 3 580
 (kx 326 true 36 "_law_rule" 583 159 1 592
 (kx 333 true 37 "_law_bad_point" 595 166 3 606
 (kx 340 true 38 "_law_told" 609 177 2 617
 (kx 345 false 39 "law" 620 187 1 623 (G5 P))))))))))))))))))))))))))))
abbrev GM:Ho Hz:=[3,185,186,192,193,197,198,204,205,209,210,216,217,223,224,230,231,235,236,242,243,249,250,256,257,261,262,268,269,273,274,280,281,285,286,290,291,297,298,302,303,307,308,312,313,319,320,326,327,333,334,340,341,345,346,2,23,24,62,59,60,63,82,101,177,44,158,120,139]
abbrev vq:HM:={ pw with main:={ pw.main with body:=[top 39] } }
abbrev lo:Ho HC:=[("LayError" : HC),("NoRule" : HC),("NoWorld" : HC),("BadText" : HC),("NoLaying" : HC),("NoShare" : HC),("NoWish" : HC),("NoSentence" : HC),("NoRow" : HC),("is_whole" : HC),("is_tuple_of" : HC),("is_numbers" : HC),("look_world" : HC),("is_point" : HC),("has_point_form" : HC),("_law_flow" : HC),("_law_pick" : HC),("_law_letters" : HC),("_law_name" : HC),("_law_names" : HC),("_law_between" : HC),("_law_part" : HC),("_law_turns" : HC),("_law_figure" : HC),("_law_backs" : HC),("_law_rule_of" : HC),("_law_free_three" : HC),("_law_sizes" : HC),("_law_any_world" : HC),("_law_alike" : HC),("_law_of_rule" : HC),("_law_put" : HC),("_law_rule" : HC),("_law_bad_point" : HC),("_law_told" : HC)]
def eK:∀P,GM=(K0 P).map (·.1):=λ_=>by kernel_rfl
abbrev hk:PySem.W.Hook:=PySem.W.kHook K0 GM eK
def hl:PySem.W.LeftO pw vq lo (λs=>Pp vq [] s&&Pc [] s) hk.obs hk.val 6060:=λw=>by kernel_rfl
def s0:PySem.Challenge.rw_layworld_k04_worlds_looked_at.row.wellSaid=true:=by kernel_rfl
end
end Mi
namespace Xc
open PySem
inductive Fly (h:Ii)(e:Hv)(cls:Hr)(dd:Hs Hv)(a0 fl:Hr):Prop
 | new {vs:Iu Hr} {sl:Iu (Hs Hr)}:h.get? e=ba #[cls,dd,.fields vs,sl]->vs[0]?=ba a0->vs[1]?=ba .none->Fly h e cls dd a0 fl
 | on {vs ts:Iu Hr} {sl:Iu (Hs Hr)} {T:Hv} {oT:Jg}:h.get? e=ba #[cls,dd,.fields vs,sl]->vs[0]?=ba a0->vs[1]?=ba (.ref T)->e < T->h.get? T=ba oT->oT.data=.fields ts->ts[3]?=ba fl->Fly h e cls dd a0 fl
structure Mv (fr:Ho Hv)(e:Hv)(h h':Ii):Prop where
 keep:∀b o,h.get? b=ba o->b∉fr->b≠e->(e < b->∀vs,o.data≠.fields vs)->h'.get? b=ba o
 fram:∀b o,h.get? b=ba o->b∈fr->(∀vs,o.data≠.fields vs)->∃sl,h'.get? b=ba { o with slots:=sl }
 size:h.objs.size<=h'.objs.size
def Mv.refl {fr:Ho Hv}{e:Hv}{h:Ii}:Mv fr e h h:=#[λ_ _ q _ _ _=>q,λ_ o q _ _=>#[o.slots,q],HJ _]
def Mv.trans {fr:Ho Hv}{e:Hv}{h h' h2:Ii}(x:Mv fr e h h')(y:Mv fr e h' h2):Mv fr e h h2:=
 #[λb o q n1 n2 n3=>y.keep b o (x.keep b o q n1 n2 n3) n1 n2 n3,λb o q m n=>let ⟨_,q1⟩:=x.fram b o q m n; let ⟨sl,q2⟩:=y.fram b _ q1 m n; #[sl,q2],Ix x.size y.size]
def Mv.funs {fr:Ho Hv}{e:Hv}{h h' base:Ii}{l:Ho LL}(x:Mv fr e h h')(f:h.FunFrames base l)(he:∃o vs,h.get? e=ba o/\o.data=.fields vs):h'.FunFrames base l:=
 f.of_keeps λb o hb hn=>by
  by_cases m:b∈fr
  ·obtain⟨sl,q⟩:=x.fram b o hb m hn;exact#[_,q,rfl]
  ·show#[o,x.keep b o hb m (λz=>?_) λ_=>hn,rfl]
   obtain⟨oe,vs,q1,q2⟩:=he;rw[z,q1]at hb;cases hb;exact hn vs q2
section
variable{Mqa:Mg}{A:HW}{E:Hr->Ht->Prop}{s:Ht}{base:Ii}{env:LL}{outer:Ho LL}{L e:Hv}{cls a0 fl:Hr}{dd:Hs Hv}{Q:P2->Ht->Prop}
def o9 {vs:Iu Hr}{sl:Iu (Hs Hr)}{hadNext:HP}{head:Hr}(hfr:A.frames=ba (env::outer))(hl:s.heap.FunFrames base (env::outer))(hf:env.frame=ba L)
  (he:s.heap.get? e=ba #[cls,dd,.fields vs,sl]) (h0:vs[0]?=ba a0) (h1:1 < vs.size)
  (k:∀h',Mv ((env::outer).filterMap (·.frame)) e s.heap h'->Fly h' e cls dd a0 (rawInt L)->(∃o vs T,h'.get? e=ba o/\o.data=.fields vs/\vs[1]?=ba (.ref T))->Q () { s with heap:=h' }) :
  wpAny Mqa A (do let a <- frameOf env; let pl <- entryPlaceOf L hadNext; let b <- Nh head a .none (rawInt L) .none pl; setField (.ref e) 1 b) Q E s:=by
 have ne:e∉(env::outer).filterMap (·.frame):=λhm=>by
  obtain⟨_,o,ho,hnf⟩:=hl.mem hm;rw[he]at ho;cases ho;exact hnf vs rfl
 show Hq (wpAny_frameOf_fun hfr hl hf λh1' hs=>?_)
 show Hq (wpAny_entryPlaceOf λpl hpl=>?_)
 unfold Nh newFields;show Hq (IA ?_ (hpl.sizeOk5 _ _ _ _ _));generalize hts:([head,.ref L,.none,rawInt L,.none]++(if pl.isEmpty then Iq 6 Iz else pl)).toArray=ts
 have t3:ts[3]?=ba (rawInt L):=by rw[<- hts]; simp
 have he1:h1'.get? e=ba #[cls,dd,.fields vs,sl]:=(hs.2.1 e ne).trans he;have lt:e < h1'.objs.size:=HF he1;have he2:=Hw (h:=h1') { cls:=.type "traceback",dict:=gV,data:=.fields ts } he1;have hT:=HG h1' (o:={ cls:=.type "traceback",dict:=gV,data:=.fields ts }) rfl;have he3:=Jd (JW (·.setIfInBounds 1 (HL h1'.objs.size))) he2 rfl
 show Ku he2 rfl h1 (k _ #[λb o q n1 n2 n3=>?_,λb o q m n=>?_,?_] ?_ ?_)
 ·rw[Il _ _ (Ne.symm n2)];exact Hw _ ((hs.2.1 b n1).trans q)
 ·obtain⟨sl,q2⟩:=hs.2.2 b o q;show#[sl,?_];rw[Il _ _ (λz:e=b=>ne (z ▸ m))]
  exact Hw _ q2
 ·simp[hs.1]
 ·show .on (T:=h1'.objs.size) (oT:={ cls:=.type "traceback",dict:=gV,data:=.fields ts }) he3 (by rw[Li #v[]]; exact h0) (by simp[h1]) lt ?_ rfl t3
  rw[Il _ _ (HU lt)];exact hT
 ·exact#[_,_,h1'.objs.size,he3,rfl,by simp[h1]]
def sP (hfr:A.frames=ba (env::outer))(hl:s.heap.FunFrames base (env::outer))(hf:env.frame=ba L)(x:Fly s.heap e cls dd a0 .none)
  (k:∀h',Mv ((env::outer).filterMap (·.frame)) e s.heap h'->Fly h' e cls dd a0 (rawInt L)->(∃o vs T,h'.get? e=ba o/\o.data=.fields vs/\vs[1]?=ba (.ref T))->Q () { s with heap:=h' }) :
  wpAny Mqa A (noteFrame (.ref e) env) Q E s:=by
 unfold noteFrame;simp only[hf];cases x with
 | new he h0 h1=>
  show Hq (Jh he rfl h1 ?_);rw[HY #v[]]
  exact o9 hfr hl hf he h0 (IF.mp h1).1 k
 | @on vs ts sl T oT he h0 h1 lt hT hd h3=>
  show Hq (Jh he rfl h1 ?_);rw[HN (show(HL T != Iz)=true from by simp)]
  show Hq (Jh hT hd h3 ?_);rw[HY (show ¬ ((Iz==rawInt L)=true)from by simp[rawInt])]
  show Hq (Ku hT hd (IF.mp h3).1 ?_);have other:∀b,b≠T->(s.heap.update T (JW (·.setIfInBounds 3 Iz))).get? b=s.heap.get? b:=λb hb=>Il _ _ (Ne.symm hb)
  have mv:Mv ((env::outer).filterMap (·.frame)) e s.heap (s.heap.update T (JW (·.setIfInBounds 3 Iz))):=by
   show#[λb o q n1 n2 n3=>(other b λz=>?_).trans q,λb o q m n=>#[o.slots,(other b λz=>?_).trans q],by simp]
   ·rw[z,hT]at q;cases q;exact n3 (z ▸ lt) _ hd
   ·rw[z,hT]at q;cases q;exact n _ hd
  exact o9 hfr (mv.funs hl #[_,_,he,rfl]) hf ((other e (HU lt)).trans he) h0 (IF.mp h1).1 λh' m2 f2 r2=>k h' (mv.trans m2) f2 r2
def iH {f:Hs Hv}(fr:Ho Hv)(x:Fly s.heap e cls dd a0 fl)(k:∀h',Mv fr e s.heap h'->Fly h' e cls dd a0 (f.elim Iz λf=>rawInt f)->Q () { s with heap:=h' }):wpAny Mqa A (setFlight (.ref e) f) Q E s:=by
 unfold setFlight;cases x with
 | new he h0 h1=>
  show Hq (Jh he rfl h1 ?_);rw[HY #v[]]
  exact Hy (k _ .refl (.new he h0 h1))
 | @on vs ts sl T oT he h0 h1 lt hT hd h3=>
  show Hq (Jh he rfl h1 ?_);rw[HN (show(HL T != Iz)=true from by simp)]
  have h3':=(IF.mp h3).1;have other:∀b,b≠T->(s.heap.update T (JW (·.setIfInBounds 3 (f.elim Iz λf=>rawInt f)))).get? b=s.heap.get? b:=λb hb=>Il _ _ (Ne.symm hb)
  show Ku hT hd h3' (k _ #[λb o q n1 n2 n3=>(other b λz=>?_).trans q,λb o q m n=>#[o.slots,(other b λz=>?_).trans q],by simp] ?_)
  ·rw[z,hT]at q;cases q;exact n3 (z ▸ lt) _ hd
  ·rw[z,hT]at q;cases q;exact n _ hd
  ·exact .on ((other e (HU lt)).trans he) h0 h1 lt (Jd _ hT (Lj (Kc hd _))) (Kc hd _) (by simp[h3'])
def wL (hfr:A.frames=ba (env::outer))(hl:s.heap.FunFrames base (env::outer))(hf:env.frame=ba L)(x:Fly s.heap e cls dd a0 .none)
  (k:∀h',Mv ((env::outer).filterMap (·.frame)) e s.heap h'->Fly h' e cls dd a0 .none->Q () { s with heap:=h' }):wpAny Mqa A (leaving env (.ref e)) Q E s:=by
 unfold leaving;show Hq (sP hfr hl hf x λh1 m1 f1 _=>?_)
 exact iH _ f1 λh2 m2 f2=>k h2 (m1.trans m2) f2
end
end Xc
namespace Xc
open PySem PySem.Spec PySem.W
section
variable{prog:HM}{w:HX}{A:HW}{E:Hr->Ht->Prop}{h:Ii}{g:Iu LM}{d:Py}{t:Hz}{os:OsState}
variable{nm q:HC}{C N f:Hv}{bs bm bmB:Ho Hr}{hdct:HP}{sn:Ho HC}{sub:Ho Hr}{ab:HP}{col:Hs HP}{dd:Hs Hv}{k0 k1 k2 k3 k5:Hs Hr}{B newId initId:Jb}
noncomputable abbrev gA (C t:Hv):Jg:={ cls:=.ref C,data:=.fields [.ref t,.none,.none,.none,.bool false,.none].toArray }
noncomputable abbrev eS (au:Ho Hr):Jg:={ cls:=.type "tuple",data:=.seq au.toArray }
abbrev zd (e:Hv)(Q:Hr->Ht->Prop)(E:Hr->Ht->Prop)(r:Mx)(s':Ht):Prop:=match r with
 | .ok (.ret v)=>v=.none/\Q (.ref e) s'
 | .ok _=>ID
 | .error x=>E x s'
def jD (F:NX B newId initId bmB)(T:Qc h bmB bm){au:Ho Hr}{Q:Fin->Ht->Prop}
  (hC:h.get? C=ba (excClassObj nm q C N bs bm hdct sn sub ab col dd k0 k1 k2 k3 k5 newId)) (hi:Looks (model prog w) h (typeLookup (.ref C) "__init__") (ba (.ref f))) (hb:∀self,Looks (model prog w) h (bindSpecial (.ref f) self) (.ref f,[self]))
  (hq:codeAny (model prog w) (A) (.call (.ref f) #[.ref (h.objs.size+1)::au,[]]) (zd (h.objs.size+1) (λv s=>Q (.done (.ret v)) s) E) #[(h.push (eS au)).push (gA C h.objs.size),g,d,t,os]) (hrest:au.length<=sizeLine:=by size_fits) :
  wpAny (model prog w) A (K3.«type.__call__» #[.ref C::au,[]]) Q E #[h,g,d,t,os]:=by
 repeat (first|with_reducible show KF hC ?_|with_reducible show wpAny_madeBy_exc hC ?_|wp_step)
 show codeAny_call_builtin_code (LV _ F.quiet) (wpAny_check_new_subT F T hC ?_);show codeAny_exc_new_subT F T hC ?_ hrest;change wpAny _ _ _ _ _ _;have k:∀b o,h.get? b=ba o->((h.push (eS au)).push (gA C h.objs.size)).get? b=ba o:=λb o e=>Hw _ (Hw _ e)
 have hC1:=k _ _ hC;have hget:((h.push (eS au)).push (gA C h.objs.size)).get? (h.objs.size+1)=ba (gA C h.objs.size):=by heap_get
 have hcC:(HL C::bm).contains (.ref C)=true:=by simp
 have T1:=T.keeps k;unfold isInstance
 repeat (first|with_reducible show KF hget ?_|(with_reducible show Ni hC1 ?_; rw[hcC])|wp_step)
 change wpAny _ _ (typeLookup (.ref C) _) _ _ _;show hi _ _ _ _ k ?_;show IL (Hq (hb (.ref (h.objs.size+1)) _ _ _ _ k ?_));show Hq (K4 ?_);show Kx hq λr s' z=>?_
 rcases r with e|(_|_|_|v)
 ·exact z
 ·exact z.elim
 ·exact z.elim
 ·exact z.elim
 ·obtain⟨rfl,z⟩:=z;exact Hy (Hy z)
def sQ (F:NX B newId initId bmB)(T:Qc h bmB bm){au:Ho Hr}{Q:Hr->Ht->Prop}
  (hC:h.get? C=ba (excClassObj nm q C N bs bm hdct sn sub ab col dd k0 k1 k2 k3 k5 newId)) (hi:Looks (model prog w) h (typeLookup (.ref C) "__init__") (ba (.ref f))) (hb:∀self,Looks (model prog w) h (bindSpecial (.ref f) self) (.ref f,[self]))
  (hq:codeAny (model prog w) (A.under (.builtin "type.__call__" #[.ref C::au,[]])) (.call (.ref f) #[.ref (h.objs.size+1)::au,[]]) (zd (h.objs.size+1) Q E) #[(h.push (eS au)).push (gA C h.objs.size),g,d,t,os]) (hrest:au.length<=sizeLine:=by size_fits) :
  wpAny (model prog w) A (call (.ref C) au) Q E #[h,g,d,t,os]:=by
 have f1:=tc_lookup;have f2:=tc_bind (.ref C);have hT:(#[h,g,d,t,os] : Ht).TypeIs (.ref C) "type":=#[_,hC,rfl];show K4 (OD ?_);change wpAny _ _ (callAny (.ref C) _) _ _ _
 repeat (any_goals (first|assumption|with_reducible show KF hC ?_|wp_step))
 show#[rfl,?_];exact codeAny_call_builtin_at (LV _ (by decide +kernel)) entry_typeCall (wpAny_check_type_call_sub hC (jD (hrest:=hrest) F T hC hi hb hq))
end
end Xc
namespace Xc
open PySem PySem.Spec PySem.W PySem.Builtin.ObjectAttr
abbrev cG:Ho Hr->HP
 | .ref _::r=>cG r
 | l=>l==[.type "ValueError",.type "Exception",.type "BaseException",.type "object"]
def lQ (self:Hr):refuseLoop self "__setattr__" [.type "ValueError",.type "Exception",.type "BaseException",.type "object"]=pure ():=by kernel_rfl
def iI (self:Hr):∀ {l:Ho Hr},cG l=true->refuseLoop self "__setattr__" l=pure ()
 | .ref c::r,e=>by rw[refuseLoop_ref]; exact iI self (l:=r) e
 | [],e=>by cases e
 | .type n::r,e=>by
  have:(td n::r)=[.type "ValueError",.type "Exception",.type "BaseException",.type "object"]:=KL.mp e;rw[this]; exact lQ self
 | .none::r,e|.bool _::r,e|.int _ _::r,e|.str _ _::r,e|.builtin _::r,e|.float _ _::r,e=>by cases e
def bM:∀ {l:Ho Hr},cG l=true->l.contains (.type "object")=true/\l.isEmpty=false
 | .ref c::r,e=>#[by rw[LW,(bM (l:=r) e).1,NY],rfl]
 | [],e=>by cases e
 | .type n::r,e=>by
  have:(td n::r)=[.type "ValueError",.type "Exception",.type "BaseException",.type "object"]:=KL.mp e;rw[this]; exact#[by decide +kernel,rfl]
 | .none::r,e|.bool _::r,e|.int _ _::r,e|.str _ _::r,e|.builtin _::r,e|.float _ _::r,e=>by cases e
section
variable{prog:HM}{w:HX}{A:HW}{K:Frag}{C x:Hv}{s:Ht}{R:Mx->Ht->Prop}
def C9 {ox:Jg}{od:Hs Jg}{name:HC}{tk:Qk}{v:Hr}{cd:Jz}(X:K.In s.heap)(I:InstAt s.heap x ox C od)(hc:clsIn K C=ba cd)(hm:cG cd.mro=true)(hf:findIn K (.ref C) name=ba gV)
  (h:wpAny (model prog w) A.in1 (storeInOwnDict (.ref x) (.ref C) (.str name tk) name v false) (λfin s'=>match fin with|.done f=>R (.ok f) s'|.again c'=>c'.quiet=true/\codeAny (model prog w) A c' R s') (λe s'=>R (.error e) s') s) :
  codeAny (model prog w) A (.call (.builtin "object.__setattr__") #[[.ref x,.str name tk,v],[]]) R s:=by
 have SF:=PySem.F.store_object;obtain⟨ho,ne⟩:=bM hm;have sub:Looks (model prog w) s.heap (isInstance (.ref x) (.type "object")) true:=I.type.andThen (looks_mroIn X (by unfold mroIn; rw[hc,J9,HY (by rw[ne]; decide),ho]))
 show KO SF.slot.plain SF.entry (@check_slot (model prog w) _ _ s "object.__setattr__" "object" "__setattr__" (.ref x) [.str name tk,v] [] _ SF.kind SF.split sub (SF.args (.ref x) (.str name tk) v) ?_);have hl:Looks (model prog w) s.heap (mroOf (.ref C)) cd.mro:=(looks_clsIn X hc).andThen .now;rw[osa_eq,refuse_eq];show Hq (Hq (I.type.here (Hq (hl.here ?_))));rw[iI _ hm];exact Hy (Hq (I.type.here (Hq ((looks_findIn X hf).here (Hq (Looks.here (r:=gV) .now h))))))
def sR {E:Hr->Ht->Prop}{Q:P2->Ht->Prop}{vs:Iu Hr}{sl:Iu (Hs Hr)}{name:HC}{v:Hr}{cd:Jz}(X:K.In s.heap)(hx:s.heap.get? x=ba #[.ref C,gV,.fields vs,sl])
  (hs:findIn K (.ref C) "__setattr__" = ba (ba (.builtin "object.__setattr__"))) (hc:clsIn K C=ba cd) (hm:cG cd.mro=true) (hd:cd.hasDict=true) (hf:findIn K (.ref C) name=ba gV)
  (k:∀h' tk,h'.get? x=ba #[.ref C,ba s.heap.objs.size,.fields vs,sl]->h'.Ns1 s.heap.objs.size (λy=>if y=name then ba v else gV)->(∀b o,b≠x->s.heap.get? b=ba o->h'.get? b=ba o)->h'.objs.size=s.heap.objs.size+1->
   Q () { s with heap:=h',toks:=tk }):wpAny (model prog w) A (setAttr (.ref x) name v) Q E s:=by
 have I:InstAt s.heap x #[.ref C,gV,.fields vs,sl] C gV:=#[hx,rfl,rfl,trivial];show set_plain X I hs (C9 (s:={ s with toks:=s.toks+1 }) X I hc hm hf ?_)
 unfold storeInOwnDict ownDictForStores instanceDict;show Hq (Hy (Hq (Hq (MY hx (Hq (Looks.here (s:={ s with toks:=s.toks+1 }) (looks_clsIn X hc) ?_))))))
 rw[hd];have hx1:(s.heap.push { cls:=.type "dict",data:=.dict #[] }).get? x=ba #[.ref C,gV,.fields vs,sl]:=Hw _ hx;have hxs:x≠s.heap.objs.size:=HU (HF hx);show Hq (wpAny_alloc' ?_);show Hq (wpAny_update' hx1 ?_);show Hy (a:=ba s.heap.objs.size) ?_;have hgd:((s.heap.push { cls:=.type "dict",data:=.dict #[] }).update x λo=>{ cls:=o.cls,dict:=ba s.heap.objs.size,data:=o.data,slots:=o.slots }).get? s.heap.objs.size=ba { cls:=.type "dict",data:=.dict #[] }:=
  (J4 _ _ _ _ hxs.symm).trans (NZ rfl rfl)
 have hnd:((s.heap.push { cls:=.type "dict",data:=.dict #[] }).update x λo=>{ cls:=o.cls,dict:=ba s.heap.objs.size,data:=o.data,slots:=o.slots }).Ns s.heap.objs.size (λ_=>gV):=
  #[_,#[],_,hgd,rfl,λe he=>absurd he (by simp),λ_=>rfl]
 change wpAny _ _ (storeInDict s.heap.objs.size (.str name _) name v) _ _ _;unfold storeInDict newKeyGuard;show Hq (Hy (Hq (Pq (Qd hnd) λh' hn' hs'=>?_)))
 obtain⟨oD,esD,epD,hoD,hdD,hcD⟩:=hn'.count (PL name v Within.nil);show Hq (Oj hoD (by rw[hdD]; exact Ol (Ix hcD (by rw[IU,JE,IN]; omega))) ?_)
 show Hy (k h' _ ?_ hn' (λb o hb q=>?_) ?_)
 ·exact(hs'.2 x hxs).trans (Jd _ hx1 rfl)
 ·exact(hs'.2 b (HU (HF q))).trans ((J4 _ _ _ _ hb).trans (Hw _ q))
 ·rw[hs'.1]; simp
def qS {E:Hr->Ht->Prop}{Q:P2->Ht->Prop}{vs:Iu Hr}{sl:Iu (Hs Hr)}{name:HC}{v:Hr}{cd:Jz}{dx:Hv}{mA:HC->Hs Hr}{ns:Ho HC}(X:K.In s.heap)(hx:s.heap.get? x=ba #[.ref C,ba dx,.fields vs,sl])
  (hA:s.heap.Ns1 dx mA) (hw:Within mA ns) (hsz:ns.length<=100) (hne:dx≠x)
  (hs:findIn K (.ref C) "__setattr__" = ba (ba (.builtin "object.__setattr__"))) (hc:clsIn K C=ba cd) (hm:cG cd.mro=true) (hd:cd.hasDict=true) (hf:findIn K (.ref C) name=ba gV)
  (k:∀h' tk,h'.Ns1 dx (λy=>if y=name then ba v else mA y)->(∀b,b≠dx->h'.get? b=s.heap.get? b)->h'.objs.size=s.heap.objs.size->
   Q () { s with heap:=h',toks:=tk }):wpAny (model prog w) A (setAttr (.ref x) name v) Q E s:=by
 obtain⟨oA,esA,epA,hoA,rA⟩:=id hA;have I:InstAt s.heap x #[.ref C,ba dx,.fields vs,sl] C (ba oA):=#[hx,rfl,rfl,hoA];show set_plain X I hs (C9 (s:={ s with toks:=s.toks+1 }) X I hc hm hf ?_)
 unfold storeInOwnDict ownDictForStores instanceDict;show Hq (Hy (Hq (Hq (MY hx (Hq (Looks.here (s:={ s with toks:=s.toks+1 }) (looks_clsIn X hc) ?_))))))
 rw[hd];show Hy (a:=ba dx) ?_;change wpAny _ _ (storeInDict dx (.str name _) name v) _ _ _;unfold storeInDict newKeyGuard;show Hq (Hy (Hq (Pq (s:={ s with toks:=s.toks+1 }) hA λh' hn' hs'=>?_)))
 obtain⟨oD,esD,epD,hoD,hdD,hcD⟩:=hn'.count (PL name v hw);show Hq (Oj hoD (by rw[hdD]; exact Ol (Ix hcD (by rw[IU,IN]; omega))) ?_)
 exact Hy (k h' _ hn' (λb hb=>hs'.2 b hb) hs'.1)
def pb (self:Hr):bindSpecial (.builtin "BaseException.__getattribute__") self=pure (.builtin "BaseException.__getattribute__",[self]):=PySem.F.attr_ValueError.ga.bind self
def dU:∀ {l:Ho Hr},cG l=true->l.contains (.type "BaseException")=true
 | .ref c::r,e=>by rw[LW,dU (l:=r) e,NY]
 | [],e=>by cases e
 | .type n::r,e=>by
  have:(td n::r)=[.type "ValueError",.type "Exception",.type "BaseException",.type "object"]:=KL.mp e;rw[this]; decide +kernel
 | .none::r,e|.bool _::r,e|.int _ _::r,e|.str _ _::r,e|.builtin _::r,e|.float _ _::r,e=>by cases e
def F3 {E:Hr->Ht->Prop}{Q:Hr->Ht->Prop}{vs:Iu Hr}{sl:Iu (Hs Hr)}{name:HC}{v:Hr}{cd:Jz}{dx:Hv}{mA:HC->Hs Hr}{expr:HP}(X:K.In s.heap)(hx:s.heap.get? x=ba #[.ref C,ba dx,.fields vs,sl])
  (hA:s.heap.Ns1 dx mA) (hg:findIn K (.ref C) "__getattribute__" = ba (ba (.builtin "BaseException.__getattribute__"))) (hh:findIn K (.ref C) "__getattr__" = ba gV)
  (hc:clsIn K C=ba cd) (hm:cG cd.mro=true) (hd:cd.hasDict=true) (hf:findIn K (.ref C) name=ba gV) (hv:mA name=ba v) (hv':handedIn v=true)
  (k:Q v { s with toks:=s.toks+1 }):wpAny (model prog w) A (getAttr (.ref x) name expr) Q E s:=by
 obtain⟨oA,hoA,hlo⟩:=L2.qK hA;have I:InstAt s.heap x #[.ref C,ba dx,.fields vs,sl] C (ba oA):=#[hx,rfl,rfl,hoA];have I':InstAt ({ s with toks:=s.toks+1 }:Ht).heap x #[.ref C,ba dx,.fields vs,sl] C (ba oA):=I
 have hl:Looks (model prog w) s.heap (mroOf (.ref C)) cd.mro:=(looks_clsIn X hc).andThen .now;have ne:=(bM hm).2;have sub:Looks (model prog w) s.heap (isInstance (.ref x) (.type "BaseException")) true:=I.type.andThen (looks_mroIn X (by unfold mroIn; rw[hc,J9,HY (by rw[ne]; decide),dU hm]))
 have hk:builtinKind "BaseException.__getattribute__" = ba .slot:=by decide +kernel
 have hsp:splitId "BaseException.__getattribute__" = ba ("BaseException","__getattribute__"):=by decide +kernel
 unfold getAttr getAttrBy;show Hq (Pr (IL (Hq (I'.type.here (Hq (Looks.here (s:={ s with toks:=s.toks+1 }) (looks_findIn X hg) ?_))))))
 have hx2:(onTheHeap (HL C)&&JX "BaseException.__getattribute__" == JX "object.__getattribute__")=false:=by
  rw[show(JX "BaseException.__getattribute__" == JX "object.__getattribute__")=false from by decide +kernel,MW]
 dsimp only;rw[hx2];change wpAny _ _ (getAttrByItsOwn _ _ _ _ _ _) _ _ _;unfold getAttrByItsOwn hookBefore;show Hq (Looks.here (s:={ s with toks:=s.toks+1 }) (looks_findIn X hh) ?_)
 have hx3:(expr&&onTheHeap (JX "BaseException.__getattribute__"))=false:=by cases expr <;> rfl
 unfold callGetattribute boundAndCalled;rw[hx3,pb];show Hq (KA (IL (Hq (Hy (K4 ?_)))));show KO PySem.F.attr_ValueError.ga.plain F.entry_bexc_ga (@check_slot (model prog w) _ _ { s with toks:=s.toks+1 } "BaseException.__getattribute__" "BaseException" "__getattribute__" (.ref x) [.str name s.toks] [] _ hk hsp sub (F.args_bexc_ga (.ref x) (.str name s.toks)) ?_)
 have hlk:lookIn name oA=ba (ba v):=by rw[hlo,hv]
 have L1:Looks (model prog w) s.heap _ _:=looks_find X I (findObj_own (by unfold hasDictIn; rw[hc]; exact hd) hf rfl hlk)
 have L0:Looks (model prog w) s.heap _ _:=I.type;show Hq (Hy (Hq (Hy (Hq (L0.here (s:={ s with toks:=s.toks+1 }) (Hq (L1.here (s:={ s with toks:=s.toks+1 }) ?_)))))))
 show Hy ?_;change wpAny _ _ (handedOut v) _ _ _;rw[handedOut_of hv']; exact Hy k
end
section
variable{prog:HM}{w:HX}{A:HW}{E:Hr->Ht->Prop}{h:Ii}{g:Iu LM}{d:Py}{t:Hz}{os:OsState}
variable{nm q:HC}{C N e:Hv}{bs bm bmB:Ho Hr}{hdct:HP}{sn:Ho HC}{sub:Ho Hr}{ab:HP}{col:Hs HP}{dd dx:Hs Hv}{k0 k1 k2 k3 k5:Hs Hr}{B newId initId:Jb}
def Db (F:NX B newId initId bmB)(T:Qc h bmB bm){au:Ho Hr}{vs:Iu Hr}{sl:Iu (Hs Hr)}{Q:Hr->Ht->Prop}
  (hC:h.get? C=ba (excClassObj nm q C N bs bm hdct sn sub ab col dd k0 k1 k2 k3 k5 newId)) (he:h.get? e=ba #[.ref C,dx,.fields vs,sl]) {t0:Hv} (h0:vs[0]?=ba (.ref t0))
  (hq:Q .none #[(h.push (eS au)).update e (JW (·.setIfInBounds 0 (.ref h.objs.size))),g,d,t,os]) (hrest:au.length<=sizeLine:=by size_fits) :
  wpAny (model prog w) A (call (.builtin initId) (.ref e::au)) Q E #[h,g,d,t,os]:=by
 have he1:(h.push (eS au)).get? e=ba #[.ref C,dx,.fields vs,sl]:=Hw _ he;show K4 (KO F.init.plain F.initEntry (wpAny_check_init_subT F T hC he rfl ?_));have hz:=(IF.mp h0).1
 wp_walk
 rw[h0]
 wp_walk
 exact hq
end
section
variable{prog:HM}{w:HX}{A:HW}{K:Frag}{CL:Hv}{s:Ht}{E:Hr->Ht->Prop}{pl:O6 HP}{Q:Hr×Ho Hr->Ht->Prop}{mc:Hr}{name:HC}
def Dc {v:Hr}(X:K.In s.heap)(hg:specialIn K (.ref CL) "__getattribute__" = ba (ba (.builtin "type.__getattribute__")))(hr:readsIn K CL mc=true)(e:findCls K (.ref CL) mc name=ba (.val v))(hh:handedIn v=true)
  (k:Q (v,[]) { s with toks:=s.toks+1 }):wpAny (model prog w) A (getMethod (.ref CL) name pl) Q E s:=method_cls X hg (cls_value X hr e hh k)
end
section
variable{Mqa:Mg}{A:HW}{E:Hr->Ht->Prop}{s:Ht}{env:LL}
variable{nm q:HC}{C N:Hv}{bs bm:Ho Hr}{hdct:HP}{sn:Ho HC}{sub:Ho Hr}{ab:HP}{col:Hs HP}{dd:Hs Hv}{k0 k1 k2 k3 k5:Hs Hr}{newId:Jb}
def sS {x:O6 Hr}{Q:Qj->Ht->Prop}(hbase:bm.contains (.type "BaseException")=true)(hh:A.handled=gV)
  (h:wpAny Mqa A x (λv s1=>∃e dx vs sl,v=.ref e/\s1.heap.get? C=ba (excClassObj nm q C N bs bm hdct sn sub ab col dd k0 k1 k2 k3 k5 newId)/\s1.heap.get? e=ba #[.ref C,dx,.fields vs,sl]/\vs[1]?=ba .none/\E (.ref e) s1) E s) :
  wpAny Mqa A (raiseStmt env (ba x) gV) Q E s:=by
 have hcB:(HL C::bm).contains (.type "BaseException")=true:=by rw[LW,hbase,NY]
 unfold raiseStmt;show Hq (IE h (λv s1 h1=>?_) λ_ _ x=>x)
 obtain⟨e,dx,vs,sl,rfl,hC,he,hv,hE⟩:=h1;obtain⟨hp,g,d,tk,os⟩:=s1
 repeat (first|with_reducible show KF he ?_|with_reducible show KF hC ?_|(with_reducible show Ni hC ?_; rw[hcB])|with_reducible show Jh he rfl hv ?_|wp_step)
 exact wpAny_raiseNew_none hh hE
end
section
variable{prog:HM}{w:HX}{A:HW}{s:Ht}{E:Hr->Ht->Prop}{env:LL}{base:Ii}{outer:Ho LL}{L e:Hv}{cls a0:Hr}{dd:Hs Hv}
def AH {t:HH}{n:HC}{b0:Jf}{suite:Ho Jf}{pos:Jw}{au:Ho ExceptHandler}{Q:Qj->Ht->Prop}(hfr:A.frames=ba (env::outer))(hl:s.heap.FunFrames base (env::outer))(hf:env.frame=ba L)(x:Fly s.heap e cls dd a0 .none)
  (ht:∀h',Mv ((env::outer).filterMap (·.frame)) e s.heap h'->Fly h' e cls dd a0 .none->wpAny (model prog w) (A.mark (ba (.ref e))) (eval t env) (λc s1=>wpAny (model prog w) (A.mark (ba (.ref e))) (excMatches (.ref e) c) (λb s2=>b=true/\
   Fly s2.heap e cls dd a0 .none/\∀h3,Mv ((env::outer).filterMap (·.frame)) e s2.heap h3->Fly h3 e cls dd a0 .none->
    wpAny (model prog w) (A.mark (ba (.ref e))) (storeName env n (.ref e)) (λ_ s3=>wpAny (model prog w) (A.mark (ba (.ref e))) (execs (b0::suite) env)
     (λf s4=>wpAny (model prog w) A (do bindName env n .none; unbindBehindTheSuite env n pos) (λ_ s5=>Q f s5) E s4) (λ_ _=>ID) s3) (λ_ _=>ID) { s2 with heap:=h3 }) (λ_ _=>ID) s1) (λ_ _=>ID) { s with heap:=h' }) :
  wpAny (model prog w) A (noteFrame (.ref e) env) (λ_ s2=>wpAny (model prog w) A (setFlight (.ref e) gV) (λ_ s3=>wpAny (model prog w) A (handleBy (.ref e) env (.ExceptHandler (ba t) (ba n) (b0::suite) pos::au)) Q E s3) E s2) E s:=by
 show sP hfr hl hf x λh1 m1 f1 _=>iH ((env::outer).filterMap (·.frame)) f1 λh2 m2 f2=>?_
 show wpAny_handleBy_cons (codeAny_handlers_test ?_) (by intro q; cases q)
 show IE (ht h2 (m1.trans m2) f2) (λc s1 h=>?_) λ_ _ z=>z.elim
 show IE h (λb s2 #[hb,fl,h3]=>?_) λ_ _ z=>z.elim
 subst hb;show codeAny_handlers_suite_as (iH ((env::outer).filterMap (·.frame)) fl λh4 m4 f4=>?_)
 show IE (h3 h4 m4 f4) (λ_ s3 h5=>?_) λ_ _ z=>z.elim
 exact IE h5 (λf s4 h6=>h6) λ_ _ z=>z.elim
end
structure XK (K:Frag)(C:Hv)(cd:Jz):Prop where
 cls:clsIn K C=ba cd
 mro:cG cd.mro=true
 dct:cd.hasDict=true
 ga:findIn K (.ref C) "__getattribute__" = ba (ba (.builtin "BaseException.__getattribute__"))
 hk:findIn K (.ref C) "__getattr__" = ba gV
 kl:findIn K (.ref C) "__class__" = ba (ba (.builtin "object.__class__"))
 gg:specialIn K (.builtin "object.__class__") "__get__" = ba (ba (.builtin "getset_descriptor.__get__"))
 tk:takesIn K (.builtin "object.__class__")=ba true
section
variable{prog:HM}{w:HX}{A:HW}{K:Frag}{C x:Hv}{s:Ht}{E:Hr->Ht->Prop}{cd:Jz}{ox:Jg}{od:Hs Jg}
def XK.top (Yj:XK K C cd):mroIn K C (.type "object")=ba true:=by
 unfold mroIn;rw[Yj.cls,J9,HY (by rw[(bM Yj.mro).2]; decide),(bM Yj.mro).1]
def XK.base (Yj:XK K C cd):mroIn K C (.type "BaseException")=ba true:=by
 unfold mroIn;rw[Yj.cls,J9,HY (by rw[(bM Yj.mro).2]; decide),dU Yj.mro]
def De {name:HC}{tk:Qk}{fill expr:HP}{Q:Hr->Ht->Prop}(Yj:XK K C cd)(X:K.In s.heap)(I:InstAt s.heap x ox C od)
  (h:wpAny (model prog w) A.in1 (K3.«object.__getattribute__» #[[.ref x,.str name tk],[]]) (λfin s'=>match fin with|.done (.ret v)=>wpAny (model prog w) A (handedOut v) Q E s'|_=>ID) (λ_ _=>ID) s) :
  wpAny (model prog w) A (getAttrBy (.ref x) (.str name tk) fill expr) Q E s:=by
 have sub:Looks (model prog w) s.heap (isInstance (.ref x) (.type "BaseException")) true:=I.type.andThen (looks_mroIn X Yj.base);have hk:builtinKind "BaseException.__getattribute__" = ba .slot:=by decide +kernel
 have hsp:splitId "BaseException.__getattribute__" = ba ("BaseException","__getattribute__"):=by decide +kernel
 unfold getAttrBy;show IL (Hq (I.type.here (Hq (Looks.here (looks_findIn X Yj.ga) ?_))));have hx2:(onTheHeap (HL C)&&JX "BaseException.__getattribute__" == JX "object.__getattribute__")=false:=by
  rw[show(JX "BaseException.__getattribute__" == JX "object.__getattribute__")=false from by decide +kernel,MW]
 dsimp only;rw[hx2];change wpAny _ _ (getAttrByItsOwn _ _ _ _ _ _) _ _ _;unfold getAttrByItsOwn hookBefore;show Hq (Looks.here (looks_findIn X Yj.hk) ?_);have hx3:(expr&&onTheHeap (JX "BaseException.__getattribute__"))=false:=by cases expr <;> rfl
 unfold callGetattribute boundAndCalled;rw[hx3,pb];show Hq (KA (IL (Hq (Hy (K4 ?_)))));show KO PySem.F.attr_ValueError.ga.plain F.entry_bexc_ga (@check_slot (model prog w) _ _ s "BaseException.__getattribute__" "BaseException" "__getattribute__" (.ref x) [.str name tk] [] _ hk hsp sub (F.args_bexc_ga (.ref x) (.str name tk)) ?_);show IE h (λfin s' z=>?_) λ_ _ z=>z.elim
 rcases fin with(_|_|_|_)|_ <;> first|exact z|exact z.elim
def nP (Yj:XK K C cd):findObj K C od "__class__" = ba (.bind (.builtin "getset_descriptor.__get__") (.builtin "object.__class__")):=by
 unfold findObj;rw[Yj.cls,J9,Yj.kl,J9];simp only[Yj.gg,Yj.tk,J9,Kr,IW]
def AI {Q:Hs Hr->Ht->Prop}(Yj:XK K C cd)(X:K.In s.heap)(I:InstAt s.heap x ox C od)(h:Q (ba (.ref C)) { s with toks:=s.toks+1 }):wpAny (model prog w) A (getAttr? (.ref x) "__class__") Q E s:=by
 have I':InstAt ({ s with toks:=s.toks+1 }:Ht).heap x ox C od:=I
 have L1:Looks (model prog w) s.heap _ _:=looks_find X I (nP Yj);have L0:Looks (model prog w) s.heap _ _:=I.type;unfold getAttr? getAttrBy?;show Hq (Pr (Hq (KA (De (s:={ s with toks:=s.toks+1 }) Yj X I ?_))))
 show Hq (Hy (Hq (Hy (Hq (L0.here (s:={ s with toks:=s.toks+1 }) (Hq (L1.here (s:={ s with toks:=s.toks+1 }) ?_)))))))
 change wpAny _ _ (holding [.builtin "object.__class__"] (call (.builtin "getset_descriptor.__get__") [.builtin "object.__class__",.ref x,.ref C]) >>= ret) _ _ _;show Hq (IL (K4 (class_get (s:={ s with toks:=s.toks+1 }) X I Yj.top ?_)))
 exact Hy (handed_on rfl (Hy h))
structure XT (K:Frag)(C:Hv)(c:Hr)(b:HP):Prop where
 ty:∀(Mqa:Mg) h',K.In h'->Looks Mqa h' (typeOf c) (.type "type")
 is:∀(Mqa:Mg) h',K.In h'->Looks Mqa h' (isType c) true
 sub:subIn K (.ref C) c=ba b
 eq:(HL C==c)=true->b=true
def fj {D:Hv}{cd:Jz}(hc:clsIn K D=ba cd)(Mqa:Mg)(h':Ii)(X:K.In h'):Looks Mqa h' (isType (.ref D)) true:=by
 unfold clsIn at hc;split at hc
 ·rename_i c' d' cd' sl' ho;intro A' Q' E' s' k q;unfold isType loadHead;exact Hq (MY (k _ _ (X _ _ ho)) (Hy q))
 ·cases hc
def gR {c:Hr}{b:HP}{dep:HR}{tk:Qk}{Q:Fin->Ht->Prop}(Yj:XK K C cd)(T:XT K C c b)(X:K.In s.heap)(I:InstAt s.heap x ox C od)(h:∀tk',Q (.done (.ret (.bool b))) { s with toks:=tk' }) :
  wpAny (model prog w) A (K3.«isinstance.nested» #[[.ref x,c,.int dep tk],[]]) Q E s:=by
 have hisD:=fj Yj.cls (model prog w) s.heap X;have his:=T.is (model prog w) s.heap X;have hty:Looks (model prog w) s.heap (typeOf c) (.type "type"):=T.ty (model prog w) s.heap X;have hsub:Looks (model prog w) s.heap (isSubtype (.ref C) c) b:=looks_subIn X T.sub;obtain⟨h0,g,d,tt,os⟩:=s;have L0:Looks (model prog w) h0 _ _:=I.type;have LI:Looks (model prog w) h0 (isInstance (.ref x) c) b:=L0.andThen hsub;unfold K3.«isinstance.nested»;show Hq (L0.at ?_)
 by_cases q:(HL C==c)=true
 ·rw[HN q];cases T.eq q;exact Hq (Lm (Hq (Hy (Hy (h tt)))))
 ·rw[HY q];show Hq (hty.at ?_);rw[HN #v[]]
  k_delta "plainIsInstance"
  show Hq (Hq (his.at ?_));simp only[Ls,IK,JQ];show Hq (LI.at ?_);cases b with
  | true=>
   simp only[Kr];exact Hy (Hy (h tt))
  | false=>
   simp only[IK,JQ];show Hq (AI Yj X I ?_);show Hq (hisD.at ?_);simp only[Ls,IK,JQ];show Hq (Lm ?_);show hsub.at ?_;exact Hy (h _)
def Dg {c:Hr}{b:HP}{Q:Hr->Ht->Prop}(Yj:XK K C cd)(T:XT K C c b)(X:K.In s.heap)(I:InstAt s.heap x ox C od)(h:∀tk',Q (.bool b) { s with toks:=tk' }):wpAny (model prog w) A (call (.builtin "isinstance") [.ref x,c]) Q E s:=
 OE (S:=λ_ R s=>(K.In s.heap/\InstAt s.heap x ox C od)/\∀tk',R (.ok (.ret (.bool b))) { s with toks:=tk' })
  (λ_ _ _ _ _ hs=>Om (gR Yj T hs.1.1 hs.1.2 hs.2) (by intro q; cases q)) #[#[X,I],h]
inductive XTs (K:Frag)(C:Hv):Ho Hr->Ho HP->Prop
 | nil:XTs K C [] []
 | cons {c:Hr} {b:HP} {cs:Ho Hr} {bs:Ho HP}:XT K C c b->XTs K C cs bs->XTs K C (c::cs) (b::bs)
def XTs.all {cs:Ho Hr}{bs:Ho HP}(Yj:XK K C cd)(T:XTs K C cs bs):AnswersAll (λs=>K.In s.heap/\InstAt s.heap x ox C od) (.ref x) cs bs:=by
 induction T with
 | nil=>trivial
 | cons t _ ih=>exact#[λ_ _ _ _ _ _ _ hs=>gR Yj t hs.1.1 hs.1.2 hs.2,ih]
def g6 {tp:Hv}{nt:Hz}{dt:Hs Hv}{st:Iu (Hs Hr)}{cs:Ho Hr}{bs:Ho HP}{tk:Qk}{Q:Fin->Ht->Prop}(Yj:XK K C cd)(T:XTs K C cs bs)(hne:C≠tp)(htp:s.heap.get? tp=ba { cls:=.type "tuple",dict:=dt,data:=.seq cs.toArray nt,slots:=st })(X:K.In s.heap)(I:InstAt s.heap x ox C od)
  (hq:∀tk',Q (.done (.ret (.bool (bs.any id)))) { s with toks:=tk' }):wpAny (model prog w) A (K3.«isinstance.nested» #[[.ref x,.ref tp,.int 0 tk],[]]) Q E s:=by
 obtain⟨h,g,d,t,os⟩:=s;have hT2:(#[h,g,d,t,os] : Ht).TypeIs (.ref tp) "tuple":=#[_,htp,rfl];have f1:=F.isi_sub_tuple;have L0:Looks (model prog w) h _ _:=I.type;have ne:(HL C==HL tp)=false:=Mj.mpr λq=>hne (Qt (KL.mp q))
 unfold K3.«isinstance.nested»;show Hq (L0.at ?_);rw[HY (λq=>by rw[ne]at q; exact Bool.noConfusion q)]
 repeat (any_goals (first|assumption|wp_step))
 show wpAny_arrayLoop ?_;simp only[Lp,List.toList_toArray];show isinstance_items (dep:=0) (P:=λs=>K.In s.heap/\InstAt s.heap x ox C od) (λ_ _ z=>z) cs bs _ _ (T.all Yj) #[X,I] λtk'=>?_
 cases hv:bs.any id with
 | true=>
  simp only[Kr]
  repeat (any_goals (first|assumption|wp_step))
  exact hv ▸ hq tk'
 | false=>
  simp only[IK,JQ]
  repeat (any_goals (first|assumption|wp_step))
  exact hv ▸ hq tk'
def sT {tp:Hv}{nt:Hz}{dt:Hs Hv}{st:Iu (Hs Hr)}{cs:Ho Hr}{bs:Ho HP}{Q:Hr->Ht->Prop}(Yj:XK K C cd)(T:XTs K C cs bs)(hne:C≠tp)(htp:s.heap.get? tp=ba { cls:=.type "tuple",dict:=dt,data:=.seq cs.toArray nt,slots:=st })(X:K.In s.heap)(I:InstAt s.heap x ox C od)
  (h:∀tk',Q (.bool (bs.any id)) { s with toks:=tk' }):wpAny (model prog w) A (call (.builtin "isinstance") [.ref x,.ref tp]) Q E s:=
 OE (S:=λ_ R s=>(K.In s.heap/\InstAt s.heap x ox C od/\s.heap.get? tp=ba { cls:=.type "tuple",dict:=dt,data:=.seq cs.toArray nt,slots:=st })/\∀tk',R (.ok (.ret (.bool (bs.any id)))) { s with toks:=tk' })
  (λ_ _ _ _ _ hs=>Om (g6 Yj T hne hs.1.2.2 hs.1.1 hs.1.2.1 hs.2) (by intro q; cases q)) #[#[X,I,htp],h]
end
end Xc
namespace Xc
open PySem PySem.Spec PySem.W PySem.Builtin.ObjectAttr L2 PyProof.Rows
noncomputable abbrev GN:Ho Hr:=[.type "ValueError",.type "Exception",.type "BaseException",.type "object"]
abbrev Fx (e C:Hv)(dd:Hs Hv)(h:Ii):Prop:=∃vs sl t0,h.get? e=ba #[.ref C,dd,.fields vs,sl]/\vs[0]?=ba (.ref t0)/\vs[1]?=ba .none
def Fx.ok {P:HM}{w:HX}{H:Hp}{h:Ii}{e C:Hv}{dd:Hs Hv}(x:Fx e C dd h):ObjOk P w H h e (.ext (Fx e C dd)):=
 #[x,let ⟨_,_,_,q,_⟩:=x; #[_,q],λh1 h2 y k=>let ⟨vs,sl,t0,q,r⟩:=y; #[vs,sl,t0,k _ q,r]]
structure XC (K:Frag)(C:Hv)(cd:Jz):Prop extends XK K C cd where
 obj:∃nm q N bs bm sn sub ab col dd k0 k1 k2 k3 k5,K.lookup C=ba (excClassObj nm q C N bs bm true sn sub ab col dd k0 k1 k2 k3 k5 "ValueError.__new__")/\tailIn K GN bm=true/\bm.contains (.type "BaseException")=true
 sa:findIn K (.ref C) "__setattr__" = ba (ba (.builtin "object.__setattr__"))
section
variable{X:Cx}{x:HC}{p pos apos:Jw}{a:HH}{es:Ho HH}{t:TA}{CL:Hv}{mc:Hr}
abbrev sU (K:Frag)(t:TA):TE:=λY H Q=>t Y H λvs H1=>∃e C cd dd au,vs=.ref e::au/\au.length<=sizeLine/\XC K C cd/\H1 e=ba (.ext (Fx e C dd))/\Q .non H1
def sV {pl:O6 HP}(hgl:Gl X x)(hmg:X.mg x=ba (.ref CL))(hg:specialIn X.K (.ref CL) "__getattribute__" = ba (ba (.builtin "type.__getattribute__")))(hr:readsIn X.K CL mc=true)
  (hf:findCls X.K (.ref CL) mc "__init__" = ba (.val (.builtin "ValueError.__init__"))) (ha:PA X (a::es) t)
  (hst:starEach (a::es) X.env=(false,eval a X.env)::starEach es X.env:=by rfl) (hpl:(backTo pos (starEach es X.env)).any (·.1)=false:=by rfl)
  (ht:eval (.Call (.Attribute (.Name x p) "__init__" apos) (a::es) [] pos) X.env=(do
   let ov <- eval (.Name x p) X.env
   standAt apos.atName
   let (f,first) <- holding [ov] (getMethod ov "__init__" pl)
   callWith pos f first (backTo pos (starEach (a::es) X.env)) (backToKw pos (keywordEach [] X.env))):=by rfl) (hdb:(x==("__debug__" : HC))=false:=by decide) :
  PE X (.Call (.Attribute (.Name x p) "__init__" apos) (a::es) [] pos) (sU X.K t):=by
 intro J s Y H Q I h;show PySem.W.methodCall_KW (pl:=pl) (cz I hgl hmg ?_ hdb) ht;show Dc I.kIn hg hr hf (by decide +kernel) ?_
 have I0:=I.tok (s.toks+1);show callWith_builtin1 (aG (ha pos J _ Y H _ I0 h) λus s1 #[vs,H1,I1,r1,q1]=>?_) hst hpl
 obtain⟨e,C,cd,dd,au,rfl,hz,Yj,he,hq⟩:=q1;obtain⟨u,us',rfl,ru,rr⟩ : ∃u us',us=u::us'/\RelV (.ref e) u/\Vals au us':=by
  cases r1 with
  | cons a b=>exact#[_,_,rfl,a,b]
 obtain rfl:u=HL e:=ru;obtain⟨nm,q,N,bs,bm,sn,sub,ab,col,dd',k0,k1,k2,k3,k5,lk,tl,_⟩:=Yj.obj;obtain⟨⟨ws,sl,t0,o1,o2,o3⟩,_,_⟩:=I1.hok e _ he;have X1:=I1.kIn;obtain⟨hh,g,d,tk,os⟩:=s1;show Db LX (tail_of_in X1 tl) (X1 _ _ lk) o1 o2 ?_ (by rw[<- rr.length]; exact hz)
 have o1':(hh.push (eS us')).get? e=ba #[.ref C,dd,.fields ws,sl]:=Hw _ o1;have o1'':=Jd (JW (·.setIfInBounds 0 (.ref hh.objs.size))) o1' rfl
 have nf:Fx e C dd ((hh.push (eS us')).update e (JW (·.setIfInBounds 0 (.ref hh.objs.size)))):=
  #[_,sl,hh.objs.size,o1'',by simp[(IF.mp o2).1],by rw[Li #v[]]; exact o3]
 have I2:=I1.write (o:=.ext (Fx e C dd)) (t':=tk) (h':=(hh.push (eS us')).update e (JW (·.setIfInBounds 0 (.ref hh.objs.size)))) (x:=e) (e:=e) (by rw[he]; trivial) (.inl rfl)
  (λb u hb q=>by rw[Il _ _ (Ne.symm hb)]; exact Hw _ q) #[_,o1''] nf.ok
 have eH:aA H1 e (.ext (Fx e C dd))=H1:=by
  funext b
  unfold aA;split
  ·rename_i z; rw[z,he]
  ·rfl
 rw[eH]at I2;exact#[.non,H1,I2,rfl,hq]
end
abbrev Dx (dx:Hv)(fs:Ho (HC×V))(h:Ii):Prop:=∃mA,h.Ns1 dx mA/\(∀f,r9 (fs.lookup f) (mA f))/\Within mA (fs.map (·.1))
def Dx.ok {P:HM}{w:HX}{H:Hp}{h:Ii}{dx:Hv}{fs:Ho (HC×V)}(x:Dx dx fs h):ObjOk P w H h dx (.ext (Dx dx fs)):=
 #[x,let ⟨_,⟨o,_,_,q,_⟩,_⟩:=x; #[o,q],λh1 h2 y k=>let ⟨mA,⟨o,es,ep,q,r⟩,z⟩:=y; #[mA,#[o,es,ep,k _ q,r],z]]
section
variable{X:Cx}{J:Ho (Hv×Jg)}{Y:L2.St}{H:Hp}{s:Ht}{h':Ii}{e dx:Hv}{φ ψ χ:Ii->Prop}{t':Hz}
def wM (I:L2.Inv X J Y H s)(he:H e=ba (.ext φ))(hd:s.heap.objs.size<=dx)(k:∀b u,b≠e->s.heap.get? b=ba u->h'.get? b=ba u)
  (o1:∀H',ObjOk X.prog X.w H' h' e (.ext ψ)) (o2:∀H',ObjOk X.prog X.w H' h' dx (.ext χ)):L2.Inv X J Y (aA (aA H e (.ext ψ)) dx (.ext χ)) { s with heap:=h',toks:=t' }:=by
 have nd:H dx=gV:=I.hok.fresh hd;have ne:dx≠e:=λz=>by rw[z,he]at nd; cases nd
 have oth:∀b,b≠e->b≠dx->aA (aA H e (.ext ψ)) dx (.ext χ) b=H b:=λb h1 h2=>by rw[aj h2,aj h1]
 have lt:∀b o,s.heap.get? b=ba o->b≠dx:=λb o q z=>absurd (HF q) (by rw[z]; exact Lq.mpr hd)
 have ne':∀b,H b=gV->b≠e:=λb q z=>by rw[z,he]at q; cases q
 have ind:∀b u,H b=ba u->b≠dx:=λb u q z=>by rw[z,nd]at q; cases q
 show I.un #[λb o q n _ _=>k b o (ne' b n) q,λb o q n _ _=>#[o.slots,k b o (ne' b n) q],λb o q n _=>by rw[oth b (ne' b n) (lt b o q)]; exact n,λb o q _=>?_,λb xs q=>?_,λb o u q=>?_,λb ps q=>#[#[],?_]] λb u q=>?_
 ·by_cases z:b=e
  ·rw[z]; exact let ⟨_,w,_⟩:=o1 H; w
  ·exact#[o,k b o z q]
 ·rw[oth b (λz=>by rw[z,he]at q; cases q) (ind b _ q)]; exact q
 ·rw[oth b (λz=>by rw[z,he]at q; cases q) (ind b _ q)]; exact q
 ·rw[oth b (λz=>by rw[z,he]at q; cases q) (ind b _ q),q]; simp
 ·by_cases z1:b=dx
  ·rw[z1,ak]at q;cases q;rw[z1];exact o2 _
  ·rw[aj z1]at q
   by_cases z2:b=e
   ·rw[z2,ak]at q;cases q;rw[z2];exact o1 _
   ·rw[aj z2]at q;show(I.hok b u q).stay (λc v hc r=>k c v ?_ r) (λc r=>?_) λc xs r=>?_
    ·rcases hc with z|z
     ·rw[z]; exact z2
     ·exact λz'=>by rw[z',he]at z; cases z
    ·rw[oth c (λz=>by rw[z,he]at r; cases r) (ind c _ r)]; exact r
    ·rw[oth c (λz=>by rw[z,he]at r; cases r) (ind c _ r)]; exact r
end
section
variable{X:Cx}{o value:HH}{ta tv:TE}{f:HC}{pos pos':Jw}
abbrev ze (K:Frag)(ta tv:TE)(f:HC):TS:=λD Y H=>tv Y H λy H1=>ta Y H1 λx H2=>∃e C cd,x=.ref e/\XC K C cd/\findIn K (.ref C) f=ba gV/\
 ((H2 e=ba (.ext (Fx e C gV))/\∀dx,H2 dx=gV->D.nx Y (aA (aA H2 e (.ext (Fx e C (ba dx)))) dx (.ext (Dx dx [(f,y)]))))\/
  (∃dx fs,H2 e=ba (.ext (Fx e C (ba dx)))/\dx≠e/\fs.length<=100/\H2 dx=ba (.ext (Dx dx fs))/\D.nx Y (aA H2 dx (.ext (Dx dx (fG f y fs))))))
def wQ (ha:PE X o ta)(hv:PE X value tv)(hs:swapsWith value (ba (.Attribute o f pos')) pos.line X.env=pure false):PS X (.Assign [.Attribute o f pos'] value pos) (ze X.K ta tv f):=by
 intro J s Y H D I h;show plainObj_wpAny_Assign_Attribute (aG (hv J s Y H _ I h) λu s1 #[y,H1,I1,ry,q]=>aG (ha J s1 Y H1 _ I1 q) λov s2 #[x,H2,I2,rx,e,C,cd,ex,Yj,hf,q2]=>?_) hs
 subst ex;obtain rfl:ov=HL e:=rx;rcases q2 with⟨he,hq⟩|⟨dx,fs,he,hne,hl,hd,hq⟩
 ·obtain⟨⟨ws,sl,t0,o1,o2,o3⟩,_,_⟩:=I2.hok e _ he;show sR I2.kIn o1 Yj.sa Yj.cls Yj.mro Yj.dct hf λh' tk g1 g2 g3 g4=>?_
  have fx:Fx e C (ba s2.heap.objs.size) h':=#[ws,sl,t0,g1,o2,o3];have dd:Dx s2.heap.objs.size [(f,y)] h':=#[_,g2,λg=>?_,?_]
  ·exact#[Y,_,wM I2 he (HJ _) g3 (λ_=>fx.ok) (λ_=>dd.ok),hq _ (I2.hok.fresh (HJ _))]
  ·change r9 ((fG f y []).lookup g) (if g=f then ba u else gV)
   rw[dO]
   by_cases q:g=f
   ·rw[HN q,HN q]; exact ry
   ·rw[HY q,HY q]; trivial
  ·intro g hg
   by_cases q:g=f
   ·rw[q]; exact Iw
   ·exact absurd (show(if g=f then ba u else gV)=gV by rw[HY q]) hg
 ·obtain⟨⟨ws,sl,t0,o1,o2,o3⟩,_,_⟩:=I2.hok e _ he;obtain⟨⟨mA,n1,n2,n3⟩,_,_⟩:=I2.hok dx _ hd;show qS I2.kIn o1 n1 n3 (by rw[HB]; exact hl) hne Yj.sa Yj.cls Yj.mro Yj.dct hf λh' tk g2 g3 g4=>?_
  have dd:Dx dx (fG f y fs) h':=#[_,g2,λg=>?_,?_]
  ·exact#[Y,_,I2.write (o:=.ext (Dx dx (fG f y fs))) (x:=dx) (e:=dx) (by rw[hd]; trivial) (.inl rfl) (λb u hb q=>by rw[g3 b hb]; exact q) (let ⟨_,⟨o,_,_,q,_⟩,_⟩:=dd; #[o,q]) dd.ok,hq]
  ·change r9 ((fG f y fs).lookup g) (if g=f then ba u else mA g)
   rw[dO]
   by_cases q:g=f
   ·rw[HN q,HN q]; exact ry
   ·rw[HY q,HY q]; exact n2 g
  ·intro g hg
   by_cases q:g=f
   ·rw[q]; exact(gz f y fs).1
   ·show(gz f y fs).2 g (n3 g λz=>hg ?_)
    show(if g=f then ba u else mA g)=gV
    rw[HY q]; exact z
end
structure XM (K:Frag)(C f:Hv)(cd:Jz):Prop extends XC K C cd where
 init:findIn K (.ref C) "__init__" = ba (ba (.ref f))
 fn:typeIn K (.ref f)=ba (.type "function")
 kp:keepIn K (.ref C)=true
section
variable{X:Cx}{CX:nJ}{k:Hz}{f C:Hv}{cd:Jz}{fd:IY}{ps:Ho HC}{sp:Sp}{E:L2.XK}{x:HC}{p pos:Jw}{a:HH}{es:Ho HH}{t:TA}
def jR {J:Ho (Hv×Jg)}{Y:L2.St}{H:Hp}{s:Ht}{Q:VK}{us:Ho Hr}{vs:Ho V}(Mqa:XM X.K C f cd)(F:FnOk X.prog X.w X.K X.mg X.base CX k f fd ps sp)(hr:Room (k+1) X.A)(hb:Binds X.K fd ps [])
  (hx:fg CX X E) (I:L2.Inv X J Y H s) (r:Vals vs us) (hz:us.length<=sizeLine)
  (h:∀e,H e=gV->s.heap.objs.size<=e->sp (.ref e::vs) (aA H e (.ext (Fx e C gV))) (λv H2=>v=.non/\Q (.ref e) H2) E) :
  wpAny (model X.prog X.w) X.A (call (.ref C) us) (EP X J Y Q) X.xe s:=by
 have hq:=h (s.heap.objs.size+1) (I.hok.fresh (JN _)) (JN _);obtain⟨nm,q,N,bs,bm,sn,sub,ab,col,dd',k0,k1,k2,k3,k5,lk,tl,_⟩:=Mqa.obj;have I1:L2.Inv X J Y (aA H (s.heap.objs.size+1) (.ext (Fx (s.heap.objs.size+1) C gV))) { s with heap:=(s.heap.push (eS us)).push (gA C s.heap.objs.size) }:=by
  show I.laid (t':=s.toks) (λb u e=>Hw _ (Hw _ e)) (JN _) (Fx.ok #[[.ref s.heap.objs.size,.none,.none,.none,.bool false,.none].toArray,#[],s.heap.objs.size,?_,rfl,rfl])
  exact NZ (by simp) rfl
 have r2:Vals (V.ref (s.heap.objs.size+1)::vs) (HL (s.heap.objs.size+1)::us):=.cons rfl r;have hl:(HL (s.heap.objs.size+1)::us++[]).length=ps.length:=by
  have e:=r2.length;rw[F.len _ _ _ _ hq]at e;rw[JD];exact e.symm
 have X0:=I.kIn;have hb2:=hb _ (HL (s.heap.objs.size+1)::us) I1.kIn hl;rw[JD]at hb2;have run:=F.run _ X.stack _ _ #[HL (s.heap.objs.size+1)::us,[]] (HL (s.heap.objs.size+1)::us) _ _ E (hr.make C us []) (I1.env0.make C us []) hb2 r2 hq;obtain⟨hh,g,d,tk,os⟩:=s;show sQ LX (tail_of_in X0 tl) (X0 _ _ lk) (looks_findIn X0 Mqa.init) (λself=>bind_fn X0 self Mqa.fn) (Kx run λr s' hq'=>?_) hz
 cases r with
 | error e=>exact hx J Y _ _ e s' I1 hq'
 | ok fl=>
  cases fl with
  | ret u=>
   obtain⟨v,H',I3,rv,ev,q3⟩:=I1.after hq';subst ev;exact#[rv,#[V.ref (hh.objs.size+1),H',I3,rfl,q3]]
  | next=>exact ID.elim hq'
  | brk=>exact ID.elim hq'
  | cont=>exact ID.elim hq'
end
abbrev Ex (e C:Hv)(dd:Hs Hv)(h:Ii):Prop:=∃vs sl,h.get? e=ba #[.ref C,dd,.fields vs,sl]
def Ex.ok {P:HM}{w:HX}{H:Hp}{h:Ii}{e C:Hv}{dd:Hs Hv}(x:Ex e C dd h):ObjOk P w H h e (.ext (Ex e C dd)):=
 #[x,let ⟨_,_,q⟩:=x; #[_,q],λh1 h2 y k=>let ⟨vs,sl,q⟩:=y; #[vs,sl,k _ q]]
def Fly.ex {h:Ii}{e C:Hv}{dd:Hs Hv}{a0 fl:Hr}(x:Fly h e (.ref C) dd a0 fl):Ex e C dd h:=by
 cases x with
 | new q _ _=>exact#[_,_,q]
 | on q _ _ _ _ _ _=>exact#[_,_,q]
abbrev b8 (h:Ii)(b:Hv):HP:=match h.get? b with
 | some #[_,_,.fields _,_]=>true
 | _=>false
def cQ {h:Ii}{b:Hv}{o:Jg}(q:h.get? b=ba o)(n:b8 h b=false):∀vs,o.data≠.fields vs:=λvs e=>by
 obtain⟨c,d,dt,sl⟩:=o;cases e;simp[b8,q]at n
def qT {h:Ii}{b:Hv}(n:b8 h b=true):∃o vs,h.get? b=ba o/\o.data=.fields vs:=by
 unfold b8 at n;split at n
 ·rename_i q; exact#[_,_,q,rfl]
 ·cases n
def sW {P:HM}{w:HX}{H:Hp}{h:Ii}{a:Hv}{o:HO}(x:ObjOk P w H h a o):∃ob,h.get? a=ba ob:=by
 cases o with
 | lst xs=>obtain⟨_,_,_,_,e⟩:=x; exact#[_,e]
 | tup xs=>obtain⟨⟨_,_,e,_⟩,_⟩:=x; exact#[_,e]
 | dK U=>obtain⟨_,_,_,_,o,_,_,e,_⟩:=x; exact#[_,e]
 | dT U=>obtain⟨_,_,_,_,o,_,_,e,_⟩:=x; exact#[_,e]
 | set S n=>obtain⟨o,_,_,_,e,_⟩:=x; exact#[_,e]
 | ins C dx fs=>obtain⟨_,_,_,e,_⟩:=x; exact#[_,e]
 | own y=>exact x
 | xd fs=>obtain⟨_,⟨_,_,_,e,_⟩,_⟩:=x; exact#[_,e]
 | rng lo hi=>obtain⟨_,_,_,e⟩:=x; exact#[_,e]
 | frz ob u=>obtain⟨e,_⟩:=x; exact#[_,e]
 | tbl ps=>exact#[_,(show h.get? a=ba _ from x)]
 | met f y=>exact#[_,(show h.get? a=ba _ from x)]
 | ext φ=>obtain⟨_,e,_⟩:=x; exact e
structure Air (X:Cx)(J:Ho (Hv×Jg))(Y:L2.St)(H:Hp)(s:Ht)(a C:Hv)(dd:Hs Hv)(a0:Hr):Prop where
 inv:L2.Inv X J Y H s
 fly:Fly s.heap a (.ref C) dd a0 .none
 new:X.s₀.heap.objs.size<=a
 ext:H a=ba (.ext (Ex a C dd))
 low:∀b u,H b=ba u->a < b->b8 s.heap b=false
 pin:∀p∈X.pn++J,a < p.1->b8 s.heap p.1=false
section
variable{X:Cx}{J:Ho (Hv×Jg)}{Y:L2.St}{H:Hp}{s:Ht}{a C:Hv}{dd:Hs Hv}{a0:Hr}{h':Ii}
def Air.mv (Yj:Air X J Y H s a C dd a0)(m:Mv (jI X.stack) a s.heap h')(f:Fly h' a (.ref C) dd a0 .none):Air X J Y H { s with heap:=h' } a C dd a0:=by
 have I:=Yj.inv;have fr:∀b∈jI X.stack,∃o,s.heap.get? b=ba o/\∀vs,o.data≠.fields vs:=λb hb=>(I.stack.mem hb).2
 have keepH:∀b u o,H b=ba u->b≠a->s.heap.get? b=ba o->h'.get? b=ba o:=λb u o hb ne q=>
  m.keep b o q (λz=>by rw[I.stkFree b z]at hb; cases hb) ne λlt=>cQ q (Yj.low b u hb lt)
 have same:∀b o,s.heap.get? b=ba o->b8 s.heap b=false->b≠a->b8 h' b=false:=λb o q n ne=>by
  by_cases hb:b∈jI X.stack
  ·obtain⟨sl,q'⟩:=m.fram b o q hb (cQ q n);unfold b8;rw[q'];obtain⟨c,d,dt,sl'⟩:=o;cases dt <;> first|rfl|(simp[b8,q]at n)
  ·unfold b8 at n ⊢;rw[m.keep b o q hb ne λ_=>cQ q n]
   rw[q]at n;exact n
 have Jqa:L2.Inv X J Y H { s with heap:=h' }:=by
  show I.call (ch:=(IJ s.heap.objs.size).filter λb=>decide (a < b)&&b8 s.heap b) (g':=s.gens) (t':=s.toks) (d':=s.drawn) #[λb o q n nf nc=>?_,λb o q n hb nc=>?_,λb o q n _=>n,λb o q nc=>?_,λ_ _ q=>q,λ_ _ _ q=>q,λb ps q=>#[#[],by rw[q]; simp]] (λb u q=>?_) I.bare λb hb=>?_
  ·show m.keep b o q nf (λz=>by rw[z,Yj.ext]at n; cases n) λlt=>?_
   cases hr:b8 s.heap b with
   | false=>exact cQ q hr
   | true=>exact absurd (Ke.mpr #[Jp.mpr (HF q),by simp[lt,hr]]) nc
  ·obtain⟨o',q',n'⟩:=fr b hb;rw[q]at q';cases q';exact m.fram b o q hb n'
  ·by_cases hb:b∈jI X.stack
   ·obtain⟨o',q',n'⟩:=fr b hb;rw[q]at q';cases q';exact let ⟨sl,z⟩:=m.fram b o q hb n'; #[_,z]
   ·by_cases z:b=a
    ·rw[z]; exact let ⟨_,_,w⟩:=f.ex; #[_,w]
    ·show#[o,m.keep b o q hb z λlt=>?_]
     cases hr:b8 s.heap b with
     | false=>exact cQ q hr
     | true=>exact absurd (Ke.mpr #[Jp.mpr (HF q),by simp[lt,hr]]) nc
  ·by_cases z:b=a
   ·rw[z,Yj.ext]at q;cases q;rw[z];exact f.ex.ok
   ·show(I.hok b u q).stay (λc v hc r=>?_) (λ_ r=>r) λ_ _ r=>r
    rcases hc with hc|hc
    ·rw[hc]at r ⊢; exact keepH b u v q z r
    ·exact keepH c _ v hc (λz'=>by rw[z',Yj.ext]at hc; cases hc) r
  ·obtain⟨h1,h2⟩:=Ke.mp hb;rw[Hu]at h2;have lt:=IX h2.1;obtain⟨o,vs,q,hd⟩:=qT h2.2;show#[.inr (J5 (LY Yj.new lt)),λz=>?_,λx c hx z=>?_,λp hp z=>?_]
   ·obtain⟨mm,⟨o',es,ep,ho,hd',_⟩,_⟩:=I.loc;rw[<- z,q]at ho;cases ho;rw[hd]at hd';cases hd'
   ·obtain⟨v,o',ho,hd'⟩:=I.cell x c hx;rw[z,q]at ho;cases ho;rw[hd]at hd';cases hd'
   ·have:=Yj.pin p hp (by rw[z]; exact lt)
    rw[z,h2.2]at this;cases this
 show#[Jqa,f,Yj.new,Yj.ext,λb u hb lt=>?_,λp hp lt=>?_]
 ·have hlt:=I.hok.lt hb;cases q:s.heap.get? b with
  | none=>
   obtain⟨o,e'⟩:=sW (I.hok b u hb);rw[q]at e'; cases e'
  | some o=>exact same b o q (Yj.low b u hb lt) (JC lt)
 ·exact same p.1 p.2 (I.pin p hp).1 (Yj.pin p hp lt) (JC lt)
end
inductive CXx (P:HM)(w:HX)(outer:Ho LL)(H:Hp)(s:Ht)(E:L2.XK)(e:Hr)(s':Ht):Prop
 | mk (a C:Hv) (dd:Hs Hv) (a0:Hr) (H':Hp) (he:e=.ref a) (new:s.heap.objs.size<=a) (os:s'.os=s.os) (bare:LH s'.gens) (un:Un (jI outer) [] H H' s.heap s'.heap) (hok:HOk P w H' s'.heap)
   (fly:Fly s'.heap a (.ref C) dd a0 .none) (ext:H' a=ba (.ext (Ex a C dd))) (low:∀b u,H' b=ba u->a < b->b8 s'.heap b=false) (q:E (.ref C) dd H'):CXx P w outer H s E e s'
section
variable{X:Cx}{J:Ho (Hv×Jg)}{Y:L2.St}{H:Hp}{s s':Ht}{E:L2.XK}{e:Hr}
def AJ (I:L2.Inv X J Y H s)(h:CXx X.prog X.w X.stack H s E e s'):∃a C dd a0 H',e=.ref a/\Air X J Y H' s' a C dd a0/\E (.ref C) dd H':=by
 obtain⟨a,C,dd,a0,H',he,new,os,bare,un,hok,fly,ext,low,q⟩:=h;show#[a,C,dd,a0,H',he,#[?_,fly,Ix I.sz new,ext,low,λp hp lt=>?_],q]
 ·obtain⟨hh,g,d,t,os'⟩:=s';obtain rfl:os'=s.os:=os;exact I.call (h':=hh) (g':=g) (d':=d) (t':=t) (ch:=[]) un hok bare (λb z=>absurd z (by simp))
 ·exact absurd (HF (I.pin p hp).1) (Lq.mpr (Ix new (J5 lt)))
end
section
variable{P:HM}{w:HX}{K:HA}{mg:HC->Hs Hr}{base:Ii}{N:Ho HC}{qual:HC}{scope:Kh}{f:Hv}{cd:Hr}{A:HW}{outer:Ho LL}{s0 s:Ht}{H0 H:Hp}{E:L2.XK}{J:Ho (Hv×Jg)}{Y:L2.St}{a C:Hv}{dd:Hs Hv}{a0:Hr}
def AK (Yj:Air (dQ (CXx P w) P w K mg base N qual scope f cd A outer s0 H0 E) J Y H s a C dd a0)(q:E (.ref C) dd H):(dQ (CXx P w) P w K mg base N qual scope f cd A outer s0 H0 E).xe (.ref a) s:=by
 have I:=Yj.inv;show wL (L:=s0.heap.objs.size) (base:=base) I.ok.frames I.stack rfl Yj.fly λh' m f'=>?_
 have Zz:=Yj.mv m f';have Jqa:=Zz.inv;exact#[a,C,dd,a0,H,rfl,Yj.new,Jqa.os,Jqa.bare,Jqa.base,Jqa.hok,f',Zz.ext,Zz.low,q]
end
abbrev XQ (n:Hz)(C:Hv)(H1:Hp)(Ew:L2.XK):VK:=λv H2=>∃e dd,v=.ref e/\n<=e/\H2 e=ba (.ext (Fx e C dd))/\(∀b u,H2 b=ba u->(∃u',H1 b=ba u')\/b=e\/∃fs,u=.ext (Dx b fs))/\Ew (.ref C) dd (aA H2 e (.ext (Ex e C dd)))
abbrev sX (C:Hv)(sp:Sp)(E Ew:L2.XK)(t:TA):TS:=λ_ Y H=>t Y H λvs H1=>vs.length<=sizeLine/\∀n e,H1 e=gV->n<=e->
 sp (.ref e::vs) (aA H1 e (.ext (Fx e C gV))) (λv H2=>v=.non/\XQ n C H1 Ew (.ref e) H2) E
section
variable{X:Cx}{CX:nJ}{k:Hz}{f C:Hv}{cd:Jz}{fd:IY}{ps:Ho HC}{sp:Sp}{E Ew:L2.XK}{x:HC}{p cpos pos:Jw}{a:HH}{es:Ho HH}{t:TA}
def lR {J:Ho (Hv×Jg)}{Y:L2.St}{H1 H2:Hp}{s1 s2:Ht}{e:Hv}{dd:Hs Hv}(I1:L2.Inv X J Y H1 s1)(he:s1.heap.objs.size<=e)(I2:L2.Inv X J Y H2 s2)(h2:H2 e=ba (.ext (Fx e C dd)))
  (hl:∀b u,H2 b=ba u->(∃u',H1 b=ba u')\/b=e\/∃fs,u=.ext (Dx b fs)):∃ws sl a0,s2.heap.get? e=ba #[.ref C,dd,.fields ws,sl]/\ws[1]?=ba .none/\Air X J Y (aA H2 e (.ext (Ex e C dd))) s2 e C dd a0:=by
 obtain⟨⟨ws,sl,t0,o1,o2,o3⟩,_,_⟩:=I2.hok e _ h2;show#[ws,sl,.ref t0,o1,o3,#[?_,.new o1 o2 o3,Ix I1.sz he,ak,λb u hb lt=>?_,λp hp lt=>?_]]
 ·have Jqa:=I2.write (o:=.ext (Ex e C dd)) (t':=s2.toks) (h':=s2.heap) (x:=e) (e:=e) (by rw[h2]; trivial) (.inl rfl) (λb u _ q=>q) #[_,o1] (Ex.ok #[ws,sl,o1])
  exact Jqa
 ·rw[aj (JC lt)]at hb;rcases hl b u hb with⟨u',z⟩|z|⟨fs,z⟩
  ·exact absurd (I1.hok.lt z) (Lq.mpr (Ix he (J5 lt)))
  ·exact absurd z (JC lt)
  ·subst z;obtain⟨⟨mA,⟨o,es',ep,q,qd,_⟩,_⟩,_⟩:=I2.hok b _ hb;unfold b8;rw[q];obtain⟨c,d,dt,sl'⟩:=o;cases qd;rfl
 ·exact absurd (HF (I1.pin p hp).1) (Lq.mpr (Ix he (J5 lt)))
def sY (hh:X.A.handled=gV)(Mqa:XM X.K C f cd)(F:FnOk X.prog X.w X.K X.mg X.base CX k f fd ps sp)(hr:Room (k+1) X.A)(hg:Gl X x)(hm:X.mg x=ba (.ref C))(hb:Binds X.K fd ps [])(hx:fg CX X E)
  (hw:∀J Y H s a C dd a0,Air X J Y H s a C dd a0->Ew (.ref C) dd H->X.xe (.ref a) s)
  (ha:PA X (a::es) t) (hdb:(x==("__debug__" : HC))=false:=by decide) (he:starEach (a::es) X.env=(false,eval a X.env)::starEach es X.env:=by rfl) (hpl:(backTo cpos (starEach es X.env)).any (·.1)=false:=by rfl) :
  PS X (.Raise (ba (.Call (.Name x p) (a::es) [] cpos)) gV pos) (sX C sp E Ew t):=by
 intro J s Y H D I h;obtain⟨nm,q,N,bs,bm,sn,sub,ab,col,dd',k0,k1,k2,k3,k5,lk,tl,hbase⟩:=Mqa.obj;rw[OU];show Hq (JV (sS (C:=C) (nm:=nm) (q:=q) (N:=N) (bs:=bs) (bm:=bm) (hdct:=true) (sn:=sn) (sub:=sub) (ab:=ab) (col:=col) (dd:=dd') (k0:=k0) (k1:=k1) (k2:=k2) (k3:=k3) (k5:=k5) (newId:="ValueError.__new__") hbase hh (Hq ?_)));show IE (Q:=λv s'=>∃e dx vs sl,v=.ref e/\s'.heap.get? C=ba (excClassObj nm q C N bs bm true sn sub ab col dd' k0 k1 k2 k3 k5 "ValueError.__new__")/\s'.heap.get? e=ba #[.ref C,dx,.fields vs,sl]/\vs[1]?=ba .none/\X.xe (.ref e) s') ?_ (λv s3 h3=>Hq (JV (Hy h3))) λ_ _ z=>z
 show JR (cz I hg hm ?_ hdb);show LO (h₀:=X.base) I.ok.mod.kin Mqa.kp (aG (ha cpos J s Y H _ I h) λus s1 #[vs,H1,I1,r,q]=>#[I1.kIn,?_]) he hpl
 show IE (jR (Q:=XQ s1.heap.objs.size C H1 Ew) Mqa F hr hb hx I1 r (by have:=r.length; have:=q.1; simp only[MH]; omega) λe n le=>q.2 _ e n le) (λv s2 #[v',H2,I2,rv,e,dd,ev,le,h2,hl,hE]=>?_) λ_ _ z=>z
 subst ev;obtain rfl:v=HL e:=rv;obtain⟨ws,sl,a0,g1,g2,Yj⟩:=lR I1 le I2 h2 hl;exact#[e,dd,ws,sl,rfl,I2.kIn _ _ lk,g1,g2,hw _ _ _ _ _ _ _ _ Yj hE]
def qU (hh:X.A.handled=gV)(Mqa:XM X.K C f cd)(F:FnOk X.prog X.w X.K X.mg X.base CX k f fd ps sp)(hr:Room (k+1) X.A)(hg:Gl X x)(hm:X.mg x=ba (.ref C))(hb:Binds X.K fd ps [])(hx:fg CX X E)
  (hw:∀J Y H s a C dd a0,Air X J Y H s a C dd a0->Ew (.ref C) dd H->X.xe (.ref a) s) (hdb:(x==("__debug__" : HC))=false:=by decide) :
  PS X (.Raise (ba (.Call (.Name x p) [] [] cpos)) gV pos) (sX C sp E Ew wq):=by
 intro J s Y H D I h;obtain⟨nm,q,N,bs,bm,sn,sub,ab,col,dd',k0,k1,k2,k3,k5,lk,tl,hbase⟩:=Mqa.obj;rw[OU];show Hq (JV (sS (C:=C) (nm:=nm) (q:=q) (N:=N) (bs:=bs) (bm:=bm) (hdct:=true) (sn:=sn) (sub:=sub) (ab:=ab) (col:=col) (dd:=dd') (k0:=k0) (k1:=k1) (k2:=k2) (k3:=k3) (k5:=k5) (newId:="ValueError.__new__") hbase hh (Hq ?_)));show IE (Q:=λv s'=>∃e dx vs sl,v=.ref e/\s'.heap.get? C=ba (excClassObj nm q C N bs bm true sn sub ab col dd' k0 k1 k2 k3 k5 "ValueError.__new__")/\s'.heap.get? e=ba #[.ref C,dx,.fields vs,sl]/\vs[1]?=ba .none/\X.xe (.ref e) s') ?_ (λv s3 h3=>Hq (JV (Hy h3))) λ_ _ z=>z
 show JR (cz I hg hm ?_ hdb);show Nf I.kIn Mqa.kp ?_;show IE (jR (us:=[]) (Q:=XQ s.heap.objs.size C H Ew) Mqa F hr hb hx I .nil (JJ _) λe n le=>h.2 _ e n le) (λv s2 #[v',H2,I2,rv,e,dd,ev,le,h2,hl,hE]=>?_) λ_ _ z=>z
 subst ev;obtain rfl:v=HL e:=rv;obtain⟨ws,sl,a0,g1,g2,Yj⟩:=lR I le I2 h2 hl;exact#[e,dd,ws,sl,rfl,I2.kIn _ _ lk,g1,g2,hw _ _ _ _ _ _ _ _ Yj hE]
end
noncomputable abbrev pc (X:Cx)(a:Hv):Cx:={ X with A:=X.A.mark (ba (.ref a)),calm:=false,xe:=λ_ _=>ID }
section
variable{X:Cx}{J:Ho (Hv×Jg)}{Y:L2.St}{H:Hp}{s:Ht}{a C:Hv}{dd:Hs Hv}{a0:Hr}
def sZ (I:L2.Inv X J Y H s):L2.Inv (pc X a) J Y H s:=by
 obtain⟨ok,i2,i3,i4,i5,i6,i7,i8,i9,i10,i11⟩:=I;show#[#[ok.mod,ok.kind,ok.glob,ok.blt,ok.above,ok.inj,ok.has,ok.cab,(λz=>nomatch z),ok.frames,ok.stk,ok.exf,ok.bs,ok.bsz,ok.noex,ok.exfs,ok.funs,ok.frf],i2,i3,i4,i5,i6,i7,i8,i9,i10,i11]
def wR (ok:X.Ok)(I:L2.Inv (pc X a) J Y H s):L2.Inv X J Y H s:=by
 obtain⟨_,i2,i3,i4,i5,i6,i7,i8,i9,i10,i11⟩:=I;exact#[ok,i2,i3,i4,i5,i6,i7,i8,i9,i10,i11]
def tf {Mqa:Mg}{A:HW}{E:Hr->Ht->Prop}{i:Hz}{n:HC}{pos:Jw}{Q:P2->Ht->Prop}(I:L2.Inv X J Y H s)(hN:X.N.Nodup)(hi:X.N[i]?=ba n)(hx:X.env.scope.names.lookup n=ba .local)
  (h:∀s',L2.Inv X J (Y.set i gV) H s'->Q () s'):wpAny Mqa A (do bindName X.env n .none; unbindBehindTheSuite X.env n pos) Q E s:=by
 unfold bindName unbindBehindTheSuite;show Hq (Hq (IL (PM (Hq (bI (v:=.non) I hN hi (.inl hx) rfl (λs1 I1=>PM ?_) (.inr hx))))))
 show wpAny_onRaise ?_;obtain⟨m,hn,hl⟩:=I1.loc;have hiσ:i < Y.length:=by rw[I.len]; exact(HD.mp hi).1
 obtain⟨u,ru,lk⟩:=hl i n .non hi (by rw[Kw hiσ]) (.inl hx)
 have hv:m n=ba u:=by
  rcases lk with⟨_,z⟩|⟨z,_⟩
  ·exact z
  ·have z':X.env.scope.names.lookup n=ba .cell\/X.env.scope.names.lookup n=ba .free:=z;rw[hx]at z';rcases z' with z'|z' <;> cases z'
 show wpAny_unbindName_local hx hn hv (by rw[show X.env.scope.kind=.function from I.ok.kind]; rfl) λh' u' hn' hs=>h _ ?_
 obtain⟨ok,i2,i3,i4,i5,i6,i7,i8,i9,i10,i11⟩:=id I1;obtain⟨oL,_,_,hoL,_⟩:=id hn;have cne:=I1.cne;show#[ok,i2,i3,#[λb o e n hb hx=>?_,λb o e n hb hx=>?_,i4.free,λb o e hx=>?_,i4.tups,i4.frzs,i4.tbls],#[_,hn',λj y v' e1 e2 e3=>?_],λy c e=>?_,i7,i8,λp hp=>?_,λb ob e=>?_,?_]
 ·exact(hs.2 b (HU (HV (HF e) ok.above))).trans (i4.keep b o e n hb hx)
 ·obtain⟨sl,e1⟩:=i4.slot b o e n hb hx;exact#[sl,(hs.2 b (HU (HV (HF e) ok.above))).trans e1]
 ·obtain⟨o',e1⟩:=i4.there b o e hx;exact#[o',(hs.2 b (HU (HV (HF e) ok.above))).trans e1]
 ·have hj:j≠i:=λz=>by
   rw[z,Kw hiσ]at e2;cases e2
  rw[KI (Ne.symm hj)]at e2;obtain⟨u2,r',q⟩:=hl j y v' e1 (by rw[KI (Ne.symm hj)]; exact e2) e3
  show#[u2,r',?_];rcases q with⟨k,e⟩|⟨k,c,e,z⟩
  ·show .inl #[k,?_];have:y≠n:=λe=>hj (iy hN e1 (e ▸ hi))
   simp[this,e]
  ·exact .inr #[k,c,e,z.sameBut hs (cne y c e)]
 ·obtain⟨w',z⟩:=i6 y c e;exact#[w',z.sameBut hs (cne y c e)]
 ·obtain⟨e,n,ne,nf,d⟩:=i9 p hp;exact#[(hs.2 p.1 ne).trans e,n,ne,nf,d]
 ·show(i10 b ob e).stay (λc w' hc q=>(hs.2 c ?_).trans q) (λ_ q=>q) λ_ _ q=>q
  rintro rfl;rcases hc with hc|hc
  ·rw[<- hc,i7]at e; cases e
  ·rw[i7]at hc; cases hc
 ·rw[MG]; exact I.len
end
structure XD (K:Frag)(D:Hv):Prop where
 tup:∀(Mqa:Mg) h,K.In h->Looks Mqa h (isInstance (.ref D) (.type "tuple")) false
 exc:∀(Mqa:Mg) h,K.In h->Looks Mqa h (isExcClass (.ref D)) true
def AL {Mqa:Mg}{A:HW}{K:Frag}{C e:Hv}{s:Ht}{E:Hr->Ht->Prop}{D:Hv}{b:HP}{Q:HP->Ht->Prop}(X:K.In s.heap)(I:Looks Mqa s.heap (typeOf (.ref e)) (.ref C))(T:XD K D)
  (hs:subIn K (.ref C) (.ref D)=ba b) (hq:Q b s):wpAny Mqa A (excMatches (.ref e) (.ref D)) Q E s:=by
 unfold excMatches;show Hq ((T.tup Mqa _ X).here (Hq (Hy ?_)));show Hq ?_;simp only[Lz,LZ];show Hq (Hq ((T.exc Mqa _ X).here ?_));show Hy (Hy ?_);show Hq (I.here ?_);show Hq (Hq (Hq ((looks_subIn X hs).here ?_)));cases b
 ·exact Hy (Hy (Hy hq))
 ·exact Hy (Hy (Hy hq))
section
variable{X:Cx}{J:Ho (Hv×Jg)}{Y:L2.St}{H:Hp}{s:Ht}
inductive Caught (X:Cx)(J:Ho (Hv×Jg))(D:Hv)(i:Hz)(b0:Jf)(suite:Ho Jf)(Q:Qj->Ht->Prop)(e:Hr)(s1:Ht):Prop
 | mk (a C:Hv) (dd:Hs Hv) (a0:Hr) (Y':L2.St) (H':Hp) (he:e=.ref a) (air:Air X J Y' H' s1 a C dd a0) (sub:subIn X.K (.ref C) (.ref D)=ba true)
   (run:∀s2,L2.Inv (pc X a) J (Y'.set i (ba (.ref a))) H' s2->wpAny (model X.prog X.w) (pc X a).A (execs (b0::suite) X.env)
    (λf s3=>∃Y3 H3,L2.Inv (pc X a) J Y3 H3 s3/\∀s4,L2.Inv X J (Y3.set i gV) H3 s4->Q f s4) (λ_ _=>ID) s2):Caught X J D i b0 suite Q e s1
def Dh {body suite:Ho Jf}{b0:Jf}{c n:HC}{np hpos pos:Jw}{D:Hv}{i:Hz}{Q:Qj->Ht->Prop}(hst:X.stack=X.env::X.outer)(hfr:X.env.frame=ba X.env.locals)(hN:X.N.Nodup)(hi:X.N[i]?=ba n)
  (hx:X.env.scope.names.lookup n=ba .local) (hg:Gl X c) (hm:X.mg c=ba (.ref D)) (T:XD X.K D)
  (hb:wpAny (model X.prog X.w) X.A (execs body X.env) Q (Caught X J D i b0 suite Q) s) (hdb:(c==("__debug__" : HC))=false:=by decide) :
  wpAny (model X.prog X.w) X.A (exec (.Try body [.ExceptHandler (ba (.Name c np)) (ba n) (b0::suite) hpos] [] [] pos) X.env) Q X.xe s:=by
 show wpAny_Try_except (IE hb (λf s1 q=>?_) λe s1 #[a,C,dd,a0,Y',H',he,Yj,sub,run]=>?_)
 ·cases f with
  | next=>exact Hy q
  | _=>exact q
 ·subst he;have I:=Yj.inv;have F0:X.A.frames=ba (X.env::X.outer):=by rw[<- hst]; exact I.ok.frames
  show AH (base:=X.base) F0 (by rw[<- hst]; exact I.stack) hfr Yj.fly λh1 m1 f1=>?_
  rw[<- hst]at m1;have Yz:=Yj.mv m1 f1;have I1:L2.Inv (pc X a) J Y' H' { s1 with heap:=h1 }:=sZ Yz.inv
  show cz (X:=pc X a) I1 hg hm ?_ hdb;obtain⟨ws,sl,g1⟩:=f1.ex;show AL I1.kIn ((Looks.ld g1).andThen .now) T sub #[rfl,f1,λh3 m3 f3=>?_]
  rw[<- hst]at m3;have Yq:=Yz.mv m3 f3;have I2:L2.Inv (pc X a) J Y' H' { s1 with heap:=h3 }:=sZ Yq.inv
  show bI (X:=pc X a) (v:=.ref a) I2 hN hi (.inl hx) rfl (λs3 I3=>?_) (.inr hx)
  show IE (run s3 I3) (λf s4 #[Y3,H3,I4,q]=>?_) λ_ _ z=>z
  exact tf (wR Yj.inv.ok I4) hN hi hx λs5 I5=>q s5 I5
end
abbrev Ct (H:Hp)(a C:Hv)(dd:Hs Hv):Prop:=(∃o,H a=ba (.frz o (.ext (Ex a C dd))))/\(dd=gV\/∃dx fs o,dd=ba dx/\H dx=ba (.frz o (.ext (Dx dx fs))))
def zf {P:HM}{w:HX}{H:Hp}{h:Ii}{a C:Hv}{dd:Hs Hv}(x:Ct H a C dd)(k:HOk P w H h):∃ox od,InstAt h a ox C od:=by
 obtain⟨o0,x1⟩:=x.1;obtain⟨_,⟨ws,sl,q⟩,_,_⟩:=k a _ x1;rcases x.2 with rfl|⟨dx,fs,_,rfl,e⟩
 ·exact#[_,gV,#[q,rfl,rfl,trivial]]
 ·obtain⟨_,⟨mA,⟨o,_,_,q2,_⟩,_⟩,_⟩:=k dx _ e;exact#[_,ba o,#[q,rfl,rfl,q2]]
section
variable{X:Cx}
def jS:CallR X (.builtin "isinstance") (λvs H Q=>∃a C cd dd c b,vs=[.ref a,c]/\XK X.K C cd/\Ct H a C dd/\((∃D,c=.ref D/\XT X.K C (.ref D) b)\/(∃T,c=.ty T/\XT X.K C (.type T) b))/\Q (.bl b) H):=by
 intro J s Y H vs us Q I r ⟨a,C,cd,dd,c,b,ev,Yj,x,hc,hq⟩;subst ev;obtain⟨u,v,rfl,ru,rv⟩ : ∃u v,us=[u,v]/\RelV (.ref a) u/\RelV c v:=by
  cases r with
  | cons r1 r'=>cases r' with
   | cons r2 r''=>cases r''; exact#[_,_,rfl,r1,r2]
 obtain rfl:u=HL a:=ru;obtain⟨ox,od,Jqa⟩:=zf x I.hok;rcases hc with⟨D,rfl,T⟩|⟨D,rfl,T⟩
 ·obtain rfl:v=HL D:=rv;exact Dg Yj T I.kIn Jqa λtk=>#[.bl b,H,I.tok tk,rfl,hq]
 ·obtain rfl:v=td D:=rv;exact Dg Yj T I.kIn Jqa λtk=>#[.bl b,H,I.tok tk,rfl,hq]
def jT:∀ {ds:Ho Hv} {us:Ho Hr},Vals (ds.map V.ref) us->us=ds.map HL
 | [],_,r=>by cases r; rfl
 | d::ds,_,r=>by
  cases r with
  | cons a b=>rw[jT b,show _=HL d from a]; rfl
def nQ:CallR X (.builtin "isinstance") (λvs H Q=>∃(a C:Hv) (cd:Jz) (dd:Hs Hv) (tp:Hv) (ds:Ho Hv) (bs:Ho HP),vs=[.ref a,.ref tp]/\XK X.K C cd/\Ct H a C dd/\H tp=ba (.tup (ds.map V.ref))/\X.base.get? C≠gV/\XTs X.K C (ds.map HL) bs/\Q (.bl (bs.any id)) H):=by
 intro J s Y H vs us Q I r ⟨a,C,cd,dd,tp,ds,bs,ev,Yj,x,ht,hC,T,hq⟩;subst ev;obtain⟨u,v,rfl,ru,rv⟩ : ∃u v,us=[u,v]/\RelV (.ref a) u/\RelV (.ref tp) v:=by
  cases r with
  | cons r1 r'=>cases r' with
   | cons r2 r''=>cases r''; exact#[_,_,rfl,r1,r2]
 obtain rfl:u=HL a:=ru;obtain rfl:v=HL tp:=rv;obtain⟨ox,od,Jqa⟩:=zf x I.hok;obtain⟨_,its,rl,o,q,qc,n,qd⟩:=I.hok tp _ ht;obtain rfl:=jT rl;have ne:C≠tp:=λz=>by
  cases e:X.base.get? C with
  | none=>exact hC e
  | some o=>rw[z]at e; have:=(I.bs tp o e).2; rw[ht]at this; cases this
 obtain⟨c,d',dt,sl⟩:=o;cases qc;cases qd;exact sT Yj T ne q I.kIn Jqa λtk=>#[.bl (bs.any id),H,I.tok tk,rfl,hq]
def nR {y:V}{v:Hr}(r:RelV y v):handedIn v=true:=by
 cases y with
 | non=>rw[show v=_ from r]; rfl
 | bl b=>rw[show v=_ from r]; rfl
 | int i=>obtain⟨t,rfl⟩:=r; rfl
 | str x=>obtain⟨t,rfl⟩:=r; rfl
 | byt b=>obtain⟨t,rfl⟩:=r; rfl
 | flt b=>obtain⟨t,rfl⟩:=r; rfl
 | ref a=>rw[show v=_ from r]; rfl
 | ty n=>rw[show v=_ from r]; rfl
abbrev AM (K:Frag)(te:TE)(f:HC):TE:=λY H Q=>te Y H λv H1=>∃a C cd dx fs y o o',v=.ref a/\XK K C cd/\findIn K (.ref C) f=ba gV/\H1 a=ba (.frz o (.ext (Ex a C (ba dx))))/\H1 dx=ba (.frz o' (.ext (Dx dx fs)))/\fs.lookup f=ba y/\Q y H1
def tj {e:HH}{te:TE}{f:HC}{pos:Jw}(he:PE X e te)(hb:attributeBase e f X.env (eval e X.env)=eval e X.env):PE X (.Attribute e f pos) (AM X.K te f):=by
 intro J s Y H Q I h;show wp hb (aG (he J s Y H _ I h) λu s1 #[x,H1,I1,rx,a,C,cd,dx,fs,y,o,o',ex,Yj,hf,e1,e2,hl,hq]=>?_)
 subst ex;obtain rfl:u=HL a:=rx;obtain⟨_,⟨ws,sl,q⟩,_,_⟩:=I1.hok a _ e1;obtain⟨_,⟨mA,n1,n2,_⟩,_,_⟩:=I1.hok dx _ e2;have z:=n2 f;rw[hl]at z;cases hv:mA f with
 | none=>rw[hv]at z; exact z.elim
 | some v=>
  rw[hv]at z;exact F3 I1.kIn q n1 Yj.ga Yj.hk Yj.cls Yj.mro Yj.dct hf hv (nR z) #[y,H1,I1.tok _,z,hq]
end
structure XL (K:Frag)(CL:Hv)(mc:Hr):Prop where
 ga:specialIn K (.ref CL) "__getattribute__" = ba (ba (.builtin "type.__getattribute__"))
 rd:readsIn K CL mc=true
 fc:findCls K (.ref CL) mc "__init__" = ba (.val (.builtin "ValueError.__init__"))
abbrev tm (K:Frag)(g:HC):Sp:=λvs H Q _=>∃e y C cd,vs=[.ref e,y]/\XC K C cd/\findIn K (.ref C) g=ba gV/\H e=ba (.ext (Fx e C gV))/\∀dx,H dx=gV->Q .non (aA (aA H e (.ext (Fx e C (ba dx)))) dx (.ext (Dx dx [(g,y)])))
abbrev wW (K:Frag):Sp:=λvs H Q _=>∃e C cd,vs=[.ref e]/\XC K C cd/\H e=ba (.ext (Fx e C gV))/\Q .non H
end Xc
namespace Mi
open PySem PySem.Spec PyProof.Rows L2
inductive W where
 | non|bl (b:HP)|int (i:HR)|str (x:HC)|tup (xs:Ho W)|ref (i:Hz)
inductive T where
 | int (i:HR)|str (x:HC)|tup (xs:Ho T)
mutual
def T.beq:T->T->HP
 | .int i,.int j=>i==j
 | .str x,.str y=>x==y
 | .tup xs,.tup ys=>T.beqs xs ys
 | _,_=>false
def T.beqs:Ho T->Ho T->HP
 | [],[]=>true
 | x::xs,y::ys=>T.beq x y&&T.beqs xs ys
 | _,_=>false
end
mutual
theorem T.beq_iff:∀x y:T,T.beq x y=true↔x=y
 | .int i,.int j=>by simp[T.beq]
 | .str x,.str y=>by simp[T.beq]
 | .tup xs,.tup ys=>by simp[T.beq,T.beqs_iff xs ys]
 | .int _,.str _|.int _,.tup _|.str _,.int _|.str _,.tup _|.tup _,.int _|.tup _,.str _=>by simp[T.beq]
theorem T.beqs_iff:∀xs ys:Ho T,T.beqs xs ys=true↔xs=ys
 | [],[]=>by simp[T.beqs]
 | x::xs,y::ys=>by simp[T.beqs,T.beq_iff x y,T.beqs_iff xs ys]
 | [],_::_|_::_,[]=>by simp[T.beqs]
end
noncomputable instance:KH T:=λx y=>decidable_of_iff (T.beq x y=true) (T.beq_iff x y)
mutual
def T.w:T->W
 | .int i=>.int i
 | .str x=>.str x
 | .tup xs=>.tup (T.ws xs)
def T.ws:Ho T->Ho W
 | []=>[]
 | x::xs=>T.w x::T.ws xs
end
mutual
def W.t:W->Hs T
 | .int i=>ba (.int i)
 | .str x=>ba (.str x)
 | .tup xs=>(W.ts xs).map .tup
 | _=>gV
def W.ts:Ho W->Hs (Ho T)
 | []=>ba []
 | x::xs=>match W.t x,W.ts xs with
  | some y,ba ys=>ba (y::ys)
  | _,_=>gV
end
mutual
theorem W.t_w:∀ {w:W} {k:T},W.t w=ba k->k.w=w
 | .int i,_,h=>by cases h; rfl
 | .str x,_,h=>by cases h; rfl
 | .tup xs,_,h=>by
  simp only[W.t,Hx]at h;obtain⟨ks,h1,h2⟩:=h;subst h2;simp only[T.w,W.ts_w h1]
 | .non,_,h|.bl _,_,h|.ref _,_,h=>by cases h
theorem W.ts_w:∀ {ws:Ho W} {ks:Ho T},W.ts ws=ba ks->T.ws ks=ws
 | [],_,h=>by cases h; rfl
 | w::ws,_,h=>by
  simp only[W.ts]at h;split at h
  ·rename_i y ys h1 h2;cases h;simp only[T.ws,W.t_w h1,W.ts_w h2]
  ·cases h
end
mutual
theorem T.w_t:∀k:T,W.t k.w=ba k
 | .int _=>rfl
 | .str _=>rfl
 | .tup xs=>by simp only[T.w,W.t,T.ws_ts xs,IW]
theorem T.ws_ts:∀ks:Ho T,W.ts (T.ws ks)=ba ks
 | []=>rfl
 | x::xs=>by simp only[T.ws,W.ts,T.w_t x,T.ws_ts xs]
end
mutual
def T.depth:T->Hz
 | .tup xs=>T.depths xs+1
 | _=>0
def T.depths:Ho T->Hz
 | []=>0
 | x::xs=>max (T.depth x) (T.depths xs)
end
mutual
def T.draws:T->Hz
 | .tup xs=>T.drawss xs+1
 | _=>1
def T.drawss:Ho T->Hz
 | []=>0
 | x::xs=>T.draws x+T.drawss xs
end
mutual
def lS (wd:HX):T->HR
 | .int i=>hashInt i
 | .str x=>hashStr wd x
 | .tup xs=>reduceHash (L8 (iJ wd xs))
def iJ (wd:HX):Ho T->Ho HR
 | []=>[]
 | x::xs=>lS wd x::iJ wd xs
end
abbrev T.isTup:T->HP
 | .tup _=>true
 | _=>false
abbrev aI:Hz:=6
inductive O where
 | lst (xs:Ho W)
 | fro (xs:Ho W)
 | rng (lo hi:HR)
 | dic (U:Ho (T×W))
 | frd (U:Ho (T×W))
 | exc (cn:HC) (C:Hv) (gs:Ho HC) (ws:Ho W)
noncomputable abbrev aa:=Ho O
noncomputable abbrev Fm:=Ho (Hs W)
section
variable (K:HA) (A:Ho Hv) (H:Hp)
mutual
inductive Rel:W->V->Prop
 | non:Rel .non .non
 | bl {b:HP}:Rel (.bl b) (.bl b)
 | int {i:HR}:Rel (.int i) (.int i)
 | str {x:HC}:Rel (.str x) (.str x)
 | tup {ws:Ho W} {a:Hv} {vs:Ho V}:SqT K H a vs->RelL ws vs->Rel (.tup ws) (.ref a)
 | ref {i:Hz} {a:Hv}:A[i]?=ba a->Rel (.ref i) (.ref a)
inductive RelL:Ho W->Ho V->Prop
 | nil:RelL [] []
 | cons {w:W} {v:V} {ws:Ho W} {vs:Ho V}:Rel w v->RelL ws vs->RelL (w::ws) (v::vs)
end
end
section
variable{K:HA}{A A' A'':Ho Hv}{H H' H'':Hp}
structure Ext (K:HA)(A:Ho Hv)(H:Hp)(A':Ho Hv)(H':Hp):Prop where
 ad:∀(i:Hz) (a:Hv),A[i]?=ba a->A'[i]?=ba a
 tp:∀(a:Hv) (vs:Ho V),SqT K H a vs->SqT K H' a vs
 fz:∀(a:Hv) (o:Jg) (u:HO),H a=ba (.frz o u)->H' a=ba (.frz o u)
def Ext.refl:Ext K A H A H:=#[λ_ _ h=>h,λ_ _ h=>h,λ_ _ _ h=>h]
def Ext.trans (e:Ext K A H A' H')(f:Ext K A' H' A'' H''):Ext K A H A'' H'':=#[λi a h=>f.ad i a (e.ad i a h),λa vs h=>f.tp a vs (e.tp a vs h),λa o u h=>f.fz a o u (e.fz a o u h)]
mutual
theorem Rel.mono (e:Ext K A H A' H'):∀ {w:W} {v:V},Rel K A H w v->Rel K A' H' w v
 | _,_,.non=>.non
 | _,_,.bl=>.bl
 | _,_,.int=>.int
 | _,_,.str=>.str
 | _,_,.tup h r=>.tup (e.tp _ _ h) (RelL.mono e r)
 | _,_,.ref h=>.ref (e.ad _ _ h)
theorem RelL.mono (e:Ext K A H A' H'):∀ {ws:Ho W} {vs:Ho V},RelL K A H ws vs->RelL K A' H' ws vs
 | _,_,.nil=>.nil
 | _,_,.cons r t=>.cons (Rel.mono e r) (RelL.mono e t)
end
def RelL.length:∀ {ws:Ho W} {vs:Ho V},RelL K A H ws vs->ws.length=vs.length
 | _,_,.nil=>rfl
 | _,_,.cons _ t=>by simp[RelL.length t]
def RelL.get:∀ {ws:Ho W} {vs:Ho V} {i:Hz} {w:W},RelL K A H ws vs->ws[i]?=ba w->∃v,vs[i]?=ba v/\Rel K A H w v
 | _,_,_,_,.nil,e=>by simp at e
 | _,_,0,_,.cons r _,e=>by simp at e; subst e; exact#[_,rfl,r]
 | _,_,i+1,w,.cons _ t,e=>by
  obtain⟨u,h1,h2⟩:=RelL.get (i:=i) (w:=w) t (by simpa using e)
  exact#[u,by simpa using h1,h2]
def RelL.append:∀ {xs ys:Ho W} {us ws:Ho V},RelL K A H xs us->RelL K A H ys ws->RelL K A H (xs++ys) (us++ws)
 | _,_,_,_,.nil,s=>s
 | _,_,_,_,.cons r t,s=>.cons r (RelL.append t s)
def RelL.take:∀ {xs:Ho W} {us:Ho V} (n:Hz),RelL K A H xs us->RelL K A H (xs.take n) (us.take n)
 | _,_,0,_=>.nil
 | _,_,_+1,.nil=>.nil
 | _,_,n+1,.cons r t=>.cons r (RelL.take n t)
def RelL.drop:∀ {xs:Ho W} {us:Ho V} (n:Hz),RelL K A H xs us->RelL K A H (xs.drop n) (us.drop n)
 | _,_,0,r=>r
 | _,_,_+1,.nil=>.nil
 | _,_,n+1,.cons _ t=>RelL.drop n t
def RelL.set {x:W}{u:V}(r:Rel K A H x u):∀ {xs:Ho W} {us:Ho V} (i:Hz),RelL K A H xs us->RelL K A H (xs.set i x) (us.set i u)
 | _,_,_,.nil=>.nil
 | _,_,0,.cons _ t=>.cons r t
 | _,_,i+1,.cons q t=>.cons q (RelL.set r i t)
def RelL.rep {xs:Ho W}{us:Ho V}(h:RelL K A H xs us):∀k:Hz,RelL K A H (Iq k xs).flatten (Iq k us).flatten
 | 0=>.nil
 | k+1=>by
  rw[Jx,Jx,Kj,Kj];exact RelL.append h (RelL.rep h k)
def RelL.eraseIdx:∀ {xs:Ho W} {us:Ho V} (i:Hz),RelL K A H xs us->RelL K A H (xs.eraseIdx i) (us.eraseIdx i)
 | _,_,_,.nil=>.nil
 | _,_,0,.cons _ t=>t
 | _,_,i+1,.cons r t=>.cons r (RelL.eraseIdx i t)
abbrev FroL (K:HA)(H:Hp)(a:Hv)(vs:Ho V):Prop:=
 (∃o,H a=ba (.frz o (.lst vs)))\/
  ∃(o:Jg) (its:Iu Hr) (n:Hz),K.lookup a=ba o/\o.cls=.type "list"/\o.dict=gV/\o.data=.seq its n/\its.size<=sizeLine/\Vals vs its.toList
def FroL.sq {a:Hv}{vs:Ho V}(h:FroL K H a vs):SqL K H a vs:=by
 rcases h with⟨o,h⟩|h
 ·exact .inl (.inr #[o,h])
 ·exact .inr h
abbrev tq (wd:HX)(x:T×Hv×Hr):JZ:=#[lS wd x.1,.ref x.2.1,x.2.2]
abbrev DicAt (wd:HX)(a:Hv)(xs:Ho (T×Hv×Hr))(h:Ii):Prop:=
 xs.length<=sizeLine/\(a==sysModules)=false/\(xs.map (·.1)).Nodup/\∃o es ep,h.get? a=ba o/\o.ExactDict/\o.data=.dict es ep/\es.toList=xs.map (tq wd)
abbrev cj (wd:HX)(a:Hv)(xs:Ho (T×Hv×Hr)):HO:=.ext (DicAt wd a xs)
abbrev KRel (K:HA)(A:Ho Hv)(H:Hp):Ho (T×W)->Ho (T×Hv×Hr)->Prop:=
 Mw λ(p:T×W) (q:T×Hv×Hr)=>p.1=q.1/\p.1.isTup=true/\p.1.depth<=aI/\Rel K A H p.1.w (.ref q.2.1)/\∃v,Rel K A H p.2 v/\RelV v q.2.2
def KRel.mono (e:Ext K A H A' H'){U:Ho (T×W)}{xs:Ho (T×Hv×Hr)}(h:KRel K A H U xs):KRel K A' H' U xs:=
 Paired.mapP h λ_ _ #[h1,h2,h3,h4,v,h5,h6]=>#[h1,h2,h3,h4.mono e,v,h5.mono e,h6]
variable{wd:HX}
abbrev ObjRel (wd:HX)(K:HA)(A:Ho Hv)(H:Hp)(a:Hv):O->Prop
 | .lst ws=>∃vs,H a=ba (.lst vs)/\RelL K A H ws vs
 | .fro ws=>∃vs,FroL K H a vs/\RelL K A H ws vs
 | .rng lo hi=>H a=ba (.rng lo hi)
 | .dic U=>∃xs,H a=ba (cj wd a xs)/\KRel K A H U xs
 | .frd U=>∃o xs,H a=ba (.frz o (cj wd a xs))/\KRel K A H U xs
 | .exc _ C gs ws=>∃o dd,H a=ba (.frz o (.ext (Xc.Ex a C dd)))/\((dd=gV/\gs=[])\/∃dx od vs,dd=ba dx/\H dx=ba (.frz od (.ext (Xc.Dx dx (gs.zip vs))))/\RelL K A H ws vs)
abbrev O.mut:O->HP
 | .fro _=>false
 | .rng _ _=>false
 | .frd _=>false
 | .exc _ _ _ _=>false
 | _=>true
structure StoreOk (wd:HX)(K:HA)(A:Ho Hv)(H:Hp)(S:aa):Prop where
 len:A.length=S.length
 nd:∀(i j:Hz) (a:Hv) (o u:O),S[i]?=ba o->o.mut=true->S[j]?=ba u->u.mut=true->A[i]?=ba a->A[j]?=ba a->i=j
 obj:∀(i:Hz) (o:O) (a:Hv),S[i]?=ba o->A[i]?=ba a->ObjRel wd K A H a o
abbrev EnvRel (K:HA)(A:Ho Hv)(H:Hp)(Z:Fm)(Y:L2.St):Prop:=
 Z.length=Y.length/\∀(i:Hz) (w:W),Z[i]?=ba (ba w)->∃v,Y[i]?=ba (ba v)/\Rel K A H w v
def EnvRel.mono {Z:Fm}{Y:L2.St}(e:Ext K A H A' H')(h:EnvRel K A H Z Y):EnvRel K A' H' Z Y:=
 #[h.1,λi w q=>let ⟨v,a,b⟩:=h.2 i w q; #[v,a,b.mono e]]
def EnvRel.set {Z:Fm}{Y:L2.St}{w:W}{v:V}(h:EnvRel K A H Z Y)(r:Rel K A H w v)(i:Hz):EnvRel K A H (Z.set i (ba w)) (Y.set i (ba v)):=by
 show#[by simp[h.1],λj w' q=>?_]
 rw[Jo]at q ⊢
 by_cases e:i=j
 ·subst e;rw[HN rfl]at q ⊢
  by_cases hl:i < Z.length
  ·rw[HN hl]at q;rw[HN (h.1 ▸ hl)];cases q;exact#[v,rfl,r]
  ·rw[HY hl]at q; cases q
 ·rw[HY e]at q ⊢;exact h.2 j w' q
abbrev Wr (H:Hp)(p:Hv):Prop:=H p=gV\/(∃xs,H p=ba (.lst xs))\/(∃φ,H p=ba (.ext φ))\/∃ks,H p=ba (.dK ks)
def Wr.lst {p:Hv}{xs:Ho V}(h:H p=ba (.lst xs)):Wr H p:=.inr (.inl #[xs,h])
def Wr.ext {p:Hv}{φ:Ii->Prop}(h:H p=ba (.ext φ)):Wr H p:=.inr (.inr (.inl #[φ,h]))
def Wr.ne_tup {p a:Hv}{xs:Ho V}(hp:Wr H p)(h:H a=ba (.tup xs)):a≠p:=by
 intro e; subst e
 rcases hp with q|⟨xs,q⟩|⟨φ,q⟩|⟨ks,q⟩ <;> (rw[h]at q; cases q)
def Wr.ne_frz {p a:Hv}{o:Jg}{u:HO}(hp:Wr H p)(h:H a=ba (.frz o u)):a≠p:=by
 intro e; subst e
 rcases hp with q|⟨xs,q⟩|⟨φ,q⟩|⟨ks,q⟩ <;> (rw[h]at q; cases q)
def Wr.ne_rng {p a:Hv}{lo hi:HR}(hp:Wr H p)(h:H a=ba (.rng lo hi)):a≠p:=by
 intro e; subst e
 rcases hp with q|⟨xs,q⟩|⟨φ,q⟩|⟨ks,q⟩ <;> (rw[h]at q; cases q)
def pd {p:Hv}{o:HO}(hp:Wr H p){a:Hv}{vs:Ho V}(h:SqT K H a vs):SqT K (aA H p o) a vs:=by
 rcases h with(h|⟨o',h⟩)|h
 ·exact .inl (.inl (by rw[aj (hp.ne_tup h)]; exact h))
 ·exact .inl (.inr #[o',by rw[aj (hp.ne_frz h)]; exact h])
 ·exact .inr h
def tz {p:Hv}{o:HO}(hp:Wr H p){a:Hv}{vs:Ho V}(h:FroL K H a vs):FroL K (aA H p o) a vs:=by
 rcases h with⟨o',h⟩|h
 ·exact .inl #[o',by rw[aj (hp.ne_frz h)]; exact h]
 ·exact .inr h
def aN {p:Hv}{o:HO}(hp:Wr H p):Ext K A H A (aA H p o):=#[λ_ _ h=>h,λ_ _ h=>pd hp h,λ_ _ _ h=>by rw[aj (hp.ne_frz h)]; exact h]
def cm {p:Hv}{o:HO}(hp:H p=gV):Ext K A H (A++[p]) (aA H p o):=
 #[λi a h=>by rw[IB (HD.mp h).1]; exact h,λ_ _ h=>pd (.inl hp) h,λ_ _ _ h=>by rw[aj (Wr.ne_frz (.inl hp) h)]; exact h]
def ObjRel.keep {p a:Hv}{o:HO}{b:O}(hp:Wr H p)(hne:b.mut=true->a≠p)(e:Ext K A H A' (aA H p o))(h:ObjRel wd K A H a b):ObjRel wd K A' (aA H p o) a b:=by
 cases b with
 | lst ws=>
  obtain⟨vs,q,r⟩:=h;exact#[vs,by rw[aj (hne rfl)]; exact q,r.mono e]
 | fro ws=>
  obtain⟨vs,q,r⟩:=h;exact#[vs,tz hp q,r.mono e]
 | rng lo hi=>
  have h:H a=ba (.rng lo hi):=h;change aA H p o a=ba (.rng lo hi);rw[aj (hp.ne_rng h)];exact h
 | dic U=>
  obtain⟨xs,q,r⟩:=h;exact#[xs,by rw[aj (hne rfl)]; exact q,r.mono e]
 | frd U=>
  obtain⟨ob,xs,q,r⟩:=h;exact#[ob,xs,by rw[aj (hp.ne_frz q)]; exact q,r.mono e]
 | exc cn C gs ws=>
  obtain⟨ob,dd,q,r⟩:=h;show#[ob,dd,by rw[aj (hp.ne_frz q)]; exact q,?_]
  rcases r with r|⟨dx,od,vs,e1,e2,e3⟩
  ·exact .inl r
  ·exact .inr #[dx,od,vs,e1,by rw[aj (hp.ne_frz e2)]; exact e2,e3.mono e]
def ObjRel.there {a:Hv}{b:O}(h:ObjRel wd K A H a b)(hm:b.mut=true):H a≠gV:=by
 cases b with
 | lst ws=>obtain⟨vs,q,r⟩:=h; rw[q]; intro z; cases z
 | fro ws=>cases hm
 | rng lo hi=>cases hm
 | dic U=>obtain⟨vs,q,r⟩:=h; rw[q]; intro z; cases z
 | frd ws=>cases hm
 | exc cn C gs ws=>cases hm
def ObjRel.wr {a:Hv}{b:O}(h:ObjRel wd K A H a b)(hm:b.mut=true):Wr H a:=by
 cases b with
 | lst ws=>obtain⟨vs,q,r⟩:=h; exact .lst q
 | fro ws=>cases hm
 | rng lo hi=>cases hm
 | dic U=>obtain⟨vs,q,r⟩:=h; exact .ext q
 | frd ws=>cases hm
 | exc cn C gs ws=>cases hm
def StoreOk.lay {S:aa}{p:Hv}{o:HO}(h:StoreOk wd K A H S)(hp:H p=gV):StoreOk wd K A (aA H p o) S:=
 #[h.len,h.nd,λi b a e ea=>(h.obj i b a e ea).keep (.inl hp) (λhm z=>(h.obj i b a e ea).there hm (z ▸ hp)) (aN (.inl hp))]
def StoreOk.pushO {S:aa}{p:Hv}{n:O}{u:HO}(h:StoreOk wd K A H S)(hp:H p=gV)(r:ObjRel wd K (A++[p]) (aA H p u) p n):StoreOk wd K (A++[p]) (aA H p u) (S++[n]):=by
 have ex:Ext K A H (A++[p]) (aA H p u):=cm hp;have old:∀ {i:Hz} {o:O} {a:Hv},(S++[n])[i]?=ba o->(A++[p])[i]?=ba a->i < S.length->S[i]?=ba o/\A[i]?=ba a:=λ{i o a} e ea hl=>by
  rw[IB hl]at e;rw[IB (h.len ▸ hl)]at ea;exact#[e,ea]
 have new:∀ {i:Hz} {o:O} {a:Hv},(S++[n])[i]?=ba o->(A++[p])[i]?=ba a->¬ i < S.length->i=S.length/\o=n/\a=p:=λ{i o a} e ea hl=>by
  have hi:i=S.length:=by
   have:=(HD.mp e).1;simp at this;omega
  subst hi;simp at e;rw[<- h.len]at ea;simp at ea;exact#[rfl,e.symm,ea.symm]
 show#[by simp[h.len],λi j a o u e1 m1 e2 m2 a1 a2=>?_,λi o a e ea=>?_]
 ·by_cases hi:i < S.length <;> by_cases hj:j < S.length
  ·obtain⟨x1,y1⟩:=old e1 a1 hi;obtain⟨x2,y2⟩:=old e2 a2 hj;exact h.nd i j a o u x1 m1 x2 m2 y1 y2
  ·obtain⟨x1,y1⟩:=old e1 a1 hi;obtain⟨_,_,z⟩:=new e2 a2 hj;subst z;exact absurd hp ((h.obj i o a x1 y1).there m1)
  ·obtain⟨x2,y2⟩:=old e2 a2 hj;obtain⟨_,_,z⟩:=new e1 a1 hi;subst z;exact absurd hp ((h.obj j u a x2 y2).there m2)
  ·rw[(new e1 a1 hi).1,(new e2 a2 hj).1]
 ·by_cases hi:i < S.length
  ·obtain⟨x1,y1⟩:=old e ea hi;exact(h.obj i o a x1 y1).keep (.inl hp) (λhm z=>(h.obj i o a x1 y1).there hm (z ▸ hp)) ex
  ·obtain⟨_,rfl,rfl⟩:=new e ea hi;exact r
def StoreOk.push {S:aa}{p:Hv}{ws:Ho W}{vs:Ho V}(h:StoreOk wd K A H S)(hp:H p=gV)(r:RelL K A H ws vs):StoreOk wd K (A++[p]) (aA H p (.lst vs)) (S++[.lst ws]):=
 h.pushO hp #[vs,ak,r.mono (cm hp)]
def StoreOk.writeO {S:aa}{i:Hz}{p:Hv}{o0 n:O}{u:HO}(h:StoreOk wd K A H S)(e:S[i]?=ba o0)(m0:o0.mut=true)(ea:A[i]?=ba p)(r:ObjRel wd K A (aA H p u) p n) :
  StoreOk wd K A (aA H p u) (S.set i n)/\Ext K A H A (aA H p u):=by
 have hw:Wr H p:=(h.obj i _ p e ea).wr m0;have ex:Ext K A H A (aA H p u):=aN hw;have hl:i < S.length:=(HD.mp e).1;show#[#[by simp[h.len],λj k a o u e1 m1 e2 m2 a1 a2=>?_,λj o a e1 a1=>?_],ex]
 ·have get:∀ {j:Hz} {o:O},(S.set i n)[j]?=ba o->o.mut=true->∃o',S[j]?=ba o'/\o'.mut=true:=λ{j o} q m=>by
   rw[Jo]at q
   by_cases z:i=j
   ·subst z; exact#[_,e,m0]
   ·rw[HY z]at q; exact#[o,q,m]
  obtain⟨o',x1,m1'⟩:=get e1 m1;obtain⟨u',x2,m2'⟩:=get e2 m2;exact h.nd j k a o' u' x1 m1' x2 m2' a1 a2
 ·rw[Jo]at e1
  by_cases z:i=j
  ·subst z;rw[HN rfl,HN hl]at e1;cases e1;rw[ea]at a1; cases a1
   exact r
  ·rw[HY z]at e1;exact(h.obj j o a e1 a1).keep hw (λhm q=>z (h.nd i j p _ o e m0 e1 hm ea (q ▸ a1))) ex
def StoreOk.write {S:aa}{i:Hz}{p:Hv}{ws:Ho W}{us:Ho V}{ws0:Ho W}(h:StoreOk wd K A H S)(e:S[i]?=ba (.lst ws0))(ea:A[i]?=ba p)(r:RelL K A H ws us) :
  StoreOk wd K A (aA H p (.lst us)) (S.set i (.lst ws))/\Ext K A H A (aA H p (.lst us)):=
 h.writeO e rfl ea #[us,ak,r.mono (aN ((h.obj i _ p e ea).wr rfl))]
end
abbrev fm (S:aa)(i:Hz):Hs (Ho W):=match S[i]? with
 | some (.lst xs)=>ba xs
 | some (.fro xs)=>ba xs
 | _=>gV
abbrev lJ (S:aa)(i:Hz):Hs (Ho W):=match S[i]? with
 | some (.lst xs)=>ba xs
 | _=>gV
abbrev kO (S:aa)(xs:Ho W):Hs (W×aa):=if xs.length<=sizeLine then ba (.ref S.length,S++[.lst xs])else gV
abbrev kP (S:aa)(xs:Ho W):Hs (W×aa):=if xs.length<=sizeLine then ba (.tup xs,S)else gV
abbrev wX (j:HR):HP:=decide (0 < j)&&decide (j < 1073741824)
abbrev qV (i j:HR):HP:=(decide (-(2 ^ 64) < i)&&decide (i < 2 ^ 64))||(decide (-(2 ^ 64) < j)&&decide (j < 2 ^ 64))
abbrev Di (i j:HR):HP:=decide (0<=j)&&decide (j<=1000000)&&decide (i.natAbs < 2 ^ 64)
inductive BOp where|add|sub|mul|fdiv|mod|pow
 deriving KH
abbrev vZ (c:HR->HR->HP)(f:HR->HR->HR)(x y:W)(S:aa):Hs (W×aa):=match x,y with
 | .int i,.int j=>if c i j then ba (.int (f i j),S)else gV
 | _,_=>gV
abbrev qW (x y:W)(S:aa):Hs (W×aa):=match x with
 | .int i=>match y with
  | .int j=>ba (.int (i+j),S)
  | _=>gV
 | .str x=>match y with
  | .str y=>if x.length+y.length<=sizeLine then ba (.str (x++y),S)else gV
  | _=>gV
 | .tup xs=>match y with
  | .tup ys=>kP S (xs++ys)
  | _=>gV
 | .ref i=>match y with
  | .ref j=>match lJ S i,lJ S j with
   | some xs,ba ys=>kO S (xs++ys)
   | _,_=>gV
  | _=>gV
 | _=>gV
abbrev wY (x y:W)(S:aa):Hs (W×aa):=match x with
 | .str x=>match y with
  | .int k=>if k < 2 ^ 24/\-(2 ^ 24)<=k/\x.length*k.toNat<=sizeLine then ba (.str (Qu x k),S)else gV
  | _=>gV
 | .ref i=>match y with
  | .int k=>match lJ S i with
   | some xs=>if k < 2 ^ 24/\-(2 ^ 24)<=k/\xs.length*k.toNat<=sizeLine then kO S (Iq k.toNat xs).flatten else gV
   | none=>gV
  | _=>gV
 | x=>vZ qV (· * ·) x y S
abbrev eF:BOp->W->W->aa->Hs (W×aa)
 | .add,x,y,S=>qW x y S
 | .sub,x,y,S=>vZ (λ_ _=>true) (· - ·) x y S
 | .mul,x,y,S=>wY x y S
 | .fdiv,x,y,S=>vZ (λ_ j=>wX j) (· / ·) x y S
 | .mod,x,y,S=>vZ (λ_ j=>decide (0 < j)) (· % ·) x y S
 | .pow,x,y,S=>vZ Di (λi j=>i ^ j.toNat) x y S
abbrev BOp.py:BOp->NO
 | .add=>.Add|.sub=>.Sub|.mul=>.Mult|.fdiv=>.FloorDiv|.mod=>.Mod|.pow=>.Pow
section
variable (X:Cx)
inductive PostE (J:Ho (Hv×Jg))(Y:L2.St)(A:Ho Hv)(H:Hp)(S':aa)(w:W)(u:Hr)(s':Ht):Prop
 | mk (v:V) (H':Hp) (A':Ho Hv) (i:Inv X J Y H' s') (r:RelV v u) (e:Ext X.K A H A' H') (so:StoreOk X.w X.K A' H' S') (rl:Rel X.K A' H' w v):PostE J Y A H S' w u s'
noncomputable abbrev FE:=Fm->aa->Hs (W×aa)
abbrev LOp (f:Hr->Hr->O6 Hr)(g:W->W->aa->Hs (W×aa)):Prop:=
 ∀(J:Ho (Hv×Jg)) (s:Ht) (Y:L2.St) (H:Hp) (A:Ho Hv) (S:aa) (x y:W) (a b:V) (u v:Hr) (w:W) (S':aa),Inv X J Y H s->StoreOk X.w X.K A H S->
  Rel X.K A H x a->RelV a u->Rel X.K A H y b->RelV b v->g x y S=ba (w,S')->wpAny (model X.prog X.w) X.A (f u v) (PostE X J Y A H S' w) X.xe s
end
section
variable{X:Cx}
def iK {S:aa}{i:Hz}{xs:Ho W}(h:lJ S i=ba xs):S[i]?=ba (.lst xs):=by
 unfold lJ at h;split at h
 ·cases h; assumption
 ·cases h
def cH {A:Ho Hv}{H:Hp}{S:aa}{i:Hz}{xs:Ho W}{a:Hv}(so:StoreOk X.w X.K A H S)(h:lJ S i=ba xs)(ea:A[i]?=ba a):∃vs,H a=ba (.lst vs)/\RelL X.K A H xs vs:=
 so.obj i _ a (iK h) ea
def bC {A:Ho Hv}{H:Hp}{S:aa}{i:Hz}{xs:Ho W}{a:Hv}(so:StoreOk X.w X.K A H S)(h:fm S i=ba xs)(ea:A[i]?=ba a):∃vs,SqL X.K H a vs/\RelL X.K A H xs vs:=by
 unfold fm at h;split at h
 ·cases h;obtain⟨vs,q,r⟩:=so.obj i _ a (by assumption) ea
  exact#[vs,.of q,r]
 ·cases h;obtain⟨vs,q,r⟩:=so.obj i _ a (by assumption) ea
  exact#[vs,q.sq,r]
 ·cases h
def ib {S S':aa}{xs:Ho W}{w:W}(h:kO S xs=ba (w,S')):xs.length<=sizeLine/\w=.ref S.length/\S'=S++[.lst xs]:=by
 unfold kO at h;split at h
 ·cases h; exact#[by assumption,rfl,rfl]
 ·cases h
def pe {S S':aa}{xs:Ho W}{w:W}(h:kP S xs=ba (w,S')):xs.length<=sizeLine/\w=.tup xs/\S'=S:=by
 unfold kP at h;split at h
 ·cases h; exact#[by assumption,rfl,rfl]
 ·cases h
def w6 {A:Ho Hv}{H:Hp}{S:aa}{ws:Ho W}{vs:Ho V}{Q:VK}{p:Hv}(so:StoreOk X.w X.K A H S)(r:RelL X.K A H ws vs)(hp:H p=gV)
  (q:∀v H' A',Ext X.K A H A' H'->StoreOk X.w X.K A' H' (S++[.lst ws])->Rel X.K A' H' (.ref S.length) v->Q v H'):Q (.ref p) (aA H p (.lst vs)):=
 q _ _ (A++[p]) (cm hp) (so.push hp r) (.ref (by rw[<- so.len]; simp))
def w8 {A:Ho Hv}{H:Hp}{S:aa}{ws:Ho W}{vs:Ho V}{Q:VK}{p:Hv}(so:StoreOk X.w X.K A H S)(r:RelL X.K A H ws vs)(hp:H p=gV)
  (q:∀v H' A',Ext X.K A H A' H'->StoreOk X.w X.K A' H' S->Rel X.K A' H' (.tup ws) v->Q v H'):Q (.ref p) (aA H p (.tup vs)):=
 q _ _ A (aN (.inl hp)) (so.lay hp) (.tup (.of ak) (r.mono (aN (.inl hp))))
abbrev Dj (K:HA):R2:=λx y H Q=>∃a b xs ys,x=.ref a/\y=.ref b/\SqT K H a xs/\SqT K H b ys/\xs.length+ys.length<=sizeLine/\
 (xs=[]->Q (.ref b) H)/\(ys=[]->Q (.ref a) H)/\(∀p,H p=gV->Q (.ref p) (aA H p (.tup (xs++ys))))
def w9:OpR X (binaryOp .Add) (Dj X.K):=by
 intro J s Y H x y v u Q I rx ry h;obtain⟨a,b,xs,ys,rfl,rfl,ha,hb,hz,q0,q1,q2⟩:=h;cases rx;cases ry;obtain⟨its,r1,p1,_⟩:=I.tuple ha;obtain⟨its2,r2,p2,_⟩:=I.tuple hb
 by_cases hx:xs=[]
 ·obtain⟨⟨cls,dd,data,sl⟩,ho,hc,n,hd⟩:=id p1;obtain⟨⟨cls2,dd2,data2,sl2⟩,ho2,hc2,n2,hd2⟩:=id p2;simp only at hc hd hc2 hd2;subst hc hd hc2 hd2;exact NS #[_,ho,rfl] #[_,ho2,rfl] Ms No Lc K8 (KW _ _)
   (tuple_addW0 a b its.toArray its2.toArray n n2 dd dd2 sl sl2 (by simp[r1.nil_iff.mpr hx])) #[ho,ho2,#[.ref b,H,I,rfl,q0 hx]]
 ·show HT.wu p1 p2 (λz=>hx (r1.nil_iff.mp z)) (λz=>#[.ref a,H,I,rfl,q1 (r2.nil_iff.mp z)]) (λz=>?_) (by rw[<- r1.length,<- r2.length]; exact hz)
  show#[.ref s.heap.objs.size,_,I.laid (t':=s.toks) (o:=.tup (xs++ys)) (λb ob q=>Hw _ q) (HJ _) ?_,rfl,q2 _ (I.hok.fresh (HJ _))]
  exact#[#[by rw[HK]; exact hz,NoD.new _ _ _],_,r1.append r2,Nc _ _]
def RelL.nil_iff {K:HA}{A:Ho Hv}{H:Hp}{ws:Ho W}{vs:Ho V}(r:RelL K A H ws vs):vs=[]↔ws=[]:=by
 cases r <;> simp
def nS:OpR X (binaryOp .Mult) (λx y H Q=>∃z k,x=.str z/\y=.int k/\MulOk z k/\Q (.str (Qu z k)) H):=by
 intro J s Y H x y v u Q I rx ry h;obtain⟨z,k,rfl,rfl,ok,q⟩:=h;obtain⟨t,rfl⟩:=rx;obtain⟨t',rfl⟩:=ry;exact SB.mul ok λt2 k2=>#[.str _,H,I.tok _,#[_,rfl],q]
def tB {x:HC}{k:HR}(h1:k < 16777216)(h2 : -16777216<=k)(h3:x.length*k.toNat<=sizeLine):MulOk x k:=by
 have hs:sizeLine=16777216:=IN;rw[hs]at h3;show#[?_,λa b=>?_,λ_ _=>?_]
 ·rw[Bool.or_eq_false_iff];exact#[Ik ∅,Ik ∅]
 ·have hk:0 < k:=∅
  have e:(x.length:HR)*k=((x.length*k.toNat:Hz):HR):=by
   rw[Int.natCast_mul,Nj ∅]
  intro hgt;have h4:(2 ^ 63 - 1:HR) < (x.length:HR)*k:=(Int.ediv_lt_iff_lt_mul hk).mp hgt;rw[e]at h4;generalize x.length*k.toNat=z at h3 h4;omega
 ·unfold O3;rw[hs];exact Ik ∅
inductive EndV (wd:HX)(K:HA)(A:Ho Hv)(H:Hp)(S':aa)(w:W)(v:V)(H':Hp):Prop
 | mk (A':Ho Hv) (e:Ext K A H A' H') (so:StoreOk wd K A' H' S') (r:Rel K A' H' w v):EndV wd K A H S' w v H'
def EndV.here {A:Ho Hv}{H:Hp}{S:aa}{w:W}{v:V}(so:StoreOk X.w X.K A H S)(r:Rel X.K A H w v):EndV X.w X.K A H S w v H:=#[A,.refl,so,r]
def EndV.lst {A:Ho Hv}{H:Hp}{S:aa}{ws:Ho W}{vs:Ho V}{p:Hv}(so:StoreOk X.w X.K A H S)(r:RelL X.K A H ws vs)(hp:H p=gV):EndV X.w X.K A H (S++[.lst ws]) (.ref S.length) (.ref p) (aA H p (.lst vs)):=
 w6 (Q:=EndV X.w X.K A H (S++[.lst ws]) (.ref S.length)) so r hp λv H' A' a b c=>#[A',a,b,c]
def EndV.tup {A:Ho Hv}{H:Hp}{S:aa}{ws:Ho W}{vs:Ho V}{p:Hv}(so:StoreOk X.w X.K A H S)(r:RelL X.K A H ws vs)(hp:H p=gV):EndV X.w X.K A H S (.tup ws) (.ref p) (aA H p (.tup vs)):=
 w8 (Q:=EndV X.w X.K A H S (.tup ws)) so r hp λv H' A' a b c=>#[A',a,b,c]
def EP.post {J:Ho (Hv×Jg)}{Y:L2.St}{A:Ho Hv}{H:Hp}{S':aa}{w:W}{u:Hr}{s':Ht}(h:EP X J Y (EndV X.w X.K A H S' w) u s'):PostE X J Y A H S' w u s':=by
 obtain⟨v,H',I',r,A',x,y,z⟩:=h;exact#[v,H',A',I',r,x,y,z]
def OpR.go {f:Hr->Hr->O6 Hr}{r:R2}(h:OpR X f r){J:Ho (Hv×Jg)}{Y:L2.St}{A:Ho Hv}{H:Hp}{S':aa}{w:W}{s:Ht}{a b:V}{u v:Hr}(I:Inv X J Y H s)(ru:RelV a u)(rv:RelV b v)
  (q:r a b H (EndV X.w X.K A H S' w)):wpAny (model X.prog X.w) X.A (f u v) (PostE X J Y A H S' w) X.xe s:=aG (h J s Y H a b u v _ I ru rv q) λ_ _=>EP.post
def xg:LOp X (binaryOp .Add) (eF .add):=by
 intro J s Y H A S x y a b u v w S' I so rx ru ry rv e;cases rx with
 | int=>cases ry with
  | int=>cases e; exact OpR.go Aq I ru rv #[_,_,rfl,rfl,.here so .int]
  | _=>cases e
 | str=>cases ry with
  | str=>
   dsimp only[eF,qW]at e;split at e
   ·cases e; exact OpR.go nG I ru rv #[_,_,rfl,rfl,by assumption,.here so .str]
   ·cases e
  | _=>cases e
 | tup h1 r1=>cases ry with
  | tup h2 r2=>
   obtain⟨hl,rfl,rfl⟩:=pe (show kP S _=_ from e)
   rw[HK,r1.length,r2.length]at hl;show OpR.go w9 I ru rv #[_,_,_,_,rfl,rfl,h1,h2,hl,λz=>?_,λz=>?_,λp hp=>.tup so (r1.append r2) hp]
   ·have z':=r1.nil_iff.mp z;subst z';exact .here so (.tup h2 r2)
   ·have z':=r2.nil_iff.mp z;subst z';rw[JD];exact .here so (.tup h1 r1)
  | _=>cases e
 | ref h1=>cases ry with
  | ref h2=>
   dsimp only[eF,qW]at e;split at e
   ·obtain⟨hl,rfl,rfl⟩:=ib e;obtain⟨vs,q1,r1⟩:=cH so (by assumption) h1
    obtain⟨us,q2,r2⟩:=cH so (by assumption) h2
    rw[HK,r1.length,r2.length]at hl;exact OpR.go AF I ru rv #[_,_,_,_,rfl,rfl,q1,q2,hl,λp hp=>.lst so (r1.append r2) hp]
   ·cases e
  | _=>cases e
 | _=>cases e
def lT {f:Hr->Hr->O6 Hr}{c:HR->HR->HP}{g:HR->HR->HR}{r:R2}(h:OpR X f r)(hr:∀i j H Q,c i j=true->Q (.int (g i j)) H->r (.int i) (.int j) H Q):LOp X f (vZ c g):=by
 intro J s Y H A S x y a b u v w S' I so rx ru ry rv e;cases rx with
 | int=>cases ry with
  | int=>
   unfold vZ at e;dsimp only at e;split at e
   ·cases e; exact OpR.go h I ru rv (hr _ _ _ _ (by assumption) (.here so .int))
   ·cases e
  | _=>cases e
 | _=>cases e
def xh:LOp X (binaryOp .Sub) (eF .sub):=lT Ar λ_ _ _ _ _ q=>#[_,_,rfl,rfl,q]
def xj {i j:HR}(h:qV i j=true):CMul i j:=by
 unfold qV at h;rw[Jj,Hu,Hu,Im,Im,Im,Im]at h;exact h
def xn:LOp X (binaryOp .Mult) (eF .mul):=by
 have hI:LOp X (binaryOp .Mult) (vZ qV (· * ·)):=lT As λ_ _ _ _ h q=>#[_,_,rfl,rfl,xj h,q]
 intro J s Y H A S x y a b u v w S' I so rx ru ry rv e;cases x with
 | str z=>
  cases rx with
  | str=>cases ry with
   | int=>
    dsimp only[eF,wY]at e;split at e
    ·rename_i hc;cases e; exact OpR.go nS I ru rv #[_,_,rfl,rfl,tB ∅ ∅ hc.2.2,.here so .str]
    ·cases e
   | _=>cases e
 | ref z=>
  cases rx with
  | ref h1=>cases ry with
   | int=>
    dsimp only[eF,wY]at e;split at e
    ·split at e
     ·rename_i hc;obtain⟨hl,rfl,rfl⟩:=ib e;obtain⟨vs,q1,r1⟩:=cH so (by assumption) h1
      rw[r1.length]at hc;exact OpR.go AG I ru rv #[_,_,_,rfl,rfl,q1,∅,∅,hc.2.2,λp hp=>.lst so (r1.rep _) hp]
     ·cases e
    ·cases e
   | _=>cases e
 | _=>exact hI _ _ _ _ _ _ _ _ _ _ _ _ _ _ I so rx ru ry rv e
def tD:LOp X (binaryOp .FloorDiv) (eF .fdiv):=lT wm λ_ _ _ _ h q=>#[_,_,rfl,rfl,by
 unfold wX at h;rw[Hu,Im,Im]at h;exact h,q]
def xo:LOp X (binaryOp .Mod) (eF .mod):=lT At λ_ _ _ _ h q=>#[_,_,rfl,rfl,IX h,q]
def xp:LOp X (binaryOp .Pow) (eF .pow):=lT Au λ_ _ _ _ h q=>#[_,_,rfl,rfl,by
 unfold Di at h;rw[Hu,Hu,Im,Im,Im]at h;exact#[h.1.1,h.1.2,h.2],q]
def pf (o:BOp):LOp X (binaryOp o.py) (eF o):=by
 cases o
 ·exact xg
 ·exact xh
 ·exact xn
 ·exact tD
 ·exact xo
 ·exact xp
end
abbrev lU (f:W->W->Hs HP):Ho W->Ho W->Hs HP
 | [],[]=>ba true
 | [],_::_=>ba false
 | _::_,[]=>ba false
 | x::xs,y::ys=>match f x y,lU f xs ys with
  | some a,ba b=>ba (a&&b)
  | _,_=>gV
abbrev b2 (b:HP):HR:=if b then 1 else 0
abbrev lV (S:aa):Hz->W->W->Hs HP
 | _,.non,y=>match y with
  | .non=>ba true
  | _=>gV
 | _,.bl a,y=>match y with
  | .bl b=>ba (a==b)
  | _=>gV
 | _,.int a,y=>match y with
  | .int b=>ba (a==b)
  | _=>gV
 | _,.str a,y=>match y with
  | .str b=>ba (a==b)
  | _=>gV
 | 0,_,_=>gV
 | d+1,.tup xs,y=>match y with
  | .tup ys=>lU (lV S d) xs ys
  | _=>gV
 | d+1,.ref i,y=>match y with
  | .ref j=>match lJ S i,lJ S j with
   | some xs,ba ys=>if xs.length=ys.length then lU (lV S d) xs ys else ba false
   | _,_=>gV
  | _=>gV
section
variable{X:Cx}{J:Ho (Hv×Jg)}{Y:L2.St}{H:Hp}{s:Ht}{A:Ho Hv}{S:aa}
abbrev RU (K:HA)(A:Ho Hv)(H:Hp)(w:W)(u:Hr):Prop:=∃v,Rel K A H w v/\RelV v u
def ph {ws:Ho W}{vs:Ho V}{us:Ho Hr}(r:RelL X.K A H ws vs)(q:Vals vs us):∀(j:Hz) (h1:j < ws.length) (h2:j < us.length),RU X.K A H ws[j] us[j]:=by
 induction ws generalizing vs us with
 | nil=>intro j h1; simp at h1
 | cons w ws ih=>
  cases r with
  | cons r1 rr=>
   cases q with
   | cons q1 qq=>
    intro j h1 h2;cases j with
    | zero=>exact#[_,r1,q1]
    | succ j=>exact ih rr qq j (by simpa using h1) (by simpa using h2)
def tF {ws:Ho W}{u:Hr}(I:Inv X J Y H s)(h:RU X.K A H (.tup ws) u):∃a its,u=.ref a/\NL s.heap a its/\its.size=ws.length/\ws.length<=sizeLine/\∀(j:Hz) (h1:j < ws.length) (h2:j < its.size),RU X.K A H ws[j] its[j]:=by
 obtain⟨v,r,q⟩:=h;cases r with
 | tup sq rl=>
  obtain⟨its,rv,ht,hz⟩:=I.tuple sq;show#[_,its.toArray,q,ht,by rw[HE,<- rv.length,rl.length],by rw[rl.length]; exact hz,λj h1 h2=>?_]
  have:=ph rl rv j h1 (by simpa using h2)
  simpa using this
def tH {i:Hz}{ws:Ho W}{u:Hr}(I:Inv X J Y H s)(so:StoreOk X.w X.K A H S)(e:lJ S i=ba ws)(h:RU X.K A H (.ref i) u):∃a its,u=.ref a/\A[i]?=ba a/\s.heap.IsList a its/\its.size=ws.length/\ws.length<=sizeLine/\∀(j:Hz) (h1:j < ws.length) (h2:j < its.size),RU X.K A H ws[j] its[j]:=by
 obtain⟨v,r,q⟩:=h;cases r with
 | ref ea=>
  obtain⟨vs,hq,rl⟩:=cH so e ea;obtain⟨its,rv,ht,hz⟩:=I.list (.of hq);show#[_,its.toArray,q,ea,ht.isList,by rw[HE,<- rv.length,rl.length],by rw[rl.length]; exact hz,λj h1 h2=>?_]
  have:=ph rl rv j h1 (by simpa using h2)
  simpa using this
def iL {f:W->W->Hs HP}:∀ {xs ys:Ho W} {k:HP},lU f xs ys=ba k->∃e:Hz->HP,(∀(j:Hz) (h1:j < xs.length) (h2:j < ys.length),f xs[j] ys[j]=ba (e j))/\
  k=((IJ (min xs.length ys.length)).all e&&xs.length==ys.length)
 | [],[],k,h=>#[λ_=>true,λj h1=>by simp at h1,by cases h; rfl]
 | [],_::_,k,h=>#[λ_=>true,λj h1=>by simp at h1,by cases h; simp]
 | _::_,[],k,h=>#[λ_=>true,λj h1 h2=>by simp at h2,by cases h; simp]
 | x::xs,y::ys,k,h=>by
  dsimp only[lU]at h;split at h
  ·rename_i a b ha hb;cases h;obtain⟨e,h1,h2⟩:=iL hb;show#[λj=>match j with|0=>a|j+1=>e j,λj hj1 hj2=>?_,?_]
   ·cases j with
    | zero=>exact ha
    | succ j=>exact h1 j (by simpa using hj1) (by simpa using hj2)
   ·subst h2;simp only[IU,Nat.add_min_add_right,MA,Io,Le,MZ];congr 2;simp
  ·cases h
def xq (I:Inv X J Y H s)(so:StoreOk X.w X.K A H S):∀(d:Hz) {x y:W} {v:V} {k:HP},Rel X.K A H x v->Rel X.K A H y v->lV S d x y=ba k->k=true:=by
 intro d
 induction d with
 | zero=>
  intro x y v k rx ry e;cases rx with
  | non=>cases ry; cases e; rfl
  | bl=>cases ry; cases e; exact IP _
  | int=>cases ry; cases e; exact IP _
  | str=>cases ry; cases e; exact IP _
  | tup _ _=>cases e
  | ref _=>cases e
 | succ d ih=>
  have lists:∀ {xs ys:Ho W} {vs:Ho V} {k:HP},RelL X.K A H xs vs->RelL X.K A H ys vs->lU (lV S d) xs ys=ba k->k=true:=by
   intro xs
   induction xs with
   | nil=>
    intro ys vs k r1 r2 e;cases r1; cases r2; cases e; rfl
   | cons x xs ihx=>
    intro ys vs k r1 r2 e;cases r1 with
    | cons p1 q1=>
     cases r2 with
     | cons p2 q2=>
      dsimp only[lU]at e;split at e
      ·rename_i a b ha hb;cases e;rw[ih p1 p2 ha,ihx q1 q2 hb];rfl
      ·cases e
  intro x y v k rx ry e;cases rx with
  | non=>cases ry; cases e; rfl
  | bl=>cases ry; cases e; exact IP _
  | int=>cases ry; cases e; exact IP _
  | str=>cases ry; cases e; exact IP _
  | tup h1 r1=>
   cases ry with
   | tup h2 r2=>
    rw[I.tuple_inj h1 h2]at r1;exact lists r1 r2 e
   | ref ea=>cases e
  | ref ea=>
   cases ry with
   | tup h2 r2=>cases e
   | ref eb=>
    dsimp only[lV]at e;split at e
    ·rename_i xs ys hx hy;have:=so.nd _ _ _ _ _ (iK hx) rfl (iK hy) rfl ea eb;subst this;rw[hx]at hy; cases hy
     rw[HN rfl]at e;obtain⟨vs,q,r⟩:=cH so hx ea;exact lists r r e
    ·cases e
def aH (A:HW):A.in1.units=A.units+1:=rfl
noncomputable abbrev Cu (B:HW)(s:Ht)(u v:Hr)(k:HP):Prop:=SeqAt.RcAt B s u v k/\SeqAt.RcNeAt B s u v (!k)/\Lo B s u v k
open SeqAt in
def zh (I:Inv X J Y H s)(so:StoreOk X.w X.K A H S):∀(d:Hz) (B:HW) {x y:W} {u v:Hr} {k:HP},B.units+d < cLine->RU X.K A H x u->RU X.K A H y v->lV S d x y=ba k->Cu B s u v k:=by
 have non:∀ {B:HW} {y:W} {u v:Hr} {k:HP} {d:Hz},RU X.K A H .non u->RU X.K A H y v->lV S d .non y=ba k->Cu B s u v k:=by
  intro B y u v k d ⟨_,rx,ra⟩ ⟨_,ry,rb⟩ e;cases rx;cases(show u=Iz from ra)
  cases y with
  | non=>
   have e:ba (true)=ba k:=by cases d <;> exact e
   cases e;cases ry;cases(show v=Iz from rb)
   exact#[.none_none,.none_none,.same _]
  | _=>cases d <;> cases e
 have bl:∀ {B:HW} {b:HP} {y:W} {u v:Hr} {k:HP} {d:Hz},RU X.K A H (.bl b) u->RU X.K A H y v->lV S d (.bl b) y=ba k->Cu B s u v k:=by
  intro B b y u v k d ⟨_,rx,ra⟩ ⟨_,ry,rb⟩ e;cases rx;cases(show u=Jv _ from ra)
  cases y with
  | bl c=>
   have e:ba (b==c)=ba k:=by cases d <;> exact e
   cases e;cases ry;cases(show v=Jv _ from rb)
   exact#[.bool_bool _ _,.bool_bool _ _,.bool_bool _ _]
  | _=>cases d <;> cases e
 have int:∀ {B:HW} {b:HR} {y:W} {u v:Hr} {k:HP} {d:Hz},RU X.K A H (.int b) u->RU X.K A H y v->lV S d (.int b) y=ba k->Cu B s u v k:=by
  intro B b y u v k d ⟨_,rx,ra⟩ ⟨_,ry,rb⟩ e;cases rx;obtain⟨t0,rfl⟩ : ∃t,u=Mr _ t:=ra;cases y with
  | int c=>
   have e:ba (b==c)=ba k:=by cases d <;> exact e
   cases e;cases ry;obtain⟨t,rfl⟩ : ∃t,v=Mr _ t:=rb;exact#[.int_int _ _ _ _,.int_int _ _ _ _,.int_int _ _ _ _]
  | _=>cases d <;> cases e
 have str:∀ {B:HW} {b:HC} {y:W} {u v:Hr} {k:HP} {d:Hz},RU X.K A H (.str b) u->RU X.K A H y v->lV S d (.str b) y=ba k->Cu B s u v k:=by
  intro B b y u v k d ⟨_,rx,ra⟩ ⟨_,ry,rb⟩ e;cases rx;obtain⟨t0,rfl⟩ : ∃t,u=Ll _ t:=ra;cases y with
  | str c=>
   have e:ba (b==c)=ba k:=by cases d <;> exact e
   cases e;cases ry;obtain⟨t,rfl⟩ : ∃t,v=Ll _ t:=rb;exact#[.str_str _ _ _ _,.str_str _ _ _ _,.str_str _ _ _ _]
  | _=>cases d <;> cases e
 intro d
 induction d with
 | zero=>
  intro B x y u v k hu rx ry e;cases x with
  | non=>exact non rx ry e
  | bl b=>exact bl rx ry e
  | int b=>exact int rx ry e
  | str b=>exact str rx ry e
  | _=>cases e
 | succ d ih=>
  intro B x y u v k hu rx ry e;have hu0:B.units < cLine:=∅
  have hu1:B.in1.units+d < cLine:=by rw[aH]; omega
  have rx0:=rx;have ry0:=ry;have fin:∀ {a b:Hv},u=.ref a->v=.ref b->RcAt B s u v k->RcNeAt B s u v (!k)->Cu B s u v k:=by
   intro a b ea eb h1 h2;subst ea eb;show#[h1,h2,?_]
   by_cases hab:a=b
   ·subst hab;obtain⟨v1,q1,z1⟩:=rx0;obtain⟨v2,q2,z2⟩:=ry0;have e12:v1=v2:=z1.inj z2;subst e12;have:=xq I so (d+1) q1 q2 e;subst this;exact EqAt.same _
   ·exact EqAt.of_refs hab h1
  cases x with
  | non=>exact non rx ry e
  | bl b=>exact bl rx ry e
  | int b=>exact int rx ry e
  | str b=>exact str rx ry e
  | tup xs=>
   cases y with
   | tup ys=>
    obtain⟨a,its,rfl,ht,hs,_,hi⟩:=tF I rx;obtain⟨b,its2,rfl,ht2,hs2,_,hi2⟩:=tF I ry;obtain⟨f,h1,h2⟩:=iL (show lU (lV S d) xs ys=ba k from e)
    have he:∀j (h1:j < its.size) (h2:j < its2.size),EqAt B.in1 s its[j] its2[j] (f j):=λj j1 j2=>
     (ih B.in1 hu1 (hi j (hs ▸ j1) j1) (hi2 j (hs2 ▸ j2) j2) (h1 j (hs ▸ j1) (hs2 ▸ j2))).2.2
    rw[<- hs,<- hs2]at h2;subst h2;exact fin rfl rfl (RcAt.tuples ht ht2 hu0 he) (RcNeAt.tuples ht ht2 hu0 he)
   | _=>cases e
  | ref i=>
   cases y with
   | ref j=>
    dsimp only[lV]at e;split at e
    ·rename_i ws ws2 hw hw2;obtain⟨a,its,rfl,_,hl,hs,_,hi⟩:=tH I so hw rx;obtain⟨b,its2,rfl,_,hl2,hs2,_,hi2⟩:=tH I so hw2 ry;split at e
     ·rename_i hlen;obtain⟨f,h1,h2⟩:=iL e;have he:∀j (h1:j < its.size) (h2:j < its2.size),EqAt B.in1 s its[j] its2[j] (f j):=λj j1 j2=>
       (ih B.in1 hu1 (hi j (hs ▸ j1) j1) (hi2 j (hs2 ▸ j2) j2) (h1 j (hs ▸ j1) (hs2 ▸ j2))).2.2
      have hk:k=(IJ its.size).all f:=by rw[h2,hs,hlen]; simp
      subst hk;exact fin rfl rfl (RcAt.lists hl hl2 (by rw[hs,hs2,hlen]) hu0 he) (RcNeAt.lists hl hl2 (by rw[hs,hs2,hlen]) hu0 he)
     ·rename_i hlen;cases e;have hb:(its.size != its2.size)=true:=by rw[hs,hs2]; simpa using hlen
      exact fin rfl rfl (RcAt.lists_lengths hl hl2 hb hu0) (RcNeAt.lists_lengths hl hl2 hb hu0)
    ·cases e
   | _=>cases e
end
abbrev zj (fe fl:W->W->Hs HP):Ho W->Ho W->Hs HP
 | [],[]=>ba false
 | [],_::_=>ba true
 | _::_,[]=>ba false
 | x::xs,y::ys=>match fe x y with
  | some true=>zj fe fl xs ys
  | some false=>fl x y
  | none=>gV
abbrev G6 (S:aa):Hz->W->W->Hs HP
 | _,.int a,.int b=>ba (decide (a < b))
 | _,.str a,.str b=>ba (decide (a.cps.toList < b.cps.toList))
 | d+1,.tup xs,.tup ys=>zj (lV S d) (G6 S d) xs ys
 | _,_,_=>gV
abbrev LtAt (B:HW)(s:Ht)(u v:Hr)(k:HP):Prop:=
 ∀(prog:HM) (w:HX) (E:Hr->Ht->Prop) (Q:Hr->Ht->Prop),Q (.bool k) s->wpAny (model prog w) B (richCompare .Lt u v) Q E s
inductive LexR (B:HW)(s:Ht):Ho Hr->Ho Hr->HP->Prop
 | nn:LexR B s [] [] false
 | nc {v:Hr} {vs:Ho Hr}:LexR B s [] (v::vs) true
 | cn {v:Hr} {vs:Ho Hr}:LexR B s (v::vs) [] false
 | eq {u v:Hr} {us vs:Ho Hr} {k:HP}:Lo B s u v true->LexR B s us vs k->LexR B s (u::us) (v::vs) k
 | ne {u v:Hr} {us vs:Ho Hr} {k:HP}:Lo B s u v false->LtAt B s u v k->LexR B s (u::us) (v::vs) k
section
open PySem.SeqAt
open PySem.AutoSeq1 (wpAny_loadPart')
open PySem.MeetsSeq PySem.MeetsSeq2 PySem.MeetsSeq3
def kQ (l b:Hv)(items items2:Iu Hr)(n n2:Hz)(dd dd2:Hs Hv)(sl sl2:Iu (Hs Hr))(k:HP) :
  Meets (K3.«tuple.__lt__» #[[.ref l,.ref b],[]])
   (λB R s=>s.heap.get? l=ba { cls:=.type "tuple",dict:=dd,data:=.seq items n,slots:=sl }/\s.heap.get? b=ba { cls:=.type "tuple",dict:=dd2,data:=.seq items2 n2,slots:=sl2 }/\
    LexR B.in1 s items.toList items2.toList k/\R (.ok (.ret (.bool k))) s):=
 .of_wp λprog w A R s h=>by
  obtain⟨hp,g,d,tk,os⟩:=s; obtain⟨hl,hb,hx,h⟩:=h
  have f2:=Pd;have z1:items.toList.length=items.size:=by simp
  have z2:items2.toList.length=items2.size:=by simp
  wp_walk using Ly hl,Ly hb,On _ (λau b s'=>b.1=gV/\s'=#[hp,g,d,tk,os]/\∃(vs ws:Ho Hr),au=vs.zip ws/\
   LexR A.in1 #[hp,g,d,tk,os] vs ws k/\vs.length+items2.size=ws.length+items.size) _
  case turn=>
   rintro⟨y,x⟩ au b s' ⟨hb',rfl,vs,ws,hz,hlx,hlen⟩;cases hlx with
   | nn=>rw[N1]at hz; cases hz
   | nc=>rw[N1]at hz; cases hz
   | cn=>rw[List.zip_nil_right]at hz; cases hz
   | eq he hr=>
    rw[JS]at hz;injection hz with hyx hrest
    injection hyx with hy hx
    subst hy hx;simp only[IU]at hlen;show Hq (he prog w _ _ ?_)
    wp_walk
    exact#[rfl,rfl,_,_,hrest,hr,∅]
   | ne he hr=>
    rw[JS]at hz;injection hz with hyx hrest
    injection hyx with hy hx
    subst hy hx;show Hq (he prog w _ _ ?_);have hri:=hr prog w
    wp_walk using hri
    exact#[_,rfl,by simpa using h]
  case fin=>
   rintro⟨b1,b2⟩ s' ⟨hb',rfl,vs,ws,hz,hlx,hlen⟩;simp only at hb';subst hb';have hv:k=decide (items.size < items2.size):=by
    cases hlx with
    | nn=>simp only[JE]at hlen; exact(Ik ∅).symm
    | nc=>simp only[JE,IU]at hlen; exact(Ji ∅).symm
    | cn=>simp only[JE,IU]at hlen; exact(Ik ∅).symm
    | eq _ _=>rw[JS]at hz; cases hz
    | ne _ _=>rw[JS]at hz; cases hz
   subst hv
   wp_walk
   exact#[_,rfl,by simpa [N9]using h]
  case h=>
   exact#[rfl,rfl,items.toList,items2.toList,rfl,hx,∅]
end
def LtAt.tuples {B:HW}{s:Ht}{l b:Hv}{items items2:Iu Hr}{k:HP}(hl:NL s.heap l items)(hb:NL s.heap b items2)(hu:B.units < cLine)(hx:LexR B.in1 s items.toList items2.toList k) :
  LtAt B s (.ref l) (.ref b) k:=λprog w E Q h=>by
 obtain⟨⟨cls,dd,data,sl⟩,ho,hc,n,hd⟩:=id hl;obtain⟨⟨cls2,dd2,data2,sl2⟩,ho2,hc2,n2,hd2⟩:=id hb;simp only at hc hd hc2 hd2;subst hc hd hc2 hd2;exact richCompare_meets_room (op:=.Lt) #[_,ho,rfl] #[_,ho2,rfl] PySem.F.slot_tuple_lt PySem.F.entry_tuple_lt (PySem.F.args_tuple_lt_2 _ _) (kQ l b items items2 n n2 dd dd2 sl sl2 k)
  #[ho,ho2,hx,show Jv k≠Value.notImplemented/\Q (.bool k) s from#[(λx=>nomatch x),h]] hu
inductive COp where|eq|ne|lt|le|gt|ge|isin|notin|is|isnot
 deriving KH
abbrev COp.py:COp->Ow
 | .eq=>.Eq|.ne=>.NotEq|.lt=>.Lt|.le=>.LtE|.gt=>.Gt|.ge=>.GtE|.isin=>.In|.notin=>.NotIn|.is=>.Is|.isnot=>.IsNot
abbrev cR:W->HP
 | .non=>true
 | .bl _=>true
 | .int _=>true
 | .str _=>true
 | _=>false
abbrev AN:W->W->HP
 | .non,.non=>true
 | .bl a,.bl b=>a==b
 | .bl a,.int b=>b2 a==b
 | .int a,.bl b=>a==b2 b
 | .int a,.int b=>a==b
 | .str a,.str b=>a==b
 | _,_=>false
abbrev eT (S:aa):W->Hs (Ho W)
 | .tup xs=>ba xs
 | .ref i=>fm S i
 | _=>gV
noncomputable abbrev dm:Hz:=20
abbrev Dk (x y:W)(S:aa):Hs HP:=match eT S y with
 | some ys=>if cR x&&ys.all cR then ba (ys.any λz=>AN z x)else gV
 | none=>gV
abbrev nT:W->HP
 | .non=>true
 | _=>false
abbrev tJ (f:HR->HR->HP):W->W->Hs HP
 | .int i,.int j=>ba (f i j)
 | _,_=>gV
abbrev F4:W->W->Hs HP
 | .bl a,.bl b=>ba (!(a==b))
 | _,_=>gV
abbrev F5:W->W->Hs HP
 | .bl a,.bl b=>ba (a==b)
 | _,_=>gV
abbrev v4:COp->W->W->aa->Hs HP
 | .eq,x,y,S=>lV S dm x y
 | .ne,x,y,S=>(lV S dm x y).map (!·)
 | .lt,x,y,_=>tJ (λi j=>decide (i < j)) x y
 | .le,x,y,_=>tJ (λi j=>decide (i<=j)) x y
 | .gt,x,y,_=>tJ (λi j=>decide (j < i)) x y
 | .ge,x,y,_=>tJ (λi j=>decide (j<=i)) x y
 | .isin,x,y,S=>Dk x y S
 | .notin,x,y,S=>(Dk x y S).map (!·)
 | .is,x,y,_=>if nT y then ba (nT x)else F5 x y
 | .isnot,x,y,_=>if nT y then ba (!nT x)else F4 x y
abbrev cU (o:COp)(x y:W)(S:aa):Hs (W×aa):=(v4 o x y S).map λk=>(.bl k,S)
section
variable{X:Cx}
def ic {J:Ho (Hv×Jg)}{Y:L2.St}{H:Hp}{s:Ht}{A:Ho Hv}{S:aa}{k:HP}(I:Inv X J Y H s)(so:StoreOk X.w X.K A H S):PostE X J Y A H S (.bl k) (.bool k) s:=
 #[.bl k,H,A,I,rfl,.refl,so,.bl]
def xr {o:COp}{x y w:W}{S S':aa}(h:cU o x y S=ba (w,S')):∃k,v4 o x y S=ba k/\w=.bl k/\S'=S:=by
 unfold cU at h;rw[Hx]at h;obtain⟨k,h1,h2⟩:=h;cases h2;exact#[k,h1,rfl,rfl]
def lW {A:Ho Hv}{H:Hp}{w:W}{v:V}(r:Rel X.K A H w v)(f:cR w=true):eQ v=true:=by
 cases r <;> first|rfl|cases f
def jU {A:Ho Hv}{H:Hp}:∀ {ws:Ho W} {vs:Ho V},RelL X.K A H ws vs->ws.all cR=true->vs.all eQ=true
 | _,_,.nil,_=>rfl
 | _,_,.cons r t,f=>by
  rw[Io,Hu]at f ⊢;exact#[lW r f.1,jU t f.2]
def xu {A:Ho Hv}{H:Hp}{x y:W}{u v:V}(r:Rel X.K A H x u)(q:Rel X.K A H y v)(fx:cR x=true)(fy:cR y=true):wF u v=AN x y:=by
 cases r <;> cases q <;> first|rfl|cases fx|cases fy
def pi {A:Ho Hv}{H:Hp}{y:W}{v:V}(q:Rel X.K A H y v)(fy:cR y=true):∀ {ws:Ho W} {vs:Ho V},RelL X.K A H ws vs->ws.all cR=true->E5 v vs=ws.any λz=>AN z y
 | _,_,.nil,_=>rfl
 | _,_,.cons r t,f=>by
  rw[Io,Hu]at f;have:=pi q fy t f.2;unfold E5 at this ⊢;rw[JB,JB,xu r q f.1 fy,this]
def kR {J:Ho (Hv×Jg)}{Y:L2.St}{H:Hp}{s:Ht}{A:Ho Hv}{S:aa}{y:W}{b:V}{ys:Ho W}(so:StoreOk X.w X.K A H S)(r:Rel X.K A H y b)(e:eT S y=ba ys):∃p vs,b=.ref p/\(SqL X.K H p vs\/SqT X.K H p vs)/\RelL X.K A H ys vs:=by
 cases r with
 | tup h1 r1=>cases e; exact#[_,_,rfl,.inr h1,r1]
 | ref ea=>
  obtain⟨vs,h1,r1⟩:=bC so e ea;exact#[_,vs,rfl,.inl h1,r1]
 | _=>cases e
def tK {neg:HP}{o:Ow}(ho:OpR X (compareOp o) (FR X.K neg)){J:Ho (Hv×Jg)}{Y:L2.St}{H:Hp}{s:Ht}{A:Ho Hv}{S:aa}{x y:W}{a b:V}{u v:Hr}{ys:Ho W}(I:Inv X J Y H s)(so:StoreOk X.w X.K A H S)
  (rx:Rel X.K A H x a) (ru:RelV a u) (ry:Rel X.K A H y b) (rv:RelV b v) (e:eT S y=ba ys) (f:(cR x&&ys.all cR)=true) :
  wpAny (model X.prog X.w) X.A (compareOp o u v) (PostE X J Y A H S (.bl (if neg then !ys.any λz=>AN z x else ys.any λz=>AN z x))) X.xe s:=by
 obtain⟨p,vs,rfl,hq,rl⟩:=kR (J:=J) (Y:=Y) (s:=s) so ry e;rw[Hu]at f;show OpR.go ho I ru rv #[p,vs,rfl,hq,lW rx f.1,jU rl f.2,?_];rw[pi rx f.1 rl f.2];exact .here so .bl
def fJ (hu:X.A.units+dm < cLine)(o:COp):LOp X (compareOp o.py) (cU o):=by
 intro J s Y H A S x y a b u v w S' I so rx ru ry rv e;obtain⟨k,ek,e1,e2⟩:=xr e;subst e1;subst e2;clear e
 rename aa=>S
 have twoI:∀ {f:HR->HR->HP},tJ f x y=ba k->∃i j,x=.int i/\y=.int j/\k=f i j:=by
  intro f h;cases x with
  | int i=>cases y with
   | int j=>cases h; exact#[i,j,rfl,rfl,rfl]
   | _=>cases h
  | _=>cases h
 have hu1:X.A.units+1 < cLine:=by have:dm=20:=rfl; omega
 have ofSq:∀ {c:HP},Dk x y S=ba c->(∃ys,eT S y=ba ys/\(cR x&&ys.all cR)=true/\c=ys.any λz=>AN z x):=by
  intro c h;unfold Dk at h;split at h
  ·split at h
   ·cases h; exact#[_,by assumption,by assumption,rfl]
   ·cases h
  ·cases h
 have ofN:∀ {c:HP},(if nT y then ba c else gV)=ba k->y=.non/\k=c:=by
  intro c h;cases y with
  | non=>cases h; exact#[rfl,rfl]
  | _=>cases h
 cases o with
 | eq=>exact(zh I so dm X.A hu #[a,rx,ru] #[b,ry,rv] ek).1 _ _ _ _ (ic I so)
 | ne=>
  obtain⟨k',h1,rfl⟩:=Hx.mp ek;exact(zh I so dm X.A hu #[a,rx,ru] #[b,ry,rv] h1).2.1 _ _ _ _ (ic I so)
 | lt=>
  obtain⟨i,j,rfl,rfl,rfl⟩:=twoI ek;cases rx; cases ry
  exact OpR.go CY I ru rv #[_,_,rfl,rfl,.here so .bl]
 | le=>
  obtain⟨i,j,rfl,rfl,rfl⟩:=twoI ek;cases rx; cases ry
  exact OpR.go CZ I ru rv #[_,_,rfl,rfl,.here so .bl]
 | gt=>
  obtain⟨i,j,rfl,rfl,rfl⟩:=twoI ek;cases rx; cases ry
  exact OpR.go C0 I ru rv #[_,_,rfl,rfl,.here so .bl]
 | ge=>
  obtain⟨i,j,rfl,rfl,rfl⟩:=twoI ek;cases rx; cases ry
  exact OpR.go C3 I ru rv #[_,_,rfl,rfl,.here so .bl]
 | isin=>
  obtain⟨ys,h1,h2,rfl⟩:=ofSq ek;exact tK (neg:=false) qN I so rx ru ry rv h1 h2
 | notin=>
  obtain⟨c,h,rfl⟩:=Hx.mp ek;obtain⟨ys,h1,h2,rfl⟩:=ofSq h;exact tK (neg:=true) kL I so rx ru ry rv h1 h2
 | is=>
  cases y with
  | non=>
   have ek:ba (nT x)=ba k:=ek;cases ek;cases ry;show OpR.go Aw I ru rv #[rfl,?_];cases rx <;> exact .here so .bl
  | bl b'=>
   cases x with
   | bl a'=>
    have ek:ba (a'==b')=ba k:=ek;cases ek;cases rx;cases ry;obtain rfl:u=Jv a':=ru;obtain rfl:v=Jv b':=rv;show wpAny_is_plain rfl ?_;have e:(Jv a'==Jv b')=(a'==b'):=by cases a' <;> cases b' <;> rfl
    rw[e];exact ic I so
   | _=>cases ek
  | _=>cases x <;> cases ek
 | isnot=>
  cases y with
  | non=>
   have ek:ba (!nT x)=ba k:=ek;cases ek;cases ry;show OpR.go wn I ru rv #[rfl,?_];cases rx <;> exact .here so .bl
  | bl b'=>
   cases x with
   | bl a'=>
    have ek:ba (!(a'==b'))=ba k:=ek;cases ek;cases rx;cases ry;obtain rfl:u=Jv a':=ru;obtain rfl:v=Jv b':=rv;show wpAny_isNot_plain rfl ?_;have e:(!(Jv a'==Jv b')) = !(a'==b'):=by cases a' <;> cases b' <;> rfl
    rw[e];exact ic I so
   | _=>cases ek
  | _=>cases x <;> cases ek
end
end Mi
namespace HT
open PySem PyProof.Rows
section
variable{prog:HM}{w:HX}{A:HW}{E:Hr->Ht->Prop}{s:Ht}
def eN {t sl:Hv}{items:Iu Hr}{vl vu:Hr}{lo hi:Hs HR}{Q:Hr->Ht->Prop}(ht:NL s.heap t items)(hs:s.heap.IsSliceOf sl vl vu .none)(pl:LP vl lo)(pu:LP vu hi)
  (hw:bu items.size 0 lo=0/\bu items.size items.size hi=items.size) (h:Q (.ref t) s):wpAny (model prog w) A (getItem (.ref t) (.ref sl)) Q E s:=by
 obtain⟨os,hos,hcs,hds⟩:=id hs;have hTs:s.TypeIs (.ref sl) "slice":=#[os,hos,hcs];unfold getItem
 try with_reducible show IL ?_
 first|refine Hq (Hy ?_)|skip
 show Hq (NT ht.typeIs #v[] ?_)
 show Hq (Ja (name:=Je "__getitem__") ht.typeIs JO
  (Jk JO ht.typeIs Ng ?_ (NA _ _)))
 change wpAny _ _ (KN (.ref t) >>= _) _ _ s;show Hq (O8 ht ?_);show Hq (LJ hTs ?_);rw[HN #v[]]
 show Hq (cO hs pl pu ?_);have hyes:((((bu items.size 0 lo:Hz):HR)==0&&(1:HR)==1&&(bu items.size items.size hi - bu items.size 0 lo)==items.size)=true):=by
  rw[hw.1,hw.2];simp
 change wpAny _ _ (if (((bu items.size 0 lo:Hz):HR)==0&&(1:HR)==1&&(bu items.size items.size hi - bu items.size 0 lo)==items.size)=true then _ else _) _ _ s
 rw[HN hyes];unfold OW;show Hq (Hq (LJ ht.typeIs (Hy ?_)));rw[HN #v[]]
 exact Hq (Lm (Hq (Hy (Hy #[_,rfl,Hy h]))))
end
end HT
namespace Mi
open PySem PySem.Spec PyProof.Rows L2
abbrev r8 (x y:W)(S:aa):Hs (W×aa):=match x,y with
 | .tup xs,.int i=>(nz xs i).map λw=>(w,S)
 | .ref r,.int i=>match fm S r with
  | some xs=>(nz xs i).map λw=>(w,S)
  | none=>gV
 | .str x,.int i=>if x.length<=sizeLine then(nz x.cps.toList i).map λc=>(.str #[[c].toArray],S)else gV
 | _,_=>gV
abbrev fq (xs:Ho W)(lo hi:Hs HR):Ho W:=(xs.drop (HT.bu xs.length 0 lo)).take (HT.bu xs.length xs.length hi - HT.bu xs.length 0 lo)
abbrev jV (x:W)(lo hi:Hs HR)(S:aa):Hs (W×aa):=match x with
 | .tup xs=>ba (.tup (fq xs lo hi),S)
 | .ref r=>match fm S r with
  | some xs=>ba (.ref S.length,S++[.lst (fq xs lo hi)])
  | none=>gV
 | _=>gV
abbrev qX (o i v:W)(S:aa):Hs aa:=match o,i with
 | .ref r,.int k=>match lJ S r with
  | some xs=>match r6 xs.length k with
   | some j=>ba (S.set r (.lst (xs.set j v)))
   | none=>gV
  | none=>gV
 | _,_=>gV
section
variable (X:Cx)
abbrev LIx (g:W->W->aa->Hs (W×aa)):Prop:=
 ∀(value slice:HH) (J:Ho (Hv×Jg)) (s:Ht) (Y:L2.St) (H:Hp) (A:Ho Hv) (S:aa) (x y:W) (a b:V) (u v:Hr) (w:W) (S':aa),Inv X J Y H s->StoreOk X.w X.K A H S->
  Rel X.K A H x a->RelV a u->Rel X.K A H y b->RelV b v->g x y S=ba (w,S')->subscripted slice false u v=operate [u,v] (getItem u v)->wpAny (model X.prog X.w) X.A (subscriptTail value slice u v) (PostE X J Y A H S' w) X.xe s
abbrev LSl (g:W->Hs HR->Hs HR->aa->Hs (W×aa)):Prop:=
 ∀(J:Ho (Hv×Jg)) (s:Ht) (Y:L2.St) (H:Hp) (A:Ho Hv) (S:aa) (x:W) (a:V) (v vl vu:Hr) (lo hi:Hs HR) (sl:Hv) (w:W) (S':aa),Inv X J Y H s->StoreOk X.w X.K A H S->
  Rel X.K A H x a->RelV a v->s.heap.IsSliceOf sl vl vu .none->LP vl lo->LP vu hi->g x lo hi S=ba (w,S')->
  ∃T id,typeLookup (.type T) "__getitem__" = pure (ba (.builtin id))/\s.TypeIs v T/\wpAny (model X.prog X.w) X.A (getItem v (.ref sl)) (PostE X J Y A H S' w) X.xe s
abbrev LSet (g:W->W->W->aa->Hs aa):Prop:=
 ∀(J:Ho (Hv×Jg)) (s:Ht) (Y:L2.St) (H:Hp) (A:Ho Hv) (S:aa) (o i x:W) (ao ai ax:V) (uo ui ux:Hr) (S':aa),Inv X J Y H s->StoreOk X.w X.K A H S->
  Rel X.K A H o ao->RelV ao uo->Rel X.K A H i ai->RelV ai ui->Rel X.K A H x ax->RelV ax ux->g o i x S=ba S'->
  wpAny (model X.prog X.w) X.A (setItem uo ui ux) (λ_ s'=>∃H' A',Inv X J Y H' s'/\Ext X.K A H A' H'/\StoreOk X.w X.K A' H' S') X.xe s
abbrev LCall (f:Hr)(g:Ho W->aa->Hs (W×aa)):Prop:=
 ∀(J:Ho (Hv×Jg)) (s:Ht) (Y:L2.St) (H:Hp) (A:Ho Hv) (S:aa) (xs:Ho W) (vs:Ho V) (us:Ho Hr) (w:W) (S':aa),Inv X J Y H s->StoreOk X.w X.K A H S->
  RelL X.K A H xs vs->Vals vs us->g xs S=ba (w,S')->wpAny (model X.prog X.w) X.A (call f us) (PostE X J Y A H S' w) X.xe s
abbrev LMeth (id:Jb)(g:W->Ho W->aa->Hs (W×aa)):Prop:=
 ∀(J:Ho (Hv×Jg)) (s:Ht) (Y:L2.St) (H:Hp) (A:Ho Hv) (S:aa) (x:W) (a:V) (u:Hr) (xs:Ho W) (vs:Ho V) (us:Ho Hr) (w:W) (S':aa),Inv X J Y H s->StoreOk X.w X.K A H S->
  Rel X.K A H x a->RelV a u->RelL X.K A H xs vs->Vals vs us->g x xs S=ba (w,S')->wpAny (model X.prog X.w) X.A (call (.builtin id) (u::us)) (PostE X J Y A H S' w) X.xe s
end
section
variable{X:Cx}{J:Ho (Hv×Jg)}{Y:L2.St}{H:Hp}{s:Ht}{A:Ho Hv}{S:aa}
def IxR.go {r:R2}(h:IxR X r){S':aa}{w:W}{a b:V}{u v:Hr}{value slice:HH}(I:Inv X J Y H s)(ru:RelV a u)(rv:RelV b v)(q:r a b H (EndV X.w X.K A H S' w))(hs:subscripted slice false u v=operate [u,v] (getItem u v)) :
  wpAny (model X.prog X.w) X.A (subscriptTail value slice u v) (PostE X J Y A H S' w) X.xe s:=aG (h value slice J s Y H a b u v _ I ru rv q hs) λ_ _=>EP.post
def CallR.go {f:Hr}{r:Ho V->Hp->VK->Prop}(h:CallR X f r){S':aa}{w:W}{vs:Ho V}{us:Ho Hr}(I:Inv X J Y H s)(rv:Vals vs us)(q:r vs H (EndV X.w X.K A H S' w)) :
  wpAny (model X.prog X.w) X.A (call f us) (PostE X J Y A H S' w) X.xe s:=aG (h J s Y H vs us _ I rv q) λ_ _=>EP.post
def MtR.go {id:Jb}{r:V->Ho V->Hp->VK->Prop}(h:MtR X id r){S':aa}{w:W}{a:V}{u:Hr}{vs:Ho V}{us:Ho Hr}(I:Inv X J Y H s)(ru:RelV a u)(rv:Vals vs us)(q:r a vs H (EndV X.w X.K A H S' w)) :
  wpAny (model X.prog X.w) X.A (call (.builtin id) (u::us)) (PostE X J Y A H S' w) X.xe s:=aG (h J s Y H a vs u us _ I ru rv q) λ_ _=>EP.post
def pj {xs:Ho W}{vs:Ho V}{i:HR}{w:W}(r:RelL X.K A H xs vs)(e:nz xs i=ba w):∃v,nz vs i=ba v/\Rel X.K A H w v:=by
 unfold nz at e ⊢;rw[r.length]at e;cases q:r6 vs.length i with
 | none=>rw[q]at e; cases e
 | some j=>
  rw[q]at e;obtain⟨v,h1,h2⟩:=r.get (show xs[j]?=ba w from e)
  exact#[v,h1,h2]
def G7 (hu:X.A.units+10 < cLine):LIx X r8:=by
 intro value slice J s Y H A S x y a b u v w S' I so rx ru ry rv e hs;cases rx with
 | tup h1 r1=>cases ry with
  | int=>
   (dsimp only[r8]at e; simp only[Hx]at e)
   obtain⟨w',e1,e2⟩:=e;cases e2;obtain⟨z,h2,r2⟩:=pj r1 e1;exact IxR.go AB I ru rv #[_,_,_,_,rfl,rfl,h1,h2,.here so r2] hs
  | _=>cases e
 | ref ea=>cases ry with
  | int=>
   dsimp only[r8]at e;split at e
   ·rename_i ws hw;rw[Hx]at e;obtain⟨w',e1,e2⟩:=e;cases e2;obtain⟨vs,h1,r1⟩:=bC so hw ea;obtain⟨z,h2,r2⟩:=pj r1 e1;exact IxR.go wz I ru rv #[_,_,_,_,rfl,rfl,h1,h2,.here so r2] hs
   ·cases e
  | _=>cases e
 | str=>cases ry with
  | int=>
   dsimp only[r8]at e;split at e
   ·rw[Hx]at e;obtain⟨c,e1,e2⟩:=e;cases e2;exact IxR.go AC I ru rv #[_,_,_,rfl,rfl,by assumption,e1,.here so .str] hs
   ·cases e
  | _=>cases e
 | _=>cases ry <;> cases e
def kU {xs:Ho W}{vs:Ho V}{lo hi:Hs HR}(r:RelL X.K A H xs vs):RelL X.K A H (fq xs lo hi) (iF vs lo hi):=by
 unfold fq iF;rw[r.length];exact(r.drop _).take _
def xw:C6 X (λx lo hi H Q=>∃a xs,x=.ref a/\SqT X.K H a xs/\(iF xs lo hi=xs->Q (.ref a) H)/\∀p,H p=gV->Q (.ref p) (aA H p (.tup (iF xs lo hi)))):=by
 intro J s Y H x v vl vu lo hi sl Q I rx hs pl pu h;obtain⟨a,xs,rfl,hx,q0,q⟩:=h
 by_cases hw:(HT.bu xs.length 0 lo=0/\HT.bu xs.length xs.length hi=xs.length)
 ·cases rx;obtain⟨its,r,ht,hz⟩:=I.tuple hx;have hlen:its.toArray.size=xs.length:=by rw[HE]; exact r.length.symm
  show#["tuple",_,PyProof.Rows.slot_tuple_getitem.lookup,ht.typeIs,?_];show HT.eN ht hs pl pu (by rw[hlen]; exact hw) #[.ref a,H,I,rfl,q0 ?_]
  unfold iF;rw[hw.1,hw.2];simp
 ·exact AA J s Y H (.ref a) v vl vu lo hi sl Q I rx hs pl pu #[a,xs,rfl,hx,hw,q]
def G8:LSl X jV:=by
 intro J s Y H A S x a v vl vu lo hi sl w S' I so rx rv hs pl pu e;cases rx with
 | tup h1 r1=>
  cases e;obtain⟨T,id,z1,z2,z3⟩:=xw J s Y H _ v vl vu lo hi sl (EndV X.w X.K A H S (.tup (fq _ lo hi))) I rv hs pl pu #[_,_,rfl,h1,λq=>.here so (.tup h1 (by have:=kU (lo:=lo) (hi:=hi) r1; rw[q]at this; exact this)),λp hp=>.tup so (kU r1) hp]
  exact#[T,id,z1,z2,aG z3 λ_ _=>EP.post]
 | ref ea=>
  dsimp only[jV]at e;split at e
  ·rename_i ws hw;cases e;obtain⟨vs,h1,r1⟩:=bC so hw ea;obtain⟨T,id,z1,z2,z3⟩:=wD J s Y H _ v vl vu lo hi sl (EndV X.w X.K A H (S++[.lst (fq ws lo hi)]) (.ref S.length)) I rv hs pl pu #[_,_,rfl,h1,λp hp=>.lst so (kU r1) hp]
   exact#[T,id,z1,z2,aG z3 λ_ _=>EP.post]
  ·cases e
 | _=>cases e
def lset (hu:X.A.units+10 < cLine):LSet X qX:=by
 intro J s Y H A S o i x ao ai ax uo ui ux S' I so ro ruo ri rui rx rux e;cases ro with
 | ref ea=>cases ri with
  | int=>
   dsimp only[qX]at e;split at e
   ·rename_i ws hw;split at e
    ·rename_i j hj;cases e;obtain⟨vs,h1,r1⟩:=cH so hw ea;rw[r1.length]at hj;obtain⟨so',ex⟩:=so.write (iK hw) ea (r1.set rx j);exact aG (sJ J s Y H _ _ _ uo ui ux (λH'=>H'=aA H _ (.lst (vs.set j ax))) I ruo rui rux #[_,_,_,_,rfl,rfl,h1,hj,rfl]) λ_ s' #[H',I',e']=>#[_,A,e' ▸ I',ex,so']
    ·cases e
   ·cases e
  | _=>cases e
 | _=>cases ri <;> cases e
abbrev nU (xs:Ho W)(S:aa):Hs (W×aa):=match xs with
 | [.tup ys]=>ba (.int ys.length,S)
 | [.str y]=>if y.length<=sizeLine then ba (.int y.length,S)else gV
 | [.ref i]=>(fm S i).map λys=>(.int ys.length,S)
 | _=>gV
def qY:LCall X (.builtin "len") nU:=by
 intro J s Y H A S xs vs us w S' I so rl rv e;cases rl with
 | nil=>cases e
 | cons r t=>
  cases t with
  | cons _ _=>cases r <;> cases e
  | nil=>
   cases r with
   | tup h1 r1=>cases e; rw[r1.length]; exact CallR.go iC I rv #[_,_,rfl,.inr #[_,h1,rfl],.here so .int]
   | str=>
    dsimp only[nU]at e;split at e
    ·cases e; exact CallR.go iC I rv #[_,_,rfl,#[by assumption,rfl],.here so .int]
    ·cases e
   | ref ea=>
    (dsimp only[nU]at e; simp only[Hx]at e)
    obtain⟨ws,hw,e2⟩:=e;cases e2;obtain⟨vs',h1,r1⟩:=bC so hw ea;rw[r1.length];exact CallR.go iC I rv #[_,_,rfl,.inl #[_,h1,rfl],.here so .int]
   | _=>cases e
abbrev fK (xs:Ho W)(S:aa):Hs (W×aa):=match xs with
 | [x]=>match eT S x with
  | some ys=>ba (.ref S.length,S++[.lst ys])
  | none=>gV
 | _=>gV
def ft:LCall X (.type "list") fK:=by
 intro J s Y H A S xs vs us w S' I so rl rv e;cases rl with
 | nil=>cases e
 | cons r t=>
  cases t with
  | cons _ _=>cases e
  | nil=>
   dsimp only[fK]at e;split at e
   ·rename_i ys hy;cases e;obtain⟨p,vs',rfl,hq,r1⟩:=kR (J:=J) (Y:=Y) (s:=s) so r hy;exact CallR.go kM I rv #[p,vs',rfl,hq,λl hl=>.lst so r1 hl]
   ·cases e
abbrev iM (xs:Ho W)(S:aa):Hs (W×aa):=match xs with
 | [.tup ys]=>ba (.tup ys,S)
 | [.ref i]=>match fm S i with
  | some ys=>ba (.tup ys,S)
  | none=>gV
 | _=>gV
def gS:LCall X (.type "tuple") iM:=by
 intro J s Y H A S xs vs us w S' I so rl rv e;cases rl with
 | nil=>cases e
 | cons r t=>
  cases t with
  | cons _ _=>cases r <;> cases e
  | nil=>
   cases r with
   | tup h1 r1=>cases e; exact CallR.go eR I rv #[_,_,rfl,.inr #[h1,.here so (.tup h1 r1)]]
   | ref ea=>
    dsimp only[iM]at e;split at e
    ·rename_i ys hy;cases e;obtain⟨vs',h1,r1⟩:=bC so hy ea;exact CallR.go eR I rv #[_,_,rfl,.inl #[h1,λl hl=>.tup so r1 hl]]
    ·cases e
   | _=>cases e
abbrev Dl (xs:Ho W)(S:aa):Hs (W×aa):=match xs with
 | [.int i]=>ba (.int i,S)
 | [.bl b]=>ba (.int (if b then 1 else 0),S)
 | _=>gV
def qZ:LCall X (.type "int") Dl:=by
 intro J s Y H A S xs vs us w S' I so rl rv e;cases rl with
 | nil=>cases e
 | cons r t=>
  cases t with
  | cons _ _=>cases r <;> cases e
  | nil=>
   cases r with
   | int=>cases e; exact CallR.go jJ I rv (.inl #[_,rfl,.here so .int])
   | bl=>cases e; exact CallR.go jJ I rv (.inr #[_,rfl,.here so .int])
   | _=>cases e
abbrev fL (x:W)(xs:Ho W)(S:aa):Hs (W×aa):=match x,xs with
 | .ref i,[y]=>match lJ S i with
  | some ys=>if ys.length < sizeLine then ba (.non,S.set i (.lst (ys++[y])))else gV
  | none=>gV
 | _,_=>gV
def gB {i:Hz}{p:Hv}{ws ws0:Ho W}{us:Ho V}(so:StoreOk X.w X.K A H S)(e:lJ S i=ba ws0)(ea:A[i]?=ba p)(r:RelL X.K A H ws us){w:W}{v:V}(rw':Rel X.K A H w v) :
  EndV X.w X.K A H (S.set i (.lst ws)) w v (aA H p (.lst us)):=by
 obtain⟨so',ex⟩:=so.write (iK e) ea r;exact#[A,ex,so',rw'.mono ex]
def kW:LMeth X "list.append" fL:=by
 intro J s Y H A S x a u xs vs us w S' I so rx ru rl rv e;cases rx with
 | ref ea=>
  cases rl with
  | nil=>cases e
  | cons r t=>
   cases t with
   | cons _ _=>cases e
   | nil=>
    dsimp only[fL]at e;split at e
    ·rename_i ys hy;split at e
     ·rename_i hl;cases e;obtain⟨vs',h1,r1⟩:=cH so hy ea;rw[r1.length]at hl;exact MtR.go qO I ru rv #[_,_,_,rfl,rfl,h1,hl,gB so hy ea (r1.append #v[r]) .non]
     ·cases e
    ·cases e
 | _=>cases e
abbrev kX (x:W)(xs:Ho W)(S:aa):Hs (W×aa):=match x,xs with
 | .ref i,[.ref j]=>match lJ S i,lJ S j with
  | some ys,ba zs=>if ys.length+zs.length<=sizeLine then ba (.non,S.set i (.lst (ys++zs)))else gV
  | _,_=>gV
 | _,_=>gV
def kY:LMeth X "list.extend" kX:=by
 intro J s Y H A S x a u xs vs us w S' I so rx ru rl rv e;cases rx with
 | ref ea=>
  cases rl with
  | nil=>cases e
  | cons r t=>
   cases t with
   | cons _ _=>cases r <;> cases e
   | nil=>
    cases r with
    | ref eb=>
     dsimp only[kX]at e;split at e
     ·rename_i ys zs hy hz;split at e
      ·rename_i hl;cases e;obtain⟨vs',h1,r1⟩:=cH so hy ea;obtain⟨vs2,h2,r2⟩:=cH so hz eb;rw[r1.length,r2.length]at hl;exact MtR.go qP I ru rv #[_,_,_,_,rfl,rfl,h1,h2,hl,gB so hy ea (r1.append r2) .non]
      ·cases e
     ·cases e
    | _=>cases e
 | _=>cases e
abbrev AO (x:W)(xs:Ho W)(S:aa):Hs (W×aa):=match x,xs with
 | .ref i,[.int k]=>match lJ S i with
  | some ys=>if -(2 ^ 63)<=k/\k < 2 ^ 63 then match seqIndex? k ys.length with
   | some j=>match ys[j]? with
    | some y=>ba (y,S.set i (.lst (ys.eraseIdx j)))
    | none=>gV
   | none=>gV
   else gV
  | none=>gV
 | _,_=>gV
def q8:LMeth X "list.pop" AO:=by
 intro J s Y H A S x a u xs vs us w S' I so rx ru rl rv e;cases rx with
 | ref ea=>
  cases rl with
  | nil=>cases e
  | cons r t=>
   cases t with
   | cons _ _=>cases r <;> cases e
   | nil=>
    cases r with
    | int=>
     dsimp only[AO]at e;split at e
     ·rename_i ys hy;split at e
      ·rename_i hk;split at e
       ·rename_i j hj;split at e
        ·rename_i y hyj;cases e;obtain⟨vs',h1,r1⟩:=cH so hy ea;obtain⟨v',h2,r2⟩:=r1.get hyj;rw[r1.length]at hj;exact MtR.go sM I ru rv #[_,_,_,_,_,rfl,rfl,h1,hk.1,hk.2,hj,h2,gB so hy ea (r1.eraseIdx j) r2]
        ·cases e
       ·cases e
      ·cases e
     ·cases e
    | _=>cases e
 | _=>cases e
abbrev gC:Ho W->Hs (Ho HC)
 | []=>ba []
 | .str x::xs=>(gC xs).map (x :: ·)
 | _::_=>gV
abbrev pk (x:W)(xs:Ho W)(S:aa):Hs (W×aa):=match x,xs with
 | .str x,[y]=>match eT S y with
  | some ys=>match gC ys with
   | some zs=>if (zs.map (·.length)).sum+zs.length*x.length<=16777216 then ba (.str (PN x zs),S)else gV
   | none=>gV
  | none=>gV
 | _,_=>gV
def iN:∀ {ws:Ho W} {vs:Ho V} {us:Ho Hr} {zs:Ho HC},RelL X.K A H ws vs->Vals vs us->gC ws=ba zs->StrsAre us zs
 | _,_,_,zs,.nil,.nil,e=>by cases e; exact .nil
 | _,_,_,zs,.cons r t,.cons q p,e=>by
  cases r with
  | str=>
   (dsimp only[gC]at e; simp only[Hx]at e)
   obtain⟨z,e1,e2⟩:=e;subst e2;obtain⟨tk,rfl⟩ : ∃t,_=Ll _ t:=q;exact .cons _ tk (iN t p e1)
  | _=>cases e
def nV:LMeth X "str.join" pk:=by
 intro J s Y H A S x a u xs vs us w S' I so rx ru rl rv e;cases rx with
 | str=>
  cases rl with
  | nil=>cases e
  | cons r t=>
   cases t with
   | cons _ _=>cases e
   | nil=>
    simp only[pk]at e;split at e
    ·rename_i ys hy;split at e
     ·rename_i zs hz;split at e
      ·rename_i hl;cases e;obtain⟨p,vs',rfl,hq,r1⟩:=kR (J:=J) (Y:=Y) (s:=s) so r hy;obtain⟨t0,rfl⟩ : ∃t,u=Ll _ t:=ru;obtain⟨u1,rfl,ru1⟩:=iB rv;have ru1':u1=HL p:=ru1;subst ru1';rcases hq with hq|hq
       ·obtain⟨its,rr,pl,hz'⟩:=I.list hq;exact join_list pl.isList (by simpa using iN r1 rr hz) hl λt' k=>#[.str _,H,A,I.tok _,#[_,rfl],.refl,so,.str]
       ·obtain⟨its,rr,pl,hz'⟩:=I.tuple hq;exact join_tuple pl (by simpa using iN r1 rr hz) hl λt' k=>#[.str _,H,A,I.tok _,#[_,rfl],.refl,so,.str]
      ·cases e
     ·cases e
    ·cases e
 | _=>cases e
abbrev b6 (S:aa):W->Hs HP
 | .non=>ba false
 | .bl b=>ba b
 | .int i=>ba (i != 0)
 | .str y=>if y.length<=sizeLine then ba ((y.length:HR) != 0)else gV
 | .tup xs=>ba (!xs.isEmpty)
 | .ref i=>(fm S i).map λxs=>!xs.isEmpty
def gT {ws:Ho W}{vs:Ho V}(r:RelL X.K A H ws vs):(!ws.isEmpty) = !vs.isEmpty:=by cases r <;> rfl
def F6 {x:W}{a:V}{u:Hr}{k:HP}{Q:HP->Ht->Prop}(I:Inv X J Y H s)(so:StoreOk X.w X.K A H S)(rx:Rel X.K A H x a)(ru:RelV a u)(e:b6 S x=ba k)(hq:∀s',Inv X J Y H s'->Q k s') :
  wpAny (model X.prog X.w) X.A (truthy u) Q X.xe s:=by
 show aG (Ax J s Y H a u (λb H'=>b=k/\H'=H) I ru #[k,?_,rfl,rfl]) λb s' #[H',I',e1,e2]=>?_
 ·cases rx with
  | non=>cases e; rfl
  | bl=>cases e; rfl
  | int=>cases e; rfl
  | str=>
   simp only[b6]at e;split at e
   ·cases e; exact#[by assumption,rfl]
   ·cases e
  | tup h1 r1=>cases e; exact .inr (.inl #[_,h1,gT r1])
  | ref ea=>
   simp only[b6,Hx]at e;obtain⟨ws,hw,e2⟩:=e;subst e2;obtain⟨vs,h1,r1⟩:=bC so hw ea;exact .inl #[_,h1,gT r1]
 ·subst e1 e2;exact hq s' I'
end
abbrev AQ (S:aa)(i:Hz):Hs (HR×HR):=match S[i]? with
 | some (.rng lo hi)=>ba (lo,hi)
 | _=>gV
abbrev nW (xs:Ho W)(S:aa):Hs (W×aa):=match xs with
 | [.int j]=>if -(2 ^ 62)<=j/\j < 2 ^ 62 then ba (.ref S.length,S++[.rng 0 j])else gV
 | _=>gV
abbrev Dm (lo:HR)(n:Hz):Ho W:=(IJ n).map λ(k:Hz)=>.int (lo+(k:HR))
abbrev lX (xs:Ho W)(S:aa):Hs (W×aa):=match xs with
 | [.ref i]=>match AQ S i with
  | some (lo,hi)=>if -(2 ^ 62)<=lo/\lo < 2 ^ 62/\-(2 ^ 62)<=hi/\hi < 2 ^ 62/\(hi - lo).toNat<=sizeLine then ba (.ref S.length,S++[.lst (Dm lo (hi - lo).toNat)])else gV
  | none=>fK [.ref i] S
 | xs=>fK xs S
section
variable{X:Cx}{J:Ho (Hv×Jg)}{Y:L2.St}{H:Hp}{s:Ht}{A:Ho Hv}{S:aa}
def Inv.drawn (I:Inv X J Y H s)(d:Py):Inv X J Y H { s with drawn:=d }:=#[I.ok,I.os,I.bare,I.base,I.loc,I.cell,I.free,I.freeC,I.pin,I.hok,I.len]
def lY {h':Ii}{tk:Hz}{dr:Py}{D:Hv}{n:O}{u:HO}(I:Inv X J Y H s)(so:StoreOk X.w X.K A H S)(hk:∀b o,s.heap.get? b=ba o->h'.get? b=ba o)(hD:s.heap.objs.size<=D)(new:ObjOk X.prog X.w (aA H D u) h' D u)
  (r:H D=gV->ObjRel X.w X.K (A++[D]) (aA H D u) D n):PostE X J Y A H (S++[n]) (.ref S.length) (.ref D) { s with heap:=h',toks:=tk,drawn:=dr }:=by
 have hn:H D=gV:=I.hok.fresh hD;show#[.ref D,_,A++[D],Mi.Inv.drawn (I.laid (a:=D) (o:=u) (t':=tk) hk hD new) dr,rfl,cm hn,so.pushO hn (r hn),.ref ?_];rw[<- so.len]; simp
def kZ:∀ {vs:Ho V} {us:Ho Hr},vs.length=us.length->(∀(i:Hz) v u,vs[i]?=ba v->us[i]?=ba u->L2.RelV v u)->Vals vs us
 | [],[],_,_=>.nil
 | v::vs,u::us,hl,h=>.cons (h 0 v u rfl rfl) (kZ (by simpa using hl) λi v u a b=>h (i+1) v u (by simpa using a) (by simpa using b))
 | [],_::_,hl,_=>by cases hl
 | _::_,[],hl,_=>by cases hl
def la {K:HA}{lo:HR}:∀(l:Ho Hz),RelL K A H (l.map λ(k:Hz)=>W.int (lo+(k:HR))) (l.map λ(k:Hz)=>V.int (lo+(k:HR)))
 | []=>.nil
 | _::l=>.cons .int (la l)
def po {xs:Ho W}{vs:Ho V}{us:Ho Hr}{i:Hz}(rl:RelL X.K A H [.ref i] vs)(rv:Vals vs us):∃a,A[i]?=ba a/\us=[.ref a]:=by
 cases rl with
 | cons r t=>
  cases t;cases r with
  | @ref _ a ea=>
   cases rv with
   | cons ru rv=>
    cases rv;obtain rfl:_=HL a:=ru;exact#[a,ea,rfl]
def lZ:LCall X (.type "range") nW:=by
 intro J s Y H A S xs vs us w S' I so rl rv e;unfold nW at e;split at e
 ·rename_i j;split at e
  ·rename_i hb;cases e;cases rl with
   | cons r t=>
    cases t;cases r;cases rv with
    | cons ru rv=>
     cases rv;obtain⟨tk,rfl⟩:=ru;exact Po (lY (dr:=s.drawn) (u:=.rng 0 j) I so (λb o e=>Hw _ e) (HJ _) #[_,_,_,HG _ rfl] λ_=>ak)
  ·cases e
 ·cases e
def l3 (hh:X.A.handled=gV):LCall X (.type "list") lX:=by
 intro J s Y H A S xs vs us w S' I so rl rv e;unfold lX at e;split at e
 ·rename_i i;split at e
  ·rename_i lo hi hr;split at e
   ·rename_i hb;cases e;obtain⟨a,ea,rfl⟩:=po (xs:=[]) rl rv;obtain⟨b1,b2,b3,b4,b5⟩:=hb;have hH:H a=ba (.rng lo hi):=by
     unfold AQ at hr;split at hr
     ·rename_i hx; cases hr; exact so.obj i _ a hx ea
     ·cases hr
    obtain⟨t,u,v,ho⟩:=I.hok a _ hH;have hn:JI lo hi 1=((hi - lo).toNat:Hz):=by rw[Nn]; split <;> omega
    show call_list_range hh ho (Pl b1 b2 b3 b4) hn b5 λh' tk acc c hk hD hacc=>?_
    have hv:Vals ((IJ (hi - lo).toNat).map λ(k:Hz)=>V.int (lo+(k:HR))) acc.toList:=by
     show kZ (by rw[HB,Kk,Ip,hacc.1]) λi v u e1 e2=>?_
     rw[HQ,Hx]at e1;obtain⟨k,e1,rfl⟩:=e1;obtain⟨hk,rfl⟩:=HD.mp e1;obtain⟨t,rfl⟩:=hacc.2 i u (by rw[<- Jy]; exact e2)
     exact#[t,by simp]
    show lY (dr:=s.drawn) (u:=.lst ((IJ (hi - lo).toNat).map λ(k:Hz)=>V.int (lo+(k:HR)))) I so hk (HJ _) #[by simpa using b5,acc.toList,c,hv,by simpa using hD] λhn=>#[_,ak,?_]
    exact la _
   ·cases e
  ·exact ft J s Y H A S _ vs us w S' I so rl rv e
 ·exact ft J s Y H A S _ vs us w S' I so rl rv e
end
mutual
inductive IsT (h:Ii):T->Hr->Prop
 | int {i:HR} {t:Qk}:IsT h (.int i) (.int i t)
 | str {x:HC} {t:Qk}:IsT h (.str x) (.str x t)
 | tup {ks:Ho T} {a:Hv} {o:Jg} {items:Iu Hr} {n:Hz}:h.get? a=ba o->o.cls=.type "tuple"->o.data=.seq items n->IsTs h ks items.toList->IsT h (.tup ks) (.ref a)
inductive IsTs (h:Ii):Ho T->Ho Hr->Prop
 | nil:IsTs h [] []
 | cons {k:T} {v:Hr} {ks:Ho T} {vs:Ho Hr}:IsT h k v->IsTs h ks vs->IsTs h (k::ks) (v::vs)
end
mutual
theorem IsT.inj {h:Ii}:∀ {x y:T} {v:Hr},IsT h x v->IsT h y v->x=y
 | _,_,_,.int,h2=>by cases h2; rfl
 | _,_,_,.str,h2=>by cases h2; rfl
 | _,_,_,.tup a1 _ d1 t1,h2=>by
  cases h2 with
  | tup a2 _ d2 t2=>
   rw[a1]at a2; cases a2
   rw[d1]at d2; cases d2
   rw[IsTs.inj t1 t2]
theorem IsTs.inj {h:Ii}:∀ {x y:Ho T} {v:Ho Hr},IsTs h x v->IsTs h y v->x=y
 | _,_,_,.nil,h2=>by cases h2; rfl
 | _,_,_,.cons a b,h2=>by
  cases h2 with
  | cons c d=>rw[IsT.inj a c,IsTs.inj b d]
end
mutual
theorem IsT.keeps {h h':Ii}{d:Hv}{o:Jg}{es:Iu JZ}{ep:Hz}(ho:h.get? d=ba o)(hd:o.data=.dict es ep)(hs:Ki d h h'):∀ {x:T} {v:Hr},IsT h x v->IsT h' x v
 | _,_,.int=>.int
 | _,_,.str=>.str
 | _,_,.tup (a:=a) a1 c1 d1 t1=>by
  have hne:a≠d:=by
   rintro rfl;rw[a1]at ho; cases ho
   rw[d1]at hd; cases hd
  exact .tup ((hs.2 a hne).trans a1) c1 d1 (IsTs.keeps ho hd hs t1)
theorem IsTs.keeps {h h':Ii}{d:Hv}{o:Jg}{es:Iu JZ}{ep:Hz}(ho:h.get? d=ba o)(hd:o.data=.dict es ep)(hs:Ki d h h'):∀ {x:Ho T} {v:Ho Hr},IsTs h x v->IsTs h' x v
 | _,_,.nil=>.nil
 | _,_,.cons a b=>.cons (IsT.keeps ho hd hs a) (IsTs.keeps ho hd hs b)
end
def IsTs.length {h:Ii}:∀ {x:Ho T} {v:Ho Hr},IsTs h x v->x.length=v.length
 | _,_,.nil=>rfl
 | _,_,.cons _ b=>by simp[IsTs.length b]
def IsTs.get {h:Ii}:∀ {x:Ho T} {v:Ho Hr},IsTs h x v->∀(j:Hz) (h1:j < x.length) (h2:j < v.length),IsT h x[j] v[j]
 | _,_,.cons a _,0,_,_=>a
 | _,_,.cons _ b,j+1,h1,h2=>IsTs.get b j (by simpa using h1) (by simpa using h2)
def cq:∀ {ks:Ho T} (j:Hz) (h:j < ks.length),(ks[j]).depth<=T.depths ks
 | k::ks,0,_=>by simp only[T.depths,List.getElem_cons_zero]; omega
 | k::ks,j+1,h=>by
  have:=cq (ks:=ks) j (by simpa using h)
  simp only[T.depths,List.getElem_cons_succ]; omega
section
variable{prog:HM}{w:HX}{E:Hr->Ht->Prop}
mutual
theorem l4:∀(k:T) (v:Hr) (A:HW) (s:Ht) (Q:HR->Ht->Prop),IsT s.heap k v->A.units+k.depth < cLine->Q (lS w k) { s with toks:=s.toks+k.draws }->wpAny (model prog w) A (pyHash v) Q E s
 | .int i,_,A,s,Q,x,_,h=>by cases x; exact Oa h
 | .str y,_,A,s,Q,x,_,h=>by cases x; exact Ob h
 | .tup ks,_,A,s,Q,x,hu,h=>by
  cases x with
  | @tup _ a o items n hg hc hd hw=>
   simp only[T.depth]at hu;show PySem.W.pyHash_slot (T:="tuple") #[_,hg,hc] F.slot_tuple_hash F.entry_tuple_hash (F.args_tuple_hash_1 _) (beq_builtin_none _) (.inr ∅) ?_
   change wpAny _ _ (KN (.ref a) >>= _) _ _ s;show Hq (wpAny_tupleItemsOf hg hd ?_);show Hq ?_;rw[<- NC];show iO ks items.toList A.in1 s #[] _ hw (by rw[aH]; omega) λb hb=>?_
   change wpAny _ _ (retInt (L8 b.toList)) _ _ _;rw[hb];show Hq (Oy (Hy #[_,_,rfl,?_]))
   simpa [T.draws,Pe,lS]using h
theorem iO:∀(ks:Ho T) (vs:Ho Hr) (A:HW) (s:Ht) (b:Iu HR) (Q:Iu HR->Ht->Prop),IsTs s.heap ks vs->A.units+T.depths ks < cLine->
  (∀b',b'.toList=b.toList++iJ w ks->Q b' { s with toks:=s.toks+T.drawss ks })->
  wpAny (model prog w) A (forIn vs b λx r=>do let h <- pyHash x; pure ND; pure (JF (r.push h))) Q E s
 | [],_,A,s,b,Q,x,_,h=>by cases x; exact Hy (h b (by simp[iJ]))
 | k::ks,_,A,s,b,Q,x,hu,h=>by
  cases x with
  | cons x1 x2=>
   simp only[T.depths]at hu;rw[Lz];show Hq (Hq (l4 k _ A s _ x1 ∅ ?_))
   show Hq (Hy (Hy ?_));show iO ks _ A _ _ Q x2 ∅ λb' hb=>?_
   have:=h b' (by simp[hb,iJ])
   simpa [T.drawss,Pe]using this
end
open SeqAt in
def q9:∀(d:Hz) (x y:T) (u v:Hr) (B:HW) (s:Ht),x.depth<=d->IsT s.heap x u->IsT s.heap y v->B.units+d < cLine->B.units+y.depth < cLine->EqAt B s u v (decide (x=y))
 | d,.int i,y,_,_,B,s,_,h1,h2,hu,hv=>by
  cases h1;cases h2 with
  | int=>
   rename_i j t2;have:decide (T.int i=T.int j)=(i==j):=by by_cases e:i=j <;> simp[e]
   rw[this]; exact .int_int _ _ _ _
  | str=>rw[Ik (by simp)]; exact .int_str _ _ _ _
  | tup a c dd t=>rw[Ik (by simp)]; exact .int_tuple _ _ #[_,a,c,_,dd] (by simp only[T.depth]at hv; omega)
 | d,.str z,y,_,_,B,s,_,h1,h2,hu,hv=>by
  cases h1;cases h2 with
  | int=>rw[Ik (by simp)]; exact .str_int _ _ _ _
  | str=>
   rename_i z2 t2;have:decide (T.str z=T.str z2)=(z==z2):=by by_cases e:z=z2 <;> simp[e]
   rw[this]; exact .str_str _ _ _ _
  | tup a c dd t=>rw[Ik (by simp)]; exact .str_tuple _ _ #[_,a,c,_,dd] (by simp only[T.depth]at hv; omega)
 | 0,.tup ks,y,_,_,B,s,hd,h1,h2,hu,hv=>by simp[T.depth]at hd
 | d+1,.tup ks,y,_,_,B,s,hd,h1,h2,hu,hv=>by
  have h1':=h1;cases h1 with
  | @tup _ a o items n a1 c1 d1 t1=>
   have hT:s.heap.IsTuple a items:=#[_,a1,c1,_,d1];simp only[T.depth]at hd;cases h2 with
   | int=>rw[Ik (by simp)]; exact .tuple_int _ _ hT ∅
   | str=>rw[Ik (by simp)]; exact .tuple_str _ _ hT ∅
   | @tup ks2 b o2 items2 n2 a2 c2 d2 t2=>
    have hT2:s.heap.IsTuple b items2:=#[_,a2,c2,_,d2]
    by_cases hab:a=b
    ·subst hab;have:T.tup ks=T.tup ks2:=h1'.inj (.tup a2 c2 d2 t2);rw[Ji this];exact EqAt.same _
    ·show EqAt.of_refs hab ?_;simp only[T.depth]at hv;have l1:items.size=ks.length:=by rw[<- Ip,t1.length]
     have l2:items2.size=ks2.length:=by rw[<- Ip,t2.length]
     let e:Hz->HP:=λj=>if h:j < ks.length/\j < ks2.length then decide (ks[j]'h.1=ks2[j]'h.2)else true
     have he:∀j (h1:j < items.size) (h2:j < items2.size),EqAt B.in1 s items[j] items2[j] (e j):=λj j1 j2=>by
      have g1:=t1.get j (l1 ▸ j1) (by simpa using j1)
      have g2:=t2.get j (l2 ▸ j2) (by simpa using j2)
      have q1:=cq (ks:=ks) j (l1 ▸ j1);have q2:=cq (ks:=ks2) j (l2 ▸ j2);have:=q9 d _ _ _ _ B.in1 s ∅ g1 g2 (by rw[aH]; omega) (by rw[aH]; omega)
      change EqAt B.in1 s items[j] items2[j] (if h:j < ks.length/\j < ks2.length then decide (ks[j]'h.1=ks2[j]'h.2)else true)
      rw[Qe #[l1 ▸ j1,l2 ▸ j2]]
      simpa using this
     have:=RcAt.tuples hT hT2 ∅ he
     have hk:((IJ (min items.size items2.size)).all e&&items.size==items2.size)=decide (T.tup ks=T.tup ks2):=by
      rw[l1,l2]
      by_cases hl:ks.length=ks2.length
      ·by_cases hq:ks=ks2
       ·subst hq;simp only[Ps,IP,Mn,decide_true,Ih,Jp];intro j hj;show(if h:j < ks.length/\j < ks.length then decide (ks[j]'h.1=ks[j]'h.2)else true)=true
        rw[Qe #[hj,hj]]; simp
       ·rw[Ik (by simpa using hq)]
        have:∃j,∃h:j < ks.length,ks[j]≠ks2[j]'(hl ▸ h):=by
         apply KS;intro hn;exact hq (Oo hl λj h1 h2=>KS λz=>hn #[j,h1,z])
        obtain⟨j,hj,hne⟩:=this;rw[Lk];apply Or.inl;rw[List.all_eq_false];show#[j,by rw[Jp,<- hl,Ps]; exact hj,?_]
        show ¬ (if h:j < ks.length/\j < ks2.length then decide (ks[j]'h.1=ks2[j]'h.2)else true)=true
        rw[Qe #[hj,hl ▸ hj]]
        simpa using hne
      ·rw[Ik (by simp; intro z; exact hl (by rw[z])),Lk]
       right
       simpa using hl
     rw[hk]at this;exact this
def jW {n:Hz}{v:Hr}(h:∀a,v≠.ref a):eqIsQuiet n v=pure true:=by
 cases v with
 | ref a=>exact absurd rfl (h a)
 | _=>first|rfl|simp[eqIsQuiet]|(unfold eqIsQuiet; rfl)
def pq:∀(d:Hz) (k:T) (v:Hr) (A:HW) (s:Ht) (Q:HP->Ht->Prop),k.depth<=d->IsT s.heap k v->Q true s->wpAny (model prog w) A (eqIsQuiet d v) Q E s
 | d,.int i,_,A,s,Q,_,x,h=>by cases x; rw[jW (λa=>by simp)]; exact Hy h
 | d,.str i,_,A,s,Q,_,x,h=>by cases x; rw[jW (λa=>by simp)]; exact Hy h
 | 0,.tup ks,_,A,s,Q,hd,x,h=>by simp[T.depth]at hd
 | d+1,.tup ks,_,A,s,Q,hd,x,h=>by
  cases x with
  | @tup _ a o items n ho hc hdt hi=>
   simp only[T.depth]at hd;have hT:s.TypeIs (.ref a) "tuple":=#[_,ho,hc];unfold eqIsQuiet;show Hq (wpAny_specialOf hT F.slot_tuple_eq.lookup ?_);change wpAny _ _ (isInstance (.ref a) (.type "tuple") >>= _) _ _ s;show Hq (Mt hT isSubtype_tuple_tuple ?_);simp only[Ls,IK,JQ];show Hq (KP ho hdt ?_);show Hq ?_;change wpAny _ _ (forIn items _ _) _ _ s;rw[<- NC];show On _ (λau r s'=>r.1=gV/\s'=s/\∃kk,IsTs s.heap kk au/\T.depths kk<=d) _ ?_ ?_ _ _ #[rfl,rfl,ks,hi,∅]
   ·rintro v au r s' ⟨hr,rfl,kk,hall,hdk⟩;cases hall with
    | cons q1 q2=>
     simp only[T.depths]at hdk;show Hq (pq d _ v _ _ _ ∅ q1 ?_)
     simp only[Ls,IK,JQ];exact Hy #[rfl,rfl,_,q2,∅]
   ·rintro⟨r1,r2⟩ s' ⟨hr,rfl,_⟩;simp only at hr;subst hr;exact Hy h
end
abbrev bJ (prog:HM)(w:HX):HeapKind prog w T where
 is:=λh k a=>IsT h k (.ref a)/\k.depth<=aI
 hash:=lS w
 draws:=T.draws
 room:=λA=>A.units+aI < cLine
 inj:=λhx hy=>hx.1.inj hy.1
 keeps:=λx ho hd hs=>#[x.1.keeps ho hd hs,x.2]
 pyHash:=λhu hk h=>l4 _ _ _ _ _ hk.1 (by have:=hk.2; omega) h
 eqBool:=λhu hx hy h=>q9 aI _ _ _ _ _ _ hx.2 hx.1 hy.1 hu (by have:=hy.2; omega) _ _ _ _ h
 quiet:=λhk h=>pq 8 _ _ _ _ _ (by have:=hk.2; unfold aI at this; omega) hk.1 h
abbrev jA (S:aa)(i:Hz):Hs (Ho (T×W)):=match S[i]? with
 | some (.dic U)=>ba U
 | some (.frd U)=>ba U
 | _=>gV
abbrev l5 (S:aa)(i:Hz):Hs (Ho (T×W)):=match S[i]? with
 | some (.dic U)=>ba U
 | _=>gV
abbrev cJ (U:Ho (T×W))(k:T):Hs W:=(U.find? λp=>decide (p.1=k)).map (·.2)
abbrev fu (U:Ho (T×W))(k:T)(v:W):Ho (T×W):=
 if (U.any λp=>decide (p.1=k))=true then U.map (λp=>if p.1=k then(p.1,v)else p)else U++[(k,v)]
abbrev g7 (w:W):Hs T:=match W.t w with
 | some k=>if k.isTup=true/\k.depth<=aI then ba k else gV
 | none=>gV
def cf {w:W}{k:T}(h:g7 w=ba k):k.w=w/\k.isTup=true/\k.depth<=aI:=by
 unfold g7 at h;split at h
 ·rename_i k' hk;split at h
  ·rename_i hc;cases h;exact#[W.t_w hk,hc.1,hc.2]
  ·cases h
 ·cases h
def dW (U:Ho (T×W))(k:T)(v:W):(fu U k v).length<=U.length+1:=by
 unfold fu;split
 ·rw[HB]; omega
 ·rw[HK,IU,JE]; omega
section
variable{X:Cx}{J:Ho (Hv×Jg)}{Y:L2.St}{H:Hp}{s:Ht}{A:Ho Hv}{S:aa}
mutual
theorem lb (I:Inv X J Y H s):∀(k:T) {v:V} {u:Hr},Rel X.K A H k.w v->RelV v u->IsT s.heap k u
 | .int i,_,_,r,q=>by
  cases r;obtain⟨t,rfl⟩ : ∃t,_=Mr _ t:=q;exact .int
 | .str x,_,_,r,q=>by
  cases r;obtain⟨t,rfl⟩ : ∃t,_=Ll _ t:=q;exact .str
 | .tup ks,_,_,r,q=>by
  simp only[T.w]at r;cases r with
  | tup sq rl=>
   obtain⟨its,rv,⟨o,h1,h2,n,h3⟩,hz⟩:=I.tuple sq;obtain rfl:_=HL _:=q;exact .tup h1 h2 h3 (eG I ks rl (by simpa using rv))
theorem eG (I:Inv X J Y H s):∀(ks:Ho T) {vs:Ho V} {us:Ho Hr},RelL X.K A H (T.ws ks) vs->Vals vs us->IsTs s.heap ks us
 | [],_,_,r,q=>by
  simp only[T.ws]at r;cases r; cases q; exact .nil
 | k::ks,_,_,r,q=>by
  simp only[T.ws]at r;cases r with
  | cons r1 r2=>
   cases q with
   | cons q1 q2=>exact .cons (lb I k r1 q1) (eG I ks r2 q2)
end
def gE (I:Inv X J Y H s){k:T}{b:Hv}(r:Rel X.K A H k.w (.ref b))(hd:k.depth<=aI):(bJ X.prog X.w).is s.heap k b:=#[lb I k r rfl,hd]
def fM {w:W}{k:T}{v:V}{u:Hr}(hk:g7 w=ba k)(r:Rel X.K A H w v)(q:RelV v u):∃b,v=.ref b/\u=.ref b/\Rel X.K A H k.w (.ref b):=by
 obtain⟨h1,h2,h3⟩:=cf hk;subst h1;cases k with
 | tup ks=>
  simp only[T.w]at r;cases r with
  | tup a b=>exact#[_,rfl,q,by simp only[T.w]; exact .tup a b]
 | _=>cases h2
def KRel.is {U:Ho (T×W)}{xs:Ho (T×Hv×Hr)}(I:Inv X J Y H s)(r:KRel X.K A H U xs):∀x∈xs,(bJ X.prog X.w).is s.heap x.1 x.2.1:=by
 unfold KRel at r
 induction r with
 | nil=>intro x hx; exact nomatch hx
 | @cons p q ps qs h t ih=>
  intro x hx;rcases Ij.mp hx with e|hx
  ·subst e;obtain⟨h1,h2,h3,h4,_⟩:=h;rw[h1]at h3 h4;exact gE I h4 h3
  ·exact ih x hx
def KRel.length {U:Ho (T×W)}{xs:Ho (T×Hv×Hr)}(r:KRel X.K A H U xs):U.length=xs.length:=Ml r
def KRel.val {U:Ho (T×W)}{xs:Ho (T×Hv×Hr)}(r:KRel X.K A H U xs)(k:T) :
  (∀w,cJ U k=ba w->∃p v,atKey xs k=ba p/\Rel X.K A H w v/\RelV v p.2)/\(cJ U k=gV->atKey xs k=gV):=by
 unfold KRel at r
 induction r with
 | nil=>exact#[λw h=>(nomatch h),λ_=>rfl]
 | @cons p q ps qs h t ih=>
  obtain⟨h1,_,_,_,v,h5,h6⟩:=h
  by_cases e:p.1=k
  ·have e':q.1=k:=h1.symm.trans e;have a1:cJ (p::ps) k=ba p.2:=by simp[cJ,Kz,e]
   have a2:atKey (q::qs) k=ba q.2:=by simp[atKey,Kz,e']
   rw[a1,a2];exact#[λw hw=>(by cases hw; exact#[_,v,rfl,h5,h6]),λh=>nomatch h]
  ·have e':¬ q.1=k:=λz=>e (h1.trans z)
   have a1:cJ (p::ps) k=cJ ps k:=by simp[cJ,Kz,e]
   have a2:atKey (q::qs) k=atKey qs k:=by simp[atKey,Kz,e']
   rw[a1,a2];exact ih
def KRel.repl {U:Ho (T×W)}{xs:Ho (T×Hv×Hr)}(r:KRel X.K A H U xs)(k:T){w:W}{v:V}{u:Hr}(rw':Rel X.K A H w v)(rv:RelV v u) :
  KRel X.K A H (U.map λp=>if p.1=k then(p.1,w)else p) (xs.map (putAt k u)):=by
 unfold KRel at r ⊢
 induction r with
 | nil=>exact .nil
 | @cons p q ps qs h t ih=>
  rw[IT,IT];show .cons ?_ ih;obtain⟨h1,h2,h3,h4,h5⟩:=h;unfold putAt
  by_cases e:p.1=k
  ·rw[HN e,HN (h1.symm.trans e)]; exact#[h1,h2,h3,h4,v,rw',rv]
  ·rw[HY e,HY (λz=>e (h1.trans z))]; exact#[h1,h2,h3,h4,h5]
def l6 (k:T):∀U:Ho (T×W),(U.any λp=>decide (p.1=k))=(cJ U k).isSome
 | []=>rfl
 | p::r=>by
  rw[JB]
  by_cases e:p.1=k
  ·have a1:cJ (p::r) k=ba p.2:=by simp[cJ,Kz,e]
   rw[a1,Ji e]; rfl
  ·have a1:cJ (p::r) k=cJ r k:=by simp[cJ,Kz,e]
   rw[a1,Ik e,Mo]; exact l6 k r
def KRel.put {U:Ho (T×W)}{xs:Ho (T×Hv×Hr)}(r:KRel X.K A H U xs){k:T}{b:Hv}{w:W}{v:V}{u:Hr}(h1:k.isTup=true)(h2:k.depth<=aI)(h3:Rel X.K A H k.w (.ref b))(rw':Rel X.K A H w v)(rv:RelV v u) :
  KRel X.K A H (fu U k w) (storedH xs k b u):=by
 have e:(U.any λp=>decide (p.1=k))=(atKey xs k).isSome:=by
  rw[l6];cases q:cJ U k with
  | none=>rw[(r.val k).2 q]; rfl
  | some x=>obtain⟨p,_,h,_⟩:=(r.val k).1 x q; rw[h]; rfl
 unfold fu storedH;rw[e]
 by_cases q:(atKey xs k).isSome=true
 ·rw[HN q,HN q]; exact r.repl k rw' rv
 ·rw[HY q,HY q]; exact Paired.snoc r #[rfl,h1,h2,h3,v,rw',rv]
def DicAt.of {h:Ii}{a:Hv}{xs:Ho (T×Hv×Hr)}(hz:xs.length<=sizeLine)(hs:(a==sysModules)=false)(d:h.DictOfH (bJ X.prog X.w) a xs):DicAt X.w a xs h:=
 let ⟨o,es,ep,h1,h2,h3,h4,_,h6⟩:=d; #[hz,hs,h6,o,es,ep,h1,h2,h3,h4]
def DicAt.stay {wd:HX}{h h':Ii}{a:Hv}{xs:Ho (T×Hv×Hr)}(d:DicAt wd a xs h)(k:∀o,h.get? a=ba o->h'.get? a=ba o):DicAt wd a xs h':=
 let ⟨h0,hs,hn,o,es,ep,h1,h2⟩:=d; #[h0,hs,hn,o,es,ep,k _ h1,h2]
def DicAt.ok {P:HM}{h:Ii}{wd:HX}{a:Hv}{xs:Ho (T×Hv×Hr)}(d:DicAt wd a xs h):ObjOk P wd H h a (cj wd a xs):=
 #[d,let ⟨_,_,_,o,_,_,h1,_⟩:=d; #[o,h1],λ_ _ p k=>p.stay k]
def bB {a:Hv}{xs:Ho (T×Hv×Hr)}(I:Inv X J Y H s)(e:Rd H a (cj X.w a xs)):DicAt X.w a xs s.heap:=(show ObjOk X.prog X.w H s.heap a (cj X.w a xs)from e.ok I.hok).1
def DicAt.dict {U:Ho (T×W)}{a:Hv}{xs:Ho (T×Hv×Hr)}(d:DicAt X.w a xs s.heap)(I:Inv X J Y H s)(r:KRel X.K A H U xs):s.heap.DictOfH (bJ X.prog X.w) a xs:=
 let ⟨_,_,hn,o,es,ep,h1,h2,h3,h4⟩:=d; #[o,es,ep,h1,h2,h3,h4,r.is I,hn]
def dX {i:Hz}{U:Ho (T×W)}{a:Hv}(so:StoreOk X.w X.K A H S)(e:jA S i=ba U)(ea:A[i]?=ba a):∃xs,Rd H a (cj X.w a xs)/\KRel X.K A H U xs:=by
 unfold jA at e;split at e
 ·rename_i k h;cases e;obtain⟨xs,q,r⟩:=so.obj i _ a h ea;exact#[xs,.inl q,r]
 ·rename_i k h;cases e;obtain⟨o,xs,q,r⟩:=so.obj i _ a h ea;exact#[xs,.inr #[o,q],r]
 ·cases e
def fN {i:Hz}{U:Ho (T×W)}(e:l5 S i=ba U):S[i]?=ba (.dic U):=by
 unfold l5 at e;split at e
 ·rename_i h; cases e; exact h
 ·cases e
def pr {i:Hz}{U:Ho (T×W)}{a:Hv}(so:StoreOk X.w X.K A H S)(e:l5 S i=ba U)(ea:A[i]?=ba a):∃xs,H a=ba (cj X.w a xs)/\KRel X.K A H U xs:=
 so.obj i _ a (fN e) ea
def l7 {B:HW}(hu:B.units+10 < cLine):(bJ X.prog X.w).room B.in1:=by
 change B.in1.units+aI < cLine;rw[aH]; unfold aI; omega
abbrev iP (x y:W)(S:aa):Hs (W×aa):=match x,y with
 | .ref r,.tup ks=>match jA S r,g7 (.tup ks)with
  | some U,ba k=>(cJ U k).map λw=>(w,S)
  | _,_=>gV
 | x,y=>r8 x y S
def F7 (hu:X.A.units+10 < cLine):LIx X iP:=by
 intro value slice J s Y H A S x y a b u v w S' I so rx ru ry rv e hs
 by_cases hxy:∃r ks,x=.ref r/\y=.tup ks
 ·obtain⟨r,ks,rfl,rfl⟩:=hxy;simp only[iP]at e;split at e
  ·rename_i U k hk1 hk2;rw[Hx]at e;obtain⟨w',e1,e2⟩:=e;cases e2;cases rx with
   | ref ea=>
    obtain⟨xs,rd,kr⟩:=dX so hk1 ea;have d:=bB I rd;have dd:=d.dict I kr;obtain⟨bk,rfl,rfl,rk⟩:=fM hk2 ry rv;obtain⟨p,vv,h1,h2,h3⟩:=(kr.val k).1 _ e1;obtain rfl:u=HL _:=ru;show Ld (x:=p.2) dd.typeIs slot_dict_getitem.lookup
     (wpAny_getItem_heap (Q:=λr s'=>r=p.2/\PostE X J Y A H S w r s') (l7 hu) (gE I rk (cf hk2).2.2) dd h1 #[rfl,vv,H,A,I.tok _,h3,.refl,so,h2]) hs
  ·cases e
 ·have:iP x y S=r8 x y S:=by
   cases x <;> cases y <;> first|rfl|exact absurd #[_,_,rfl,rfl] hxy
  rw[this]at e;exact G7 hu value slice J s Y H A S x y a b u v w S' I so rx ru ry rv e hs
abbrev g8 (o i v:W)(S:aa):Hs aa:=match o,i with
 | .ref r,.tup ks=>match l5 S r,g7 (.tup ks)with
  | some U,ba k=>if U.length < sizeLine then ba (S.set r (.dic (fu U k v)))else gV
  | _,_=>gV
 | o,i=>qX o i v S
def Dn (hu:X.A.units+10 < cLine):LSet X g8:=by
 intro J s Y H A S o i x ao ai ax uo ui ux S' I so ro ruo ri rui rx rux e
 by_cases hxy:∃r ks,o=.ref r/\i=.tup ks
 ·obtain⟨r,ks,rfl,rfl⟩:=hxy;dsimp only[g8]at e;split at e
  ·rename_i U k hk1 hk2;split at e
   ·rename_i hl;cases e;cases ro with
    | ref ea=>
     obtain⟨xs,hH,kr⟩:=pr so hk1 ea;have d:=bB I (.inl hH);have dd:=d.dict I kr;obtain⟨bk,rfl,rfl,rk⟩:=fM hk2 ri rui;obtain⟨q1,q2,q3⟩:=cf hk2;obtain rfl:uo=HL _:=ruo;have hz:xs.length<=sizeLine:=by rw[<- kr.length]; omega
     show wpAny_setItem_heap (hsz:=hz) (l7 hu) (gE I rk q3) dd λh' dd' hs=>?_
     have kr':=kr.put q2 q3 rk rx rux;have hz':(storedH xs k bk ux).length<=sizeLine:=by
      rw[<- kr'.length];have:=dW U k x;omega
     have dn:DicAt X.w _ (storedH xs k bk ux) h':=.of hz' d.2.1 dd';obtain⟨so',ex⟩:=so.writeO (fN hk1) rfl ea (u:=cj X.w _ (storedH xs k bk ux)) (n:=.dic (fu U k x)) #[_,ak,kr'.mono (aN (.ext hH))];exact#[_,A,kN I (by rw[hH]; exact Lr) hs (let ⟨q,_,_,hq,_⟩:=dd'; #[q,hq]) dn.ok,ex,so']
   ·cases e
  ·cases e
 ·have:g8 o i x S=qX o i x S:=by
   cases o <;> cases i <;> first|rfl|exact absurd #[_,_,rfl,rfl] hxy
  rw[this]at e;exact lset hu J s Y H A S o i x ao ai ax uo ui ux S' I so ro ruo ri rui rx rux e
abbrev tL (x:W)(xs:Ho W)(S:aa):Hs (W×aa):=match x,xs with
 | .ref r,[y,z]=>match jA S r,g7 y with
  | some U,ba k=>ba ((cJ U k).getD z,S)
  | _,_=>gV
 | _,_=>gV
def nX (hu:X.A.units+10 < cLine):LMeth X "dict.get" tL:=by
 intro J s Y H A S x a u xs vs us w S' I so rx ru rl rv e;cases rx with
 | ref ea=>
  cases rl with
  | nil=>cases e
  | cons r1 t1=>
   cases t1 with
   | nil=>cases e
   | cons r2 t2=>
    cases t2 with
    | cons _ _=>cases e
    | nil=>
     dsimp only[tL]at e;split at e
     ·rename_i U k hk1 hk2;cases e;obtain⟨xs,rd,kr⟩:=dX so hk1 ea;have d:=bB I rd;have dd:=d.dict I kr;cases rv with
      | cons v1 rv2=>
       cases rv2 with
       | cons v2 rv3=>
        cases rv3;obtain⟨bk,rfl,rfl,rk⟩:=fM hk2 r1 v1;obtain rfl:u=HL _:=ru;show call_meetsIn MQ dd.typeIs PySem.F.entry_dict_get (PySem.F.args_dict_get_3 _ _ _) (meetsH_dict_get_default (bJ X.prog X.w) _ bk d.2.1 _) #[l7 hu,k,xs,gE I rk (cf hk2).2.2,dd,?_];cases q:cJ U k with
        | none=>
         rw[(kr.val k).2 q];exact#[_,H,A,I.tok _,v2,.refl,so,r2]
        | some w'=>
         obtain⟨p,vv,h1,h2,h3⟩:=(kr.val k).1 _ q;rw[h1];exact#[vv,H,A,I.tok _,h3,.refl,so,h2]
     ·cases e
 | _=>cases e
abbrev E6 (x:W)(i:Hz)(S:aa):Hs HP:=match W.t x,fm S i with
 | some k,ba ys=>match W.ts ys with
  | some ks=>if k.depth<=aI/\T.depths ks<=aI then ba (decide (k∈ks))else gV
  | none=>gV
 | _,_=>gV
abbrev AR (x:W)(ys:Ho W):Hs HP:=match W.t x,W.ts ys with
 | some k,ba ks=>if k.depth<=aI/\T.depths ks<=aI then ba (decide (k∈ks))else gV
 | _,_=>gV
def lc {h:Ii}:∀ {ks:Ho T} {vs:Ho Hr},IsTs h ks vs->∀v∈vs,∃k∈ks,IsT h k v
 | _,_,.cons a b,v,hv=>by
  rcases Ij.mp hv with rfl|hv
  ·exact#[_,.head _,a]
  ·obtain⟨k,hk,q⟩:=lc b v hv;exact#[k,.tail _ hk,q]
abbrev v6 (h:Ii)(k:T)(v:Hr):HP:=@decide (IsT h k v) (K9 _)
def nY {h:Ii}{k k':T}{v:Hr}(x:IsT h k' v):v6 h k v=decide (k'=k):=by
 unfold v6
 by_cases e:k'=k
 ·subst e; simp[x]
 ·have:¬ IsT h k v:=λy=>e (x.inj y)
  simp[e,this]
def lf {h:Ii}{k:T}:∀ {ks:Ho T} {vs:Ho Hr},IsTs h ks vs->vs.any (v6 h k)=decide (k∈ks)
 | _,_,.nil=>by simp
 | _,_,.cons (k:=k') a b=>by
  rw[JB,nY a,lf b]
  by_cases e:k'=k
  ·simp[e]
  ·have:¬ k=k':=λz=>e z.symm
   simp[e,this]
def iQ:∀ {ks:Ho T} {k:T},k∈ks->k.depth<=T.depths ks
 | x::ks,k,h=>by
  simp only[T.depths];rcases Ij.mp h with rfl|h
  ·omega
  ·have:=iQ h; omega
def tM {x:W}{i:Hz}{a b:V}{u v:Hr}{c:HP}(hu:X.A.units+10 < cLine)(I:Inv X J Y H s)(so:StoreOk X.w X.K A H S)(rx:Rel X.K A H x a)(ru:RelV a u)(ry:Rel X.K A H (.ref i) b)(rv:RelV b v)(e:E6 x i S=ba c) :
  ∃l its k ks,v=.ref l/\s.heap.IsList l its/\(∀y,y∈its->Lo X.A.in1 s y u (v6 s.heap k y))/\its.any (v6 s.heap k)=c/\c=decide (k∈(ks:Ho T)):=by
 unfold E6 at e;split at e
 ·rename_i k ys h1 h2;split at e
  ·rename_i ks h3;split at e
   ·rename_i h4;cases e;cases ry with
    | ref ea=>
     obtain⟨vs,g1,g2⟩:=bC so h2 ea;obtain⟨its,rv',p,_⟩:=I.list g1;obtain rfl:v=HL _:=rv;have hT:IsTs s.heap ks its:=eG I ks ((W.ts_w h3).symm ▸ g2) rv';have hk:IsT s.heap k u:=lb I k ((W.t_w h1).symm ▸ rx) ru;show#[_,its.toArray,k,ks,rfl,p.isList,λy hy=>?_,by rw[Op]; exact lf hT,rfl]
     obtain⟨k',hk',q⟩:=lc hT y (by simpa using hy)
     rw[nY q];have:=iQ hk';have kl:aI=6:=rfl;exact q9 aI k' k _ _ _ _ ∅ q hk (by rw[aH]; omega) (by rw[aH]; omega)
   ·cases e
  ·cases e
 ·cases e
def xx {x:W}{ys:Ho W}{a b:V}{u v:Hr}{c:HP}(hu:X.A.units+10 < cLine)(I:Inv X J Y H s)(rx:Rel X.K A H x a)(ru:RelV a u)(ry:Rel X.K A H (.tup ys) b)(rv:RelV b v)(e:AR x ys=ba c) :
  ∃l its k,v=.ref l/\s.heap.IsTuple l its/\(∀y,y∈its->Lo X.A.in1 s y u (v6 s.heap k y))/\its.any (v6 s.heap k)=c:=by
 unfold AR at e;split at e
 ·rename_i k ks h1 h3;split at e
  ·rename_i h4;cases e;cases ry with
   | @tup _ l vs g1 g2=>
    obtain⟨its,rv',p,_⟩:=I.tuple g1;obtain rfl:v=HL _:=rv;have hT:IsTs s.heap ks its:=eG I ks ((W.ts_w h3).symm ▸ g2) rv';have hk:IsT s.heap k u:=lb I k ((W.t_w h1).symm ▸ rx) ru;show#[_,its.toArray,k,rfl,p,λy hy=>?_,by rw[Op]; exact lf hT]
    obtain⟨k',hk',q⟩:=lc hT y (by simpa using hy)
    rw[nY q];have:=iQ hk';have kl:aI=6:=rfl;exact q9 aI k' k _ _ _ _ ∅ q hk (by rw[aH]; omega) (by rw[aH]; omega)
  ·cases e
 ·cases e
abbrev cV (o:COp)(x y:W)(S:aa):Hs (W×aa):=match o,y with
 | .isin,.ref i=>match jA S i with
  | some U=>(g7 x).map λk=>(.bl (cJ U k).isSome,S)
  | none=>match x with
   | .tup xs=>(E6 (.tup xs) i S).map λb=>(.bl (b),S)
   | x=>cU .isin x (.ref i) S
 | .notin,.ref i=>match jA S i with
  | some U=>(g7 x).map λk=>(.bl (!(cJ U k).isSome),S)
  | none=>match x with
   | .tup xs=>(E6 (.tup xs) i S).map λb=>(.bl (!b),S)
   | x=>cU .notin x (.ref i) S
 | .isin,.tup ys=>match x with
  | .tup xs=>(AR (.tup xs) ys).map λb=>(.bl b,S)
  | x=>cU .isin x (.tup ys) S
 | o,y=>cU o x y S
def iR (hu:X.A.units+dm < cLine)(o:COp):LOp X (compareOp o.py) (cV o):=by
 intro J s Y H A S x y a b u v w S' I so rx ru ry rv e;have get:∀ {i:Hz} {U:Ho (T×W)} {k:T},y=.ref i->jA S i=ba U->g7 x=ba k->∃d c xs,v=.ref d/\u=.ref c/\(d==sysModules)=false/\(bJ X.prog X.w).is s.heap k c/\s.heap.DictOfH (bJ X.prog X.w) d xs/\(cJ U k).isSome=(atKey xs k).isSome:=by
  intro i U k hy hk1 hk2;subst hy;cases ry with
  | ref ea=>
   obtain⟨xs,rd,kr⟩:=dX so hk1 ea;have d:=bB I rd;obtain⟨bk,rfl,rfl,rk⟩:=fM hk2 rx ru;obtain rfl:v=HL _:=rv;show#[_,bk,xs,rfl,rfl,d.2.1,gE I rk (cf hk2).2.2,d.dict I kr,?_];cases q:cJ U k with
   | none=>rw[(kr.val k).2 q]; rfl
   | some w'=>obtain⟨p,_,h1,_⟩:=(kr.val k).1 _ q; rw[h1]; rfl
 have old:cU o x y S=ba (w,S')->wpAny (model X.prog X.w) X.A (compareOp o.py u v) (PostE X J Y A H S' w) X.xe s:=λh=>fJ hu o J s Y H A S x y a b u v w S' I so rx ru ry rv h
 have hu':X.A.units+10 < cLine:=by have:dm=20:=rfl; omega
 unfold cV at e;split at e
 ·split at e
  ·rename_i U hk1;rw[Hx]at e;obtain⟨k,hk2,e2⟩:=e;cases e2;obtain⟨d,c,xs,rfl,rfl,q1,q2,q3,q4⟩:=get rfl hk1 hk2;rw[q4];exact wpAny_in_heap (l7 hu') q2 q1 q3 #[.bl _,H,A,I.tok _,rfl,.refl,so,.bl]
  ·split at e
   ·rw[Hx]at e;obtain⟨c,hc,e⟩:=e;cases e;obtain⟨l,its,k,ks,rfl,p1,p2,p3,_⟩:=tM hu' I so rx ru ry rv hc;show OC (v6 s.heap k) p1 p2 ?_;rw[p3];exact#[.bl _,H,A,I,rfl,.refl,so,.bl]
   ·exact old e
 ·split at e
  ·rename_i U hk1;rw[Hx]at e;obtain⟨k,hk2,e2⟩:=e;cases e2;obtain⟨d,c,xs,rfl,rfl,q1,q2,q3,q4⟩:=get rfl hk1 hk2;rw[q4];exact wpAny_notIn_heap (l7 hu') q2 q1 q3 #[.bl _,H,A,I.tok _,rfl,.refl,so,.bl]
  ·split at e
   ·rw[Hx]at e;obtain⟨c,hc,e⟩:=e;cases e;obtain⟨l,its,k,ks,rfl,p1,p2,p3,_⟩:=tM hu' I so rx ru ry rv hc;show NB (v6 s.heap k) p1 p2 ?_;rw[p3];exact#[.bl _,H,A,I,rfl,.refl,so,.bl]
   ·exact old e
 ·split at e
  ·rw[Hx]at e;obtain⟨c,hc,e⟩:=e;cases e;obtain⟨l,its,k,rfl,p1,p2,p3⟩:=xx hu' I rx ru ry rv hc;show Oh (v6 s.heap k) p1 p2 ?_;rw[p3];exact#[.bl _,H,A,I,rfl,.refl,so,.bl]
  ·exact old e
 ·exact old e
end
abbrev RawD (d:Hv)(es:Iu JZ)(ep:Hz)(h:Ii):Prop:=∃o,h.get? d=ba o/\o.ExactDict/\o.data=.dict es ep
def RawD.at {d:Hv}{es:Iu JZ}{ep:Hz}{h h':Ii}(x:RawD d es ep h)(e:∀o,h.get? d=ba o->h'.get? d=ba o):RawD d es ep h':=let ⟨o,ho,r⟩:=x; #[o,e _ ho,r]
def RawD.lt {d:Hv}{es:Iu JZ}{ep:Hz}{h:Ii}(x:RawD d es ep h):d < h.objs.size:=let ⟨_,ho,_⟩:=x; HF ho
def RawD.type {d:Hv}{es:Iu JZ}{ep:Hz}{s:Ht}(x:RawD d es ep s.heap):s.TypeIs (.ref d) "dict":=let ⟨o,ho,hc,_⟩:=x; #[o,ho,hc.1]
section
variable{prog:HM}{w:HX}{A:HW}{E:Hr->Ht->Prop}{s:Ht}{it d:Hv}{i ep:Hz}{es:Iu JZ}
def l8 {Q:Hr->Ht->Prop}(hd:(d==sysModules)=false)(hm:RawD d es ep s.heap)
  (hQ:Q (.ref s.heap.objs.size) { s with heap:=s.heap.push { cls:=.type "dict_keyiterator",data:=.fields [.ref d,.int 0 0,.int es.size 0,.int ep 0].toArray } }):wpAny (model prog w) A (pyIter (.ref d)) Q E s:=by
 have hT:=hm.type;obtain⟨o,ho,hc,hdat⟩:=id hm;show wpAny_pyIter_slot hT F.slot_dict_iter (Jk F.slot_dict_iter hT F.entry_dict_iter ?_ (F.args_dict_iter_1 _));unfold K3.«dict.__iter__» O4;show Hq (Hq (wpAny_notOrdered_dict hT ?_));change wpAny _ _ (pure (HL d)) _ _ s;show Hy ?_;change wpAny _ _ (MR d >>= _) _ _ s;unfold MR;rw[HY (by rw[hd]; exact HS)]
 show Hq (Hy (Hq (Lf ho hdat (Hq (MK ho hdat ?_)))));show Hq (IA (Hy #[_,rfl,"dict_keyiterator",_,#[_,HG _ rfl,rfl],F.slot_dict_keyiterator_next.lookup,?_]))
 simpa [rawInt]using hQ
def l9 {Q:Hs Hr->Ht->Prop}(hit:s.heap.IsKeyIter it d i es.size ep)(hm:RawD d es ep s.heap)(hi:i < es.size)
  (hQ:∀h',h'.IsKeyIter it d (i+1) es.size ep->Ki it s.heap h'->Q (ba es[i].key) { s with heap:=h' }):wpAny (model prog w) A (pyNext (.ref it)) Q E s:=by
 obtain⟨o,ho,hc,hd⟩:=id hit;obtain⟨od,hod,hcd,hdd⟩:=id hm;unfold pyNext;show Hq (KA (Ja (name:=Je "__next__") hit.typeIs F.slot_dict_keyiterator_next
  (Jk F.slot_dict_keyiterator_next hit.typeIs F.entry_dict_keyiterator_next ?_ (F.args_dict_keyiterator_next_1 _))))
 show Hq (Hy (Hq (Hq ?_)))
 first|refine Hq (JY hit.typeIs (Hy ?_))|refine Hq (Ko hit.typeIs (Hy ?_))
 show Hq (OX ho hd ?_);have hown:LA "dict_keyiterator" = false:=by decide
 simp only[hown,IK,JQ];change wpAny _ _ (if (HL d==Iz)=true then _ else _) _ _ s
 rw[HY (show ¬ ((HL d==Iz)=true)from HS)]
 show Hq (Hy (Hq (Lf hod hdd ?_)));rw[HY (by simp)]
 show Hq (Hy (Hq (MK hod hdd ?_)));rw[HY (by simp)]
 show Hy ?_;simp only[show ¬ ((i:HR) < 0)from by omega,JQ,Ir,L9 hi]
 show Hq ?_
 first|refine Hq (JY hit.typeIs (Hy ?_))|refine Hq (Ko hit.typeIs (Hy ?_))
 show Hq (MS hit.typeIs ?_);change wpAny _ _ (setField (.ref it) 1 (rawInt ((i:HR)+1)) >>= _) _ _ s;show Hq (Ku ho hd (by simp) ?_)
 have hit':(s.heap.update it (JW (·.setIfInBounds 1 (rawInt ((i:HR)+1))))).IsKeyIter it d (i+1) es.size ep:=
  #[_,Jd _ ho (Lj (Kc hd _)),(N2 ..).trans hc,by rw[Kc hd]; simp[rawInt]]
 show Hq (IL ?_);show Hq (MS (s:={ s with heap:=s.heap.update it (JW (·.setIfInBounds 1 (rawInt ((i:HR)+1)))) }) hit'.typeIs ?_)
 change wpAny _ _ (pure es[i].key) _ _ _;exact Hy (Hy #[_,rfl,Hy (hQ _ hit' (KT ..))])
def pv {Q:Hs Hr->Ht->Prop}(hh:A.handled=gV)(hit:s.heap.IsKeyIter it d i es.size ep)(hm:RawD d es ep s.heap)(hge:es.size<=i)
  (hQ:∀h',M0 it s.heap h'->Q gV { s with heap:=h' }):wpAny (model prog w) A (pyNext (.ref it)) Q E s:=by
 obtain⟨o,ho,hc,hd⟩:=id hit;obtain⟨od,hod,hcd,hdd⟩:=id hm;unfold pyNext;show Hq (KA (Ja (name:=Je "__next__") hit.typeIs F.slot_dict_keyiterator_next
  (Jk F.slot_dict_keyiterator_next hit.typeIs F.entry_dict_keyiterator_next ?_ (F.args_dict_keyiterator_next_1 _))))
 show Hq (Hy (Hq (Hq ?_)))
 first|refine Hq (JY hit.typeIs (Hy ?_))|refine Hq (Ko hit.typeIs (Hy ?_))
 show Hq (OX ho hd ?_);have hown:LA "dict_keyiterator" = false:=by decide
 simp only[hown,IK,JQ];change wpAny _ _ (if (HL d==Iz)=true then _ else _) _ _ s
 rw[HY (show ¬ ((HL d==Iz)=true)from HS)]
 show Hq (Hy (Hq (Lf hod hdd ?_)));rw[HY (by simp)]
 show Hq (Hy (Hq (MK hod hdd ?_)));rw[HY (by simp)]
 show Hy ?_;simp only[show ¬ ((i:HR) < 0)from by omega,JQ,Ir,Array.getElem?_eq_none hge]
 show Hq ?_
 first|refine Hq (JY hit.typeIs (Hy ?_))|refine Hq (Ko hit.typeIs (Hy ?_))
 change wpAny _ _ (setField (.ref it) 0 .none >>= _) _ _ s;show Hq (Ku ho hd (by simp) ?_)
 change wpAny _ _ (newExc (.type "StopIteration") [] >>= _) _ _ _;show Hq ?_;simp only[newExc,newTuple];show Hq (IA ?_ (by size_fits))
 show Hq (m:=firstArgMember _ _) (M2 (a:=Iz) (by first|rfl|(simp only[firstArgMember]; rfl)) ?_)
 show IA ?_ (by size_fits)
 simp only[raiseNew];show Hq (Pf ?_);rw[show A.in1.handled=gV from hh]
 show Hq (Hy (PP ?_));show Hq (Mt (T:="StopIteration") (b:=true) #[_,HG _ rfl,rfl] OY ?_);exact Hy (hQ _ (((KT ..).extBut.push _).push _))
def rc (hh:A.handled=gV)(I d:Hv)(hne:d≠I)(es:Iu JZ)(ep:Hz) :
  Qp prog w A I [I,d] [I] es.size (λi v=>∃e,es[i]?=ba e/\e.key=v) (λi h=>h.IsKeyIter I d i es.size ep/\RawD d es ep h) where
 sub:=λb hb=>by simp at hb; simp[hb]
 frame:=λ_ _ _ st hk=>#[st.1.at λo e=>hk I (by simp) o e,st.2.at λo e=>hk d (by simp) o e]
 item:=λi s Q E hi st hQ=>
  l9 st.1 st.2 hi λh' hit' hs'=>hQ _ h' s.toks #[es[i],by simp[hi],rfl] #[hit',st.2.at λo e=>(hs'.2 d hne).trans e] λb o hb e=>hs'.extBut b o (λh=>hb (by simp[h])) e
 done:=λs Q E st hQ=>pv hh st.1 st.2 (HJ _) λh' he'=>hQ h' s.toks λb o hb e=>he' b o (λh=>hb (by simp[h])) e
 self:=λ_ _ _ _ st hQ=>M3 st.1 hQ
def pA (lo:(d==sysModules)=false):M4 prog w "dict" d d es.size (λi v=>∃e,es[i]?=ba e/\e.key=v) (RawD d es ep) where
 type:=λ_ hm=>hm.type
 there:=λ_ hm=>#[hm.lt,hm.lt]
 keep:=λ_ _ hm hk=>hm.at λo e=>hk d (.inl rfl) o e
 notList:=by decide
 notTuple:=by decide
 hint:=λ_ _ _ _ hm hq=>PySem.W.kdl_hint_dict hm.type hq
 iter:=λ_ _ hh hm=>#[_,_,(λ_ _ hq=>l8 lo hm hq),rc hh _ d (HU hm.lt) es ep,#[#[_,HG _ rfl,rfl,rfl],hm.at λo e=>Hw _ e]]
def tN {T:Jb}{r d S:Hv}{n:Hz}{P:Hz->Hr->Prop}{OK:Ii->Prop}{R:Mx->Ht->Prop}(K:M4 prog w T r d n P OK)(hh:A.handled=gV)(hok:OK s.heap)(hn:n<=sizeLine)(hSr:S≠r)(hSd:S≠d)
  (hS:s.heap.get? S=ba { cls:=.type "list",data:=.seq #[] 0 })
  (hR:∀h' tk acc' c',(∀b o,b≠S->s.heap.get? b=ba o->h'.get? b=ba o)->h'.get? S=ba { cls:=.type "list",dict:=gV,data:=.seq acc' c',slots:=#[] }->MB P acc' n->R (.ok (.ret (.ref S))) { s with heap:=h',toks:=tk }) :
  codeAny (model prog w) A (.builtin "list.__iadd__" #[[.ref S,.ref r],[]]) R s:=by
 show JG F.entry_list_iadd ?_;rw[Js F.plain_list_iadd _];change wpAny _ A.in1 (J7 (.ref S) (.ref r) (.ref S)) _ _ _;exact PySem.W.kdl_extend K hh hok S hSr hSd _ 0 hS hR hn
def ma {T:Jb}{r d:Hv}{n:Hz}{P:Hz->Hr->Prop}{OK:Ii->Prop}{Q:Ho Hr->Ht->Prop}(K:M4 prog w T r d n P OK)(hh:A.handled=gV)(hok:OK s.heap)(hn:n<=sizeLine)
  (hQ:∀h' tk acc,(∀b o,s.heap.get? b=ba o->h'.get? b=ba o)->s.heap.objs.size<=h'.objs.size->MB P acc n->Q acc.toList { s with heap:=h',toks:=tk }):wpAny (model prog w) A (collect (.ref r)) Q E s:=by
 unfold collect;show Hq (M5 (JG F.entry_proto_collect ?_));rw[Js F.plain_proto_collect _];change wpAny _ A.in1 (newList [] >>= λl=>again (.builtin "list.__iadd__" #[[l,.ref r],[]])) _ _ s
 show Hq (IA ?_);have hlt:=K.there _ hok;show Hy #[KB F.plain_list_iadd _,tN (s:={ s with heap:=s.heap.push { cls:=.type "list",data:=.seq ([]:Ho Hr).toArray } }) K hh (K.keep _ _ hok λb _ o e=>Hw _ e) hn (JC hlt.1) (JC hlt.2) (HG _ rfl) λh' tk acc' c' hk hS' hacc=>?_]
 change wpAny (model prog w) A (do
   let o <- load s.heap.objs.size
   match o.data with
   | .seq xs _=>pure xs.toList
   | _=>unsupported "internal:collect") Q E { s with heap:=h',toks:=tk }
 show Hq (Ny hS' ?_);exact Hy (hQ h' tk acc' (λb o e=>hk b o (HU (HF e)) (Hw _ e)) (J5 (HF hS')) hacc)
end
mutual
def xy:T->T->Hs HP
 | .int a,.int b=>ba (decide (a < b))
 | .str a,.str b=>ba (decide (a.cps.toList < b.cps.toList))
 | .tup xs,.tup ys=>md xs ys
 | _,_=>gV
def md:Ho T->Ho T->Hs HP
 | [],[]=>ba false
 | [],_::_=>ba true
 | _::_,[]=>ba false
 | x::xs,y::ys=>if x=y then md xs ys else xy x y
end
mutual
theorem IsT.kept {h h':Ii}(hk:∀b o,o.cls=.type "tuple"->h.get? b=ba o->h'.get? b=ba o):∀ {x:T} {v:Hr},IsT h x v->IsT h' x v
 | _,_,.int=>.int
 | _,_,.str=>.str
 | _,_,.tup a1 c1 d1 t1=>.tup (hk _ _ c1 a1) c1 d1 (IsTs.kept hk t1)
theorem IsTs.kept {h h':Ii}(hk:∀b o,o.cls=.type "tuple"->h.get? b=ba o->h'.get? b=ba o):∀ {x:Ho T} {v:Ho Hr},IsTs h x v->IsTs h' x v
 | _,_,.nil=>.nil
 | _,_,.cons a b=>.cons (IsT.kept hk a) (IsTs.kept hk b)
end
def Do {B:HW}{s:Ht}{d:Hz}(hu:B.units+d < cLine)(hl:∀(x y:T) (u v:Hr) (k:HP),x.depth<=d->y.depth<=d->IsT s.heap x u->IsT s.heap y v->xy x y=ba k->LtAt B s u v k) :
  ∀(xs ys:Ho T) (us vs:Ho Hr) (k:HP),T.depths xs<=d->T.depths ys<=d->IsTs s.heap xs us->IsTs s.heap ys vs->md xs ys=ba k->LexR B s us vs k
 | [],[],_,_,k,_,_,h1,h2,e=>by cases h1; cases h2; cases e; exact .nn
 | [],y::ys,_,_,k,_,_,h1,h2,e=>by cases h1; cases h2; cases e; exact .nc
 | x::xs,[],_,_,k,_,_,h1,h2,e=>by cases h1; cases h2; cases e; exact .cn
 | x::xs,y::ys,_,_,k,d1,d2,h1,h2,e=>by
  simp only[T.depths]at d1 d2;cases h1 with
  | cons p1 q1=>
   cases h2 with
   | cons p2 q2=>
    have he:=q9 d x y _ _ B s ∅ p1 p2 hu ∅
    dsimp only[md]at e
    by_cases hxy:x=y
    ·rw[HN hxy]at e;rw[Ji hxy]at he;exact .eq he (Do hu hl xs ys _ _ k ∅ ∅ q1 q2 e)
    ·rw[HY hxy]at e;rw[Ik hxy]at he;exact .ne he (hl x y _ _ k ∅ ∅ p1 p2 e)
def Dp:∀(d:Hz) (x y:T) (u v:Hr) (B:HW) (s:Ht) (k:HP),x.depth<=d->y.depth<=d->IsT s.heap x u->IsT s.heap y v->B.units+d < cLine->xy x y=ba k->LtAt B s u v k:=by
 intro d
 induction d with
 | zero=>
  intro x y u v B s k d1 d2 h1 h2 hu e;cases h1 with
  | int=>cases h2 with
   | int=>cases e; exact λprog w E Q h=>(Nk h:wpAny (model prog w) B (compareOp .Lt _ _) Q E s)
   | _=>cases e
  | str=>cases h2 with
   | str=>cases e; exact λprog w E Q h=>(lt_str h:wpAny (model prog w) B (compareOp .Lt _ _) Q E s)
   | _=>cases e
  | tup _ _ _ _=>simp[T.depth]at d1
 | succ d ih=>
  intro x y u v B s k d1 d2 h1 h2 hu e;cases h1 with
  | int=>cases h2 with
   | int=>cases e; exact λprog w E Q h=>(Nk h:wpAny (model prog w) B (compareOp .Lt _ _) Q E s)
   | _=>cases e
  | str=>cases h2 with
   | str=>cases e; exact λprog w E Q h=>(lt_str h:wpAny (model prog w) B (compareOp .Lt _ _) Q E s)
   | _=>cases e
  | tup a1 c1 e1 t1=>cases h2 with
   | tup a2 c2 e2 t2=>
    simp only[T.depth]at d1 d2;have hu1:B.in1.units+d < cLine:=by rw[aH]; omega
    exact LtAt.tuples #[_,a1,c1,_,e1] #[_,a2,c2,_,e2] ∅ (Do hu1 (λx y u v k q1 q2 q3 q4 q5=>ih x y u v B.in1 s k q1 q2 q3 q4 hu1 q5) _ _ _ _ k ∅ ∅ t1 t2 e)
   | _=>cases e
section
variable{prog:HM}{w:HX}{A:HW}{R:Mx->Ht->Prop}{I S:Hv}{fp wr:Ho Hv}{n:Hz}{P:Hz->Hr->Prop}{St:Hz->Ii->Prop}{Ok:Ii->Prop}{bt:Hz->Hz->HP}
abbrev tP (prog:HM)(w:HX)(A:HW)(P:Hz->Hr->Prop)(Ok:Ii->Prop)(bt:Hz->Hz->HP):Prop:=
 ∀i j vi vj (s:Ht) (Q:Hr->Ht->Prop) (E:Hr->Ht->Prop),Ok s.heap->P i vi->P j vj->Q (.bool (bt i j)) s->wpAny (model prog w) A (richCompare .Lt vi vj) Q E s
def tQ (W:Qp prog w A.in1 I fp wr n P St)(hcmp:tP prog w A.in1 P Ok bt)(hSf:S∉fp)(hok:∀h h',Ok h->(∀b o,b∉wr->b≠S->h.get? b=ba o->h'.get? b=ba o)->Ok h') :
  ∀(k j:Hz) (s:Ht) (vb:Hr) (c:Hz),n - (j+1)=k->j < n->St (j+1) s.heap->P (argBest bt j) vb->Ok s.heap->s.heap.get? S=ba { cls:=.type "list",dict:=gV,data:=.seq [vb,vb].toArray c,slots:=#[] }->
  (∀v h' tk,P (argBest bt (n - 1)) v->(∀b o,b∉wr->b≠S->s.heap.get? b=ba o->h'.get? b=ba o)->R (.ok (.ret v)) { s with heap:=h',toks:=tk })->
  codeAny (model prog w) A (.builtin "min.loop" #[[.ref I,.none,.ref S],[]]) R s:=by
 have hSw:S∉wr:=λh=>hSf (W.sub _ h)
 have hname:(toString "min" ++ toString ".loop" : Jb) = "min.loop":=by decide
 intro k
 induction k with
 | zero=>
  intro j s vb c hk hj hst hPb hO hS hR;have hin:j+1=n:=∅
  show JG F.entry_min_loop ?_;rw[Js F.plain_min_loop _];change wpAny _ A.in1 (seqItems? (.ref S) >>= _) _ _ s;show Hq (KP hS rfl ?_);change wpAny _ A.in1 (tryCatch (pyNext (.ref I)) _ >>= _) _ _ s;show Hq (L3 (W.done s _ _ (hin ▸ hst) λh' tk hk'=>?_))
  have hS':=hk' S _ hSw hS;change wpAny _ A.in1 (updateSeq S (λ_=>#[]) >>= _) _ _ _
  show Hq (ML hS' rfl (Hq (Lv (Hy ?_))));have e:j=n - 1:=∅
  exact hR vb _ tk (e ▸ hPb) λb o hbw hbS e=>(Il _ _ (Ne.symm hbS)).trans (hk' b o hbw e)
 | succ k ih=>
  intro j s vb c hk hj hst hPb hO hS hR;have hlt:j+1 < n:=∅
  show JG F.entry_min_loop ?_;rw[Js F.plain_min_loop _];change wpAny _ A.in1 (seqItems? (.ref S) >>= _) _ _ s;show Hq (KP hS rfl ?_);change wpAny _ A.in1 (tryCatch (pyNext (.ref I)) _ >>= _) _ _ s;show Hq (L3 (W.item (j+1) s _ _ hlt hst λv h' tk hP hst' hk'=>?_))
  have hS':=hk' S _ hSw hS;have hO':Ok h':=hok _ _ hO λb o hb _ e=>hk' b o hb e
  change wpAny _ A.in1 (tryCatch (holding [v,v] (richCompare .Lt v vb >>= _)) _ >>= _) _ _ _;show Hq (L3 (IL (Hq (hcmp (j+1) (argBest bt j) v vb _ _ _ hO' hP hPb ?_))));show Hq (IL (Jm ?_));show Hq (Lv (Hy ?_));cases hb:bt (j+1) (argBest bt j)with
  | true=>
   simp only[Kr];show Hq (ML hS' rfl (Hq (Lv ?_)));rw[hname];show Hy #[KB F.plain_min_loop _,ih (j+1) _ v _ ∅ hlt (W.frame _ _ _ hst' λb hbf o e=>?_) (by simp only[argBest,hb,Kr]; exact hP) (hok _ _ hO' λb o _ hbS e=>(Il _ _ (Ne.symm hbS)).trans e) (Jd _ hS' rfl)
    λv' h'' tk'' hP' hk''=>?_]
   ·exact(Il _ _ (λh:S=b=>hSf (by rw[h]; exact hbf))).trans e
   ·exact hR v' h'' tk'' hP' λb o hbw hbS e=>hk'' b o hbw hbS ((Il _ _ (Ne.symm hbS)).trans (hk' b o hbw e))
  | false=>
   simp only[IK,JQ];show Hq (Lv ?_);rw[hname];show Hy #[KB F.plain_min_loop _,ih (j+1) _ vb c ∅ hlt hst' (by simp only[argBest,hb,IK,JQ]; exact hPb) hO' hS' λv' h'' tk'' hP' hk''=>?_]
   exact hR v' h'' tk'' hP' λb o hbw hbS e=>hk'' b o hbw hbS (hk' b o hbw e)
def re (W:Qp prog w A.in1 I fp wr n P St)(hcmp:tP prog w A.in1 P Ok bt)(hSf:S∉fp)(hok:∀h h',Ok h->(∀b o,b∉wr->b≠S->h.get? b=ba o->h'.get? b=ba o)->Ok h')(hn:0 < n){s:Ht}{c:Hz}(hst:St 0 s.heap)(hO:Ok s.heap)
  (hS:s.heap.get? S=ba { cls:=.type "list",dict:=gV,data:=.seq #[] c,slots:=#[] })
  (hR:∀v h' tk,P (argBest bt (n - 1)) v->(∀b o,b∉wr->b≠S->s.heap.get? b=ba o->h'.get? b=ba o)->R (.ok (.ret v)) { s with heap:=h',toks:=tk }) :
  codeAny (model prog w) A (.builtin "min.loop" #[[.ref I,.none,.ref S],[]]) R s:=by
 have hSw:S∉wr:=λh=>hSf (W.sub _ h)
 have hname:(toString "min" ++ toString ".loop" : Jb) = "min.loop":=by decide
 show JG F.entry_min_loop ?_;rw[Js F.plain_min_loop _];change wpAny _ A.in1 (seqItems? (.ref S) >>= _) _ _ s;show Hq (KP hS rfl ?_);change wpAny _ A.in1 (tryCatch (pyNext (.ref I)) _ >>= _) _ _ s;show Hq (L3 (W.item 0 s _ _ hn hst λv h' tk hP hst' hk'=>?_))
 have hS':=hk' S _ hSw hS;change wpAny _ A.in1 (updateSeq S (λ_=>[v,v].toArray) >>= _) _ _ _
 show Hq (ML hS' rfl ?_);rw[hname];have hO':Ok h':=hok _ _ hO λb o hb _ e=>hk' b o hb e
 show Hy #[KB F.plain_min_loop _,tQ W hcmp hSf hok _ 0 _ v _ rfl hn (W.frame _ _ _ hst' λb hbf o e=>?_) hP (hok _ _ hO' λb o _ hbS e=>(Il _ _ (Ne.symm hbS)).trans e) (Jd _ hS' rfl) λv' h'' tk'' hP' hk''=>?_]
 ·exact(Il _ _ (λh:S=b=>hSf (by rw[h]; exact hbf))).trans e
 ·exact hR v' h'' tk'' hP' λb o hbw hbS e=>hk'' b o hbw hbS ((Il _ _ (Ne.symm hbS)).trans (hk' b o hbw e))
end
section
variable{prog:HM}{w:HX}{A:HW}{E:Hr->Ht->Prop}{s:Ht}
def tR {l:Hv}{items:Iu Hr}{bt:Hz->Hz->HP}{Q:Hr->Ht->Prop}(hh:A.handled=gV)(hl:s.heap.IsList l items)(hn:0 < items.size)
  (hcmp:tP prog w A.in1 (λi v=>items[i]?=ba v) (λh=>∀b o,s.heap.get? b=ba o->h.get? b=ba o) bt)
  (hQ:∀v h' tk,items[argBest bt (items.size - 1)]?=ba v->(∀b o,s.heap.get? b=ba o->h'.get? b=ba o)->Q v { s with heap:=h',toks:=tk }) :
  wpAny (model prog w) A (call (.builtin "min") [.ref l]) Q E s:=by
 have hname:(toString "min" ++ toString ".loop" : Jb) = "min.loop":=by decide
 show call_function_tree F.kind_min F.plain_min F.entry_min (F.args_min1 _) ?_;change wpAny _ A.in1 (LK "min" ["key","default"] 0 #[[],[]] >>= _) _ _ s;show Hq (M2 (show LK "min" ["key","default"] 0 #[[],[]]=pure [gV,gV]from rfl) ?_)
 show Hq (Hy ?_);show Hq (Mk hl ?_);show Hq (IA ?_);rw[hname];have hlt:l < s.heap.objs.size:=let ⟨_,ho,_⟩:=hl; HF ho
 have hne:l≠s.heap.objs.size:=HU hlt;have W:=P7 (prog:=prog) (w:=w) (A:=A.in1) hh s.heap.objs.size l hne items;have hsz:∀o:Jg,(s.heap.push o).objs.size=s.heap.objs.size+1:=λo=>by simp[Heap.push]
 show Hy #[KB F.plain_min_loop _,re (A:=A) (Ok:=λh=>∀b o,s.heap.get? b=ba o->h.get? b=ba o) W hcmp (λhm=>?_) (λh h' ho hk b o e=>?_) hn #[?_,?_] (λb o e=>Hw _ (Hw _ e)) (HG _ rfl) λv h' tk hv hk=>?_]
 ·rcases Ij.mp hm with e|hm
  ·exact absurd (show(s.heap.push _).objs.size=s.heap.objs.size from e) (by rw[hsz]; exact Nat.succ_ne_self _)
  ·have e:(s.heap.push _).objs.size=l:=Iv.mp hm;rw[hsz]at e;exact absurd hlt (by rw[<- e]; exact Lq.mpr (JN _))
 ·have hb:=HF e;show hk b o (λz=>?_) (λz=>?_) (ho b o e)
  ·rw[Iv.mp z]at hb; exact Jc _ hb
  ·have z':b=(s.heap.push _).objs.size:=z;rw[hsz]at z';rw[z']at hb;exact absurd hb (Lq.mpr (JN _))
 ·exact#[_,Hw _ (HG _ rfl),rfl,rfl]
 ·obtain⟨o,ho,hc⟩:=hl;exact#[o,Hw _ (Hw _ ho),hc]
 ·show hQ v h' tk hv λb o e=>hk b o (λz=>?_) (λz=>?_) (Hw _ (Hw _ e))
  ·have hb:=HF e;rw[Iv.mp z]at hb; exact Jc _ hb
  ·have hb:=HF e;have z':b=(s.heap.push _).objs.size:=z;rw[hsz]at z';rw[z']at hb;exact absurd hb (Lq.mpr (JN _))
end
open PySem.W (KasT kas_sort kas_ask kas_cmp kas_item kas_asc kas_desc kas_tail3 kas_descPart kas_count kas_place kas_bin kas_rev)
abbrev mf {α:Type}(lt:Hz->Hz->HP):KasT α->α
 | .ret a=>a
 | .ask i j k=>mf lt (k (lt i j))
abbrev OkK {α:Type}(n:Hz)(P:α->Prop):KasT α->Prop
 | .ret a=>P a
 | .ask i j k=>i < n/\j < n/\∀b,OkK n P (k b)
def mh {α:Type}{n:Hz}{P:α->Prop}{lt:Hz->Hz->HP}:∀(t:KasT α),OkK n P t->P (mf lt t)
 | .ret _,h=>h
 | .ask i j k,h=>mh (k (lt i j)) (h.2.2 _)
def pB {α:Type}{n:Hz}{P:α->Prop}{lt:Hz->Hz->HP}{t:KasT α}(h:OkK n P t):P (mf lt t):=mh t h
def OkK.bind {α β:Type}{n:Hz}{P:α->Prop}{P':β->Prop}{f:α->KasT β}:∀ {t:KasT α},OkK n P t->(∀a,P a->OkK n P' (f a))->OkK n P' (t.bind f)
 | .ret a,h,hf=>hf a h
 | .ask _ _ _,h,hf=>#[h.1,h.2.1,λb=>OkK.bind (h.2.2 b) hf]
def jX {α:Type}{n:Hz}{P:α->Prop}{lt:Hz->Hz->HP}{cmp:Hz->Hz->(HP->Ht->Prop)->Ht->Prop}{Q:α->Ht->Prop}{s:Ht}(hc:∀i j,i < n->j < n->∀C:HP->Ht->Prop,C (lt i j) s->cmp i j C s) :
  ∀ {t:KasT α},OkK n P t->Q (mf lt t) s->t.kasWp cmp Q s
 | .ret _,_,h=>h
 | .ask i j k,h,hq=>hc i j h.1 h.2.1 _ (jX hc (h.2.2 _) hq)
abbrev Pm (n:Hz)(p:Iu Hz):Prop:=p.toList.Perm (IJ n)
def Pm.size {n:Hz}{p:Iu Hz}(h:Pm n p):p.size=n:=by rw[<- Ip,h.length_eq,Kk]
def Pm.lt {n:Hz}{p:Iu Hz}(h:Pm n p)(hn:0 < n)(i:Hz):p.getD i 0 < n:=by
 by_cases hi:i < p.size
 ·have e:p.getD i 0=p[i]:=by simp[P8,hi]
  rw[e];have:p[i]∈p.toList:=by simp
  exact Jp.mp (h.mem_iff.mp this)
 ·have e:p.getD i 0=0:=by simp[P8,hi]
  rw[e]; exact hn
def Pm.rev {n:Hz}{p:Iu Hz}(h:Pm n p)(i j:Hz):Pm n (kas_rev p i j):=(L4.mp (mirror_perm p i j _)).trans h
def Pm.bub {n:Hz}{p:Iu Hz}(h:Pm n p)(i j:Hz):Pm n (bubble p i j):=(L4.mp (bubble_perm p i j)).trans h
section
variable{n:Hz}(hn:0 < n)
include hn
def nZ {p:Iu Hz}(h:Pm n p):∀(f m:Hz),OkK n (λ_=>NK) (kas_asc p f m)
 | 0,_=>trivial
 | f+1,m=>#[h.lt hn _,h.lt hn _,λb=>by
  change OkK n _ (if b=true then _ else _)
  split
  ·trivial
  ·exact nZ h f (m+1)]
def ie:∀(f:Hz) (p:Iu Hz) (m q:Hz),Pm n p->OkK n (λr=>Pm n r.1) (kas_desc f p m q)
 | 0,p,m,q,h=>h
 | f+1,p,m,q,h=>#[h.lt hn _,h.lt hn _,λb=>by
  change OkK n _ (if b=true then _ else _)
  split
  ·split
   ·exact ie f _ _ _ (h.rev _ _)
   ·exact ie f _ _ _ h
  ·show#[h.lt hn _,h.lt hn _,λc=>?_]
   change OkK n _ (if c=true then _ else _)
   split
   ·exact h
   ·exact ie f _ _ _ h]
def pE {p:Iu Hz}(h:Pm n p)(m k:Hz):OkK n (λr=>Pm n r.2) (kas_tail3 m k p):=by
 unfold kas_tail3;exact OkK.bind (nZ hn (h.rev 0 m) _ _) λa _=>h.rev 0 m
def gU {p:Iu Hz}(h:Pm n p)(m k:Hz):OkK n (λr=>Pm n r.2) (kas_descPart m k p):=by
 unfold kas_descPart;show OkK.bind (ie hn _ _ _ _ h) λr hr=>?_
 split
 ·exact pE hn (hr.rev _ _) _ _
 ·exact pE hn hr _ _
def tV {p:Iu Hz}(h:Pm n p)(k:Hz):OkK n (λr=>Pm n r.2) (kas_count k p):=by
 unfold kas_count;show OkK.bind (nZ hn h _ _) λm _=>?_
 split
 ·exact h
 ·split
  ·show#[h.lt hn _,h.lt hn _,λc=>?_]
   change OkK n _ (if c=true then _ else _)
   split
   ·exact h
   ·exact gU hn (h.rev _ _) _ _
  ·exact gU hn h _ _
def iS {p:Iu Hz}(h:Pm n p)(k:Hz):∀(f l r:Hz),OkK n (λ_=>NK) (kas_place p k f l r)
 | 0,_,_=>trivial
 | f+1,l,r=>by
  unfold kas_place;split
  ·trivial
  ·show#[h.lt hn _,h.lt hn _,λc=>?_]
   change OkK n _ (if c=true then _ else _)
   split
   ·exact iS h k f _ _
   ·exact iS h k f _ _
def tW:∀(f:Hz) (p:Iu Hz) (k:Hz),Pm n p->OkK n (Pm n) (kas_bin f p k)
 | 0,p,k,h=>h
 | f+1,p,k,h=>by
  unfold kas_bin;exact OkK.bind (iS hn h k _ _ _) λl _=>tW f _ _ (h.bub _ _)
def lg:OkK n (Pm n) (kas_sort n):=by
 unfold kas_sort;show OkK.bind (tV hn (by unfold Pm; simp) _) λr hr=>?_
 split
 ·exact tW hn _ _ _ hr
 ·exact hr
end
section
variable{prog:HM}{w:HX}{A:HW}{E:Hr->Ht->Prop}{s:Ht}{vs:Ho Hr}
abbrev dL (lt:Hz->Hz->HP){β:Type}(d:β)(vs:Ho β):Ho β:=if vs.length < 2 then vs else(mf lt (kas_sort vs.length)).toList.map λi=>vs.getD i d
def mn {lt:Hz->Hz->HP}{β:Type}{d:β}{vs:Ho β}:(dL lt d vs).length=vs.length:=by
 unfold dL;split
 ·rfl
 ·rw[HB,Ip,(pB (lt:=lt) (lg (n:=vs.length) ∅)).size]
def rf {a:Hv}{n:Hz}{lt:Hz->Hz->HP}{κ:Mu}{P:PySem.Fin->Ht->Prop}(ho:s.heap.get? a=ba (seqObj "list" vs.toArray n))(h64:vs.length < 64)
  (hkind:2<=vs.length->∀h',(∀b o,b≠a->s.heap.get? b=ba o->h'.get? b=ba o)->∀Q:Mu->Ht->Prop,Q κ { s with heap:=h' }->wpAny (model prog w) A (keyKind' vs.toArray) Q (λ_ _=>ID) { s with heap:=h' })
  (hlt:2<=vs.length->∀h',(∀b o,b≠a->s.heap.get? b=ba o->h'.get? b=ba o)->∀i j,i < vs.length->j < vs.length->∀Q:HP->Ht->Prop,Q (lt i j) { s with heap:=h' }->
   wpAny (model prog w) A (keyLt' κ (vs.getD i Iz) (vs.getD j Iz)) Q (λ_ _=>ID) { s with heap:=h' })
  (h:∀h' c,(∀b o,b≠a->s.heap.get? b=ba o->h'.get? b=ba o)->h'.get? a=ba (seqObj "list" (dL lt Iz vs).toArray c)->P (.done (.ret .none)) { s with heap:=h' }) :
  wpAny (model prog w) A (K3.«list.sort» #[[.ref a],[]]) P E s:=by
 have ha:a < s.heap.objs.size:=HF ho;obtain⟨e1,ho1⟩ : ∃e1,(s.heap.update a (Jr λ_=>(#[]:Iu Hr))).get? a=ba (seqObj "list" #[] e1):=#[_,MM ho λ_=>#[]]
 have keep:∀b o,b≠a->s.heap.get? b=ba o->(((s.heap.update a (Jr λ_=>(#[]:Iu Hr))).push (seqObj "tuple" vs.toArray 0)).push (seqObj "list" #[] 0)).get? b=ba o:=λb o hb e=>
  Hw _ (Hw _ ((J4 _ _ _ _ hb).trans e))
 have ho3:(((s.heap.update a (Jr λ_=>(#[]:Iu Hr))).push (seqObj "tuple" vs.toArray 0)).push (seqObj "list" #[] 0)).get? a=ba (seqObj "list" #[] e1):=Hw _ (Hw _ ho1)
 have fin:∀(out:Ho Hr),out.length=vs.length->out=dL lt Iz vs->P (.done (.ret .none)) { s with heap:=(((s.heap.update a (Jr λ_=>(#[]:Iu Hr))).push (seqObj "tuple" vs.toArray 0)).push (seqObj "list" #[] 0)).update a (Jr λ_=>out.toArray) }:=λout hl e=>by
  obtain⟨c2,hc2⟩ : ∃c2,((((s.heap.update a (Jr λ_=>(#[]:Iu Hr))).push (seqObj "tuple" vs.toArray 0)).push (seqObj "list" #[] 0)).update a (Jr λ_=>out.toArray)).get? a=ba (seqObj "list" out.toArray c2):=#[_,MM ho3 λ_=>out.toArray]
  exact h _ c2 (λb o hb q=>(J4 _ _ _ _ hb).trans (keep b o hb q)) (e ▸ hc2)
 rw[list_sort_plain];show Hq (N3 ho rfl ?_);show Hq (Mp ho rfl ?_ (by rw[HE,IN]; omega) (JJ _))
 show Hq (Oz ho1 rfl ?_);show Hq (OZ ?_ (by change vs.length<=_; rw[IN]; omega))
 show Hq (Nq ?_ (JJ _));show IL ?_;change wpAny (model prog w) A _ P E { s with heap:=((s.heap.update a (Jr λ_=>(#[]:Iu Hr))).push (seqObj "tuple" vs.toArray 0)).push (seqObj "list" #[] 0) }
 dsimp only
 by_cases h2:vs.length < 2
 ·rw[HN (by rw[HE]; exact h2),HN (by rw[HE]; exact h2)]
  show Hq (Hy (Hq ?_));rw[StateT.run_pure];show Hy ?_;dsimp only;show Hq (Oz ho3 rfl ?_);have hs:((arrOf (SortSt.mk' general' (vs.toArray.zip vs.toArray) #[] 7 gV)).map (·.2))=vs.toArray:=by
   show(vs.toArray.zip vs.toArray).map (·.2)=vs.toArray
   apply Array.toList_inj.mp;rw[Array.toList_map,Array.toList_zip];exact List.map_snd_zip (HJ _)
  rw[hs];show Hq (Mp ho3 rfl ?_ (JJ _) (by rw[HE,IN]; omega))
  simp only[N4,IK,JQ];exact Hy (fin vs rfl (by unfold dL; rw[HN h2]))
 ·have hn2:¬ vs.toArray.size < 2:=by rw[HE]; exact h2
  have h2':2<=vs.length:=∅
  rw[HY hn2,HY hn2];show Hq (IE (hkind h2' _ keep (λ(k:Mu) (s':Ht)=>k=κ/\s'={ s with heap:=((s.heap.update a (Jr λ_=>(#[]:Iu Hr))).push (seqObj "tuple" vs.toArray 0)).push (seqObj "list" #[] 0) }) #[rfl,rfl]) ?_ λ_ _ x=>x.elim)
  rintro _ _ ⟨rfl,rfl⟩;show Hq (IE (PySem.W.kat_run (Q:=λst' s'=>∃p:Iu Hz,p.size=vs.length/\arrOf st'=p.map (kas_item (vs.toArray.zip vs.toArray))/\failedOf st'=gV/\p=mf lt (kas_sort vs.length)/\s'={ s with heap:=((s.heap.update a (Jr λ_=>(#[]:Iu Hr))).push (seqObj "tuple" vs.toArray 0)).push (seqObj "list" #[] 0) })
   (G:=λp s'=>p=mf lt (kas_sort vs.length)/\s'={ s with heap:=((s.heap.update a (Jr λ_=>(#[]:Iu Hr))).push (seqObj "tuple" vs.toArray 0)).push (seqObj "list" #[] 0) }) rfl h2' h64 (λp' st' s' a1 a2 a3 a4=>#[p',a1,a2,a3,a4])
   (jX (lt:=lt) (λi j hi hj C hC=>hlt h2' _ keep i j hi hj C hC) (lg (n:=vs.length) ∅) #[rfl,rfl])) ?_ λ_ _ e=>e)
  rintro⟨⟨⟩,st'⟩ s' ⟨p,hp,har,hf,ep,rfl⟩;dsimp only;have hout:=PySem.W.kat_snds rfl har;have hsz:(p.toList.map λi=>vs.getD i Iz).length=vs.length:=by rw[HB,Ip,hp]
  rw[hout];show Hq (Oz ho3 rfl ?_);show Hq (Mp ho3 rfl ?_ (JJ _) (by rw[HE,hsz,IN]; omega))
  rw[hf];simp only[N4,IK,JQ];exact Hy (fin _ hsz (by unfold dL; rw[HY h2,ep]))
def rg {x:Hr}{lt:Hz->Hz->HP}{κ:Mu}{Q:Hr->Ht->Prop}(h64:vs.length < 64)
  (hcol:∀Q':Ho Hr->Ht->Prop,(∀h' tk,(∀b o,s.heap.get? b=ba o->h'.get? b=ba o)->s.heap.objs.size<=h'.objs.size->Q' vs { s with heap:=h',toks:=tk })->wpAny (model prog w) A.in1 (collect x) Q' E s)
  (hkind:2<=vs.length->∀h' tk,(∀b o,s.heap.get? b=ba o->h'.get? b=ba o)->∀Q:Mu->Ht->Prop,Q κ { s with heap:=h',toks:=tk }->wpAny (model prog w) A.in1.in1 (keyKind' vs.toArray) Q (λ_ _=>ID) { s with heap:=h',toks:=tk })
  (hlt:2<=vs.length->∀h' tk,(∀b o,s.heap.get? b=ba o->h'.get? b=ba o)->∀i j,i < vs.length->j < vs.length->∀Q:HP->Ht->Prop,Q (lt i j) { s with heap:=h',toks:=tk }->
   wpAny (model prog w) A.in1.in1 (keyLt' κ (vs.getD i Iz) (vs.getD j Iz)) Q (λ_ _=>ID) { s with heap:=h',toks:=tk })
  (h:∀D h' tk c,(∀b o,s.heap.get? b=ba o->h'.get? b=ba o)->s.heap.objs.size<=D->h'.get? D=ba (seqObj "list" (dL lt Iz vs).toArray c)->Q (.ref D) { s with heap:=h',toks:=tk }) :
  wpAny (model prog w) A (call (.builtin "sorted") [x]) Q E s:=by
 show Ma kind_sorted plain_sorted entry_sorted (args_sorted1 _) ?_;unfold K3.«sorted»;show Hq (m:=checkCount "sorted" 1 1 _) (Hy ?_);show Hq (hcol _ λh1 tk1 hk1 hle=>?_)
 show Hq (Nq ?_ (by rw[IN]; omega))
 have hoL:(h1.push (seqObj "list" vs.toArray 0)).get? h1.objs.size=ba (seqObj "list" vs.toArray 0):=HG _ rfl;have kp:∀b o,s.heap.get? b=ba o->(h1.push (seqObj "list" vs.toArray 0)).get? b=ba o:=λb o e=>Hw _ (hk1 b o e)
 have hne:∀b o,s.heap.get? b=ba o->b≠h1.objs.size:=λb o e=>HU (HV (HF e) hle)
 change wpAny _ _ _ _ _ { s with heap:=h1.push (seqObj "list" vs.toArray 0),toks:=tk1 }
 show Hq (IL (Jk slot_list_sort #[_,hoL,rfl] entry_list_sort ?_ (args_list_sort _)));show rf (s:={ s with heap:=h1.push (seqObj "list" vs.toArray 0),toks:=tk1 }) (lt:=lt) (κ:=κ) hoL h64 (λh2 h' hk Q hq=>hkind h2 h' tk1 (λb o e=>hk b o (hne b o e) (kp b o e)) Q hq)
  (λh2 h' hk i j hi hj Q hq=>hlt h2 h' tk1 (λb o e=>hk b o (hne b o e) (kp b o e)) i j hi hj Q hq) λh' c hk hD=>?_
 exact#[_,rfl,Hy #[_,rfl,h _ h' tk1 c (λb o e=>hk b o (hne b o e) (kp b o e)) hle hD]]
end
end Mi
namespace Mi
open PySem PySem.Spec PyProof.Rows L2
abbrev dH:T->Jb
 | .int _=>"int"|.str _=>"str"|.tup _=>"tuple"
abbrev aP:T->Hs T
 | .tup (x::_)=>ba x
 | _=>gV
abbrev xz (ks:Ho T):Hs Hz:=
 if ks.all (λk=>dH k == "int")then ba 0
 else if ks.all (λk=>dH k == "str")then ba 1
 else if ks.all (λk=>(aP k).any λf=>dH f == "int")then ba 2
 else if ks.all (λk=>(aP k).any λf=>dH f == "str")then ba 3
 else if ks.all (λk=>(aP k).any λf=>dH f == "tuple")then ba 4
 else gV
abbrev tY:Hz->Mu
 | 0=>oneType'|1=>oneType'|2=>tuples' true|3=>tuples' true|_=>tuples' false
abbrev iT (ks:Ho T):HP:=ks.all λx=>ks.all λy=>(xy x y).isSome
abbrev zo (ks:Ho T)(i j:Hz):HP:=(xy (ks.getD i (.int 0)) (ks.getD j (.int 0))).getD false
def tZ {ks:Ho T}(h:iT ks=true){i j:Hz}(hi:i < ks.length)(hj:j < ks.length):xy (ks[i]) (ks[j])=ba (zo ks i j):=by
 unfold iT at h;rw[Ih]at h;have h1:=h ks[i] (Jl hi);rw[Ih]at h1;have h2:=h1 ks[j] (Jl hj);unfold zo;rw[show ks.getD i (.int 0)=ks[i] by simp[hi],show ks.getD j (.int 0)=ks[j] by simp[hj]]
 obtain⟨b,hb⟩:=IM.mp h2;rw[hb]; rfl
abbrev GP (c:Hz)(x y:T):Prop:=match c with|0=>dH x = "int"/\dH y = "int"|1=>dH x = "str"/\dH y = "str"|2=>∃f g,aP x=ba f/\aP y=ba g/\dH f = "int"/\dH g = "int"|3=>∃f g,aP x=ba f/\aP y=ba g/\dH f = "str"/\dH g = "str"|_=>∃f g,aP x=ba f/\aP y=ba g
section
variable{prog:HM}{w:HX}{A:HW}{E:Hr->Ht->Prop}{s:Ht}
def pG {h:Ii}{k:T}{v:Hr}(x:IsT h k v):Pg (model prog w) h (typeOf v) (.type (dH k)):=by
 cases x with
 | int=>exact .now
 | str=>exact .now
 | tup a c d t=>exact c ▸ ((Qm a).andThen .now:Pg (model prog w) h (typeOf (.ref _)) _)
def IsTs.mem {h:Ii}:∀ {ks:Ho T} {vs:Ho Hr},IsTs h ks vs->∀v∈vs,∃k∈ks,IsT h k v
 | _,_,.cons a b,v,hv=>by
  rcases Ij.mp hv with rfl|hv
  ·exact#[_,.head _,a]
  ·obtain⟨k,hk,q⟩:=IsTs.mem b v hv;exact#[k,.tail _ hk,q]
def jY {h:Ii}{p:T->HP}:∀ {ks:Ho T} {vs:Ho Hr},IsTs h ks vs->ks.all (λk=>(aP k).any p)=true->∃fs,PySem.W.KatTups h vs fs/\fs.length=vs.length/\∀v∈fs,∃k,p k=true/\IsT h k v
 | _,_,.nil,_=>#[[],.nil,rfl,λv hv=>nomatch hv]
 | k::ks,_,.cons a b,hp=>by
  rw[Io,Hu]at hp;obtain⟨fs,h1,h2,h3⟩:=jY b hp.2;cases a with
  | int=>simp[aP]at hp
  | str=>simp[aP]at hp
  | @tup kk ad o items n a1 c1 d1 t1=>
   cases kk with
   | nil=>simp[aP]at hp
   | cons x xs=>
    have hx:p x=true:=by simpa [aP]using hp.1
    generalize hit:items.toList=its at t1;cases t1 with
    | @cons _ u _ us q1 q2=>
     show#[u::fs,.cons a1 c1 d1 (by rw[<- Jy,hit]; rfl) h1,by simp[h2],λv hv=>?_]
     rcases Ij.mp hv with rfl|hv
     ·exact#[x,hx,q1]
     ·exact h3 v hv
def AS {ks:Ho T}{vs:Ho Hr}{c:Hz}{Q:Mu->Ht->Prop}(h:IsTs s.heap ks vs)(h2:2<=vs.length)(hc:xz ks=ba c)(hq:Q (tY c) s):wpAny (model prog w) A (keyKind' vs.toArray) Q E s:=by
 have one:∀ty:Jb,(td ty != td "tuple")=true->ks.all (λk=>dH k==ty)=true->Q oneType' s->wpAny (model prog w) A (keyKind' vs.toArray) Q E s:=λty hty hall hq=>
  PySem.W.kas_kind (T:=.type ty) h2 (λv hv=>by
   obtain⟨k,hk,x⟩:=h.mem v hv;have:=eq_of_beq (Ih.mp hall k hk);exact this ▸ pG x) hty (by simp) hq
 have tup:∀ty:Jb,ks.all (λk=>(aP k).any λf=>dH f==ty)=true->Q (tuples' (td ty != td "tuple")) s->wpAny (model prog w) A (keyKind' vs.toArray) Q E s:=λty hall hq=>by
  obtain⟨fs,h1,h3,h4⟩:=jY h hall;exact PySem.W.kat_kind (T:=.type ty) h1 ∅ (λv hv=>by
   obtain⟨k,hk,x⟩:=h4 v hv;have:=eq_of_beq hk;exact this ▸ pG x) (by simp) hq
 unfold xz at hc;split at hc
 ·cases hc; exact one "int" #v[] (by assumption) hq
 ·split at hc
  ·cases hc; exact one "str" #v[] (by assumption) hq
  ·split at hc
   ·cases hc; exact tup "int" (by assumption) hq
   ·split at hc
    ·cases hc; exact tup "str" (by assumption) hq
    ·split at hc
     ·cases hc; exact tup "tuple" (by assumption) hq
     ·cases hc
def mo {b:HP}{Q:HP->Ht->Prop}{d:Hz}(hu:A.units+d < cLine):∀(xs ys:Ho T) (us vs:Ho Hr) (i:Hz) (k:HP),T.depths xs<=d->T.depths ys<=d->IsTs s.heap xs us->IsTs s.heap ys vs->md xs ys=ba k->
  (b=true->i=0->∀x y,xs.head?=ba x->ys.head?=ba y->(dH x = "int"/\dH y = "int")\/(dH x = "str"/\dH y = "str"))->Q k s->PySem.W.KatLex prog w A b (decide (us.length < vs.length)) Q (us.zip vs) i s
 | [],[],_,_,i,k,_,_,h1,h2,e,hb,hq=>by cases h1; cases h2; cases e; exact MN (by simpa using hq)
 | [],y::ys,_,_,i,k,_,_,h1,h2,e,hb,hq=>by cases h1; cases h2; cases e; exact MN (by simpa using hq)
 | x::xs,[],_,_,i,k,_,_,h1,h2,e,hb,hq=>by cases h1; cases h2; cases e; exact MN (by simpa using hq)
 | x::xs,y::ys,_,_,i,k,d1,d2,h1,h2,e,hb,hq=>by
  simp only[T.depths]at d1 d2;cases h1 with
  | @cons _ u _ us p1 q1=>
   cases h2 with
   | @cons _ v _ vs p2 q2=>
    have he:=q9 d x y _ _ A s ∅ p1 p2 hu ∅
    rw[JS];show PySem.W.kat_cons (he prog w _ _ ?_);simp only[md]at e;have hlen:decide ((u::us).length < (v::vs).length)=decide (us.length < vs.length):=by simp
    rw[hlen]
    by_cases hxy:x=y
    ·rw[HN hxy]at e;rw[Ji hxy];exact PySem.W.kat_yes (mo hu xs ys us vs (i+1) k ∅ ∅ q1 q2 e (λ_ z=>absurd z (Nat.succ_ne_zero _)) hq)
    ·rw[HY hxy]at e;rw[Ik hxy];show PySem.W.kat_no ?_
     by_cases hb0:b=true/\i=0
     ·obtain⟨rfl,rfl⟩:=hb0;rcases hb rfl rfl x y rfl rfl with⟨hx,hy⟩|⟨hx,hy⟩
      ·cases p1 with
       | int=>cases p2 with
        | int=>cases e; exact oneLt_int hq
        | _=>exact absurd hy (by simp[dH])
       | _=>exact absurd hx (by simp[dH])
      ·cases p1 with
       | str=>cases p2 with
        | str=>cases e; exact oneLt_str hq
        | _=>exact absurd hy (by simp[dH])
       | _=>exact absurd hx (by simp[dH])
     ·have hf:(b&&i==0)=false:=by
       cases b with
       | false=>rfl
       | true=>
        have:i≠0:=λz=>hb0 #[rfl,z]
        simpa using this
      rw[hf];exact PySem.W.kat_one _ _ ((Dp d x y _ _ A s k ∅ ∅ p1 p2 hu e) prog w _ _ hq)
def xA {c d:Hz}{x y:T}{u v:Hr}{k:HP}{Q:HP->Ht->Prop}(hu:A.units+d < cLine)(d1:x.depth<=d)(d2:y.depth<=d)(h1:IsT s.heap x u)(h2:IsT s.heap y v)(e:xy x y=ba k)
  (hc:GP c x y)
  (hq:Q k s):wpAny (model prog w) A (keyLt' (tY c) u v) Q E s:=by
 have tup:∀b:HP,(∃f g,aP x=ba f/\aP y=ba g/\(b=true->(dH f = "int"/\dH g = "int")\/(dH f = "str"/\dH g = "str")))->wpAny (model prog w) A (keyLt' (tuples' b) u v) Q E s:=by
  rintro b ⟨f,g,hf,hg,hb⟩;cases h1 with
  | int=>cases hf
  | str=>cases hf
  | @tup xs a o items n a1 c1 e1 t1=>
   cases h2 with
   | int=>cases hg
   | str=>cases hg
   | @tup ys a' o' items' n' a2 c2 e2 t2=>
    simp only[T.depth]at d1 d2;show PySem.W.kat_lt a1 e1 a2 e2 ?_;have:=mo (prog:=prog) (w:=w) (b:=b) (Q:=Q) hu xs ys items.toList items'.toList 0 k ∅ ∅ t1 t2 e (λhb' _ p q hp hq'=>by
     cases xs with
     | nil=>cases hp
     | cons x0 xs=>cases ys with
      | nil=>cases hq'
      | cons y0 ys=>cases hp; cases hq'; cases hf; cases hg; exact hb hb') hq
    simpa using this
 match c,hc with
 | 0,#[hx,hy]=>
  cases h1 with
  | int=>cases h2 with
   | int=>cases e; exact PySem.W.kat_lt_int hq
   | _=>exact absurd hy (by simp[dH])
  | _=>exact absurd hx (by simp[dH])
 | 1,#[hx,hy]=>
  cases h1 with
  | str=>cases h2 with
   | str=>cases e; exact PySem.W.kas_lt_str hq
   | _=>exact absurd hy (by simp[dH])
  | _=>exact absurd hx (by simp[dH])
 | 2,#[f,g,h1',h2',h3,h4]=>exact tup true #[f,g,h1',h2',λ_=>.inl #[h3,h4]]
 | 3,#[f,g,h1',h2',h3,h4]=>exact tup true #[f,g,h1',h2',λ_=>.inr #[h3,h4]]
 | n+4,#[f,g,h1',h2']=>exact tup false #[f,g,h1',h2',λz=>nomatch z]
end
def xB {ks:Ho T}{c:Hz}(h:xz ks=ba c){x y:T}(hx:x∈ks)(hy:y∈ks) :
  GP c x y:=by
 have one:∀ {ty:Jb},ks.all (λk=>dH k==ty)=true->dH x=ty/\dH y=ty:=λha=>#[eq_of_beq (Ih.mp ha x hx),eq_of_beq (Ih.mp ha y hy)]
 have fst:∀ {ty:Jb},ks.all (λk=>(aP k).any λf=>dH f==ty)=true->∃f g,aP x=ba f/\aP y=ba g/\dH f=ty/\dH g=ty:=λ{ty} ha=>by
  have h1:=Ih.mp ha x hx;have h2:=Ih.mp ha y hy;cases e1:aP x with
  | none=>rw[e1]at h1; cases h1
  | some f=>
   cases e2:aP y with
   | none=>rw[e2]at h2; cases h2
   | some g=>
    rw[e1]at h1; rw[e2]at h2
    exact#[f,g,rfl,rfl,eq_of_beq (by simpa using h1),eq_of_beq (by simpa using h2)]
 unfold xz at h;split at h
 ·cases h; exact one (by assumption)
 ·split at h
  ·cases h; exact one (by assumption)
  ·split at h
   ·cases h; exact fst (by assumption)
   ·split at h
    ·cases h; exact fst (by assumption)
    ·split at h
     ·cases h;obtain⟨f,g,h1,h2,_⟩:=fst (by assumption)
      exact#[f,g,h1,h2]
     ·cases h
abbrev dY (S:aa):W->Hs (Ho W)
 | .tup xs=>ba xs
 | .ref i=>match fm S i with
  | some xs=>ba xs
  | none=>(jA S i).map λU=>U.map λp=>p.1.w
 | _=>gV
abbrev cC:Hz:=8
abbrev lh (ks:Ho T):HP:=decide (ks.length < 64)&&decide (T.depths ks<=cC)&&(decide (ks.length < 2)||((xz ks).isSome&&iT ks))
abbrev fO (xs:Ho W)(S:aa):Hs (W×aa):=match xs with
 | [x]=>match dY S x with
  | some ws=>match W.ts ws with
   | some ks=>if lh ks then ba (.ref S.length,S++[.lst (dL (zo ks) .non ws)])else gV
   | none=>gV
  | none=>gV
 | _=>gV
abbrev jZ (xs:Ho W)(S:aa):Hs (W×aa):=match xs with
 | [.ref i]=>match jA S i with
  | some U=>ba (.ref S.length,S++[.lst (U.map λp=>p.1.w)])
  | none=>fK [.ref i] S
 | xs=>fK xs S
abbrev n0 (xs:Ho W)(S:aa):Hs (W×aa):=match xs with
 | [.ref i]=>match jA S i with
  | some U=>ba (.int U.length,S)
  | none=>nU [.ref i] S
 | xs=>nU xs S
abbrev n4 (ks:Ho T):Hz:=argBest (zo ks) (ks.length - 1)
abbrev xC (xs:Ho W)(S:aa):Hs (W×aa):=match xs with
 | [.ref i]=>match fm S i with
  | some ws=>match W.ts ws with
   | some ks=>if T.depths ks<=cC/\iT ks=true then(ws[n4 ks]?).map λw=>(w,S)else gV
   | none=>gV
  | none=>gV
 | _=>gV
abbrev dq:Ho W->Hs (Ho HP)
 | []=>ba []
 | .bl b::ws=>(dq ws).map (b :: ·)
 | _::_=>gV
abbrev xD (xs:Ho W)(S:aa):Hs (W×aa):=match xs with
 | [.ref i]=>match fm S i with
  | some ws=>(dq ws).map λbs=>(.bl (bs.all id),S)
  | none=>gV
 | _=>gV
section
variable{X:Cx}{J:Ho (Hv×Jg)}{Y:L2.St}{H:Hp}{s:Ht}{A:Ho Hv}{S:aa}
def RelL.pick {K:HA}{ws:Ho W}{vs:Ho V}(r:RelL K A H ws vs)(d:W)(d':V):∀(is:Ho Hz),(∀i∈is,i < ws.length)->RelL K A H (is.map λi=>ws.getD i d) (is.map λi=>vs.getD i d')
 | [],_=>.nil
 | i::is,h=>by
  have hi:=h i (.head _);obtain⟨v,h1,h2⟩:=r.get (HI hi);show .cons ?_ (RelL.pick r d d' is λj hj=>h j (.tail _ hj))
  have e1:ws.getD i d=ws[i]:=by simp[hi]
  have e2:vs.getD i d'=v:=by simp[h1]
  change Rel K A H (ws.getD i d) (vs.getD i d');rw[e1,e2]; exact h2
def Vals.pick {vs:Ho V}{us:Ho Hr}(r:Vals vs us)(d:V)(d':Hr):∀(is:Ho Hz),(∀i∈is,i < vs.length)->Vals (is.map λi=>vs.getD i d) (is.map λi=>us.getD i d')
 | [],_=>.nil
 | i::is,h=>by
  have hi:=h i (.head _);obtain⟨v,h1,h2⟩:=L2.Vals.get r (HI hi);show .cons ?_ (Vals.pick r d d' is λj hj=>h j (.tail _ hj))
  have e1:vs.getD i d=vs[i]:=by simp[hi]
  have e2:us.getD i d'=v:=by simp[h1]
  change L2.RelV (vs.getD i d) (us.getD i d');rw[e1,e2]; exact h2
def li {n:Hz}{lt:Hz->Hz->HP}(hn:0 < n):∀i∈(mf lt (PySem.W.kas_sort n)).toList,i < n:=λi hi=>Jp.mp ((pB (lt:=lt) (lg hn)).mem_iff.mp hi)
def t4 {K:HA}{lt:Hz->Hz->HP}{ws:Ho W}{vs:Ho V}(r:RelL K A H ws vs):RelL K A H (dL lt .non ws) (dL lt .non vs):=by
 unfold dL;rw[r.length];split
 ·exact r
 ·exact r.pick _ _ _ λi hi=>by rw[r.length]; exact li ∅ i hi
def rh {lt:Hz->Hz->HP}{vs:Ho V}{us:Ho Hr}(r:Vals vs us):Vals (dL lt .non vs) (dL lt .none us):=by
 unfold dL;rw[L2.Vals.length r];split
 ·exact r
 ·exact Vals.pick r _ _ _ λi hi=>by rw[L2.Vals.length r]; exact li ∅ i hi
def mq {prog:HM}{w:HX}{B:HW}{E:Hr->Ht->Prop}{l:Hv}{vs:Ho Hr}{Q:Ho Hr->Ht->Prop}(hl:NL s.heap l vs.toArray)(hsz:vs.length<=sizeLine)
  (h:∀h' tk,(∀b o,s.heap.get? b=ba o->h'.get? b=ba o)->s.heap.objs.size<=h'.objs.size->Q vs { s with heap:=h',toks:=tk }):wpAny (model prog w) B (collect (.ref l)) Q E s:=by
 obtain⟨o,ho,hc,n,hd⟩:=id hl;unfold collect;show Hq (M5 (JG entry_proto_collect' ?_));change wpAny _ _ (do again (.builtin "list.__iadd__" #[[<- newList [],.ref l],[]])) _ _ s
 show Hq (Nq (Hy #[LV _ (by decide +kernel),JG entry_list_iadd' ?_]))
 change wpAny _ _ (J7 (.ref s.heap.objs.size) (.ref l) (.ref s.heap.objs.size)) _ _ { s with heap:=s.heap.push (seqObj "list" #[] 0) }
 unfold J7;have ho':(s.heap.push (seqObj "list" #[] 0)).get? l=ba o:=Hw _ ho;show Hq (LJ (T:="tuple") #[o,ho',hc] ?_);have ht:(td "tuple" == td "tuple")=true:=by rfl
 rw[HN (by rw[ht]; simp)]
 show Hq (N3 ho' hd ?_);show Hq (N3 (xs:=#[]) (n:=0) (HG _ rfl) rfl ?_);rw[HY (by simp)]
 show Hq (Mp (xs:=#[]) (n:=0) (HG _ rfl) rfl ?_ (JJ _) (by show(#[]++vs.toArray).size<=sizeLine+1; simp only[Array.size_append,HE,JE]; omega))
 show Hy ?_;change wpAny (model prog w) B (do
   let o <- load s.heap.objs.size
   match o.data with
   | .seq xs _=>pure xs.toList
   | _=>unsupported "internal:collect") Q E { s with heap:=(s.heap.push (seqObj "list" #[] 0)).update s.heap.objs.size (Jr (· ++ vs.toArray)) }
 show Hq (Ny (MM (HG _ rfl) _) ?_);change wpAny _ _ (pure ((#[]:Iu Hr)++vs.toArray).toList) Q E _;rw[show((#[]:Iu Hr)++vs.toArray).toList=vs by simp]
 show Hy (h _ s.toks (λb o' e=>(J4 _ _ _ _ (HU (HF e))).trans (Hw _ e)) ?_)
 rw[Oq,size_push'];exact JN _
def DicAt.raw {wd:HX}{a:Hv}{xs:Ho (T×Hv×Hr)}{h:Ii}(d:DicAt wd a xs h):∃es ep,RawD a es ep h/\es.toList=xs.map (tq wd):=
 let ⟨_,_,_,o,es,ep,h1,h2,h3,h4⟩:=d; #[es,ep,#[o,h1,h2,h3],h4]
def KRel.keysL {U:Ho (T×W)}{xs:Ho (T×Hv×Hr)}(r:KRel X.K A H U xs):RelL X.K A H (U.map λp=>p.1.w) (xs.map λq=>V.ref q.2.1):=by
 unfold KRel at r
 induction r with
 | nil=>exact .nil
 | cons h t ih=>exact .cons h.2.2.2.1 ih
def j0 (xs:Ho (T×Hv×Hr)):Vals (xs.map λq=>V.ref q.2.1) (xs.map λq=>HL q.2.1):=by
 induction xs with
 | nil=>exact .nil
 | cons x xs ih=>exact .cons rfl ih
def iU {wd:HX}{es:Iu JZ}{xs:Ho (T×Hv×Hr)}(he:es.toList=xs.map (tq wd)){acc:Iu Hr}(ha:MB (λi v=>∃e,es[i]?=ba e/\e.key=v) acc es.size):acc.toList=xs.map λq=>HL q.2.1:=by
 have hl:es.size=xs.length:=by rw[<- Ip,he,HB]
 apply Oo
 ·rw[Ip,ha.1,HB,hl]
 ·intro i h1 h2;rw[Ip]at h1;obtain⟨e,q1,q2⟩:=ha.2 i acc[i] (by simp[h1])
  rw[<- Jy,he,HQ]at q1;rw[HB]at h2;rw[HI h2]at q1;simp only[IW,IG]at q1;subst q1;rw[List.getElem_map,Array.getElem_toList];exact q2.symm
def rj {x:W}{a:V}{u:Hr}{ws:Ho W}(hh:X.A.handled=gV)(I:Inv X J Y H s)(so:StoreOk X.w X.K A H S)(rx:Rel X.K A H x a)(ru:RelV a u)(e:dY S x=ba ws):∃vs us,RelL X.K A H ws vs/\Vals vs us/\us.length<=sizeLine/\
  ∀(B:HW) (hB:B.handled=gV) (E:Hr->Ht->Prop) (Q':Ho Hr->Ht->Prop),(∀h' tk,(∀b o,s.heap.get? b=ba o->h'.get? b=ba o)->s.heap.objs.size<=h'.objs.size->Q' us { s with heap:=h',toks:=tk })->wpAny (model X.prog X.w) B (collect u) Q' E s:=by
 cases rx with
 | tup h1 r1=>
  cases e;obtain⟨its,rv,ht,hz⟩:=I.tuple h1;obtain rfl:u=HL _:=ru;exact#[_,its,r1,rv,by rw[<- L2.Vals.length rv]; exact hz,λB hB E Q' h=>mq ht (by rw[<- L2.Vals.length rv]; exact hz) h]
 | ref ea=>
  dsimp only[dY]at e;split at e
  ·rename_i xs hx;cases e;obtain⟨vs,h1,r1⟩:=bC so hx ea;obtain⟨its,rv,p,hz⟩:=I.list h1;obtain rfl:u=HL _:=ru;show#[_,its,r1,rv,by rw[<- L2.Vals.length rv]; exact hz,λB hB E Q' h=>collect_list p.isList (h _ s.toks (λb o' e=>(J4 _ _ _ _ (HU (HF e))).trans (Hw _ e)) ?_) (by rw[<- L2.Vals.length rv]; exact hz)]
   rw[Oq,size_push'];exact JN _
  ·rw[Hx]at e;obtain⟨U,hk,rfl⟩:=e;obtain⟨xs,rd,kr⟩:=dX so hk ea;have d:=bB I rd;obtain⟨es,ep,raw,he⟩:=d.raw;obtain rfl:u=HL _:=ru;have hl:es.size=xs.length:=by rw[<- Ip,he,HB]
   show#[_,_,kr.keysL,j0 xs,by rw[HB]; exact d.1,λB hB E Q' h=>ma (pA d.2.1) hB raw (by rw[hl]; exact d.1) λh' tk acc hk' hle ha=>?_]
   rw[iU he ha];exact h h' tk hk' hle
 | _=>cases e
def j3 {h':Ii}{tk c:Hz}{D:Hv}{ws:Ho W}{vs:Ho V}{us:Ho Hr}(I:Inv X J Y H s)(so:StoreOk X.w X.K A H S)(r:RelL X.K A H ws vs)(rv:Vals vs us)(hz:us.length<=sizeLine)(hk:∀b o,s.heap.get? b=ba o->h'.get? b=ba o)(hD:s.heap.objs.size<=D)
  (ho:h'.get? D=ba { cls:=.type "list",data:=.seq us.toArray c }):PostE X J Y A H (S++[.lst ws]) (.ref S.length) (.ref D) { s with heap:=h',toks:=tk }:=by
 have hn:H D=gV:=I.hok.fresh hD;show#[.ref D,_,A++[D],I.laid (a:=D) (o:=.lst vs) (t':=tk) hk hD #[by rw[L2.Vals.length rv]; exact hz,us,c,rv,ho],rfl,cm hn,so.push hn r,.ref ?_]
 rw[<- so.len]; simp
def lj (hh:X.A.handled=gV)(hu:X.A.units+12 < cLine):LCall X (.builtin "sorted") fO:=by
 intro J s Y H A S xs vs us w S' I so rl rv e;cases rl with
 | nil=>cases e
 | cons r t=>
  cases t with
  | cons _ _=>cases e
  | nil=>
   cases rv with
   | cons ru rv2=>
    cases rv2;dsimp only[fO]at e;split at e
    ·rename_i ws hw;split at e
     ·rename_i ks hk;split at e
      ·rename_i hok;cases e;obtain⟨vs',us',r1,rv1,hz,hcol⟩:=rj hh I so r ru hw
       (dsimp only[lh]at hok; simp only[Hu,Im]at hok)
       obtain⟨⟨h64,hd⟩,hok⟩:=hok;have hws:T.ws ks=ws:=W.ts_w hk;have hT:IsTs s.heap ks us':=eG I ks (hws ▸ r1) rv1;have hl:us'.length=ks.length:=hT.length.symm;have sk:2<=us'.length->(xz ks).isSome=true/\iT ks=true:=λh2=>by
        rcases Jj _ _ ▸ hok with h|h
        ·simp only[Im]at h; omega
        ·simpa using h
       show rg (vs:=us') (lt:=zo ks) (κ:=tY ((xz ks).getD 0)) ∅ (λQ' hQ'=>hcol X.A.in1 hh _ Q' hQ') (λh2 h' tk hk' Q hq=>?_) (λh2 h' tk hk' i j hi hj Q hq=>?_) λD h' tk c hk' hD ho=>?_
       ·obtain⟨q1,q2⟩:=sk h2;obtain⟨c,hc⟩:=IM.mp q1;rw[hc]at hq;exact AS (s:={ s with heap:=h',toks:=tk }) (hT.kept λb o _ e=>hk' b o e) h2 hc hq
       ·obtain⟨q1,q2⟩:=sk h2;obtain⟨c,hc⟩:=IM.mp q1;rw[hc];have hi':i < ks.length:=∅
        have hj':j < ks.length:=∅
        have g:=(hT.kept (h':=h') λb o _ e=>hk' b o e)
        have e1:us'.getD i Iz=us'[i]:=by simp[hi]
        have e2:us'.getD j Iz=us'[j]:=by simp[hj]
        rw[e1,e2];have b1:=cq (ks:=ks) i hi';have b2:=cq (ks:=ks) j hj';exact xA (s:={ s with heap:=h',toks:=tk }) (d:=cC) (c:=c) (by rw[aH,aH]; unfold cC; omega) ∅ ∅ (g.get i hi' hi) (g.get j hj' hj) (tZ q2 hi' hj') (xB hc (Jl hi') (Jl hj')) hq
       ·exact j3 I so (t4 r1) (rh rv1) (by rw[mn]; exact hz) hk' hD ho
      ·cases e
     ·cases e
    ·cases e
def mr (hh:X.A.handled=gV):LCall X (.type "list") jZ:=by
 intro J s Y H A S xs vs us w S' I so rl rv e
 by_cases hd:∃i U,xs=[.ref i]/\jA S i=ba U
 ·obtain⟨i,U,rfl,hk⟩:=hd
  (dsimp only[jZ]at e; simp only[hk]at e)
  cases e;cases rl with
  | cons r t=>
   cases t;cases rv with
   | cons ru rv2=>
    cases rv2;cases r with
    | ref ea=>
     obtain⟨xs,rd,kr⟩:=dX so hk ea;have d:=bB I rd;obtain⟨es,ep,raw,he⟩:=d.raw;obtain rfl:_=HL _:=ru;have hl:es.size=xs.length:=by rw[<- Ip,he,HB]
     show PySem.W.kdl_call (pA d.2.1) hh raw (by rw[hl]; exact d.1) λh' tk acc' c' hk' hD ha=>?_
     have ea':=iU he ha;show j3 (us:=acc'.toList) I so kr.keysL (ea' ▸ j0 xs) (by rw[ea',HB]; exact d.1) hk' (HJ _) (c:=c') ?_
     simpa using hD
 ·have:jZ xs S=fK xs S:=by
   unfold jZ;split
   ·rename_i i;split
    ·rename_i U hk;exact absurd #[i,U,rfl,hk] hd
    ·rfl
   ·rfl
  rw[this]at e;exact ft J s Y H A S xs vs us w S' I so rl rv e
end
open PySem.W (KasT kas_sort kas_asc kas_desc kas_tail3 kas_descPart kas_count kas_place kas_bin kas_rev)
abbrev gt (p:Iu Hz)(i:Hz):Hz:=p.getD i 0
end Mi
namespace Mi
open PySem PySem.Spec PyProof.Rows L2
abbrev iV (xs:Ho W)(S:aa):Hs (W×aa):=match xs with
 | [.ref i]=>match AQ S i with
  | some (lo,hi)=>if -(2 ^ 62)<=lo/\lo < 2 ^ 62/\-(2 ^ 62)<=hi/\hi < 2 ^ 62/\(hi - lo).toNat<=sizeLine then ba (.tup (Dm lo (hi - lo).toNat),S)else gV
  | none=>iM [.ref i] S
 | xs=>iM xs S
section
variable{prog:HM}{w:HX}{A:HW}{E:Hr->Ht->Prop}{s:Ht}
def jE {Q:Ho Hr->Ht->Prop}{r:Hv}{a b c:HR}{t u v:Qk}{n:Hz}(hh:A.handled=gV)(hr:Qf s.heap r a b c t u v)(hsmall:LF a b c=true)
  (hn:JI a b c=n) (hlen:n<=2 ^ 24)
  (hQ:∀h' tk (acc:Iu Hr),(∀b o,s.heap.get? b=ba o->h'.get? b=ba o)->s.heap.objs.size<=h'.objs.size->MB (λi v=>∃t,v=.int (a+i*c) t) acc n->Q acc.toList { s with heap:=h',toks:=tk }):wpAny (model prog w) A (collect (.ref r)) Q E s:=by
 unfold collect;show Hq (M5 (JG F.entry_proto_collect ?_));rw[Js F.plain_proto_collect _];change wpAny _ A.in1 (newList [] >>= λl=>again (.builtin "list.__iadd__" #[[l,.ref r],[]])) _ _ s
 show Hq (IA ?_);show Hy #[KB F.plain_list_iadd _,JG F.entry_list_iadd ?_];rw[Js F.plain_list_iadd _];change wpAny _ A.in1 (J7 (.ref s.heap.objs.size) (.ref r) (.ref s.heap.objs.size)) _ _ _;have hS:(s.heap.push { cls:=.type "list",data:=.seq ([]:Ho Hr).toArray }).get? s.heap.objs.size=ba { cls:=.type "list",data:=.seq #[] 0 }:=HG _ rfl;have fin':∀s',(∃h' tk acc c',s'={ s with heap:=h',toks:=tk }/\(∀b o,s.heap.get? b=ba o->h'.get? b=ba o)/\h'.get? s.heap.objs.size=ba { cls:=.type "list",dict:=gV,data:=.seq acc c',slots:=#[] }/\MB (λi v=>∃t,v=.int (a+i*c) t) acc n)->wpAny (model prog w) A (do
   let o <- load s.heap.objs.size
   match o.data with
   | .seq xs _=>pure xs.toList
   | _=>unsupported "internal:collect") Q E s':=by
  rintro s' ⟨h',tk,acc,c',rfl,hk,hS',hacc⟩;exact Hq (Ny hS' (Hy (hQ h' tk acc hk (J5 (HF hS')) hacc)))
 show IE (wpAny_extend_range (A:=A) (s:={ s with heap:=s.heap.push { cls:=.type "list",data:=.seq ([]:Ho Hr).toArray } }) (R:=λr s'=>r=.ok (.ret (.ref s.heap.objs.size))/\∃h' tk acc c',s'={ s with heap:=h',toks:=tk }/\(∀b o,s.heap.get? b=ba o->h'.get? b=ba o)/\h'.get? s.heap.objs.size=ba { cls:=.type "list",dict:=gV,data:=.seq acc c',slots:=#[] }/\MB (λi v=>∃t,v=.int (a+i*c) t) acc n) hh (Hw _ hr) hsmall hn hlen _ _ 0 hS λh' tk acc' c' hk hS' hacc=>#[rfl,h',tk,acc',c',rfl,λb o e=>hk b o (HU (HF e)) (Hw _ e),hS',hacc]) (λfin s' h=>?_) (λe s' h=>?_)
 ·cases fin with
  | done f=>
   obtain⟨e,h⟩:=h;cases e;exact fin' s' h
  | again c'=>exact#[h.1,Kx h.2 λr s'' hr=>by obtain⟨rfl,hr⟩:=hr; exact fin' s'' hr]
 ·exact absurd h.1 (by simp)
def gF {Q₁:Hr->Ht->Prop}{r:Hv}{a b c:HR}{t u v:Qk}{n:Hz}(hh:A.handled=gV)(hr:Qf s.heap r a b c t u v)(hsmall:LF a b c=true)
  (hn:JI a b c=n) (hlen:n<=2 ^ 24)
  (h:∀(h':Ii) (tk:Hz) (acc:Iu Hr),(∀b o,s.heap.get? b=ba o->h'.get? b=ba o)->s.heap.objs.size<=h'.objs.size->MB (λi v=>∃t,v=.int (a+i*c) t) acc n->Q₁ (.ref h'.objs.size) { s with heap:=h'.push { cls:=.type "tuple",data:=.seq acc },toks:=tk }) :
  codeAny (model prog w) A (.call (.builtin "tuple.__new__") #[[.type "tuple",.ref r],[]]) (wants Q₁ E) s:=by
 show OD ?_;change wpAny _ A.in1 (do checkBuiltinCall "tuple.__new__" #[[.type "tuple",.ref r],[]]; again (.builtin "tuple.__new__" #[[.type "tuple",.ref r],[]])) _ _ s
 show Hq (M2 (F.newCall_tuple_1 _) (Hy #[KB F.plain_tuple_new _,JG F.entry_tuple_new ?_]));rw[Js F.plain_tuple_new _];have hsub:=PySem.sub_tuple_self;have hinit:=PySem.init_tuple_lookup;have hmh:=PySem.madeHere_tuple;have hTI:s.TypeIs (.ref r) "range":=#[_,hr,rfl];have hh1:A.in1.handled=gV:=by simp[hh]
 wp_walk using LJ hTI,jE (A:=A.in1) hh1 hr hsmall hn hlen
 intro h' tk acc hk hle hacc;change wpAny _ _ (JA acc.toList.toArray >>= λv=>ret v) _ _ _
 unfold JA;show Hq (IA ?_ (by change acc.toList.toArray.size<=sizeLine; simp only[Array.toArray_toList]; rw[hacc.1,IN]; omega))
 show Hy ?_;have e:acc.toList.toArray=acc:=by simp
 rw[e];exact h h' tk acc hk hle hacc
def gG {Q:Hr->Ht->Prop}{r:Hv}{a b c:HR}{t u v:Qk}{n:Hz}(hh:A.handled=gV)(hr:Qf s.heap r a b c t u v)(hsmall:LF a b c=true)
  (hn:JI a b c=n) (hlen:n<=2 ^ 24)
  (hQ:∀(h':Ii) (tk:Hz) (acc:Iu Hr),(∀b o,s.heap.get? b=ba o->h'.get? b=ba o)->s.heap.objs.size<=h'.objs.size->MB (λi v=>∃t,v=.int (a+i*c) t) acc n->Q (.ref h'.objs.size) { s with heap:=h'.push { cls:=.type "tuple",data:=.seq acc },toks:=tk }) :
  wpAny (model prog w) A (call (.type "tuple") [.ref r]) Q E s:=by
 show callType_codes (Q₁:=λobj s₁=>s₁.TypeIs obj "tuple"/\Q obj s₁) F.called_tuple (F.typeCall_tuple_1 _) F.entry_object_init
  (gF (by simp[hh]) hr hsmall hn hlen λh' tk acc hk hle hacc=>#[#[_,HG _ rfl,rfl],hQ h' tk acc hk hle hacc]) λobj s₁ h₁=>?_
 exact#[h₁.1,F.args_object_init_2 obj _,object_init_meets F.called_tuple.init.lookup F.called_tuple.made #v[] prog w A.in1 _ s₁ #[h₁.1,rfl,h₁.2]]
end
section
variable{X:Cx}{J:Ho (Hv×Jg)}{Y:L2.St}{H:Hp}{s:Ht}{A:Ho Hv}{S:aa}
def ll (hh:X.A.handled=gV):LCall X (.type "tuple") iV:=by
 intro J s Y H A S xs vs us w S' I so rl rv e;unfold iV at e;split at e
 ·rename_i i;split at e
  ·rename_i lo hi hr;split at e
   ·rename_i hb;cases e;obtain⟨a,ea,rfl⟩:=po (xs:=[]) rl rv;obtain⟨b1,b2,b3,b4,b5⟩:=hb;have hH:H a=ba (.rng lo hi):=by
     unfold AQ at hr;split at hr
     ·rename_i hx; cases hr; exact so.obj i _ a hx ea
     ·cases hr
    obtain⟨t,u,v,ho⟩:=I.hok a _ hH;have hn:JI lo hi 1=((hi - lo).toNat:Hz):=by rw[Nn]; split <;> omega
    show gG hh ho (Pl b1 b2 b3 b4) hn b5 λh' tk acc hk hle hacc=>?_
    have hv:Vals ((IJ (hi - lo).toNat).map λ(k:Hz)=>V.int (lo+(k:HR))) acc.toList:=by
     show kZ (by rw[HB,Kk,Ip,hacc.1]) λi v u e1 e2=>?_
     rw[HQ,Hx]at e1;obtain⟨k,e1,rfl⟩:=e1;obtain⟨hk,rfl⟩:=HD.mp e1;obtain⟨t,rfl⟩:=hacc.2 i u (by rw[<- Jy]; exact e2)
     exact#[t,by simp]
    have hnn:H h'.objs.size=gV:=I.hok.fresh hle;show#[.ref h'.objs.size,_,A,I.laid (a:=h'.objs.size) (o:=.tup ((IJ (hi - lo).toNat).map λ(k:Hz)=>V.int (lo+(k:HR)))) (t':=tk) (λb o e=>Hw _ (hk b o e)) hle #[#[by simpa using b5,NoD.new _ _ _],acc.toList,hv,?_],rfl,aN (.inl hnn),so.lay hnn,.tup (.inl (.inl ak)) (la _)]
    exact#[_,HG _ rfl,rfl,0,by simp]
   ·cases e
  ·exact gS J s Y H A S _ vs us w S' I so rl rv e
 ·exact gS J s Y H A S _ vs us w S' I so rl rv e
def rm (hh:X.A.handled=gV)(hu:X.A.units+12 < cLine):LCall X (.builtin "min") xC:=by
 intro J s Y H A S xs vs us w S' I so rl rv e;cases rl with
 | nil=>cases e
 | cons r t=>
  cases t with
  | cons _ _=>cases r <;> cases e
  | nil=>
   cases rv with
   | cons ru rv2=>
    cases rv2;cases r with
    | ref ea=>
     dsimp only[xC]at e;split at e
     ·rename_i ws hw;split at e
      ·rename_i ks hk;split at e
       ·rename_i hc;rw[Hx]at e;obtain⟨w',e1,e2⟩:=e;cases e2;obtain⟨vs',h1,r1⟩:=bC so hw ea;obtain⟨its,rv1,p,hz⟩:=I.list h1;obtain rfl:_=HL _:=ru;have hws:T.ws ks=ws:=W.ts_w hk;have hT:IsTs s.heap ks its:=eG I ks (hws ▸ r1) rv1;have hl:its.length=ks.length:=hT.length.symm;have hlw:ws.length=ks.length:=by rw[r1.length,L2.Vals.length rv1,hl]
        have hn:0 < ks.length:=by
         have:=(HD.mp e1).1;omega
        show tR (items:=its.toArray) (bt:=zo ks) hh p.isList (by simpa [hl]using hn) (λi j vi vj s' Q E hk' hi hj hq=>?_) λv h' tk hv hk'=>?_
        ·have hi':i < ks.length:=by
          have:=(IF.mp hi).1
          simpa [hl]using this
         have hj':j < ks.length:=by
          have:=(IF.mp hj).1
          simpa [hl]using this
         have g:=hT.kept (h':=s'.heap) λb o _ e=>hk' b o e
         have e1:vi=its[i]'∅:=by
          have:=(IF.mp hi).2
          simpa using this.symm
         have e2:vj=its[j]'∅:=by
          have:=(IF.mp hj).2
          simpa using this.symm
         subst e1 e2;have b1:=cq (ks:=ks) i hi';have b2:=cq (ks:=ks) j hj';exact Dp cC _ _ _ _ X.A.in1 s' _ ∅ ∅ (g.get i hi' ∅) (g.get j hj' ∅) (by rw[aH]; unfold cC; omega) (tZ hc.2 hi' hj') X.prog X.w _ _ hq
        ·have hv':its[n4 ks]?=ba v:=by
          have:its.toArray.size=ks.length:=by simpa using hl
          rw[this]at hv
          simpa [n4]using hv
         obtain⟨v',q1,q2⟩:=r1.get e1;obtain⟨u',q3,q4⟩:=L2.Vals.get rv1 q1;rw[hv']at q3;cases q3;exact#[v',H,A,I.kept hk',q4,.refl,so,q2]
       ·cases e
      ·cases e
     ·cases e
    | _=>cases e
def j4:∀ {ws:Ho W} {bs:Ho HP},dq ws=ba bs->ws=bs.map W.bl
 | [],bs,h=>by cases h; rfl
 | .bl b::ws,bs,h=>by
  (dsimp only[dq]at h; simp only[Hx]at h)
  obtain⟨r,h1,h2⟩:=h;subst h2;rw[j4 h1]; rfl
 | .non::_,_,h|.int _::_,_,h|.str _::_,_,h|.tup _::_,_,h|.ref _::_,_,h=>by cases h
def n6 {bs:Ho HP}{vs:Ho V}{us:Ho Hr}(r:RelL X.K A H (bs.map W.bl) vs)(rv:Vals vs us):us=bs.map Jv:=by
 induction bs generalizing vs us with
 | nil=>cases r; cases rv; rfl
 | cons b bs ih=>
  cases r with
  | cons r1 r2=>
   cases rv with
   | cons v1 v2=>
    cases r1;obtain rfl:_=Jv b:=v1;rw[ih r2 v2]; rfl
def rn (bs:Ho HP):(IJ bs.length).all (λi=>bs.getD i false)=bs.all id:=by
 induction bs with
 | nil=>rfl
 | cons b bs ih=>simp[MA,Le,N5]at ih ⊢; rw[ih]
def AT {id:Jb}{fb:Ho HP->HP}{g:Ho W->aa->Hs (W×aa)}(hg:∀xs S,g xs S=match xs with|[.ref i]=>(match fm S i with|some ws=>(dq ws).map λbs=>(.bl (fb bs),S)|none=>gV)|_=>gV)
  (hcall:∀ {s:Ht} {x:Hr} {Q:Hr->Ht->Prop} {E:Hr->Ht->Prop} {bs:Ho HP},wpAny (model X.prog X.w) X.A.in1 (pyIter x) (λit s₂=>∃I fp wr P St,it=.ref I/\Qp X.prog X.w X.A.in1 I fp wr bs.length P St/\St 0 s₂.heap/\TruthOf X.prog X.w X.A.in1 P (λi=>bs.getD i false)/\
   ∀h' tk,(∀b o,b∉wr->s₂.heap.get? b=ba o->h'.get? b=ba o)->Q (.bool (fb bs)) { s₂ with heap:=h',toks:=tk }) E s->wpAny (model X.prog X.w) X.A (call (.builtin id) [x]) Q E s)
  (hh:X.A.handled=gV):LCall X (.builtin id) g:=by
 intro J s Y H A S xs vs us w S' I so rl rv e;rw[hg]at e;cases rl with
 | nil=>cases e
 | cons r t=>
  cases t with
  | cons _ _=>cases r <;> cases e
  | nil=>
   cases rv with
   | cons ru rv2=>
    cases rv2;cases r with
    | @ref ri ad ea=>
     simp only at e;split at e
     ·rename_i ws hw;rw[Hx]at e;obtain⟨bs,e1,e2⟩:=e;cases e2;obtain⟨vs',h1,r1⟩:=bC so hw ea;obtain⟨its,rv1,p,hz⟩:=I.list h1;obtain rfl:_=HL _:=ru;rw[j4 e1]at r1;have hits:=n6 r1 rv1;show hcall (bs:=bs) ?_;show Mk p.isList ?_;have hlt:ad < s.heap.objs.size:=by obtain⟨_,ho,_⟩:=p.isList; exact HF ho
      have W:=P7 (prog:=X.prog) (w:=X.w) (A:=X.A.in1) hh s.heap.objs.size ad (HU hlt) its.toArray;have hsz:its.toArray.size=bs.length:=by rw[HE,hits,HB]
      rw[hsz]at W;show#[_,_,_,_,_,rfl,W,#[#[_,HG _ rfl,rfl,rfl],?_],λi v s' Q E hi hq=>?_,λh' tk hk=>?_]
      ·obtain⟨o,ho,hc⟩:=p.isList;exact#[o,Hw _ ho,hc]
      ·have hb:bs[i]?.map Jv=ba v:=by rw[<- HQ,<- hits]; simpa using hi
       cases q:bs[i]? with
       | none=>rw[q]at hb; cases hb
       | some b=>
        rw[q]at hb;cases hb;have eb:bs.getD i false=b:=by simp[q]
        have hq:Q (bs.getD i false) s':=hq;rw[eb]at hq;exact Jm hq
      ·show#[.bl (fb bs),H,A,I.kept (λb o e=>hk b o (λz=>?_) (Hw _ e)),rfl,.refl,so,.bl]
       have hb:=HF e;rw[Iv.mp z]at hb;exact Jc _ hb
     ·cases e
    | _=>cases e
def rq (hh:X.A.handled=gV):LCall X (.builtin "all") xD:=
 AT (fb:=λbs=>bs.all id) (λxs S=>rfl) (λ{s x Q E bs} h=>call_all_walk (IE h (λit s₂ #[I,fp,wr,P,St',a,b,c,d,f]=>#[I,fp,wr,_,P,St',_,a,b,c,d,λh' tk hk=>by rw[rn]; exact f h' tk hk]) λ_ _ e=>e)) hh
end
section
variable{X:Cx}
abbrev t6 (xs:Ho W)(S:aa):Hs (W×aa):=match xs with
 | [.int i,.int j]=>ba (.int (if j < i then j else i),S)
 | _=>gV
def n8 (hc:X.calm=true):LCall X (.builtin "min") t6:=by
 intro J s Y H A S xs vs us w S' I so rl rv e;unfold t6 at e;split at e
 ·rename_i i j;cases e;cases rl with
  | cons r1 r2=>cases r2 with
   | cons r3 r4=>
    cases r4; cases r1; cases r3
    exact CallR.go (qJ hc) I rv #[i,j,rfl,.here so .int]
 ·cases e
end
noncomputable abbrev FA:=Fm->aa->Hs (Ho W×aa)
noncomputable abbrev FT:=Fm->aa->Hs (HP×aa)
inductive Out where
 | nx (Z:Fm)|rt (w:W)|bk (Z:Fm)|ct (Z:Fm)
noncomputable abbrev FS:=Fm->aa->Hs (Out×aa)
section
variable (X:Cx)
inductive tE (f:FE)(Y:L2.St)(H:Hp)(Q:VK):Prop
 | mk (A:Ho Hv) (Z:Fm) (S:aa) (w:W) (S':aa) (er:EnvRel X.K A H Z Y) (so:StoreOk X.w X.K A H S) (e:f Z S=ba (w,S')) (q:∀v H',EndV X.w X.K A H S' w v H'->Q v H'):tE f Y H Q
abbrev EndB (A:Ho Hv)(H:Hp)(S':aa)(k:HP):HP->Hp->Prop:=λb H'=>b=k/\∃A',Ext X.K A H A' H'/\StoreOk X.w X.K A' H' S'
inductive tT (f:FT)(Y:L2.St)(H:Hp)(Q:HP->Hp->Prop):Prop
 | mk (A:Ho Hv) (Z:Fm) (S:aa) (k:HP) (S':aa) (er:EnvRel X.K A H Z Y) (so:StoreOk X.w X.K A H S) (e:f Z S=ba (k,S')) (q:∀b H',EndB X A H S' k b H'->Q b H'):tT f Y H Q
inductive EndA (A:Ho Hv)(H:Hp)(S':aa)(ws:Ho W)(vs:Ho V)(H':Hp):Prop
 | mk (A':Ho Hv) (e:Ext X.K A H A' H') (so:StoreOk X.w X.K A' H' S') (r:RelL X.K A' H' ws vs):EndA A H S' ws vs H'
inductive tA (f:FA)(Y:L2.St)(H:Hp)(Q:Ho V->Hp->Prop):Prop
 | mk (A:Ho Hv) (Z:Fm) (S:aa) (ws:Ho W) (S':aa) (er:EnvRel X.K A H Z Y) (so:StoreOk X.w X.K A H S) (e:f Z S=ba (ws,S')) (q:∀vs H',EndA X A H S' ws vs H'->Q vs H'):tA f Y H Q
inductive EndF (A:Ho Hv)(H:Hp)(o:Out)(S':aa)(c:Fm->Out)(Y':L2.St)(H':Hp):Prop
 | mk (Z':Fm) (A':Ho Hv) (eo:o=c Z') (e:Ext X.K A H A' H') (so:StoreOk X.w X.K A' H' S') (er:EnvRel X.K A' H' Z' Y'):EndF A H o S' c Y' H'
inductive EndR (A:Ho Hv)(H:Hp)(o:Out)(S':aa)(v:V)(H':Hp):Prop
 | mk (w:W) (A':Ho Hv) (eo:o=.rt w) (e:Ext X.K A H A' H') (so:StoreOk X.w X.K A' H' S') (r:Rel X.K A' H' w v):EndR A H o S' v H'
abbrev EndS (A:Ho Hv)(H:Hp)(o:Out)(S':aa):Ends where
 nx:=EndF X A H o S' .nx
 rt:=EndR X A H o S'
 bk:=EndF X A H o S' .bk
 ct:=EndF X A H o S' .ct
structure Imp (E D:Ends):Prop where
 nx:∀Y H,E.nx Y H->D.nx Y H
 rt:∀v H,E.rt v H->D.rt v H
 bk:∀Y H,E.bk Y H->D.bk Y H
 ct:∀Y H,E.ct Y H->D.ct Y H
inductive tS (f:FS)(D:Ends)(Y:L2.St)(H:Hp):Prop
 | mk (A:Ho Hv) (Z:Fm) (S:aa) (o:Out) (S':aa) (er:EnvRel X.K A H Z Y) (so:StoreOk X.w X.K A H S) (e:f Z S=ba (o,S')) (d:Imp (EndS X A H o S') D):tS f D Y H
noncomputable abbrev GE (e:HH)(f:FE):Prop:=PE X e (tE X f)
noncomputable abbrev GT (e:HH)(f:FT):Prop:=PT X e (tT X f)
noncomputable abbrev GW (e:HH)(f:FT):Prop:=PW X e (tT X f)
noncomputable abbrev GA (es:Ho HH)(f:FA):Prop:=PA X es (tA X f)
noncomputable abbrev GS (st:Jf)(f:FS):Prop:=PS X st (tS X f)
noncomputable abbrev GSs (sts:Ho Jf)(f:FS):Prop:=PSs X sts (tS X f)
end
def Imp.trans {E D F:Ends}(a:Imp E D)(b:Imp D F):Imp E F:=#[λ_ _ h=>b.nx _ _ (a.nx _ _ h),λ_ _ h=>b.rt _ _ (a.rt _ _ h),λ_ _ h=>b.bk _ _ (a.bk _ _ h),λ_ _ h=>b.ct _ _ (a.ct _ _ h)]
section
variable{X:Cx}
def GE.of {e:HH}{t:TE}{f:FE}(h:PE X e t)(hf:∀(Y:L2.St) (H:Hp) (A:Ho Hv) (Z:Fm) (S:aa) (w:W) (S':aa),EnvRel X.K A H Z Y->StoreOk X.w X.K A H S->f Z S=ba (w,S')->∀Q:VK,(∀v H',EndV X.w X.K A H S' w v H'->Q v H')->t Y H Q):GE X e f:=
 λJ s Y H Q I #[A,Z,S,w,S',er,so,e1,hq]=>h J s Y H Q I (hf Y H A Z S w S' er so e1 Q hq)
def GT.of {e:HH}{t:TT}{f:FT}(h:PT X e t)(hf:∀(Y:L2.St) (H:Hp) (A:Ho Hv) (Z:Fm) (S:aa) (k:HP) (S':aa),EnvRel X.K A H Z Y->StoreOk X.w X.K A H S->f Z S=ba (k,S')->∀Q:HP->Hp->Prop,(∀b H',EndB X A H S' k b H'->Q b H')->t Y H Q):GT X e f:=
 λJ s Y H Q I #[A,Z,S,w,S',er,so,e1,hq]=>h J s Y H Q I (hf Y H A Z S w S' er so e1 Q hq)
def GW.of {e:HH}{t:TT}{f:FT}(h:PW X e t)(hf:∀(Y:L2.St) (H:Hp) (A:Ho Hv) (Z:Fm) (S:aa) (k:HP) (S':aa),EnvRel X.K A H Z Y->StoreOk X.w X.K A H S->f Z S=ba (k,S')->∀Q:HP->Hp->Prop,(∀b H',EndB X A H S' k b H'->Q b H')->t Y H Q):GW X e f:=
 λwh J s Y H Q I #[A,Z,S,w,S',er,so,e1,hq]=>h wh J s Y H Q I (hf Y H A Z S w S' er so e1 Q hq)
def GA.of {es:Ho HH}{t:TA}{f:FA}(h:PA X es t)(hf:∀(Y:L2.St) (H:Hp) (A:Ho Hv) (Z:Fm) (S:aa) (ws:Ho W) (S':aa),EnvRel X.K A H Z Y->StoreOk X.w X.K A H S->f Z S=ba (ws,S')->∀Q:Ho V->Hp->Prop,(∀vs H',EndA X A H S' ws vs H'->Q vs H')->t Y H Q):GA X es f:=
 λpos J s Y H Q I #[A,Z,S,w,S',er,so,e1,hq]=>h pos J s Y H Q I (hf Y H A Z S w S' er so e1 Q hq)
def GS.of {st:Jf}{t:TS}{f:FS}(h:PS X st t)(hf:∀(Y:L2.St) (H:Hp) (A:Ho Hv) (Z:Fm) (S:aa) (o:Out) (S':aa),EnvRel X.K A H Z Y->StoreOk X.w X.K A H S->f Z S=ba (o,S')->∀D:Ends,Imp (EndS X A H o S') D->t D Y H):GS X st f:=
 λJ s Y H D I #[A,Z,S,o,S',er,so,e1,hq]=>h J s Y H D I (hf Y H A Z S o S' er so e1 D hq)
def GSs.of {st:Ho Jf}{t:TS}{f:FS}(h:PSs X st t)(hf:∀(Y:L2.St) (H:Hp) (A:Ho Hv) (Z:Fm) (S:aa) (o:Out) (S':aa),EnvRel X.K A H Z Y->StoreOk X.w X.K A H S->f Z S=ba (o,S')->∀D:Ends,Imp (EndS X A H o S') D->t D Y H):GSs X st f:=
 λJ s Y H D I #[A,Z,S,o,S',er,so,e1,hq]=>h J s Y H D I (hf Y H A Z S o S' er so e1 D hq)
def EndV.after {A A1:Ho Hv}{H H1:Hp}{S':aa}{w:W}{v:V}{H':Hp}(e:Ext X.K A H A1 H1)(h:EndV X.w X.K A1 H1 S' w v H'):EndV X.w X.K A H S' w v H':=by
 obtain⟨A',x,y,z⟩:=h;exact#[A',e.trans x,y,z]
def EndB.after {A A1:Ho Hv}{H H1:Hp}{S':aa}{k b:HP}{H':Hp}(e:Ext X.K A H A1 H1)(h:EndB X A1 H1 S' k b H'):EndB X A H S' k b H':=by
 obtain⟨h1,A',x,y⟩:=h;exact#[h1,A',e.trans x,y]
def EndS.after {A A1:Ho Hv}{H H1:Hp}{S':aa}{o:Out}(e:Ext X.K A H A1 H1):Imp (EndS X A1 H1 o S') (EndS X A H o S'):=
 #[λ_ _ #[Z',A',a,b,c,d]=>#[Z',A',a,e.trans b,c,d],λ_ _ #[Z',A',a,b,c,d]=>#[Z',A',a,e.trans b,c,d],λ_ _ #[Z',A',a,b,c,d]=>#[Z',A',a,e.trans b,c,d],λ_ _ #[Z',A',a,b,c,d]=>#[Z',A',a,e.trans b,c,d]]
abbrev fC (w:W):FE:=λ_ S=>ba (w,S)
abbrev fV (i:Hz):FE:=λZ S=>match Z[i]? with
 | some (ba w)=>ba (w,S)
 | _=>gV
def dZ {e:HH}{v:V}{w:W}(h:PE X e (tC v))(r:∀A H,Rel X.K A H w v):GE X e (fC w):=
 GE.of h λY H A Z S w' S' er so e Q hq=>by cases e; exact hq _ _ (.here so (r A H))
def AU {i:Hz}{e:HH}(h:PE X e (nB i)):GE X e (fV i):=GE.of h λY H A Z S w S' er so e Q hq=>by
 unfold fV at e;split at e
 ·rename_i w' hw;cases e;obtain⟨v,h1,h2⟩:=er.2 i _ hw;exact#[v,h1,hq _ _ (.here so h2)]
 ·cases e
abbrev t8 (g:W->W->aa->Hs (W×aa))(fa fb:FE):FE:=λZ S=>match fa Z S with
 | some (x,S1)=>match fb Z S1 with
  | some (y,S2)=>g x y S2
  | none=>gV
 | none=>gV
def Dq {fa fb:FE}{g:W->W->aa->Hs (W×aa)}{Z:Fm}{S:aa}{r:W×aa}(e:t8 g fa fb Z S=ba r):∃x S1 y S2,fa Z S=ba (x,S1)/\fb Z S1=ba (y,S2)/\g x y S2=ba r:=by
 unfold t8 at e;split at e
 ·rename_i x S1 h1;split at e
  ·rename_i y S2 h2;exact#[x,S1,y,S2,h1,h2,e]
  ·cases e
 ·cases e
def cW {fa fb:FE}{Z:Fm}{S S1 S2:aa}{x y:W}{Y:L2.St}{H:Hp}{A:Ho Hv}{R:V->V->Hp->Prop}(er:EnvRel X.K A H Z Y)(so:StoreOk X.w X.K A H S)(h1:fa Z S=ba (x,S1))(h2:fb Z S1=ba (y,S2))
  (h:∀a b H2 A2,Ext X.K A H A2 H2->StoreOk X.w X.K A2 H2 S2->Rel X.K A2 H2 x a->Rel X.K A2 H2 y b->R a b H2):tE X fa Y H λa H1=>tE X fb Y H1 λb H2=>R a b H2:=by
 show#[A,Z,S,x,S1,er,so,h1,λa H1 #[A1,e1,o1,r1]=>?_]
 show#[A1,Z,S1,y,S2,er.mono e1,o1,h2,λb H2 #[A2,e2,o2,r2]=>?_]
 exact h a b H2 A2 (e1.trans e2) o2 (r1.mono e2) r2
inductive rOp (X:Cx)(g:W->W->aa->Hs (W×aa))(a b:V)(H:Hp)(Q:VK):Prop
 | mk (A:Ho Hv) (S:aa) (x y w:W) (S':aa) (so:StoreOk X.w X.K A H S) (rx:Rel X.K A H x a) (ry:Rel X.K A H y b) (e:g x y S=ba (w,S')) (q:∀v H',EndV X.w X.K A H S' w v H'->Q v H'):rOp X g a b H Q
inductive rCall (X:Cx)(g:Ho W->aa->Hs (W×aa))(vs:Ho V)(H:Hp)(Q:VK):Prop
 | mk (A:Ho Hv) (S:aa) (ws:Ho W) (w:W) (S':aa) (so:StoreOk X.w X.K A H S) (rl:RelL X.K A H ws vs) (e:g ws S=ba (w,S')) (q:∀v H',EndV X.w X.K A H S' w v H'->Q v H'):rCall X g vs H Q
def LOp.opr {f:Hr->Hr->O6 Hr}{g:W->W->aa->Hs (W×aa)}(h:LOp X f g):OpR X f (rOp X g):=by
 intro J s Y H a b u v Q I ru rv ⟨A,S,x,y,w,S',so,rx,ry,e,hq⟩;exact aG (h J s Y H A S x y a b u v w S' I so rx ru ry rv e) λu' s' #[v',H',A',I',r',e1,o1,z1]=>#[v',H',I',r',hq v' H' #[A',e1,o1,z1]]
def zp {a b:HH}{op:NO}{pos:Jw}{fa fb:FE}{g:W->W->aa->Hs (W×aa)}(ho:LOp X (binaryOp op) g)(ha:GE X a fa)(hb:GE X b fb):GE X (.BinOp a op b pos) (t8 g fa fb):=
 GE.of (CU ho.opr ha hb) λY H A Z S w S' er so e Q hq=>by
  obtain⟨x,S1,y,S2,h1,h2,h3⟩:=Dq e;exact cW er so h1 h2 λa b H2 A2 e2 o2 r1 r2=>#[A2,S2,x,y,w,S',o2,r1,r2,h3,λv H' z=>hq v H' (z.after e2)]
abbrev t9 (fa:FE):FE:=λZ S=>match fa Z S with
 | some (.int i,S1)=>ba (.int (-i),S1)
 | _=>gV
def ub {a:HH}{pos:Jw}{fa:FE}(ha:GE X a fa):GE X (.UnaryOp .USub a pos) (t9 fa):=
 GE.of (CV Av ha) λY H A Z S w S' er so e Q hq=>by
  unfold t9 at e;split at e
  ·rename_i i S1 h1;cases e;show#[A,Z,S,_,_,er,so,h1,λv H1 #[A1,e1,o1,r1]=>?_]
   cases r1;exact#[_,rfl,hq _ _ #[A1,e1,o1,.int]]
  ·cases e
abbrev lm (o:COp)(fa fb:FE):FE:=t8 (cV o) fa fb
def AV {a b:HH}{o:COp}{pos:Jw}{fa fb:FE}(hu:X.A.units+dm < cLine)(ha:GE X a fa)(hb:GE X b fb)(hm:behindInMarks o.py b=false):GE X (.Compare a [o.py] [b] pos) (lm o fa fb):=
 GE.of (wo (iR hu o).opr ha hb hm) λY H A Z S w S' er so e Q hq=>by
  obtain⟨x,S1,y,S2,h1,h2,h3⟩:=Dq e;exact cW er so h1 h2 λa b H2 A2 e2 o2 r1 r2=>#[A2,S2,x,y,w,S',o2,r1,r2,h3,λv H' z=>hq v H' (z.after e2)]
abbrev fP (f:FE):FT:=λZ S=>match f Z S with
 | some (.bl k,S')=>ba (k,S')
 | _=>gV
def AW {a b:HH}{o:COp}{pos:Jw}{fa fb:FE}(hu:X.A.units+dm < cLine)(ha:GE X a fa)(hb:GE X b fb)(hm:behindInMarks o.py b=false):GT X (.Compare a [o.py] [b] pos) (fP (lm o fa fb)):=
 GT.of (o5 (iR hu o).opr ha hb hm) λY H A Z S k S' er so e Q hq=>by
  unfold fP at e;split at e
  ·rename_i k' S'' h0;cases e;obtain⟨x,S1,y,S2,h1,h2,h3⟩:=Dq h0;show cW er so h1 h2 λa b H2 A2 e2 o2 r1 r2=>#[A2,S2,x,y,_,_,o2,r1,r2,h3,λv H' #[A',z1,z2,z3]=>?_]
   cases z3;exact#[k,rfl,hq _ _ #[rfl,A',e2.trans z1,z2]]
  ·cases e
abbrev d0 (o o':COp)(fa fb fc:FE):FE:=λZ S=>match fa Z S with
 | some (x,S1)=>match fb Z S1 with
  | some (y,S2)=>match v4 o x y S2 with
   | some true=>match fc Z S2 with
    | some (z,S3)=>cU o' y z S3
    | none=>gV
   | some false=>ba (.bl false,S2)
   | none=>gV
  | none=>gV
 | none=>gV
def iW {o o':COp}{fa fb fc:FE}{Y:L2.St}{H:Hp}{A:Ho Hv}{Z:Fm}{S:aa}{w:W}{S':aa}(er:EnvRel X.K A H Z Y)(so:StoreOk X.w X.K A H S)(e:d0 o o' fa fb fc Z S=ba (w,S'))(Q:VK)(hq:∀v H',EndV X.w X.K A H S' w v H'->Q v H') :
  nE (rOp X (cU o))
   (rOp X (cU o')) (tE X fa) (tE X fb) (tE X fc) Y H Q:=by
 unfold d0 at e;split at e
 ·rename_i x S1 h1;split at e
  ·rename_i y S2 h2;show cW er so h1 h2 λa b H2 A2 e2 o2 r1 r2=>?_
   split at e
   ·rename_i hc;split at e
    ·rename_i z S3 h3;show#[A2,S2,x,y,.bl true,S2,o2,r1,r2,by simp[cU,hc],λv H3 #[A3,z1,z2,z3]=>?_]
     cases z3;show#[true,rfl,?_];rw[HN rfl];show#[A3,Z,S2,z,S3,er.mono (e2.trans z1),z2,h3,λc H4 #[A4,y1,y2,y3]=>?_]
     exact#[A4,S3,y,z,w,S',y2,(r2.mono z1).mono y1,y3,e,λv H' q=>hq v H' (q.after ((e2.trans z1).trans y1))]
    ·cases e
   ·rename_i hc;cases e;show#[A2,S',x,y,.bl false,S',o2,r1,r2,by simp[cU,hc],λv H3 #[A3,z1,z2,z3]=>?_]
    cases z3;show#[false,rfl,?_];rw[HY HS];exact hq _ _ #[A3,e2.trans z1,z2,.bl]
   ·cases e
  ·cases e
 ·cases e
def ud {a b c:HH}{o o':COp}{pos:Jw}{fa fb fc:FE}(hu:X.A.units+dm < cLine)(ha:GE X a fa)(hb:GE X b fb)(hc:GE X c fc)(hm:lastMarks [o.py,o'.py] [b,c]=false):GE X (.Compare a [o.py,o'.py] [b,c] pos) (d0 o o' fa fb fc):=
 GE.of (sA (fJ hu o).opr (fJ hu o').opr ha hb hc hm) λY H A Z S w S' er so e Q hq=>iW er so e Q hq
def ue {a b c:HH}{o o':COp}{pos:Jw}{fa fb fc:FE}(hu:X.A.units+dm < cLine)(ha:GE X a fa)(hb:GE X b fb)(hc:GE X c fc)(hm:lastMarks [o.py,o'.py] [b,c]=false):GT X (.Compare a [o.py,o'.py] [b,c] pos) (fP (d0 o o' fa fb fc)):=
 GT.of (sB (fJ hu o).opr (fJ hu o').opr ha hb hc hm) λY H A Z S k S' er so e Q hq=>by
  unfold fP at e;split at e
  ·rename_i k' S'' h0;cases e;show iW er so h0 (λx H'=>∃k,x=.bl k/\Q k H') λv H' #[A',z1,z2,z3]=>?_
   cases z3;exact#[_,rfl,hq _ _ #[rfl,A',z1,z2]]
  ·cases e
abbrev du (f:FE):FT:=λZ S=>match f Z S with
 | some (w,S')=>(b6 S' w).map λk=>(k,S')
 | none=>gV
def aJ {e:HH}{f:FE}(h:GE X e f)(he:∀whole,isTrue e X.env whole=(do let v <- whole; standAt e.pos; holding [v] (truthy v))):GT X e (du f):=by
 intro J s Y H Q I ⟨A,Z,S,k,S',er,so,e1,hq⟩;unfold du at e1;split at e1
 ·rename_i w S1 h1;rw[Hx]at e1;obtain⟨k',ek,e2⟩:=e1;cases e2;show isTrue_plain (aG (h J s Y H (EndV X.w X.K A H _ w) I #[A,Z,S,w,_,er,so,h1,λ_ _ z=>z]) λv s1 #[x,H1,I1,r1,A1,e1,o1,z1]=>?_) (he _)
  exact F6 I1 o1 z1 r1 ek λs' I'=>#[H1,I',hq _ _ #[rfl,A1,e1,o1]]
 ·cases e1
abbrev uf (f g:FT):FT:=λZ S=>match f Z S with
 | some (true,S1)=>g Z S1
 | some (false,S1)=>ba (false,S1)
 | none=>gV
abbrev Dr (f g:FT):FT:=λZ S=>match f Z S with
 | some (true,S1)=>ba (true,S1)
 | some (false,S1)=>g Z S1
 | none=>gV
abbrev xE (f:FT):FT:=λZ S=>match f Z S with
 | some (k,S1)=>ba (!k,S1)
 | none=>gV
def ug {f g:FT}{Y:L2.St}{H:Hp}{A:Ho Hv}{Z:Fm}{S:aa}{k:HP}{S':aa}(er:EnvRel X.K A H Z Y)(so:StoreOk X.w X.K A H S)(e:uf f g Z S=ba (k,S'))(Q:HP->Hp->Prop)(hq:∀b H',EndB X A H S' k b H'->Q b H') :
  CD (tT X f) (tT X g) Y H Q:=by
 unfold uf at e;split at e
 ·rename_i S1 h1;show#[A,Z,S,true,S1,er,so,h1,λb H1 #[z0,A1,z1,z2]=>?_]
  subst z0;rw[HN rfl];exact#[A1,Z,S1,k,S',er.mono z1,z2,e,λb H' q=>hq b H' (q.after z1)]
 ·rename_i S1 h1;cases e;show#[A,Z,S,false,_,er,so,h1,λb H1 #[z0,A1,z1,z2]=>?_]
  subst z0;rw[HY HS];exact hq _ _ #[rfl,A1,z1,z2]
 ·cases e
def xH {f g:FT}{Y:L2.St}{H:Hp}{A:Ho Hv}{Z:Fm}{S:aa}{k:HP}{S':aa}(er:EnvRel X.K A H Z Y)(so:StoreOk X.w X.K A H S)(e:Dr f g Z S=ba (k,S'))(Q:HP->Hp->Prop)(hq:∀b H',EndB X A H S' k b H'->Q b H') :
  GK (tT X f) (tT X g) Y H Q:=by
 unfold Dr at e;split at e
 ·rename_i S1 h1;cases e;show#[A,Z,S,true,_,er,so,h1,λb H1 #[z0,A1,z1,z2]=>?_]
  subst z0;rw[HN rfl];exact hq _ _ #[rfl,A1,z1,z2]
 ·rename_i S1 h1;show#[A,Z,S,false,S1,er,so,h1,λb H1 #[z0,A1,z1,z2]=>?_]
  subst z0;rw[HY HS];exact#[A1,Z,S1,k,S',er.mono z1,z2,e,λb H' q=>hq b H' (q.after z1)]
 ·cases e
def pH {a:HH}{pos:Jw}{f:FT}(h:GT X a f):GW X (.BoolOp .And [a] pos) f:=wc h
def uh {a:HH}{pos:Jw}{f:FT}(h:GT X a f):GW X (.BoolOp .Or [a] pos) f:=z8 h
def uj {a b:HH}{r:Ho HH}{pos:Jw}{f g:FT}(h:GT X a f)(h2:GW X (.BoolOp .And (b::r) pos) g):GW X (.BoolOp .And (a::b::r) pos) (uf f g):=
 GW.of (z9 h h2) λY H A Z S k S' er so e Q hq=>ug er so e Q hq
def zq {a b:HH}{r:Ho HH}{pos:Jw}{f g:FT}(h:GT X a f)(h2:GW X (.BoolOp .Or (b::r) pos) g):GW X (.BoolOp .Or (a::b::r) pos) (Dr f g):=
 GW.of (CF h h2) λY H A Z S k S' er so e Q hq=>xH er so e Q hq
def uk {a:HH}{pos:Jw}{f:FT}(h:GT X a f):GT X (.UnaryOp .Not a pos) (xE f):=
 GT.of (Aa h) λY H A Z S k S' er so e Q hq=>by
  unfold xE at e;split at e
  ·rename_i k1 S1 h1;cases e;show#[A,Z,S,k1,_,er,so,h1,λb H1 #[z0,A1,z1,z2]=>?_]
   subst z0;exact hq _ _ #[rfl,A1,z1,z2]
  ·cases e
abbrev pI (f g:FE):FE:=λZ S=>match f Z S with
 | some (.bl true,S1)=>g Z S1
 | some (.bl false,S1)=>ba (.bl false,S1)
 | _=>gV
abbrev xI (f g:FE):FE:=λZ S=>match f Z S with
 | some (.bl true,S1)=>ba (.bl true,S1)
 | some (.bl false,S1)=>g Z S1
 | _=>gV
abbrev pJ (f:FE):FE:=λZ S=>match f Z S with
 | some (.bl k,S1)=>ba (.bl (!k),S1)
 | _=>gV
def um {a:HH}{op:O0}{pos:Jw}{f:FE}(h:GE X a f):GE X (.BoolOp op [a] pos) f:=Ab h
def uq {a b:HH}{r:Ho HH}{pos:Jw}{f g:FE}(h:GE X a f)(h2:GE X (.BoolOp .And (b::r) pos) g):GE X (.BoolOp .And (a::b::r) pos) (pI f g):=
 GE.of (Ac h h2) λY H A Z S w S' er so e Q hq=>by
  unfold pI at e;split at e
  ·rename_i S1 h1;show#[A,Z,S,_,S1,er,so,h1,λv H1 #[A1,z1,z2,z3]=>?_]
   cases z3;show#[true,rfl,?_];rw[HN rfl];exact#[A1,Z,S1,w,S',er.mono z1,z2,e,λb H' q=>hq b H' (q.after z1)]
  ·rename_i S1 h1;cases e;show#[A,Z,S,_,_,er,so,h1,λv H1 #[A1,z1,z2,z3]=>?_]
   cases z3;show#[false,rfl,?_];rw[HY HS];exact hq _ _ #[A1,z1,z2,.bl]
  ·cases e
def zr {a b:HH}{r:Ho HH}{pos:Jw}{f g:FE}(h:GE X a f)(h2:GE X (.BoolOp .Or (b::r) pos) g):GE X (.BoolOp .Or (a::b::r) pos) (xI f g):=
 GE.of (CI h h2) λY H A Z S w S' er so e Q hq=>by
  unfold xI at e;split at e
  ·rename_i S1 h1;cases e;show#[A,Z,S,_,_,er,so,h1,λv H1 #[A1,z1,z2,z3]=>?_]
   cases z3;show#[true,rfl,?_];rw[HN rfl];exact hq _ _ #[A1,z1,z2,.bl]
  ·rename_i S1 h1;show#[A,Z,S,_,S1,er,so,h1,λv H1 #[A1,z1,z2,z3]=>?_]
   cases z3;show#[false,rfl,?_];rw[HY HS];exact#[A1,Z,S1,w,S',er.mono z1,z2,e,λb H' q=>hq b H' (q.after z1)]
  ·cases e
def ur {a:HH}{pos:Jw}{f:FE}(h:GE X a f):GE X (.UnaryOp .Not a pos) (pJ f):=
 GE.of (Ad h) λY H A Z S w S' er so e Q hq=>by
  unfold pJ at e;split at e
  ·rename_i k1 S1 h1;cases e;show#[A,Z,S,_,_,er,so,h1,λb H1 #[A1,z1,z2,z3]=>?_]
   cases z3;exact#[_,rfl,hq _ _ #[A1,z1,z2,.bl]]
  ·cases e
abbrev xJ (c:FT)(f g:FE):FE:=λZ S=>match c Z S with
 | some (true,S1)=>f Z S1
 | some (false,S1)=>g Z S1
 | none=>gV
def AX {c a b:HH}{pos:Jw}{fc:FT}{f g:FE}(hc:GT X c fc)(ha:GE X a f)(hb:GE X b g):GE X (.IfExp c a b pos) (xJ fc f g):=
 GE.of (sh hc ha hb) λY H A Z S w S' er so e Q hq=>by
  unfold xJ at e;split at e
  ·rename_i S1 h1;show#[A,Z,S,_,S1,er,so,h1,λb H1 #[z0,A1,z1,z2]=>?_]
   subst z0;rw[HN rfl];exact#[A1,Z,S1,w,S',er.mono z1,z2,e,λb H' q=>hq b H' (q.after z1)]
  ·rename_i S1 h1;show#[A,Z,S,_,S1,er,so,h1,λb H1 #[z0,A1,z1,z2]=>?_]
   subst z0;rw[HY HS];exact#[A1,Z,S1,w,S',er.mono z1,z2,e,λb H' q=>hq b H' (q.after z1)]
  ·cases e
abbrev g9:FA:=λ_ S=>ba ([],S)
abbrev cr (f:FE)(g:FA):FA:=λZ S=>match f Z S with
 | some (w,S1)=>match g Z S1 with
  | some (ws,S2)=>ba (w::ws,S2)
  | none=>gV
 | none=>gV
def ut:GA X [] g9:=GA.of ff λY H A Z S ws S' er so e Q hq=>by cases e; exact hq _ _ #[A,.refl,so,.nil]
def pK {e:HH}{es:Ho HH}{f:FE}{g:FA}(h:GE X e f)(h2:GA X es g)(hs:starEach (e::es) X.env=(false,eval e X.env)::starEach es X.env):GA X (e::es) (cr f g):=
 GA.of (bA h h2 hs) λY H A Z S ws S' er so e Q hq=>by
  unfold cr at e;split at e
  ·rename_i w S1 h1;split at e
   ·rename_i ws2 S2 h2;cases e;show#[A,Z,S,w,S1,er,so,h1,λv H1 #[A1,z1,z2,z3]=>?_]
    show#[A1,Z,S1,ws2,_,er.mono z1,z2,h2,λvs H2 #[A2,y1,y2,y3]=>?_]
    exact hq _ _ #[A2,z1.trans y1,y2,.cons (z3.mono y1) y3]
   ·cases e
  ·cases e
abbrev rs (f:FA):FE:=λZ S=>match f Z S with
 | some (ws,S1)=>kP S1 ws
 | none=>gV
abbrev uu (f:FA):FE:=λZ S=>match f Z S with
 | some (ws,S1)=>kO S1 ws
 | none=>gV
def og {es:Ho HH}{k:Hz}{pos:Jw}{f:FA}(h:GA X es f):GE X (.Tuple es k pos) (rs f):=
 GE.of (sD h) λY H A Z S w S' er so e Q hq=>by
  unfold rs at e;split at e
  ·rename_i ws S1 h1;obtain⟨hl,rfl,rfl⟩:=pe e;show#[A,Z,S,ws,_,er,so,h1,λvs H1 #[A1,z1,z2,z3]=>#[by rw[<- z3.length]; exact hl,λp hp=>?_]]
   exact hq _ _ (EndV.after z1 (.tup z2 z3 hp))
  ·cases e
def uw {es:Ho HH}{pos:Jw}{f:FA}(h:GA X es f):GE X (.List es pos) (uu f):=
 GE.of (Ay h) λY H A Z S w S' er so e Q hq=>by
  unfold uu at e;split at e
  ·rename_i ws S1 h1;obtain⟨hl,rfl,rfl⟩:=ib e;show#[A,Z,S,ws,_,er,so,h1,λvs H1 #[A1,z1,z2,z3]=>#[by rw[<- z3.length]; exact hl,λp hp=>?_]]
   exact hq _ _ (EndV.after z1 (.lst z2 z3 hp))
  ·cases e
abbrev gW (g:Ho W->aa->Hs (W×aa))(f:FA):FE:=λZ S=>match f Z S with
 | some (ws,S1)=>g ws S1
 | none=>gV
def LCall.callr {v:Hr}{g:Ho W->aa->Hs (W×aa)}(h:LCall X v g):CallR X v (rCall X g):=by
 intro J s Y H vs us Q I rv ⟨A,S,ws,w,S',so,rl,e,hq⟩;exact aG (h J s Y H A S ws vs us w S' I so rl rv e) λu' s' #[v',H',A',I',r',e1,o1,z1]=>#[v',H',I',r',hq v' H' #[A',e1,o1,z1]]
def j5 {g:Ho W->aa->Hs (W×aa)}{f:FA}{Y:L2.St}{H:Hp}{A:Ho Hv}{Z:Fm}{S:aa}{w:W}{S':aa}(er:EnvRel X.K A H Z Y)(so:StoreOk X.w X.K A H S)(e:gW g f Z S=ba (w,S'))(Q:VK)(hq:∀v H',EndV X.w X.K A H S' w v H'->Q v H') :
  tA X f Y H λvs H1=>rCall X g vs H1 Q:=by
 unfold gW at e;split at e
 ·rename_i ws S1 h1;exact#[A,Z,S,ws,S1,er,so,h1,λvs H1 #[A1,z1,z2,z3]=>#[A1,S1,ws,w,S',z2,z3,e,λv H' q=>hq v H' (q.after z1)]]
 ·cases e
def pL {id:Jb}{x:HC}{e:HH}{es:Ho HH}{p pos:Jw}{f:FA}{g:Ho W->aa->Hs (W×aa)}(hc:LCall X (.builtin id) g)(hg:Gl X x)(hm:X.mg x=gV)(hv:bootBuiltins x=ba (.builtin id))(ha:GA X (e::es) f)
  (hn:x≠"__name__") (hdb:(x==("__debug__" : HC))=false) (hs:starEach (e::es) X.env=(false,eval e X.env)::starEach es X.env) (hpl:(backTo pos (starEach es X.env)).any (·.1)=false):GE X (.Call (.Name x p) (e::es) [] pos) (gW g f):=
 GE.of (dR hc.callr hg hm hv ha hn hdb hs hpl) λY H A Z S w S' er so e Q hq=>j5 er so e Q hq
def mw {id:Jb}{x:HC}{e:HH}{es:Ho HH}{p pos:Jw}{f:FA}{g:Ho W->aa->Hs (W×aa)}(hc:LCall X (.type id) g)(hg:Gl X x)(hm:X.mg x=gV)(hv:bootBuiltins x=ba (.type id))(ha:GA X (e::es) f)
  (hn:x≠"__name__") (hdb:(x==("__debug__" : HC))=false) (hs:starEach (e::es) X.env=(false,eval e X.env)::starEach es X.env) (hpl:(backTo pos (starEach es X.env)).any (·.1)=false):GE X (.Call (.Name x p) (e::es) [] pos) (gW g f):=
 GE.of (qM hc.callr hg hm hv ha hn hdb hs hpl) λY H A Z S w S' er so e Q hq=>j5 er so e Q hq
end
end Mi
namespace Mi
open PySem PySem.Spec PyProof.Rows L2 Xc
inductive EndX (wd:HX)(K:HA)(A:Ho Hv)(H:Hp)(S':aa)(C:Hv)(gs:Ho HC)(ws:Ho W)(cls:Hr)(dd:Hs Hv)(H':Hp):Prop
 | no (A':Ho Hv) (ec:cls=.ref C) (eg:gs=[]) (ed:dd=gV) (e:Ext K A H A' H') (so:StoreOk wd K A' H' S'):EndX wd K A H S' C gs ws cls dd H'
 | at(A':Ho Hv) (dx:Hv) (vs:Ho V) (ec:cls=.ref C) (ed:dd=ba dx) (hd:H' dx=ba (.ext (Dx dx (gs.zip vs)))) (nd:∀(j:Hz) (o:O),S'[j]?=ba o->o.mut=true->A'[j]?≠ba dx) (e:Ext K A H A' H') (so:StoreOk wd K A' H' S') (r:RelL K A' H' ws vs):EndX wd K A H S' C gs ws cls dd H'
section
variable{X:Cx}{A:Ho Hv}{H H1:Hp}{S':aa}{C:Hv}{cd:Jz}{ws:Ho W}{vs:Ho V}{Ew:L2.XK}{g g2:HC}{n:Hz}{e:Hv}
def AY (Yj:XC X.K C cd)(hf:Kv X.K (.ref C) g=ba gV)(h:EndA X A H S' ws vs H1)(hl:ws.length=1)(he:H1 e=gV)(hn:n<=e)(hq:∀cls dd H',EndX X.w X.K A H S' C [g] ws cls dd H'->Ew cls dd H') :
  tm X.K g (.ref e::vs) (aA H1 e (.ext (Fx e C gV))) (λv H2=>v=.non/\XQ n C H1 Ew (.ref e) H2) E0:=by
 obtain⟨A',ex,so,r⟩:=h;obtain⟨v,rfl⟩ : ∃v,vs=[v]:=by
  have:=r.length
  match vs,this with
  | [v],_=>exact#[v,rfl]
  | [],q=>rw[hl]at q; cases q
  | _::_::_,q=>rw[hl]at q; cases q
 show#[e,v,C,cd,rfl,Yj,hf,ak,λdx nd=>#[rfl,e,ba dx,rfl,hn,?_,λb u q=>?_,?_]]
 ·have ne:dx≠e:=λz=>by rw[z,ak]at nd; cases nd
  rw[aj (Ne.symm ne),ak]
 ·by_cases z1:b=dx
  ·rw[z1,ak]at q;cases q;exact .inr (.inr #[_,by rw[z1]])
  ·rw[aj z1]at q
   by_cases z2:b=e
   ·exact .inr (.inl z2)
   ·rw[aj z2,aj z2]at q;exact .inl #[u,q]
 ·have ne:dx≠e:=λz=>by rw[z,ak]at nd; cases nd
  have nd1:H1 dx=gV:=by rw[aj ne]at nd; exact nd
  have eq:aA (aA (aA (aA H1 e (.ext (Fx e C gV))) e (.ext (Fx e C (ba dx)))) dx (.ext (Dx dx [(g,v)]))) e (.ext (Ex e C (ba dx)))=aA (aA H1 e (.ext (Ex e C (ba dx)))) dx (.ext (Dx dx [(g,v)])):=by
   funext b
   by_cases z2:b=e
   ·rw[z2,ak,aj (Ne.symm ne),ak]
   ·rw[aj z2]
    by_cases z1:b=dx
    ·rw[z1,ak,ak]
    ·rw[aj z1,aj z1,aj z2,aj z2,aj z2]
  rw[eq];have e1:Ext X.K A' H1 A' (aA H1 e (.ext (Ex e C (ba dx)))):=aN (.inl he);have n2:aA H1 e (.ext (Ex e C (ba dx))) dx=gV:=by rw[aj ne]; exact nd1
  have e2:Ext X.K A' (aA H1 e (.ext (Ex e C (ba dx)))) A' (aA (aA H1 e (.ext (Ex e C (ba dx)))) dx (.ext (Dx dx [(g,v)]))):=aN (.inl n2);exact hq _ _ _ (.at A' dx [v] rfl rfl ak (λj o ej mj ea=>(so.obj j o dx ej ea).there mj nd1) (ex.trans (e1.trans e2)) ((so.lay he).lay n2) (r.mono (e1.trans e2)))
def AZ (Yj:XC X.K C cd)(h:EndA X A H S' ws vs H1)(hl:ws.length=0)(he:H1 e=gV)(hn:n<=e)(hq:∀cls dd H',EndX X.w X.K A H S' C [] ws cls dd H'->Ew cls dd H') :
  wW X.K (.ref e::vs) (aA H1 e (.ext (Fx e C gV))) (λv H2=>v=.non/\XQ n C H1 Ew (.ref e) H2) E0:=by
 obtain⟨A',ex,so,r⟩:=h;obtain rfl:vs=[]:=by
  have:=r.length
  match vs,this with
  | [],_=>rfl
  | _::_,q=>rw[hl]at q; cases q
 show#[e,C,cd,rfl,Yj,ak,rfl,e,gV,rfl,hn,ak,λb u q=>?_,?_]
 ·by_cases z2:b=e
  ·exact .inr (.inl z2)
  ·rw[aj z2]at q;exact .inl #[u,q]
 ·rw[v8];exact hq _ _ _ (.no A' rfl rfl rfl (ex.trans (aN (.inl he))) (so.lay he))
end
end Mi
namespace Mi
open PySem PySem.Spec PyProof.Rows L2
abbrev tyOk (T:Jb)(S:aa):W->HP
 | .str _=>T == "str"
 | .ref i=>(T == "list" && (fm S i).isSome)||(T == "dict" && (jA S i).isSome)
 | _=>false
abbrev Cv (T:Jb)(g:W->Ho W->aa->Hs (W×aa))(fo:FE)(f:FA):FE:=λZ S=>match fo Z S with
 | some (x,S1)=>if tyOk T S1 x then match f Z S1 with
  | some (ws,S2)=>g x ws S2
  | none=>gV
  else gV
 | none=>gV
abbrev F8 (fa fb:FE):FE:=t8 iP fa fb
noncomputable abbrev FO:=Fm->aa->Hs (Hs HR×aa)
abbrev A6:FO:=λ_ S=>ba (gV,S)
abbrev pM (f:FE):FO:=λZ S=>match f Z S with
 | some (.int i,S1)=>ba (ba i,S1)
 | _=>gV
abbrev Ds (fa:FE)(fl fh:FO):FE:=λZ S=>match fa Z S with
 | some (x,S1)=>match fl Z S1 with
  | some (lo,S2)=>match fh Z S2 with
   | some (hi,S3)=>jV x lo hi S3
   | none=>gV
  | none=>gV
 | none=>gV
section
variable{X:Cx}
inductive rMeth (X:Cx)(g:W->Ho W->aa->Hs (W×aa))(a:V)(vs:Ho V)(H:Hp)(Q:VK):Prop
 | mk (A:Ho Hv) (S:aa) (x:W) (ws:Ho W) (w:W) (S':aa) (so:StoreOk X.w X.K A H S) (rx:Rel X.K A H x a) (rl:RelL X.K A H ws vs) (e:g x ws S=ba (w,S')) (q:∀v H',EndV X.w X.K A H S' w v H'->Q v H'):rMeth X g a vs H Q
def LMeth.mtr {id:Jb}{g:W->Ho W->aa->Hs (W×aa)}(h:LMeth X id g):MtR X id (rMeth X g):=by
 intro J s Y H a vs u us Q I ru rv ⟨A,S,x,ws,w,S',so,rx,rl,e,hq⟩;exact aG (h J s Y H A S x a u ws vs us w S' I so rx ru rl rv e) λu' s' #[v',H',A',I',r',e1,o1,z1]=>#[v',H',I',r',hq v' H' #[A',e1,o1,z1]]
def tyOk.is {J:Ho (Hv×Jg)}{Y:L2.St}{s:Ht}{A:Ho Hv}{H:Hp}{S:aa}{T:Jb}{x:W}{a:V}{v:Hr}(I:Inv X J Y H s)(so:StoreOk X.w X.K A H S)(r:Rel X.K A H x a)(rv:RelV a v)(h:tyOk T S x=true) :
  s.TypeIs v T/\∀b,v=.ref b->∃ob,s.heap.get? b=ba ob/\ob.dict=gV:=by
 cases r with
 | str=>exact sL I rv (show FU X.K T (.str _) H from eq_of_beq h)
 | ref ea=>
  simp only[tyOk,Jj,Hu]at h;rcases h with⟨h1,h2⟩|⟨h1,h2⟩
  ·obtain⟨xs,hx⟩:=IM.mp h2;obtain⟨vs,h3,_⟩:=bC so hx ea;exact sL I rv (show FU X.K T (.ref _) H from .inl #[eq_of_beq h1,vs,h3])
  ·obtain⟨U,hx⟩:=IM.mp h2;obtain⟨xs,rd,_⟩:=dX so hx ea;obtain⟨_,_,_,o,es,ep,q1,q2,q3,q4⟩:=bB I rd;have e:=eq_of_beq h1;subst e;obtain rfl:v=HL _:=rv;exact#[#[o,q1,q2.1],λb e=>by cases e; exact#[o,q1,q2.2.1]]
 | _=>cases h
def mx {o e:HH}{es:Ho HH}{name:HC}{apos cpos:Jw}{T id:Jb}{g:W->Ho W->aa->Hs (W×aa)}{fo:FE}{f:FA}(pa:PlainAttrs T)(slot:Slot T name id)(hty:typeOf (.builtin id)=pure (.type "method_descriptor"))(hm:LMeth X id g)
  (ho:GE X o fo) (ha:GA X (e::es) f) (hbase:attributeBase o name X.env (eval o X.env)=eval o X.env)
  (hfew:((backTo cpos (starEach (e::es) X.env)).all (λx=>!x.1)&&(backToKw cpos (keywordEach [] X.env)).all (λx=>x.1.isSome)
   && decide ((e::es).length+([]:Ho My).length+(if ([]:Ho My).isEmpty then 0 else 1) < 30))=true)
  (hline:(apos.endLine==cpos.line)=true) (hs:starEach (e::es) X.env=(false,eval e X.env)::starEach es X.env) (hplain:(backTo cpos (starEach es X.env)).any (·.1)=false) :
  GE X (.Call (.Attribute o name apos) (e::es) [] cpos) (Cv T g fo f):=by
 intro J s Y H Q I ⟨A,Z,S,w,S',er,so,e,hq⟩;unfold Cv at e;split at e
 ·rename_i x S1 h1;split at e
  ·rename_i ht;split at e
   ·rename_i ws S2 h2;show wpAny_Call_method_late hbase hfew hline rfl (aG (ho J s Y H (EndV X.w X.K A H S1 x) I #[A,Z,S,_,_,er,so,h1,λ_ _ z=>z]) λv s1 #[a,H1,I1,r1,A1,e1,o1,z1]=>?_)
    obtain⟨t1,t2⟩:=tyOk.is I1 o1 z1 r1 ht;show#[T,id,pa,slot,hty,t1,t2,?_];have hA:=ha cpos J s1 Y H1 (EndA X A1 H1 S2 ws) I1 #[A1,Z,S1,ws,S2,er.mono e1,o1,h2,λ_ _ z=>z]
    rw[hs]at hA ⊢;show Calls.callWith_builtin (by show(false||(backTo cpos (starEach es X.env)).any (·.1))=false; rw[hplain] <;> rfl) (Calls.evalArgs_plain ?_)
    show aG hA λus s2 #[vs,H2,I2,r2,A2,e2,o2,z2]=>?_
    show aG (hm J s2 Y H2 A2 S2 x a v ws vs us w S' I2 o2 (z1.mono e2) r1 z2 r2 e) λu' s' #[v',H',A',I',r',e3,o3,z3]=>?_
    exact#[v',H',I',r',hq v' H' #[A',(e1.trans e2).trans e3,o3,z3]]
   ·cases e
  ·cases e
 ·cases e
def LIx.ixr {g:W->W->aa->Hs (W×aa)}(h:LIx X g):IxR X (rOp X g):=by
 intro value slice J s Y H a b u v Q I ru rv ⟨A,S,x,y,w,S',so,rx,ry,e,hq⟩ hs;exact aG (h value slice J s Y H A S x y a b u v w S' I so rx ru ry rv e hs) λu' s' #[v',H',A',I',r',e1,o1,z1]=>#[v',H',I',r',hq v' H' #[A',e1,o1,z1]]
def Dt {a b:HH}{pos:Jw}{fa fb:FE}(hu:X.A.units+10 < cLine)(ha:GE X a fa)(hb:GE X b fb)(hs:kJ b):GE X (.Subscript a b pos) (F8 fa fb):=
 GE.of (C7 (F7 hu).ixr ha hb hs) λY H A Z S w S' er so e Q hq=>by
  obtain⟨x,S1,y,S2,h1,h2,h3⟩:=Dq e;exact cW er so h1 h2 λa b H2 A2 e2 o2 r1 r2=>#[A2,S2,x,y,w,S',o2,r1,r2,h3,λv H' z=>hq v H' (z.after e2)]
inductive tO (X:Cx)(f:FO)(Y:L2.St)(H:Hp)(Q:Hs HR->Hp->Prop):Prop
 | mk (A:Ho Hv) (Z:Fm) (S:aa) (k:Hs HR) (S':aa) (er:EnvRel X.K A H Z Y) (so:StoreOk X.w X.K A H S) (e:f Z S=ba (k,S')) (q:∀H' A',Ext X.K A H A' H'->StoreOk X.w X.K A' H' S'->Q k H'):tO X f Y H Q
noncomputable abbrev GO (X:Cx)(e:Hs HH)(f:FO):Prop:=PO X e (tO X f)
def xK:GO X gV A6:=λJ s Y H Q I #[A,Z,S,k,S',er,so,e,hq]=>by
 cases e;exact wx J s Y H Q I (hq H A .refl so)
def xL {e:HH}{f:FE}(h:GE X e f):GO X (ba e) (pM f):=λJ s Y H Q I #[A,Z,S,k,S',er,so,e,hq]=>by
 unfold pM at e;split at e
 ·rename_i i S1 h1;cases e;show wy h J s Y H Q I #[A,Z,S,_,_,er,so,h1,λv H1 #[A1,z1,z2,z3]=>?_]
  cases z3;exact#[i,rfl,hq H1 A1 z1 z2]
 ·cases e
inductive rSl (X:Cx)(g:W->Hs HR->Hs HR->aa->Hs (W×aa))(a:V)(lo hi:Hs HR)(H:Hp)(Q:VK):Prop
 | mk (A:Ho Hv) (S:aa) (x w:W) (S':aa) (so:StoreOk X.w X.K A H S) (rx:Rel X.K A H x a) (e:g x lo hi S=ba (w,S')) (q:∀v H',EndV X.w X.K A H S' w v H'->Q v H'):rSl X g a lo hi H Q
def LSl.slr {g:W->Hs HR->Hs HR->aa->Hs (W×aa)}(h:LSl X g):C6 X (rSl X g):=by
 intro J s Y H a v vl vu lo hi sl Q I rv hs pl pu ⟨A,S,x,w,S',so,rx,e,hq⟩;obtain⟨T,id,h1,h2,h3⟩:=h J s Y H A S x a v vl vu lo hi sl w S' I so rx rv hs pl pu e;exact#[T,id,h1,h2,aG h3 λu' s' #[v',H',A',I',r',e1,o1,z1]=>#[v',H',I',r',hq v' H' #[A',e1,o1,z1]]]
def Du {a:HH}{lo hi:Hs HH}{p2 pos:Jw}{fa:FE}{fl fh:FO}(ha:GE X a fa)(hl:GO X lo fl)(hh:GO X hi fh):GE X (.Subscript a (.Slice lo hi gV p2) pos) (Ds fa fl fh):=
 GE.of (sI G8.slr ha hl hh) λY H A Z S w S' er so e Q hq=>by
  unfold Ds at e;split at e
  ·rename_i x S1 h1;split at e
   ·rename_i l S2 h2;split at e
    ·rename_i h S3 h3;show#[A,Z,S,x,S1,er,so,h1,λv H1 #[A1,z1,z2,z3]=>?_]
     show#[A1,Z,S1,l,S2,er.mono z1,z2,h2,λH2 A2 y1 y2=>?_]
     show#[A2,Z,S2,h,S3,er.mono (z1.trans y1),y2,h3,λH3 A3 x1 x2=>?_]
     exact#[A3,S3,x,w,S',x2,(z3.mono y1).mono x1,e,λv H' q=>hq v H' (q.after ((z1.trans y1).trans x1))]
    ·cases e
   ·cases e
  ·cases e
noncomputable abbrev FF:=Ho W->aa->Hs (W×aa)
inductive spF (wd:HX)(K:HA)(n:Hz)(g:FF)(vs:Ho V)(H:Hp)(Q:VK)(E:XK):Prop
 | mk (A:Ho Hv) (S:aa) (ws:Ho W) (w:W) (S':aa) (so:StoreOk wd K A H S) (rl:RelL K A H ws vs) (hl:ws.length=n) (e:g ws S=ba (w,S')) (q:∀v H',EndV wd K A H S' w v H'->Q v H'):spF wd K n g vs H Q E
abbrev cY (n:Hz)(g:FF)(f:FA):FE:=λZ S=>match f Z S with
 | some (ws,S1)=>if ws.length=n then g ws S1 else gV
 | none=>gV
def my {n:Hz}{g:FF}{f:FA}{Y:L2.St}{H:Hp}{A:Ho Hv}{Z:Fm}{S:aa}{w:W}{S':aa}{E:XK}(er:EnvRel X.K A H Z Y)(so:StoreOk X.w X.K A H S)(e:cY n g f Z S=ba (w,S'))(Q:VK)(hq:∀v H',EndV X.w X.K A H S' w v H'->Q v H') :
  sE (spF X.w X.K n g) [] E (tA X f) Y H Q:=by
 unfold cY at e;split at e
 ·rename_i ws S1 h1;split at e
  ·rename_i hl;show#[A,Z,S,ws,S1,er,so,h1,λvs H1 #[A1,z1,z2,z3]=>?_]
   change spF X.w X.K n g (vs++[]) H1 Q E;rw[JD];exact#[A1,S1,ws,w,S',z2,z3,hl,e,λv H' q=>hq v H' (q.after z1)]
  ·cases e
 ·cases e
def A7 {k n:Hz}{fa:Hv}{fd:IY}{ps:Ho HC}{g:FF}{x:HC}{e:HH}{es:Ho HH}{p pos:Jw}{f:FA}(F:FnOk X.prog X.w X.K X.mg X.base iG k fa fd ps (spF X.w X.K n g))(hr:Room k X.A)(hg:Gl X x)(hm:X.mg x=ba (.ref fa))(hk:IZ X.K (.ref fa)=true)
  (hb:Binds X.K fd ps []) (ha:GA X (e::es) f) (hdb:(x==("__debug__" : HC))=false) (he:starEach (e::es) X.env=(false,eval e X.env)::starEach es X.env) (hpl:(backTo pos (starEach es X.env)).any (·.1)=false) :
  GE X (.Call (.Name x p) (e::es) [] pos) (cY n g f):=
 GE.of (wt F hr hg hm hk hb .nil o8 ha hdb he hpl) λY H A Z S w S' er so e Q hq=>my er so e Q hq
def xM {k n:Hz}{fa:Hv}{fd:IY}{ps:Ho HC}{g:FF}{x:HC}{p pos:Jw}(F:FnOk X.prog X.w X.K X.mg X.base iG k fa fd ps (spF X.w X.K n g))(hr:Room k X.A)(hg:Gl X x)(hm:X.mg x=ba (.ref fa))(hk:IZ X.K (.ref fa)=true)
  (hb:Binds X.K fd ps []) (hdb:(x==("__debug__" : HC))=false):GE X (.Call (.Name x p) [] [] pos) (cY n g g9):=
 GE.of (sG F hr hg hm hk hb .nil o8 hdb) λY H A Z S w S' er so e Q hq=>by
  obtain⟨A1,S1,ws,w1,S1',a1,a2,a3,a4,a5⟩:=my (f:=g9) (E:=E0) er so e Q hq |> λ#[A,Z,S,ws,S',b1,b2,b3,b4]=>b4 [] H (by cases b3; exact#[A,.refl,b2,.nil])
  exact#[A1,S1,ws,w1,S1',a1,a2,a3,a4,a5]
def fQ:GSs X [] (λZ S=>ba (.nx Z,S)):=GSs.of we λY H A Z S o S' er so e D hd=>by cases e; exact hd.nx _ _ #[Z,A,rfl,.refl,so,er]
abbrev hG (f g:FS):FS:=λZ S=>match f Z S with
 | some (.nx Z',S1)=>g Z' S1
 | some (.rt w,S1)=>ba (.rt w,S1)
 | some (.bk Z',S1)=>ba (.bk Z',S1)
 | some (.ct Z',S1)=>ba (.ct Z',S1)
 | none=>gV
def iX {st:Jf}{sts:Ho Jf}{f g:FS}(h:GS X st f)(h2:GSs X sts g):GSs X (st::sts) (hG f g):=GSs.of (iz h h2) λY H A Z S o S' er so e D hd=>by
 unfold hG at e;split at e
 ·rename_i Z1 S1 h1;show#[A,Z,S,_,_,er,so,h1,#[λY' H' #[Z',A',e1,e2,e3,e4]=>?_,λv H' #[w,A',e1,_,_,_]=>(by cases e1),λv H' #[w,A',e1,_,_,_]=>(by cases e1),λv H' #[w,A',e1,_,_,_]=>(by cases e1)]]
  cases e1;exact#[A',_,S1,o,S',e4,e3,e,(EndS.after e2).trans hd]
 ·rename_i w S1 h1;cases e;exact#[A,Z,S,_,_,er,so,h1,#[λY' H' #[w,A',e1,_,_,_]=>(by cases e1),hd.rt,hd.bk,hd.ct]]
 ·rename_i w S1 h1;cases e;exact#[A,Z,S,_,_,er,so,h1,#[λY' H' #[w,A',e1,_,_,_]=>(by cases e1),hd.rt,hd.bk,hd.ct]]
 ·rename_i w S1 h1;cases e;exact#[A,Z,S,_,_,er,so,h1,#[λY' H' #[w,A',e1,_,_,_]=>(by cases e1),hd.rt,hd.bk,hd.ct]]
 ·cases e
abbrev mz (f:FE):FS:=λZ S=>match f Z S with
 | some (_,S1)=>ba (.nx Z,S1)
 | none=>gV
def Dv {e:HH}{pos:Jw}{f:FE}(h:GE X e f)(hs:swapsWith e gV pos.line X.env=pure false):GS X (.Expr e pos) (mz f):=GS.of (kH h hs) λY H A Z S o S' er so e D hd=>by
 unfold mz at e;split at e
 ·rename_i w S1 h1;cases e;exact#[A,Z,S,w,_,er,so,h1,λv H1 #[A1,z1,z2,z3]=>hd.nx _ _ #[Z,A1,rfl,z1,z2,er.mono z1]]
 ·cases e
abbrev uy:FS:=λZ S=>ba (.nx Z,S)
def Ba {x:HC}{j:Hz}{pos pos':Jw}:GS X (.Expr (.Constant (.str x) j pos) pos') uy:=GS.of Ag λY H A Z S o S' er so e D hd=>by cases e; exact hd.nx _ _ #[Z,A,rfl,.refl,so,er]
def xN {pos:Jw}:GS X (.Pass pos) uy:=GS.of wf λY H A Z S o S' er so e D hd=>by cases e; exact hd.nx _ _ #[Z,A,rfl,.refl,so,er]
def uz {pos:Jw}:GS X (.Break pos) (λZ S=>ba (.bk Z,S)):=GS.of sj λY H A Z S o S' er so e D hd=>by cases e; exact hd.bk _ _ #[Z,A,rfl,.refl,so,er]
def xP {pos:Jw}:GS X (.Continue pos) (λZ S=>ba (.ct Z,S)):=GS.of lM λY H A Z S o S' er so e D hd=>by cases e; exact hd.ct _ _ #[Z,A,rfl,.refl,so,er]
abbrev mB (f:FE):FS:=λZ S=>match f Z S with
 | some (w,S1)=>ba (.rt w,S1)
 | none=>gV
def oh {e:HH}{pos:Jw}{f:FE}(h:GE X e f):GS X (.Return (ba e) pos) (mB f):=GS.of (Ah h) λY H A Z S o S' er so e D hd=>by
 unfold mB at e;split at e
 ·rename_i w S1 h1;cases e;exact#[A,Z,S,w,_,er,so,h1,λv H1 #[A1,z1,z2,z3]=>hd.rt _ _ #[w,A1,rfl,z1,z2,z3]]
 ·cases e
def xQ {pos:Jw}:GS X (.Return gV pos) (λZ S=>ba (.rt .non,S)):=GS.of wg λY H A Z S o S' er so e D hd=>by cases e; exact hd.rt _ _ #[_,A,rfl,.refl,so,.non]
abbrev eO (c:FT)(f g:FS):FS:=λZ S=>match c Z S with
 | some (true,S1)=>f Z S1
 | some (false,S1)=>g Z S1
 | none=>gV
def zt {c:HH}{a b:Ho Jf}{pos:Jw}{fc:FT}{f g:FS}(hc:GT X c fc)(ha:GSs X a f)(hb:GSs X b g):GS X (.If c a b pos) (eO fc f g):=GS.of (sm hc ha hb) λY H A Z S o S' er so e D hd=>by
 unfold eO at e;split at e
 ·rename_i S1 h1;show#[A,Z,S,_,S1,er,so,h1,λb H1 #[z0,A1,z1,z2]=>?_]
  subst z0;rw[HN rfl];exact#[A1,Z,S1,o,S',er.mono z1,z2,e,(EndS.after z1).trans hd]
 ·rename_i S1 h1;show#[A,Z,S,_,S1,er,so,h1,λb H1 #[z0,A1,z1,z2]=>?_]
  subst z0;rw[HY HS];exact#[A1,Z,S1,o,S',er.mono z1,z2,e,(EndS.after z1).trans hd]
 ·cases e
noncomputable abbrev FG:=W->Fm->aa->Hs (Fm×aa)
inductive tG (X:Cx)(f:FG)(v:V)(Y:L2.St)(H:Hp)(Q:L2.St->Hp->Prop):Prop
 | mk (A:Ho Hv) (Z:Fm) (S:aa) (w:W) (Z':Fm) (S':aa) (er:EnvRel X.K A H Z Y) (so:StoreOk X.w X.K A H S) (r:Rel X.K A H w v) (e:f w Z S=ba (Z',S')) (q:∀Y' H' A',Ext X.K A H A' H'->StoreOk X.w X.K A' H' S'->EnvRel X.K A' H' Z' Y'->Q Y' H'):tG X f v Y H Q
noncomputable abbrev GG (X:Cx)(tg:HH)(f:FG):Prop:=PG X tg (tG X f)
abbrev xR (i:Hz):FG:=λw Z S=>ba (Z.set i (ba w),S)
def ig {i:Hz}{x:HC}{pos:Jw}(hN:X.N.Nodup)(hi:X.N[i]?=ba x)(hx:sg X.env.scope x)(hf:X.fn x=true\/X.env.scope.names.lookup x=ba .local):GG X (.Name x pos) (xR i):=by
 intro J s Y H v u Q I r ⟨A,Z,S,w,Z',S',er,so,rw',e,hq⟩;cases e;exact oZ hN hi hx hf J s Y H v u Q I r (hq _ _ A .refl so (er.set rw' i))
abbrev d6:Ho Hz->Ho W->Fm->Hs Fm
 | [],[],Z=>ba Z
 | i::is,w::ws,Z=>d6 is ws (Z.set i (ba w))
 | _,_,_=>gV
abbrev Bb (is:Ho Hz):FG:=λw Z S=>match w with
 | .tup ws=>(d6 is ws Z).map λZ'=>(Z',S)
 | _=>gV
def rz:∀ {ts:Ho HH} {is:Ho Hz},(∀x∈ts,∃y p,x=.Name y p)->Mw (λ(t:HH) (i:Hz)=>∃x p,t=Nd x p/\X.N[i]?=ba x/\sg X.env.scope x/\(X.fn x=true\/X.env.scope.names.lookup x=ba .local)) ts is->X.N.Nodup->
  CO X ts (λvs Y H Q=>∃A Z ws Z' S,EnvRel X.K A H Z Y/\StoreOk X.w X.K A H S/\RelL X.K A H ws vs/\d6 is ws Z=ba Z'/\∀Y',EnvRel X.K A H Z' Y'->Q Y' H):=by
 intro ts
 induction ts with
 | nil=>
  intro is _ h hN;cases h;intro J s Y H vs us Q I r ⟨A,Z,ws,Z',S,er,so,rl,e,hq⟩;cases rl with
  | nil=>cases e; exact wj J s Y H [] us Q I r #[rfl,hq _ er]
  | cons _ _=>cases e
 | cons t ts ih=>
  intro is hs h hN;cases h with
  | cons h1 h2=>
   obtain⟨x,p,rfl,hi,hl,hf⟩:=h1;have:=ih (λy hy=>hs y (Ig _ hy)) h2 hN
   intro J s Y H vs us Q I r ⟨A,Z,ws,Z',S,er,so,rl,e,hq⟩;cases rl with
   | nil=>cases e
   | cons r1 r2=>
    show su (oZ hN hi hl hf) this rfl J s Y H _ us Q I r #[_,_,rfl,?_];exact#[A,_,_,Z',S,er.set r1 _,so,r2,e,hq]
def uA {ts:Ho HH}{is:Ho Hz}{k:Hz}{pos:Jw}(hc:X.calm=true)(hs:∀x∈ts,∃y p,x=.Name y p)(h:Mw (λ(t:HH) (i:Hz)=>∃x p,t=Nd x p/\X.N[i]?=ba x/\sg X.env.scope x/\(X.fn x=true\/X.env.scope.names.lookup x=ba .local)) ts is)(hN:X.N.Nodup)
  (hn:(assignEach ts X.env).length=ts.length) (hst:(assignEach ts X.env).findIdx? (·.1)=gV):GG X (.Tuple ts k pos) (Bb is):=by
 intro J s Y H v u Q I r ⟨A,Z,S,w,Z',S',er,so,rw',e,hq⟩;unfold Bb at e;split at e
 ·rw[Hx]at e;obtain⟨Z1,e1,e2⟩:=e;cases e2;cases rw' with
  | tup h1 r1=>
   have hl:∀(is:Ho Hz) (ws:Ho W) (Z Z':Fm),d6 is ws Z=ba Z'->is.length=ws.length:=by
    intro is
    induction is with
    | nil=>intro ws Z Z' e; cases ws <;> first|rfl|cases e
    | cons i is ih=>intro ws Z Z' e; cases ws <;> first|cases e|(simp; exact ih _ _ _ e)
   exact Al hc (rz hs h hN) hn hst J s Y H _ u Q I r #[_,_,rfl,h1,by rw[<- r1.length,<- hl _ _ _ _ e1,<- Ml h],A,Z,_,_,_,er,so,r1,e1,λY' z=>hq _ _ A .refl so z]
 ·cases e
abbrev xS (fo fi:FE):FG:=λw Z S=>match fo Z S with
 | some (o,S1)=>match fi Z S1 with
  | some (i,S2)=>match g8 o i w S2 with
   | some S3=>ba (Z,S3)
   | none=>gV
  | none=>gV
 | none=>gV
inductive rSet (X:Cx)(g:W->W->W->aa->Hs aa)(ao ai av:V)(H:Hp)(Q:Hp->Prop):Prop
 | mk (A:Ho Hv) (S:aa) (o i w:W) (S':aa) (so:StoreOk X.w X.K A H S) (r1:Rel X.K A H o ao) (r2:Rel X.K A H i ai) (r3:Rel X.K A H w av) (e:g o i w S=ba S') (q:∀H' A',Ext X.K A H A' H'->StoreOk X.w X.K A' H' S'->Q H'):rSet X g ao ai av H Q
def LSet.pset {g:W->W->W->aa->Hs aa}(h:LSet X g):Ak X (rSet X g):=by
 intro J s Y H ao ai av uo ui uv Q I ro ri rv ⟨A,S,o,i,w,S',so,r1,r2,r3,e,hq⟩;exact aG (h J s Y H A S o i w ao ai av uo ui uv S' I so r1 ro r2 ri r3 rv e) λ_ s' #[H',A',I',e1,o1]=>#[H',I',hq H' A' e1 o1]
def Bc {o i:HH}{pos:Jw}{fo fi:FE}(hu:X.A.units+10 < cLine)(ho:GE X o fo)(hi:GE X i fi)(ha:∀v,assign (.Subscript o i pos) X.env v=(do
   let ov <- holding [v] (eval o X.env)
   let iv <- holding [v,ov] (eval i X.env)
   standAt pos
   holding [v,ov,iv] (setItem ov iv v)
   release [v,ov,iv] [])):GG X (.Subscript o i pos) (xS fo fi):=by
 intro J s Y H v u Q I r ⟨A,Z,S,w,Z',S',er,so,rw',e,hq⟩;unfold xS at e;split at e
 ·rename_i o' S1 h1;split at e
  ·rename_i i' S2 h2;split at e
   ·rename_i S3 h3;cases e;show Am ho hi (Dn hu).pset ha J s Y H v u Q I r ?_;show#[A,Z,S,o',S1,er,so,h1,λa H1 #[A1,e1,o1,r1]=>?_]
    show#[A1,Z,S1,i',S2,er.mono e1,o1,h2,λb H2 #[A2,e2,o2,r2]=>?_]
    exact#[A2,S2,o',i',w,_,o2,r1.mono e2,r2,rw'.mono (e1.trans e2),h3,λH' A' z1 z2=>hq Y H' A' ((e1.trans e2).trans z1) z2 (er.mono ((e1.trans e2).trans z1))]
   ·cases e
  ·cases e
 ·cases e
abbrev d7 (f:FE)(g:FG):FS:=λZ S=>match f Z S with
 | some (w,S1)=>match g w Z S1 with
  | some (Z',S2)=>ba (.nx Z',S2)
  | none=>gV
 | none=>gV
def iY {tg e:HH}{pos:Jw}{f:FE}{g:FG}(h:GE X e f)(hg:GG X tg g)(hs:swapsWithSole [tg] e pos.line X.env=pure false)(hw:swappedStores [tg] e X.env=pure gV)(h1:(assignEach [tg] X.env).map (·.2)=[assign tg X.env]) :
  GS X (.Assign [tg] e pos) (d7 f g):=GS.of (sv h hg hs hw h1) λY H A Z S o S' er so e D hd=>by
 unfold d7 at e;split at e
 ·rename_i w S1 h1;split at e
  ·rename_i Z1 S2 h2;cases e;show#[A,Z,S,w,S1,er,so,h1,λv H1 #[A1,z1,z2,z3]=>?_]
   exact#[A1,Z,S1,w,Z1,_,er.mono z1,z2,z3,h2,λY' H' A' y1 y2 y3=>hd.nx _ _ #[Z1,A',rfl,z1.trans y1,y2,y3]]
  ·cases e
 ·cases e
abbrev uB (i j:Hz)(f:FA):FS:=λZ S=>match f Z S with
 | some ([x,y],S1)=>ba (.nx ((Z.set i (ba x)).set j (ba y)),S1)
 | _=>gV
def Bd {i j:Hz}{x y:HC}{a b:HH}{f:FA}{px py pt pos:Jw}{kt k2:Hz}{pt2:Jw}(hc:X.calm=true)(hN:X.N.Nodup)(hi:X.N[i]?=ba x)(hj:X.N[j]?=ba y)(hij:i≠j)
  (hx:X.env.scope.names.lookup x=ba .local) (hy:X.env.scope.names.lookup y=ba .local) (ha:GA X [a,b] f)
  (hw:swappedStores [.Tuple [.Name x px,.Name y py] kt pt] (.Tuple [a,b] k2 pt2) X.env=pure (ba [x,y]))
  (hs:swapsWithSole [.Tuple [.Name x px,.Name y py] kt pt] (.Tuple [a,b] k2 pt2) pos.line X.env=pure false) :
  GS X (.Assign [.Tuple [.Name x px,.Name y py] kt pt] (.Tuple [a,b] k2 pt2) pos) (uB i j f):=GS.of (An hc hN hi hj hij hx hy ha hw hs) λY H A Z S o S' er so e D hd=>by
 unfold uB at e;split at e
 ·rename_i x y S1 h1;cases e;show#[A,Z,S,_,_,er,so,h1,λvs H1 #[A1,z1,z2,z3]=>?_]
  cases z3 with
  | cons r1 t=>
   cases t with
   | cons r2 t=>
    cases t;exact#[_,_,rfl,hd.nx _ _ #[_,A1,rfl,z1,z2,((er.mono z1).set r1 i).set r2 j]]
 ·cases e
abbrev lp (c:FT)(b:FS):Hz->FS
 | 0,_,_=>gV
 | n+1,Z,S=>match c Z S with
  | some (true,S1)=>match b Z S1 with
   | some (.nx Z',S2)=>lp c b n Z' S2
   | some (.ct Z',S2)=>lp c b n Z' S2
   | some (.bk Z',S2)=>ba (.nx Z',S2)
   | some (.rt w,S2)=>ba (.rt w,S2)
   | none=>gV
  | some (false,S1)=>ba (.nx Z,S1)
  | none=>gV
def uC {c:HH}{body:Ho Jf}{pos:Jw}{fc:FT}{fb:FS}(n:Hz)(hp:Ln (model X.prog X.w) X.A X.env X.xe)(hc:GT X c fc)(hb:GSs X body fb):GS X (.While c body [] pos) (lp fc fb n):=GS.of (sw hp hc hb) λY H A Z S o S' er so e D hd=>by
 show#[λm Y1 H1=>∃A1 Z1 S1,Ext X.K A H A1 H1/\EnvRel X.K A1 H1 Z1 Y1/\StoreOk X.w X.K A1 H1 S1/\lp fc fb m Z1 S1=ba (o,S'),#[n,A,Z,S,.refl,er,so,e],?_]
 rintro m Y1 H1 ⟨A1,Z1,S1,e1,er1,so1,w1⟩;cases m with
 | zero=>cases w1
 | succ m=>
  dsimp only[lp]at w1;split at w1
  ·rename_i S2 h1;show#[A1,Z1,S1,_,S2,er1,so1,h1,λb H2 #[z0,A2,z1,z2]=>?_]
   subst z0;rw[HN rfl];show#[λY3 H3=>∃A3 Z3 S3,Ext X.K A H A3 H3/\EnvRel X.K A3 H3 Z3 Y3/\StoreOk X.w X.K A3 H3 S3/\lp fc fb m Z3 S3=ba (o,S'),λY' H' h=>#[m,JT _,h],?_]
   split at w1
   ·rename_i Z3 S3 h3;show#[A2,Z1,S2,_,S3,er1.mono z1,z2,h3,#[λY' H' #[Z',A',y0,y1,y2,y3]=>?_,λv H' #[w,A',y0,_,_,_]=>(by cases y0),λv H' #[w,A',y0,_,_,_]=>(by cases y0),λv H' #[w,A',y0,_,_,_]=>(by cases y0)]]
    cases y0;exact#[A',_,S3,(e1.trans z1).trans y1,y3,y2,w1]
   ·rename_i Z3 S3 h3;show#[A2,Z1,S2,_,S3,er1.mono z1,z2,h3,#[λv H' #[w,A',y0,_,_,_]=>(by cases y0),λv H' #[w,A',y0,_,_,_]=>(by cases y0),λv H' #[w,A',y0,_,_,_]=>(by cases y0),λY' H' #[Z',A',y0,y1,y2,y3]=>?_]]
    cases y0;exact#[A',_,S3,(e1.trans z1).trans y1,y3,y2,w1]
   ·rename_i Z3 S3 h3;cases w1;show#[A2,Z1,S2,_,_,er1.mono z1,z2,h3,#[λv H' #[w,A',y0,_,_,_]=>(by cases y0),λv H' #[w,A',y0,_,_,_]=>(by cases y0),λY' H' #[Z',A',y0,y1,y2,y3]=>?_,λv H' #[w,A',y0,_,_,_]=>(by cases y0)]]
    cases y0;exact hd.nx _ _ #[_,A',rfl,(e1.trans z1).trans y1,y2,y3]
   ·rename_i w3 S3 h3;cases w1;show#[A2,Z1,S2,_,_,er1.mono z1,z2,h3,#[λv H' #[w,A',y0,_,_,_]=>(by cases y0),λv H' #[w,A',y0,y1,y2,y3]=>?_,λv H' #[w,A',y0,_,_,_]=>(by cases y0),λv H' #[w,A',y0,_,_,_]=>(by cases y0)]]
    cases y0;exact hd.rt _ _ #[_,A',rfl,(e1.trans z1).trans y1,y2,y3]
   ·cases w1
  ·rename_i S2 h1;cases w1;show#[A1,Z1,S1,_,_,er1,so1,h1,λb H2 #[z0,A2,z1,z2]=>?_]
   subst z0;rw[HY HS];exact hd.nx _ _ #[_,A2,rfl,e1.trans z1,z2,er1.mono z1]
  ·cases w1
end
end Mi
namespace Mi
open PySem PySem.Spec PyProof.Rows L2 Xc
noncomputable abbrev FX:=Fm->aa->Hs (HC×Ho W×aa)
noncomputable abbrev Cl:=HC->Hs (Hv×Ho HC)
inductive tX (X:Cx)(cl:Cl)(Ew:L2.XK)(fx:FX)(Y:L2.St)(H:Hp):Prop
 | mk (A:Ho Hv) (Z:Fm) (S:aa) (cn:HC) (ws:Ho W) (S':aa) (C:Hv) (gs:Ho HC) (er:EnvRel X.K A H Z Y) (so:StoreOk X.w X.K A H S) (e:fx Z S=ba (cn,ws,S')) (hc:cl cn=ba (C,gs))
   (q:∀cls dd H',EndX X.w X.K A H S' C gs ws cls dd H'->Ew cls dd H'):tX X cl Ew fx Y H
abbrev GX (X:Cx)(cl:Cl)(Ew:L2.XK)(st:Jf)(f:FS)(fx:FX):Prop:=PS X st λD Y H=>tS X f D Y H\/tX X cl Ew fx Y H
abbrev zu (X:Cx)(cl:Cl)(Ew:L2.XK)(sts:Ho Jf)(f:FS)(fx:FX):Prop:=PSs X sts λD Y H=>tS X f D Y H\/tX X cl Ew fx Y H
abbrev GQ:FX:=λ_ _=>gV
abbrev GR:FS:=λ_ _=>gV
abbrev iZ (cn:HC)(k:Hz)(f:FA):FX:=λZ S=>match f Z S with
 | some (ws,S1)=>if ws.length=k then ba (cn,ws,S1)else gV
 | none=>gV
def mC {cn:HC}{k:Hz}{f:FA}{Z:Fm}{S:aa}{r:HC×Ho W×aa}(h:iZ cn k f Z S=ba r):r.1=cn/\f Z S=ba r.2/\r.2.1.length=k:=by
 unfold iZ at h;split at h
 ·rename_i ws S1 e;split at h
  ·rename_i hl; cases h; exact#[rfl,e,hl]
  ·cases h
 ·cases h
section
variable{X:Cx}{cl:Cl}{Ew:L2.XK}
def mE {st:Jf}{f:FS}(h:GS X st f):GX X cl Ew st f GQ:=λJ s Y H D I q=>by
 rcases q with q|⟨_,_,_,_,_,_,_,_,_,_,e,_⟩
 ·exact h J s Y H D I q
 ·cases e
def xT:zu X cl Ew [] (λZ S=>ba (.nx Z,S)) GQ:=λJ s Y H D I q=>by
 rcases q with q|⟨_,_,_,_,_,_,_,_,_,_,e,_⟩
 ·exact fQ J s Y H D I q
 ·cases e
abbrev pN (f:FS)(fx gx:FX):FX:=λZ S=>match f Z S with
 | some (.nx Z',S1)=>gx Z' S1
 | some _=>gV
 | none=>fx Z S
def EndX.after {A A1:Ho Hv}{H H1:Hp}{S':aa}{C:Hv}{gs:Ho HC}{ws:Ho W}{cls:Hr}{dd:Hs Hv}{H':Hp}(e:Ext X.K A H A1 H1)(h:EndX X.w X.K A1 H1 S' C gs ws cls dd H'):EndX X.w X.K A H S' C gs ws cls dd H':=by
 cases h with
 | no A' ec eg ed e' so=>exact .no A' ec eg ed (e.trans e') so
 | «at» A' dx vs ec ed hd nd e' so r=>exact .at A' dx vs ec ed hd nd (e.trans e') so r
def uD {st:Jf}{sts:Ho Jf}{f g:FS}{fx gx:FX}(h:GX X cl Ew st f fx)(h2:zu X cl Ew sts g gx):zu X cl Ew (st::sts) (hG f g) (pN f fx gx):=λJ s Y H D I q=>by
 show iz h h2 J s Y H D I ?_;rcases q with⟨A,Z,S,o,S',er,so,e,d⟩|⟨A,Z,S,cn,ws,S',C,gs,er,so,e,hc,q⟩
 ·apply Or.inl;unfold hG at e;split at e
  ·rename_i Z' S1 e1;show#[A,Z,S,_,S1,er,so,e1,#[λY' H' #[Z2,A',eo,ex,so',er']=>?_,λv H' #[_,_,eo,_,_,_]=>(by cases eo),λY' H' #[_,_,eo,_,_,_]=>(by cases eo),λY' H' #[_,_,eo,_,_,_]=>(by cases eo)]]
   cases eo;have di:=EndS.after (o:=o) (S':=S') ex;exact .inl #[A',Z',S1,o,S',er',so',e,#[λa b z=>d.nx a b (di.nx a b z),λa b z=>d.rt a b (di.rt a b z),λa b z=>d.bk a b (di.bk a b z),λa b z=>d.ct a b (di.ct a b z)]]
  ·rename_i w S1 e1;cases e;exact#[A,Z,S,_,_,er,so,e1,#[λY' H' #[_,_,eo,_,_,_]=>(by cases eo),d.rt,d.bk,d.ct]]
  ·rename_i w S1 e1;cases e;exact#[A,Z,S,_,_,er,so,e1,#[λY' H' #[_,_,eo,_,_,_]=>(by cases eo),d.rt,d.bk,d.ct]]
  ·rename_i w S1 e1;cases e;exact#[A,Z,S,_,_,er,so,e1,#[λY' H' #[_,_,eo,_,_,_]=>(by cases eo),d.rt,d.bk,d.ct]]
  ·cases e
 ·unfold pN at e;split at e
  ·rename_i Z' S1 e1;apply Or.inl;show#[A,Z,S,_,S1,er,so,e1,#[λY' H' #[Z2,A',eo,ex,so',er']=>?_,λv H' #[_,_,eo,_,_,_]=>(by cases eo),λY' H' #[_,_,eo,_,_,_]=>(by cases eo),λY' H' #[_,_,eo,_,_,_]=>(by cases eo)]]
   cases eo;exact .inr #[A',Z',S1,cn,ws,S',C,gs,er',so',e,hc,λcls dd H2 z=>q cls dd H2 (z.after ex)]
  ·cases e
  ·exact .inr #[A,Z,S,cn,ws,S',C,gs,er,so,e,hc,q]
end
section
variable{X:Cx}{cl:Cl}{Ew:L2.XK}{k:Hz}{f C:Hv}{cd:Jz}{fd:IY}{ps:Ho HC}{x g:HC}{p cpos pos:Jw}{a:HH}{es:Ho HH}{fa:FA}
abbrev xU (X:Cx)(Ew:L2.XK):Prop:=∀J Y H s a C dd a0,Air X J Y H s a C dd a0->Ew (.ref C) dd H->X.xe (.ref a) s
def rB (hh:X.A.handled=gV)(Mqa:XM X.K C f cd)(hf:Kv X.K (.ref C) g=ba gV)(F:FnOk X.prog X.w X.K X.mg X.base iG k f fd ps (tm X.K g))(hr:Room (k+1) X.A)(hg:Gl X x)(hm:X.mg x=ba (.ref C))(hb:Binds X.K fd ps [])
  (hw:xU X Ew) (hc:cl x=ba (C,[g])) (ha:GA X (a::es) fa) (hdb:(x==("__debug__" : HC))=false) (he:starEach (a::es) X.env=(false,eval a X.env)::starEach es X.env) (hpl:(backTo cpos (starEach es X.env)).any (·.1)=false) :
  GX X cl Ew (.Raise (ba (.Call (.Name x p) (a::es) [] cpos)) gV pos) GR (iZ x 1 fa):=λJ s Y H D I q=>by
 rcases q with⟨_,_,_,_,_,_,_,e,_⟩|⟨A,Z,S,cn,ws,S',C',gs,er,so,e,hc',q⟩
 ·cases e
 ·obtain⟨e0,e1,e2⟩:=mC e;dsimp only at e0 e1 e2;subst e0;rw[hc]at hc';cases hc';show sY (E:=E0) hh Mqa F hr hg hm hb o8 hw ha hdb he hpl J s Y H D I #[A,Z,S,ws,S',er,so,e1,λvs H1 en=>#[?_,λn e he hn=>AY Mqa.toXC hf en e2 he hn q]]
  obtain⟨A',ex,so',r⟩:=en;rw[<- r.length,e2,IN];decide
def rC (hh:X.A.handled=gV)(Mqa:XM X.K C f cd)(F:FnOk X.prog X.w X.K X.mg X.base iG k f fd ps (wW X.K))(hr:Room (k+1) X.A)(hg:Gl X x)(hm:X.mg x=ba (.ref C))(hb:Binds X.K fd ps [])
  (hw:xU X Ew) (hc:cl x=ba (C,[])) (hdb:(x==("__debug__" : HC))=false):GX X cl Ew (.Raise (ba (.Call (.Name x p) [] [] cpos)) gV pos) GR (λ_ S=>ba (x,[],S)):=λJ s Y H D I q=>by
 rcases q with⟨_,_,_,_,_,_,_,e,_⟩|⟨A,Z,S,cn,ws,S',C',gs,er,so,e,hc',q⟩
 ·cases e
 ·cases e;rw[hc]at hc';cases hc';exact qU (E:=E0) hh Mqa F hr hg hm hb o8 hw hdb J s Y H D I #[JJ _,λn e he hn=>AZ (A:=A) (H:=H) Mqa.toXC #[A,.refl,so,.nil] rfl he hn q]
end
section
variable{X:Cx}{cl:Cl}{Ew:L2.XK}
abbrev xW (c:FT)(f g:FX):FX:=λZ S=>match c Z S with
 | some (true,S1)=>f Z S1
 | some (false,S1)=>g Z S1
 | none=>gV
def Dw {c:HH}{a b:Ho Jf}{pos:Jw}{fc:FT}{f g:FS}{fx gx:FX}(hc:GT X c fc)(ha:zu X cl Ew a f fx)(hb:zu X cl Ew b g gx):GX X cl Ew (.If c a b pos) (eO fc f g) (xW fc fx gx):=λJ s Y H D I q=>by
 show sm hc ha hb J s Y H D I ?_;rcases q with⟨A,Z,S,o,S',er,so,e,d⟩|⟨A,Z,S,cn,ws,S',C,gs,er,so,e,hcl,q⟩
 ·unfold eO at e;split at e
  ·rename_i S1 h1;show#[A,Z,S,_,S1,er,so,h1,λb H1 #[z0,A1,z1,z2]=>?_]
   subst z0;rw[HN rfl];exact .inl #[A1,Z,S1,o,S',er.mono z1,z2,e,(EndS.after z1).trans d]
  ·rename_i S1 h1;show#[A,Z,S,_,S1,er,so,h1,λb H1 #[z0,A1,z1,z2]=>?_]
   subst z0;rw[HY #v[]]
   exact .inl #[A1,Z,S1,o,S',er.mono z1,z2,e,(EndS.after z1).trans d]
  ·cases e
 ·unfold xW at e;split at e
  ·rename_i S1 h1;show#[A,Z,S,_,S1,er,so,h1,λb H1 #[z0,A1,z1,z2]=>?_]
   subst z0;rw[HN rfl];exact .inr #[A1,Z,S1,cn,ws,S',C,gs,er.mono z1,z2,e,hcl,λcls dd H2 z=>q cls dd H2 (z.after z1)]
  ·rename_i S1 h1;show#[A,Z,S,_,S1,er,so,h1,λb H1 #[z0,A1,z1,z2]=>?_]
   subst z0;rw[HY #v[]]
   exact .inr #[A1,Z,S1,cn,ws,S',C,gs,er.mono z1,z2,e,hcl,λcls dd H2 z=>q cls dd H2 (z.after z1)]
  ·cases e
end
noncomputable abbrev Dy:=Ho W->aa->Hs (HC×Ho W×aa)
inductive spX (wd:HX)(K:HA)(cl:Cl)(n:Hz)(g:FF)(gx:Dy)(vs:Ho V)(H:Hp)(Q:VK)(E:L2.XK):Prop
 | ok (h:spF wd K n g vs H Q E):spX wd K cl n g gx vs H Q E
 | xc (A:Ho Hv) (S:aa) (ws:Ho W) (cn:HC) (us:Ho W) (S':aa) (C:Hv) (gs:Ho HC) (so:StoreOk wd K A H S) (rl:RelL K A H ws vs) (hl:ws.length=n) (e:gx ws S=ba (cn,us,S')) (hc:cl cn=ba (C,gs))
   (q:∀cls dd H',EndX wd K A H S' C gs us cls dd H'->E cls dd H'):spX wd K cl n g gx vs H Q E
section
variable{X:Cx}{cl:Cl}{Ew:L2.XK}
abbrev fR (n:Hz)(gx:Dy)(f:FA):FX:=λZ S=>match f Z S with
 | some (ws,S1)=>if ws.length=n then gx ws S1 else gV
 | none=>gV
end
end Mi
namespace Mi
open PySem PySem.Spec PyProof.Rows L2
section
variable{X:Cx}
abbrev F9 (i j l:Hz)(ta:TA):TS:=λD Y H=>ta Y H λvs H1=>∃v w z,vs=[v,w,z]/\D.nx (((Y.set i (ba v)).set j (ba w)).set l (ba z)) H1
def Be {i j l:Hz}{x y z:HC}{a b c:HH}{ta:TA}{px py pz pt pos:Jw}{kt k2 pt2}(hc:X.calm=true)(hN:X.N.Nodup)(hi:X.N[i]?=ba x)(hj:X.N[j]?=ba y)(hl:X.N[l]?=ba z)(hij:i≠j)(hil:i≠l)(hjl:j≠l)
  (hx:X.env.scope.names.lookup x=ba .local) (hy:X.env.scope.names.lookup y=ba .local) (hz:X.env.scope.names.lookup z=ba .local) (ha:PA X [a,b,c] ta)
  (hw:swappedStores [.Tuple [.Name x px,.Name y py,.Name z pz] kt pt] (.Tuple [a,b,c] k2 pt2) X.env=pure (ba [x,y,z]))
  (hs:swapsWithSole [.Tuple [.Name x px,.Name y py,.Name z pz] kt pt] (.Tuple [a,b,c] k2 pt2) pos.line X.env=pure false:=by rfl) :
  PS X (.Assign [.Tuple [.Name x px,.Name y py,.Name z pz] kt pt] (.Tuple [a,b,c] k2 pt2) pos) (F9 i j l ta):=by
 intro J s Y H D I h;rw[OA];show Hq (JV ?_);rw[hs];show Hq (Hy ?_);rw[HY #v[]]
 show Hq (Tuple_ (aG (ha _ J s Y H _ I h) λus s1 #[vs,H1,I1,r1,q1]=>?_))
 obtain⟨v,w,t,e1,q1⟩:=q1;subst e1;obtain⟨u1,u2,u3,rfl,rv,rw',rt⟩ : ∃u1 u2 u3,us=[u1,u2,u3]/\RelV v u1/\RelV w u2/\RelV t u3:=by
  cases r1 with
  | cons p q=>
   cases q with
   | cons p' q'=>
    cases q' with
    | cons p2 q2=>
     cases q2;exact#[_,_,_,rfl,p,p',p2]
 show IA ?_ (by change 3<=sizeLine; decide)
 have I2:Inv X J Y H1 { s1 with heap:=s1.heap.push { cls:=.type "tuple",data:=.seq [u1,u2,u3].toArray } }:=I1.kept (t':=s1.toks) λb o e=>Hw _ e
 rw[hw];show Hq (Hy ?_);change wpAny (model X.prog X.w) X.A (do rule "assign.swapped-stores"; let items <- unpackItems (.ref s1.heap.objs.size) 3 gV; assignInOrder [λv=>bindName X.env z v,λv=>bindName X.env y v,λv=>bindName X.env x v] items.reverse; pure Oe) _ _ _
 show Hq (Lm (Hq (NN (items:=[u1,u2,u3].toArray) (I.ok.hd hc) (Nc s1.heap _) λh' hx'=>?_)))
 have I3:=I2.kept (h':=h') (t':=s1.toks) λb o e=>hx' b o (HU (HF e)) e
 change wpAny _ _ (assignInOrder [λv=>bindName X.env z v,λv=>bindName X.env y v,λv=>bindName X.env x v] [u3,u2,u1] >>= λ_=>pure Oe) _ _ _
 show Hq (Kb (Lb (bI I3 hN hl (.inl hz) rt (λs2 I4=>?_) (.inr hz))))
 show Kb (Lb (bI I4 hN hj (.inl hy) rw' (λs3 I5=>?_) (.inr hy)))
 show Kb (Lb (bI I5 hN hi (.inl hx) rv (λs4 I6=>Mh (Hy ?_)) (.inr hx)))
 have e6:((HZ Y l (ba t)).set j (ba w)).set i (ba v)=((HZ Y i (ba v)).set j (ba w)).set l (ba t):=by
  rw[Mm (ba w) (ba v) hij.symm,Mm (ba t) (ba v) hil.symm,Mm (ba t) (ba w) hjl.symm]
 rw[e6]at I6;exact#[_,H1,I6,q1]
abbrev uE (i j l:Hz)(f:FA):FS:=λZ S=>match f Z S with
 | some ([x,y,z],S1)=>ba (.nx (((Z.set i (ba x)).set j (ba y)).set l (ba z)),S1)
 | _=>gV
def Bf {i j l:Hz}{x y z:HC}{a b c:HH}{f:FA}{px py pz pt pos:Jw}{kt k2:Hz}{pt2:Jw}(hc:X.calm=true)(hN:X.N.Nodup)(hi:X.N[i]?=ba x)(hj:X.N[j]?=ba y)(hl:X.N[l]?=ba z)(hij:i≠j)(hil:i≠l)(hjl:j≠l)
  (hx:X.env.scope.names.lookup x=ba .local) (hy:X.env.scope.names.lookup y=ba .local) (hz:X.env.scope.names.lookup z=ba .local) (ha:GA X [a,b,c] f)
  (hw:swappedStores [.Tuple [.Name x px,.Name y py,.Name z pz] kt pt] (.Tuple [a,b,c] k2 pt2) X.env=pure (ba [x,y,z]))
  (hs:swapsWithSole [.Tuple [.Name x px,.Name y py,.Name z pz] kt pt] (.Tuple [a,b,c] k2 pt2) pos.line X.env=pure false) :
  GS X (.Assign [.Tuple [.Name x px,.Name y py,.Name z pz] kt pt] (.Tuple [a,b,c] k2 pt2) pos) (uE i j l f):=GS.of (Be hc hN hi hj hl hij hil hjl hx hy hz ha hw hs) λY H A Z S o S' er so e D hd=>by
 unfold uE at e;split at e
 ·rename_i x y z S1 h1;cases e;show#[A,Z,S,_,_,er,so,h1,λvs H1 #[A1,z1,z2,z3]=>?_]
  cases z3 with
  | cons r1 t=>
   cases t with
   | cons r2 t=>
    cases t with
    | cons r3 t=>
     cases t;exact#[_,_,_,rfl,hd.nx _ _ #[_,A1,rfl,z1,z2,(((er.mono z1).set r1 i).set r2 j).set r3 l]]
 ·cases e
abbrev xX (xs:Ho W)(S:aa):Hs (W×aa):=match xs with
 | [.int i]=>if i.natAbs < 1000 then ba (.str (Je (toString i)),S)else gV
 | _=>gV
def rD:LCall X (.type "str") xX:=by
 intro J s Y H A S xs vs us w S' I so rl rv e;cases rl with
 | nil=>cases e
 | cons r t=>
  cases t with
  | cons _ _=>cases r <;> cases e
  | nil=>
   cases r with
   | int=>
    rename_i i;unfold xX at e;dsimp only at e;split at e
    ·rename_i hi;cases e;show CallR.go (r:=λxs H Q=>xs=[.int i]/\Q (.str (Je (toString i))) H) ?_ I rv #[rfl,.here so .str]
     intro J s Y H xs us Q I r h;obtain⟨rfl,q⟩:=h;obtain⟨u,rfl,t,rfl⟩:=iB r;show P.str_of_int ?_ #[.str _,H,I.tok _,#[_,rfl],q];have hp:i.natAbs < 2 ^ 10:=∅
     by_cases h0:i.natAbs=0
     ·rw[h0]; decide
     ·have:=(Nat.log2_lt h0).mpr hp;omega
    ·cases e
   | _=>cases e
def ja {ts vs:Ho HH}{k k2:Hz}{q q2:Jw}{env:LL}(h:vs.all (foldedForSure 8)=true):swappedStores [.Tuple ts k q] (.Tuple vs k2 q2) env=pure gV:=by
 unfold swappedStores;dsimp only;split
 ·rfl
 ·split
  ·rfl
  ·split
   ·rfl
   ·rfl
end
inductive MI where
 | its (ws:Ho W)
 | live (r:Hz)
 | zl (r q:Hz)
abbrev Dz (xs ys:Ho W):Ho W:=IH (λx y=>.tup [x,y]) xs ys
abbrev MI.at (S:aa)(i:Hz):MI->Hs (Hs W)
 | .its ws=>ba ws[i]?
 | .live r=>match fm S r with
  | some xs=>ba xs[i]?
  | none=>gV
 | .zl r q=>match fm S r,fm S q with
  | some xs,ba ys=>ba (Dz xs ys)[i]?
  | _,_=>gV
abbrev MI.len (S:aa):MI->Hs Hz
 | .its ws=>ba ws.length
 | .live r=>(fm S r).map (·.length)
 | .zl r q=>match fm S r,fm S q with
  | some xs,ba ys=>ba (Dz xs ys).length
  | _,_=>gV
noncomputable abbrev FI:=Fm->aa->Hs (MI×aa)
structure MIt (wd:HX)(K:HA)(mi:MI)(Jqa:It)(A0:Ho Hv)(H0:Hp):Prop where
 go:∀A H S i w,Ext K A0 H0 A H->StoreOk wd K A H S->mi.at S i=ba (ba w)->Jqa.go i H/\∀x H',Jqa.yld i H x H'->Ext K A H A H'/\StoreOk wd K A H' S/\Rel K A H' w x
 stop:∀A H S i,Ext K A0 H0 A H->StoreOk wd K A H S->mi.at S i=ba gV->Jqa.stop i H
inductive tI (X:Cx)(f:FI)(Y:L2.St)(H:Hp)(R:It->Hp->Prop):Prop
 | mk (A:Ho Hv) (Z:Fm) (S:aa) (mi:MI) (S':aa) (er:EnvRel X.K A H Z Y) (so:StoreOk X.w X.K A H S) (e:f Z S=ba (mi,S')) (q:∀Jqa H' A',Ext X.K A H A' H'->StoreOk X.w X.K A' H' S'->MIt X.w X.K mi Jqa A' H'->R Jqa H'):tI X f Y H R
noncomputable abbrev GI (X:Cx)(tg iter:HH)(f:FI):Prop:=PI X tg iter (tI X f)
abbrev xY (f:FE):FI:=λZ S=>match f Z S with
 | some (.tup ws,S1)=>ba (.its ws,S1)
 | some (.ref r,S1)=>match fm S1 r with
  | some _=>ba (.live r,S1)
  | none=>gV
 | _=>gV
abbrev cZ (lo:HR)(n:Hz):Ho W:=(IJ n).map λ(k:Hz)=>.int (lo+(k:HR))
abbrev ol (f:FA):FI:=λZ S=>match f Z S with
 | some ([.int j],S1)=>if -(2 ^ 62)<=j/\j < 2 ^ 62 then ba (.its (cZ 0 j.toNat),S1)else gV
 | _=>gV
abbrev iRng2 (f:FA):FI:=λZ S=>match f Z S with
 | some ([.int i,.int j],S1)=>if -(2 ^ 62)<=i/\i < 2 ^ 62/\-(2 ^ 62)<=j/\j < 2 ^ 62 then ba (.its (cZ i (j - i).toNat),S1)else gV
 | _=>gV
abbrev bq (mi:MI)(g:FG)(b:FS):Hz->Hz->FS
 | 0,i,Z,S=>match mi.at S i with
  | some gV=>ba (.nx Z,S)
  | _=>gV
 | n+1,i,Z,S=>match mi.at S i with
  | some (ba w)=>match g w Z S with
   | some (Z1,S1)=>match b Z1 S1 with
    | some (.nx Z2,S2)=>bq mi g b n (i+1) Z2 S2
    | some (.ct Z2,S2)=>bq mi g b n (i+1) Z2 S2
    | some (.bk Z2,S2)=>ba (.nx Z2,S2)
    | some (.rt w,S2)=>ba (.rt w,S2)
    | none=>gV
   | none=>gV
  | _=>gV
abbrev hW (fi:FI)(g:FG)(b:FS):FS:=λZ S=>match fi Z S with
 | some (mi,S1)=>match mi.len S1 with
  | some n=>bq mi g b n 0 Z S1
  | none=>gV
 | none=>gV
section
variable{X:Cx}
def xZ {A:Ho Hv}{H:Hp}{ws:Ho W}{a:Hv}{vs:Ho V}(h:SqT X.K H a vs)(r:RelL X.K A H ws vs):MIt X.w X.K (.its ws) (Cs X.K a) A H:=by
 show#[λA' H' S i w e so hi=>?_,λA' H' S i e so hi=>?_]
 ·simp only[MI.at,IG]at hi;obtain⟨v,h1,h2⟩:=(r.mono e).get hi;show#[#[vs,v,e.tp _ _ h,h1],λx H2 #[z1,z2]=>?_]
  subst z1;have:=z2 vs (e.tp _ _ h);rw[h1]at this; cases this
  exact#[.refl,so,h2]
 ·simp only[MI.at,IG]at hi;show#[vs,e.tp _ _ h,?_];rw[<- r.length];exact JP.mp hi
def x4 {A:Ho Hv}{H:Hp}{r:Hz}{a:Hv}(ea:A[r]?=ba a):MIt X.w X.K (.live r) (Fv X.K a) A H:=by
 show#[λA' H' S i w e so hi=>?_,λA' H' S i e so hi=>?_]
 ·simp only[MI.at]at hi;split at hi
  ·rename_i xs hx;simp only[IG]at hi;obtain⟨vs,h1,r1⟩:=bC so hx (e.ad _ _ ea);obtain⟨v,h2,h3⟩:=r1.get hi;show#[#[vs,v,h1,h2],λx H2 #[z1,z2]=>?_]
   subst z1;have:=z2 vs h1;rw[h2]at this; cases this
   exact#[.refl,so,h3]
  ·cases hi
 ·simp only[MI.at]at hi;split at hi
  ·rename_i xs hx;simp only[IG]at hi;obtain⟨vs,h1,r1⟩:=bC so hx (e.ad _ _ ea);show#[vs,h1,?_];rw[<- r1.length];exact JP.mp hi
  ·cases hi
def d8 {lo:HR}{n i:Hz}:(cZ lo n)[i]?=if i < n then ba (.int (lo+i))else gV:=by
 unfold cZ;rw[HQ]
 by_cases h:i < n
 ·rw[HN h,Nl h]; rfl
 ·rw[HY h,JP.mpr (by simp; omega)]; rfl
def pO {A:Ho Hv}{H:Hp}{lo:HR}{n:Hz}:MIt X.w X.K (.its (cZ lo n)) (CS lo n) A H:=by
 show#[λA' H' S i w e so hi=>?_,λA' H' S i e so hi=>?_]
 ·simp only[MI.at,IG]at hi;rw[d8]at hi;split at hi
  ·cases hi;show#[by assumption,λx H2 #[z1,z2]=>?_]
   subst z1 z2;exact#[.refl,so,.int]
  ·cases hi
 ·simp only[MI.at,IG]at hi;rw[d8]at hi;split at hi
  ·cases hi
  ·change n<=i;omega
def mF {tg:HH}{J:Ho (Hv×Jg)}{Y:L2.St}{H1:Hp}{s1:Ht}{R:It->Hp->Prop}{a:Hv}{xs:Ho V}{v:Hr}(I1:Inv X J Y H1 s1)(r1:RelV (.ref a) v)(hq:SqL X.K H1 a xs)(q:R (Fv X.K a) H1) :
  wpAny (model X.prog X.w) X.A (pyIter v) (E2 X J Y tg R) X.xe s1:=by
 cases r1;obtain⟨its,rv,p,hz⟩:=I1.list hq;show Mk p.isList ?_;show#[s1.heap.objs.size,[s1.heap.objs.size],_,_,H1,rfl,I1.kept (t':=s1.toks) λb o e=>Hw _ e,qF a _,#[_,HG _ rfl,rfl,rfl],λb hb=>?_,q]
 have e:b=s1.heap.objs.size:=by simpa using hb
 subst e;exact I1.fpOk (HJ _) (I1.hok.fresh (HJ _))
def om {tg:HH}{J:Ho (Hv×Jg)}{Y:L2.St}{H1:Hp}{s1:Ht}{R:It->Hp->Prop}{a:Hv}{xs:Ho V}{v:Hr}(I1:Inv X J Y H1 s1)(r1:RelV (.ref a) v)(hq:SqT X.K H1 a xs)(q:R (Cs X.K a) H1) :
  wpAny (model X.prog X.w) X.A (pyIter v) (E2 X J Y tg R) X.xe s1:=by
 cases r1;obtain⟨its,rv,p,hz⟩:=I1.tuple hq;show NE (show s1.heap.IsTuple a its.toArray from p) ?_
 show#[s1.heap.objs.size,[s1.heap.objs.size],_,_,H1,rfl,I1.kept (t':=s1.toks) λb o e=>Hw _ e,nC a _,#[_,HG _ rfl,rfl,rfl],λb hb=>?_,q]
 have e:b=s1.heap.objs.size:=by simpa using hb
 subst e;exact I1.fpOk (HJ _) (I1.hok.fresh (HJ _))
def x5 {tg a:HH}{f:FA}{p pos:Jw}(hg:Gl X "range")(hm:X.mg "range" = gV)(ha:GA X [a] f)(hs:starEach [a] X.env=[(false,eval a X.env)]):GI X tg (.Call (.Name "range" p) [a] [] pos) (ol f):=by
 intro J s Y H R I ⟨A,Z,S,mi,S',er,so,e,hq⟩;unfold ol at e;split at e
 ·rename_i j S1 h1;split at e
  ·rename_i hj;cases e;show qG hg hm ha hs J s Y H R I #[A,Z,S,_,_,er,so,h1,λvs H1 #[A1,z1,z2,z3]=>?_]
   cases z3 with
   | cons r1 t=>
    cases t;cases r1;exact#[j,rfl,hj.1,hj.2,hq _ _ A1 z1 z2 pO]
  ·cases e
 ·cases e
def x6 {tg a b:HH}{f:FA}{p pos:Jw}(hg:Gl X "range")(hm:X.mg "range" = gV)(ha:GA X [a,b] f)(hs:starEach [a,b] X.env=[(false,eval a X.env),(false,eval b X.env)])(hs2:starEach [b] X.env=[(false,eval b X.env)]):GI X tg (.Call (.Name "range" p) [a,b] [] pos) (iRng2 f):=by
 intro J s Y H R I ⟨A,Z,S,mi,S',er,so,e,hq⟩;unfold iRng2 at e;split at e
 ·rename_i i j S1 h1;split at e
  ·rename_i hj;cases e;show qH hg hm ha hs hs2 J s Y H R I #[A,Z,S,_,_,er,so,h1,λvs H1 #[A1,z1,z2,z3]=>?_]
   cases z3 with
   | cons r1 t=>
    cases t with
    | cons r2 t=>
     cases t;cases r1;cases r2;exact#[i,j,rfl,hj,hq _ _ A1 z1 z2 pO]
  ·cases e
 ·cases e
def Bg {tg l:HH}{f:FE}(h:GE X l f):GI X tg l (xY f):=by
 intro J s Y H R I ⟨A,Z,S,mi,S',er,so,e,hq⟩;unfold xY at e;split at e
 ·rename_i ws S1 h1;cases e;show aG (h J s Y H (EndV X.w X.K A H _ (.tup ws)) I #[A,Z,S,_,_,er,so,h1,λ_ _ z=>z]) λv s1 #[x,H1,I1,r1,A1,e1,o1,z1]=>?_
  cases z1 with
  | tup hq1 rl=>
   show om I1 r1 hq1 (hq _ _ A1 e1 o1 (xZ hq1 rl))
 ·rename_i r S1 h1;split at e
  ·rename_i ys hy;cases e;show aG (h J s Y H (EndV X.w X.K A H _ (.ref r)) I #[A,Z,S,_,_,er,so,h1,λ_ _ z=>z]) λv s1 #[x,H1,I1,r1,A1,e1,o1,z1]=>?_
   cases z1 with
   | ref ea=>
    obtain⟨vs,hl,_⟩:=bC o1 hy ea;exact mF I1 r1 hl (hq _ _ A1 e1 o1 (x4 ea))
  ·cases e
 ·cases e
def Bh {tg iter:HH}{body:Ho Jf}{pos:Jw}{fi:FI}{g:FG}{fb:FS}(hp:Ln (model X.prog X.w) X.A X.env X.xe)(hc:X.calm=true)(hi:GI X tg iter fi)(hg:GG X tg g)(hb:GSs X body fb)
  (hs:∀x,foldedSetIterable iter X.env x=pure x):GS X (.For tg iter body [] pos) (hW fi g fb):=GS.of (sx hp hc hi hg hb hs) λY H A Z S o S' er so e D hd=>by
 unfold hW at e;split at e
 ·rename_i mi S1 h1;split at e
  ·rename_i n hn;show#[A,Z,S,mi,S1,er,so,h1,λJqa H1 A1 z1 z2 mit=>?_]
   show#[λi m Y2 H2=>∃A2 Z2 S2,Ext X.K A1 H1 A2 H2/\EnvRel X.K A2 H2 Z2 Y2/\StoreOk X.w X.K A2 H2 S2/\bq mi g fb m i Z2 S2=ba (o,S'),#[n,A1,Z,S1,.refl,er.mono z1,z2,e],?_]
   rintro i m Y2 H2 ⟨A2,Z2,S2,e2,er2,so2,w2⟩;cases m with
   | zero=>
    dsimp only[bq]at w2;split at w2
    ·rename_i hs;cases w2;exact .inl #[mit.stop A2 H2 _ i e2 so2 hs,hd.nx _ _ #[_,A2,rfl,z1.trans e2,so2,er2]]
    ·cases w2
   | succ m=>
    dsimp only[bq]at w2;split at w2
    ·rename_i w hw;obtain⟨go,yl⟩:=mit.go A2 H2 S2 i w e2 so2 hw;show .inr #[go,λY3 H3=>∃A3 Z3 S3,Ext X.K A1 H1 A3 H3/\EnvRel X.K A3 H3 Z3 Y3/\StoreOk X.w X.K A3 H3 S3/\bq mi g fb m (i+1) Z3 S3=ba (o,S'),λY' H' h=>#[m,JT _,h],λx H3 hy=>?_]
     obtain⟨x1,x2,x3⟩:=yl x H3 hy;split at w2
     ·rename_i Z3 S3 h3;show#[A2,Z2,S2,w,Z3,S3,er2.mono x1,x2,x3,h3,λY4 H4 A4 y1 y2 y3=>?_]
      have ex:Ext X.K A1 H1 A4 H4:=(e2.trans x1).trans y1;split at w2
      ·rename_i Z5 S5 h5;show#[A4,Z3,S3,_,S5,y3,y2,h5,#[λY' H' #[Z',A',u0,u1,u2,u3]=>?_,λv H' #[w,A',y0,_,_,_]=>(by cases y0),λv H' #[w,A',y0,_,_,_]=>(by cases y0),λv H' #[w,A',y0,_,_,_]=>(by cases y0)]]
       cases u0;exact#[A',_,S5,ex.trans u1,u3,u2,w2]
      ·rename_i Z5 S5 h5;show#[A4,Z3,S3,_,S5,y3,y2,h5,#[λv H' #[w,A',y0,_,_,_]=>(by cases y0),λv H' #[w,A',y0,_,_,_]=>(by cases y0),λv H' #[w,A',y0,_,_,_]=>(by cases y0),λY' H' #[Z',A',u0,u1,u2,u3]=>?_]]
       cases u0;exact#[A',_,S5,ex.trans u1,u3,u2,w2]
      ·rename_i Z5 S5 h5;cases w2;show#[A4,Z3,S3,_,_,y3,y2,h5,#[λv H' #[w,A',y0,_,_,_]=>(by cases y0),λv H' #[w,A',y0,_,_,_]=>(by cases y0),λY' H' #[Z',A',u0,u1,u2,u3]=>?_,λv H' #[w,A',y0,_,_,_]=>(by cases y0)]]
       cases u0;exact hd.nx _ _ #[_,A',rfl,(z1.trans ex).trans u1,u2,u3]
      ·rename_i w5 S5 h5;cases w2;show#[A4,Z3,S3,_,_,y3,y2,h5,#[λv H' #[w,A',y0,_,_,_]=>(by cases y0),λv H' #[w,A',u0,u1,u2,u3]=>?_,λv H' #[w,A',y0,_,_,_]=>(by cases y0),λv H' #[w,A',y0,_,_,_]=>(by cases y0)]]
       cases u0;exact hd.rt _ _ #[_,A',rfl,(z1.trans ex).trans u1,u2,u3]
      ·cases w2
     ·cases w2
    ·cases w2
  ·cases e
 ·cases e
end
section
variable{prog:HM}{w:HX}{B:HW}{E:Hr->Ht->Prop}{s:Ht}
def x8 {d:Hv}{es:Iu JZ}{ep:Hz}{Q:Hr->Ht->Prop}(hd:(d==sysModules)=false)(hm:RawD d es ep s.heap)(hfit:(es.size:HR) < 2 ^ 63)
  (h:Q (.int es.size (s.toks+1)) { s with toks:=s.toks+1+1 }):wpAny (model prog w) B (call (.builtin "len") [.ref d]) Q E s:=by
 have hT:=hm.type;obtain⟨o,ho,hc,hdat⟩:=id hm;show Ma kind_len plain_len entry_len (args_len1 _) ?_;unfold K3.«len»;show Hq (m:=oneArg "len" _) (Hy ?_);show Hq (m:=callSpecial? (.ref d) (Je "__len__")) (Ja (name:=Je "__len__") hT F.slot_dict_len (Jk F.slot_dict_len hT F.entry_dict_len ?_ (F.args_dict_len_1 _)));change wpAny _ _ (dictSize d >>= _) _ _ s;unfold dictSize;show Hq (Hq (Lf ho hdat (Hy ?_)));change wpAny _ _ (O5 d >>= _) _ _ s;show Hq (wpAny_pendingCount_other hd ?_);show wpAny_ret_mkInt ?_;rw[Nat.add_zero];change wpAny _ _ _ _ _ { s with toks:=s.toks+1 }
 show Hq (IL (Hy ?_));show Hq (Lv ?_);change wpAny _ _ (if ((es.size:Hz):HR) < 0 then _ else _) _ _ _
 rw[HY ∅]
 change wpAny _ _ (if ((es.size:Hz):HR)>=2 ^ 63 then _ else _) _ _ _
 rw[HY ∅]
 exact Hq (Oy (Hy #[_,rfl,h]))
end
section
variable{X:Cx}{J:Ho (Hv×Jg)}{Y:L2.St}{H:Hp}{s:Ht}{A:Ho Hv}{S:aa}
def oo:LCall X (.builtin "len") n0:=by
 intro J s Y H A S xs vs us w S' I so rl rv e
 by_cases hd:∃i U,xs=[.ref i]/\jA S i=ba U
 ·obtain⟨i,U,rfl,hk⟩:=hd
  (dsimp only[n0]at e; simp only[hk]at e)
  cases e;cases rl with
  | cons r t=>
   cases t;cases rv with
   | cons ru rv2=>
    cases rv2;cases r with
    | ref ea=>
     obtain⟨xs,rd,kr⟩:=dX so hk ea;have d:=bB I rd;obtain⟨es,ep,raw,he⟩:=d.raw;obtain rfl:_=HL _:=ru;have hl:es.size=xs.length:=by rw[<- Ip,he,HB]
     have hz:=d.1;have hs:sizeLine=16777216:=IN;show x8 d.2.1 raw ∅ #[.int U.length,H,A,I.tok _,#[_,by rw[kr.length,hl]],.refl,so,.int]
 ·have:n0 xs S=nU xs S:=by
   unfold n0;split
   ·rename_i i;split
    ·rename_i U hk;exact absurd #[i,U,rfl,hk] hd
    ·rfl
   ·rfl
  rw[this]at e;exact qY J s Y H A S xs vs us w S' I so rl rv e
abbrev E7 (S:aa):W->Hs Jb
 | .non=>ba "NoneType"|.bl _=>ba "bool"|.int _=>ba "int"|.str _=>ba "str"|.tup _=>ba "tuple"
 | .ref i=>match fm S i with
  | some _=>ba "list"
  | none=>(jA S i).map λ_=>"dict"
abbrev mG:Ho Jb:=["bool","int","str","tuple","list","dict"]
abbrev nA (S:aa)(x:W)(c:Jb):Hs HP:=match E7 S x with
 | some t=>if mG.contains c then ba (t==c||(t == "bool" && c == "int"))else gV
 | none=>gV
def fw {K:HA}{t c:Jb}(ht:t∈["NoneType","bool","int","str","tuple","list","dict"])(hc:c∈mG):PySem.W.kitOne K (.type t) (.type c)=ba (t==c||(t == "bool" && c == "int")):=by
 simp only[mG,Ij,JU,L5]at ht hc;rcases ht with rfl|rfl|rfl|rfl|rfl|rfl|rfl <;> rcases hc with rfl|rfl|rfl|rfl|rfl|rfl <;> rfl
def uF:CallR X (.builtin "isinstance") (λvs H Q=>∃A S x v c b,vs=[v,.ty c]/\StoreOk X.w X.K A H S/\Rel X.K A H x v/\nA S x c=ba b/\Q (.bl b) H):=by
 intro J s Y H vs us Q I rv ⟨A,S,x,v,c,b,e1,so,rx,e2,hq⟩;subst e1;cases rv with
 | cons r1 rv2=>cases rv2 with
  | cons r2 rv3=>
   cases rv3;obtain rfl:_=td c:=r2;unfold nA at e2;split at e2
   ·rename_i t ht;split at e2
    ·rename_i hc;cases e2;have hc':c∈mG:=by simpa using hc
     have fin:∀tk,EP X J Y Q (.bool (t==c||(t == "bool" && c == "int"))) { s with toks:=tk }:=λtk=>#[.bl _,H,I.tok _,rfl,hq]
     cases rx with
     | non=>cases ht; cases(show _=Iz from r1); exact Kg PySem.W.kitx_none I.kIn Lr (fw (by simp) hc') (λz=>nomatch z) fin
     | bl=>cases ht; cases(show _=Jv _ from r1); exact Kg PySem.W.kitx_bool I.kIn Lr (fw (by simp) hc') (λz=>nomatch z) fin
     | int=>cases ht; obtain⟨t',q⟩:=(show ∃t,_=Mr _ t from r1); cases q; exact Kg PySem.W.kitx_int I.kIn Lr (fw (by simp) hc') (λz=>nomatch z) fin
     | str=>cases ht; obtain⟨t',q⟩:=(show ∃t,_=Ll _ t from r1); cases q; exact Kg PySem.W.kitx_str I.kIn Lr (fw (by simp) hc') (λz=>nomatch z) fin
     | tup h1 r1'=>
      cases ht;obtain⟨its,rv,⟨o,q1,q2,_⟩,hz⟩:=I.tuple h1;cases(show _=HL _ from r1)
      exact Kg PySem.W.kitx_tuple I.kIn #[o,q1,q2] (fw (by simp) hc') (λz=>nomatch z) fin
     | ref ea=>
      cases(show _=HL _ from r1)
      dsimp only[E7]at ht;split at ht
      ·rename_i ws hw;cases ht;obtain⟨vs,h1,_⟩:=bC so hw ea;obtain⟨its,rv,p,hz⟩:=I.list h1;obtain⟨o,q1,q2,_⟩:=p.isList;exact Kg PySem.W.kitx_list I.kIn #[o,q1,q2] (fw (by simp) hc') (λz=>nomatch z) fin
      ·rw[Hx]at ht;obtain⟨U,hk,rfl⟩:=ht;obtain⟨xs,rd,kr⟩:=dX so hk ea;obtain⟨es,ep,⟨o,q1,q2,_⟩,he⟩:=(bB I rd).raw;exact Kg PySem.W.kitx_dict I.kIn #[o,q1,q2.1] (fw (by simp) hc') (λz=>nomatch z) fin
    ·cases e2
   ·cases e2
abbrev uG (c:Jb)(f:FE):FE:=λZ S=>match f Z S with
 | some (x,S1)=>(nA S1 x c).map λb=>(.bl b,S1)
 | none=>gV
def Bj {cn:HC}{c:Jb}{e:HH}{p p2 pos:Jw}{f:FE}(hg:Gl X "isinstance")(hm:X.mg "isinstance" = gV)(hg2:Gl X cn)(hm2:X.mg cn=gV)(hv2:bootBuiltins cn=ba (.type c))(hn2:cn≠"__name__")(hd2:(cn==("__debug__" : HC))=false)
  (he:GE X e f) (hs:starEach [e,.Name cn p2] X.env=(false,eval e X.env)::starEach [.Name cn p2] X.env):GE X (.Call (.Name "isinstance" p) [e,.Name cn p2] [] pos) (uG c f):=
 GE.of (dR (uF) hg hm rfl (bA he (bA (oY (v:=.ty c) hg2 hm2 hv2 rfl hn2 hd2) ff) hs) #v[] #v[] hs rfl) λY H A Z S w S' er so e Q hq=>by
  unfold uG at e;split at e
  ·rename_i x1 S1 h1;rw[Hx]at e;obtain⟨b,e1,e2⟩:=e;cases e2;exact#[A,Z,S,x1,_,er,so,h1,λv H1 #[A1,z1,z2,z3]=>#[A1,_,x1,v,c,b,rfl,z2,z3,e1,hq _ _ #[A1,z1,z2,.bl]]]
  ·cases e
end
abbrev fA:Ho (T×W)->Ho W->Hs (Ho (T×W))
 | U,[]=>ba U
 | U,k::v::ws=>match g7 k with
  | some t=>fA (fu U t v) ws
  | none=>gV
 | _,[_]=>gV
abbrev zv:FE:=λ_ S=>ba (.ref S.length,S++[.dic []])
abbrev mH (f:FA):FE:=λZ S=>match f Z (S++[.dic []])with
 | some (ws,S1)=>match S1[S.length]? with
  | some (.dic [])=>match fA [] ws with
   | some U=>ba (.ref S.length,S1.set S.length (.dic U))
   | none=>gV
  | _=>gV
 | none=>gV
section
variable (K:HA) (A:Ho Hv) (H:Hp)
inductive RelP:Ho W->Ho (V×V)->Prop
 | nil:RelP [] []
 | cons {k v:W} {a b:V} {ws:Ho W} {ps:Ho (V×V)}:Rel K A H k a->Rel K A H v b->RelP ws ps->RelP (k::v::ws) ((a,b)::ps)
end
def RelP.mono {K:HA}{A A':Ho Hv}{H H':Hp}(e:Ext K A H A' H'){ws:Ho W}{ps:Ho (V×V)}(h:RelP K A H ws ps):RelP K A' H' ws ps:=by
 induction h with
 | nil=>exact .nil
 | cons a b c ih=>exact .cons (a.mono e) (b.mono e) ih
section
variable{X:Cx}{J:Ho (Hv×Jg)}{Y:L2.St}{H:Hp}{s:Ht}{A:Ho Hv}{S:aa}
abbrev Ga (X:Cx)(A:Ho Hv)(H:Hp)(S':aa)(ws:Ho W):Ho (V×V)->Hp->Prop:=λps H'=>∃A',Ext X.K A H A' H'/\StoreOk X.w X.K A' H' S'/\RelP X.K A' H' ws ps
abbrev DA (X:Cx)(pos:Jw)(keys:Ho (Hs HH))(values:Ho HH)(f:FA):Prop:=
 ∀(J:Ho (Hv×Jg)) (s:Ht) (Y:L2.St) (H:Hp) (A:Ho Hv) (Z:Fm) (S:aa) (ws:Ho W) (S':aa),Inv X J Y H s->EnvRel X.K A H Z Y->StoreOk X.w X.K A H S->f Z S=ba (ws,S')->
  wpAny (model X.prog X.w) X.A (evalPairs (pairTrees keys values X.env pos)) (λvs s'=>∃ps H',Inv X J Y H' s'/\VV ps vs/\Ga X A H S' ws ps H') X.xe s
def x9 {pos:Jw}:DA X pos [] [] g9:=λJ s Y H A Z S ws S' I er so e=>by
 cases e;exact pairTrees_nil_walk #[[],H,I,.nil,A,.refl,so,.nil]
def uH {pos:Jw}{k v:HH}{ks:Ho (Hs HH)}{vs:Ho HH}{fk fv:FE}{f:FA}(hk:GE X k fk)(hv:GE X v fv)(hr:DA X pos ks vs f):DA X pos (ba k::ks) (v::vs) (cr fk (cr fv f)):=λJ s Y H A Z S ws S' I er so e=>by
 unfold cr at e;split at e
 ·rename_i w1 S1 h1;split at e
  ·rename_i w2 S2 h2;cases e;split at h2
   ·rename_i w3 S3 h3;split at h2
    ·rename_i w4 S4 h4;cases h2;show pairTrees_cons_walk (aG (hk J s Y H (EndV X.w X.K A H S1 w1) I #[A,Z,S,_,_,er,so,h1,λ_ _ z=>z]) λu s1 #[x,H1,I1,r1,A1,e1,o1,z1]=>
      aG (hv J s1 Y H1 (EndV X.w X.K A1 H1 S3 w3) I1 #[A1,Z,S1,_,_,er.mono e1,o1,h3,λ_ _ z=>z]) λu2 s2 #[x2,H2,I2,r2,A2,e2,o2,z2]=>
      aG (hr J s2 Y H2 A2 Z S3 _ _ I2 (er.mono (e1.trans e2)) o2 h4) λvs' s3 #[ps,H3,I3,rel,A3,e3,o3,z3]=>?_)
     exact#[(x,x2)::ps,H3,I3,.cons #[r1,r2] rel,A3,e1.trans (e2.trans e3),o3,.cons (z1.mono (e2.trans e3)) (z2.mono e3) z3]
    ·cases h2
   ·cases h2
  ·cases e
 ·cases e
def j6 {r:Hz}{d:Hv}{E:Hr->Ht->Prop}(hu:X.A.units+10 < cLine):∀(vs:Ho (Hr×Hr)) (ps:Ho (V×V)) (ws:Ho W) (U U':Ho (T×W)) (s:Ht) (H:Hp) (S:aa) (Q:PUnit->Ht->Prop),
  Inv X J Y H s->StoreOk X.w X.K A H S->l5 S r=ba U->A[r]?=ba d->RelP X.K A H ws ps->VV ps vs->fA U ws=ba U'->U.length+vs.length<=30->
  (∀s' H',Inv X J Y H' s'->Ext X.K A H A H'->StoreOk X.w X.K A H' (S.set r (.dic U'))->Q ND s')->
  wpAny (model X.prog X.w) X.A (forIn vs ND λ(x:Hr×Hr) (_:PUnit)=>(do dictSet d x.1 x.2; pure (JF ND):O6 (ForInStep PUnit))) Q E s
 | [],_,_,U,U',s,H,S,Q,I,so,hr,ea,rp,vv,e,hl,hq=>by
  cases vv;cases rp;cases e;rw[LZ];show Hy (hq s H I .refl ?_);have hS:=fN hr;have:S.set r (.dic U)=S:=by
   apply N6;intro j;rw[Jo];split
   ·rename_i e; subst e
    split
    ·exact hS.symm
    ·rename_i h; exact absurd (HD.mp hS).1 h
   ·rfl
  rw[this]; exact so
 | (ku,vu)::vs,_,_,U,U',s,H,S,Q,I,so,hr,ea,rp,vv,e,hl,hq=>by
  cases vv with
  | cons hv vv2=>
   cases rp with
   | @cons wk wv va vb ws2 ps2 rk rv' rp2=>
    dsimp only[fA]at e;split at e
    ·rename_i t ht;rw[Lz];obtain⟨xs,hH,kr⟩:=pr so hr ea;have dd0:=bB I (.inl hH);have dd:=dd0.dict I kr;obtain⟨bk,e1,e2,rkk⟩:=fM ht rk hv.1;have e2:ku=HL bk:=e2;subst e2;obtain⟨q1,q2,q3⟩:=cf ht;rw[IU]at hl;have hz:xs.length<=sizeLine:=dd0.1;show Hq (Hq (wpAny_dictSet_heap (hsz:=hz) (show X.A.units+aI < cLine by unfold aI; omega) (gE I rkk q3) dd λh' dd' hs=>Hy ?_))
     have kr':=kr.put q2 q3 rkk rv' hv.2;have hz':(storedH xs t bk vu).length<=sizeLine:=by
      rw[<- kr'.length];have h2:=dW U t wv;rw[IN];omega
     have dn:DicAt X.w d (storedH xs t bk vu) h':=.of hz' dd0.2.1 dd';obtain⟨so',ex⟩:=so.writeO (fN hr) rfl ea (u:=cj X.w d (storedH xs t bk vu)) (n:=.dic (fu U t wv)) #[_,ak,kr'.mono (aN (.ext hH))];have I':Inv X J Y (aA H d (cj X.w d (storedH xs t bk vu))) { s with heap:=h',toks:=s.toks+(bJ X.prog X.w).draws t }:=kN I (by rw[hH]; exact Lr) hs (let ⟨q,_,_,hq,_⟩:=dd'; #[q,hq]) dn.ok
     have hl':(S.set r (.dic (fu U t wv)))[r]?=ba (.dic (fu U t wv)):=by
      rw[Jo,HN rfl,HN (HD.mp (fN hr)).1]
     show j6 hu vs _ _ (fu U t wv) U' _ _ _ Q I' so' (by unfold l5; rw[hl']) ea (rp2.mono ex) vv2 e (by have:=dW U t wv; omega) λs' H' I2 ex2 so2=>?_
     rw[List.set_set]at so2;exact hq s' H' I2 (ex.trans ex2) so2
    ·cases e
def ya {pos:Jw}:GE X (.Dict [] [] pos) zv:=λJ s Y H Q I #[A,Z,S,w,S',er,so,e,hq]=>by
 cases e;have hn:=I.hok.fresh (HJ s.heap.objs.size);have dn:DicAt X.w s.heap.objs.size [] (s.heap.push { cls:=.type "dict",data:=.dict #[] }):=#[JJ _,J3.mpr (Ne.symm (HU I.big)),M6,_,#[],0,HG _ rfl,#[rfl,rfl,rfl],rfl,rfl];show wpAny_Dict_empty #[.ref s.heap.objs.size,_,I.laid (a:=s.heap.objs.size) (o:=cj X.w s.heap.objs.size []) (t':=s.toks) (λ_ _ q=>Hw _ q) (HJ _) dn.ok,rfl,hq _ _ #[A++[s.heap.objs.size],cm hn,so.pushO hn #[[],ak,.nil],.ref ?_]]
 rw[<- so.len]; simp
def yb {pos:Jw}{keys:Ho (Hs HH)}{values:Ho HH}{f:FA}(hu:X.A.units+10 < cLine)(h:DA X pos keys values f)(hall:keys.all (·.isSome)=true)(hl:keys.length=values.length)(h0:keys≠[])(h15:keys.length<=15):GE X (.Dict keys values pos) (mH f):=by
 intro J s Y H Q I ⟨A,Z,S,w,S',er,so,e,hq⟩;unfold mH at e;split at e
 ·rename_i ws S1 h1;split at e
  ·rename_i hS1;split at e
   ·rename_i U hp;cases e;have hn:=I.hok.fresh (HJ s.heap.objs.size);have dn:DicAt X.w s.heap.objs.size [] (s.heap.push { cls:=.type "dict",data:=.dict #[] }):=#[JJ _,J3.mpr (Ne.symm (HU I.big)),M6,_,#[],0,HG _ rfl,#[rfl,rfl,rfl],rfl,rfl];have I1:=I.laid (a:=s.heap.objs.size) (o:=cj X.w s.heap.objs.size []) (h':=s.heap.push { cls:=.type "dict",data:=.dict #[] }) (t':=s.toks) (λ_ _ q=>Hw _ q) (HJ _) dn.ok
    have ex0:Ext X.K A H (A++[s.heap.objs.size]) (aA H s.heap.objs.size (cj X.w s.heap.objs.size [])):=cm hn;have so0:StoreOk X.w X.K (A++[s.heap.objs.size]) (aA H s.heap.objs.size (cj X.w s.heap.objs.size [])) (S++[.dic []]):=so.pushO hn #[[],ak,.nil];have hlen:=pairTrees_length keys values X.env pos hall hl;have hne:pairTrees keys values X.env pos≠[]:=λhe=>by
     rw[he]at hlen;exact h0 (J0.mp hlen.symm)
    rw[arm_eval_Dict,zip_pairTrees keys values X.env pos hall hl,dictDisplay_pairs _ hne ∅]
    show Hq (JV (Hq ?_));unfold subDict;show Hq (PQ ?_);show Hq (IL ?_);rw[HN ∅]
    show Hq (IE (wpAny_evalPairs_len (h J _ Y _ _ Z _ _ _ I1 (er.mono ex0) so0 h1)) (λvs s₁ h₁=>?_) λ_ _ e=>e)
    obtain⟨hvl,ps,H2,I2,vv,A2,ex2,so2,rp⟩:=h₁;show IL ?_;have ea:A2[S.length]?=ba s.heap.objs.size:=ex2.ad _ _ (by rw[<- so.len]; simp)
    show Hq (j6 hu vs ps ws [] U s₁ H2 S1 _ I2 so2 (by unfold l5; rw[hS1]) ea rp vv hp (by rw[JE]; omega) λs' H' I3 ex3 so3=>?_)
    exact Hy (Hy (Hy #[.ref s.heap.objs.size,H',I3,rfl,hq _ _ #[A2,ex0.trans (ex2.trans ex3),so3,.ref ea]]))
   ·cases e
  ·cases e
 ·cases e
end
abbrev GU (wd:HX)(a:Hv)(o:Jg)(xs:Ho (T×Hv×Hr)):It:=
 #[λi H=>H a=ba (.frz o (cj wd a xs))/\i < xs.length,λi H x H'=>H'=H/\∃q,xs[i]?=ba q/\x=.ref q.2.1,λi H=>H a=ba (.frz o (cj wd a xs))/\xs.length<=i]
def rE {P:HM}{w:HX}{K:HA}{tg:HH}(a it:Hv){o:Jg}{es:Iu JZ}{ep:Hz}{xs:Ho (T×Hv×Hr)}(hx:o.ExactDict)(hd:o.data=.dict es ep)(he:es.toList=xs.map (tq w)) :
  Turn P w K tg (GU w a o xs) [it] it (λi h=>h.IsKeyIter it a i es.size ep) where
 mem:=by simp
 obj:=λi h st b hb=>by
  have e:b=it:=by simpa using hb
  subst e;obtain⟨o,e,c,d⟩:=st;exact#[o,e,λv z=>by rw[d]at z; cases z]
 keep:=λi h h' st k=>st.at λo e=>k it (by simp) o e
 item:=by
  intro X hP hw hK hc i J s Y H E I hf st hg;subst hP hw hK;obtain⟨hH,hi⟩:=hg;have ho:s.heap.get? a=ba o:=(show ObjOk X.prog X.w H s.heap a (.frz o (cj X.w a xs))from I.hok a _ hH).1
  have hl:es.size=xs.length:=by rw[<- Ip,he,HB]
  have hi':i < es.size:=∅
  obtain⟨f0,f1,f2,f3,f4,f5⟩:=hf it (by simp)
  have hk:es[i].key=.ref (xs[i]).2.1:=by
   have:es.toList[i]?=ba (tq X.w xs[i]):=by rw[he,HQ,HI hi]; rfl
   rw[Jy,L9 hi']at this;have:=Jt this;rw[this]; rfl
  show l9 st #[o,ho,hx,hd] hi' λh' st' sb=>?_
  have I1:Inv X J Y H { s with heap:=h' }:=I.turned (t':=s.toks) (λb o hb e=>(sb.2 b hb).trans e) f0 f1 f3 f4 f5
  obtain⟨o',e,c,d⟩:=id st';exact#[_,rfl,o4 (s:={ s with heap:=h' }) e c d #v[] #[.ref (xs[i]).2.1,H,I1,hk,#[rfl,xs[i],HI hi,rfl],st',λb hb=>(hf b hb).1]]
 done:=by
  intro X hP hw hK hc i J s Y H E I hf st hg;subst hP hw hK;obtain⟨hH,hi⟩:=hg;have ho:s.heap.get? a=ba o:=(show ObjOk X.prog X.w H s.heap a (.frz o (cj X.w a xs))from I.hok a _ hH).1
  have hl:es.size=xs.length:=by rw[<- Ip,he,HB]
  obtain⟨f0,f1,f2,f3,f4,f5⟩:=hf it (by simp)
  exact pv (I.ok.hd hc) st #[o,ho,hx,hd] ∅ λh' eb=>#[rfl,I.turned (t':=s.toks) (λb o hb e=>eb b o hb e) f0 f1 f3 f4 f5]
 self:=λ_ _ _ _ _ st h=>M3 st h
abbrev eU (f:FE):FI:=λZ S=>match f Z S with
 | some (.tup ws,S1)=>ba (.its ws,S1)
 | some (.ref r,S1)=>match fm S1 r with
  | some _=>ba (.live r,S1)
  | none=>match jA S1 r with
   | some U=>ba (.its (U.map λp=>p.1.w),S1.set r (.frd U))
   | none=>gV
 | _=>gV
section
variable{X:Cx}{J:Ho (Hv×Jg)}{Y:L2.St}{H:Hp}{s:Ht}{A:Ho Hv}{S:aa}
def uI {a:Hv}{o:Jg}{U:Ho (T×W)}{xs:Ho (T×Hv×Hr)}(hH:H a=ba (.frz o (cj X.w a xs)))(kr:KRel X.K A H U xs):MIt X.w X.K (.its (U.map λp=>p.1.w)) (GU X.w a o xs) A H:=by
 show#[λA' H' S i w e so hi=>?_,λA' H' S i e so hi=>?_]
 ·simp only[MI.at,IG]at hi;obtain⟨v,h1,h2⟩:=((kr.mono e).keysL).get hi;rw[HQ,Hx]at h1;obtain⟨q,q1,q2⟩:=h1;show#[#[e.fz _ _ _ hH,(HD.mp q1).1],λx H2 #[z1,q',z2,z3]=>?_]
  subst z1 z3;rw[q1]at z2; cases z2
  exact#[.refl,so,by rw[q2]; exact h2]
 ·simp only[MI.at,IG]at hi;show#[e.fz _ _ _ hH,?_];have:=JP.mp hi;rw[HB,kr.length]at this;exact this
def yc {tg l:HH}{f:FE}(h:GE X l f):GI X tg l (eU f):=by
 intro J s Y H R I ⟨A,Z,S,mi,S',er,so,e,hq⟩
 by_cases hd:∃r S1 U,f Z S=ba (.ref r,S1)/\fm S1 r=gV/\jA S1 r=ba U
 ·obtain⟨r,S1,U,h1,h2,h3⟩:=hd;simp only[eU,h1,h2,h3]at e;cases e;show aG (h J s Y H (EndV X.w X.K A H S1 (.ref r)) I #[A,Z,S,_,_,er,so,h1,λ_ _ z=>z]) λv s1 #[x,H1,I1,r1,A1,e1,o1,z1]=>?_
  cases z1 with
  | @ref _ a ea=>
   obtain rfl:v=HL a:=r1;have fz:∃o xs H2,Inv X J Y H2 s1/\Ext X.K A1 H1 A1 H2/\StoreOk X.w X.K A1 H2 (S1.set r (.frd U))/\H2 a=ba (.frz o (cj X.w a xs))/\KRel X.K A1 H2 U xs:=by
    unfold jA at h3;split at h3
    ·rename_i k hk;cases h3;obtain⟨xs,hH,kr⟩:=o1.obj r _ a hk ea;have d:=bB I1 (.inl hH);obtain⟨_,_,_,o,es,ep,q1,q2,q3,q4⟩:=id d;obtain⟨so',ex⟩:=o1.writeO hk rfl ea (u:=.frz o (cj X.w a xs)) (n:=.frd U) #[o,xs,ak,kr.mono (aN (.ext hH))];exact#[o,xs,_,kN (h':=s1.heap) (t':=s1.toks) (ob:=.frz o (cj X.w a xs)) I1 (by rw[hH]; exact Lr) (Qg _ _) #[o,q1] #[q1,d.ok],ex,so',ak,kr.mono ex]
    ·rename_i k hk;cases h3;obtain⟨o,xs,hH,kr⟩:=o1.obj r _ a hk ea;have:S1.set r (.frd U)=S1:=by
      apply N6;intro j;rw[Jo];split
      ·rename_i e; subst e
       split
       ·exact hk.symm
       ·rename_i h; exact absurd (HD.mp hk).1 h
      ·rfl
     rw[this];exact#[o,xs,H1,I1,.refl,o1,hH,kr]
    ·cases h3
   obtain⟨o,xs,H2,I2,ex,so2,hH,kr⟩:=fz;have d:=bB I2 (.inr #[o,hH]);have ho:s1.heap.get? a=ba o:=(show ObjOk X.prog X.w H2 s1.heap a (.frz o (cj X.w a xs))from I2.hok a _ hH).1
   obtain⟨_,hsm,_,o',es,ep,q1,q2,q3,q4⟩:=id d;rw[ho]at q1;cases q1;show l8 hsm #[o,ho,q2,q3] ?_;show#[s1.heap.objs.size,[s1.heap.objs.size],_,_,H2,rfl,I2.kept (t':=s1.toks) λb o e=>Hw _ e,rE a _ q2 q3 q4,#[_,HG _ rfl,rfl,rfl],λb hb=>?_,hq _ _ A1 (e1.trans ex) so2 (uI hH kr)]
   have e:b=s1.heap.objs.size:=by simpa using hb
   subst e;exact I2.fpOk (HJ _) (I2.hok.fresh (HJ _))
 ·have:eU f Z S=xY f Z S:=by
   unfold eU xY;cases hf:f Z S with
   | none=>rfl
   | some p=>
    obtain⟨w,S1⟩:=p;cases w with
    | ref r=>
     cases h2:fm S1 r with
     | some _=>simp only[h2]
     | none=>
      cases h3:jA S1 r with
      | none=>simp only[h2,h3]
      | some U=>exact absurd #[r,S1,U,hf,h2,h3] hd
    | _=>rfl
  rw[this]at e;exact Bg h J s Y H R I #[A,Z,S,mi,S',er,so,e,hq]
end
section
variable{Mqa:Mg}{A:HW}{E:Hr->Ht->Prop}{s:Ht}
def mI {scope:Kh}{g:Hv}{cl:Ho (HC×Hv)}{qual:HC}{outer:LL}{Q:LL->Ht->Prop}
  (h:Q (newEnv scope s.heap.objs.size g (cellsFrom (s.heap.objs.size+1) scope.names cl) qual gV .none (ba outer) builtinsNs) { s with heap:=pushCells (s.heap.push { cls:=.type "dict",data:=.dict #[] }) scope.names }) :
  wpAny Mqa A (newFunctionEnv scope g cl [] qual gV .none (ba outer)) Q E s:=by
 simp only[newFunctionEnv,Option.isSome_some,Kr];show Hq (PQ ?_);show Hq (wpAny_layCells _ (λname kind cells=>by cases hkc:kind==KC <;> simp[hkc]) _ _ _ _ ?_)
 rw[show({ s with heap:=s.heap.push { cls:=.type "dict",data:=.dict #[] } }:Ht).heap.objs.size=s.heap.objs.size+1 from Lg ..]
 rw[LZ];exact Hq (Hy (Hy h))
def uJ {names:Ho (HC×Jn)}{h2:Ii}:(pushCells (h2.push { cls:=.type "dict",data:=.dict #[] }) names).Ns h2.objs.size (λ_=>gV):=
 Heap.Ns.keeps (h:=h2.push { cls:=.type "dict",data:=.dict #[] }) #[_,#[],0,HG _ rfl,rfl,by simp[StrKeys],λ_=>rfl] (MO names _)
def da:∀(names:Ho (HC×Jn)) (m:Hz) (acc:Ho (HC×Hv)) {x:HC} {c:Hv},(cellsFrom m names acc).lookup x=ba c->
  (acc.lookup x=ba c/\(x,KC)∉names)\/(m<=c/\(x,KC)∈names/\∀h:Ii,h.objs.size=m->(pushCells h names).IsCell c gV)
 | [],_,_,_,_,hm=>.inl #[hm,λz=>nomatch z]
 | (name,kind)::r,m,acc,x,c,hm=>by
  unfold cellsFrom at hm;split at hm
  ·rename_i hk;have hc:kind=.cell:=eq_of_beq hk;subst hc;rcases da r _ _ hm with⟨z,zn⟩|⟨z1,z2,z3⟩
   ·rw[IC]at z;split at z
    ·rename_i e;cases z;have:=eq_of_beq e;subst this;show .inr #[HJ _,Iw,λh e=>?_]
     subst e;exact(show(h.push { cls:=.type "cell",data:=.cell gV }).IsCell h.objs.size gV from#[_,HG _ rfl,rfl]).keeps (MO r _)
    ·rename_i e;show .inl #[z,λy=>?_]
     rcases Ij.mp y with y|y
     ·cases y; simp at e
     ·exact zn y
   ·show .inr #[Nat.le_of_succ_le z1,Ig _ z2,λh e=>?_]
    exact z3 _ (by rw[Lg,e])
  ·rename_i hk;rcases da r _ _ hm with⟨z,zn⟩|⟨z1,z2,z3⟩
   ·show .inl #[z,λy=>?_]
    rcases Ij.mp y with y|y
    ·cases y; exact hk rfl
    ·exact zn y
   ·show .inr #[z1,Ig _ z2,λh e=>?_]
    unfold pushCells;rw[HY hk];exact z3 h e
def gH:∀(names:Ho (HC×Jn)) (m:Hz) (acc:Ho (HC×Hv)),(∀x c,acc.lookup x=ba c->c < m)->(∀x y c,acc.lookup x=ba c->acc.lookup y=ba c->x=y)->
  ∀x y c,(cellsFrom m names acc).lookup x=ba c->(cellsFrom m names acc).lookup y=ba c->x=y
 | [],_,_,_,h=>h
 | (name,kind)::r,m,acc,hl,h=>by
  unfold cellsFrom;split
  ·show gH r (m+1) _ (λx c e=>?_) λx y c e1 e2=>?_
   ·rw[IC]at e;split at e
    ·cases e; exact JT _
    ·exact Lh (hl x c e)
   ·rw[IC]at e1 e2;split at e1 <;> split at e2
    ·rename_i _ z1 _ z2;rw[eq_of_beq z1,eq_of_beq z2]
    ·cases e1;exact absurd (hl y _ e2) (Jc _)
    ·cases e2;exact absurd (hl x _ e1) (Jc _)
    ·exact h x y c e1 e2
  ·exact gH r m acc hl h
def gI:∀(names:Ho (HC×Jn)) (m:Hz) (acc:Ho (HC×Hv)) {n:HC},(n,KC)∈names\/(∃c,acc.lookup n=ba c)->∃c,(cellsFrom m names acc).lookup n=ba c
 | [],_,_,_,h=>h.elim (λz=>nomatch z) id
 | (name,kind)::r,m,acc,n,h=>by
  unfold cellsFrom;split
  ·show gI r (m+1) _ ?_;rw[IC];split
   ·exact .inr #[_,rfl]
   ·rename_i e;rcases h with z|z
    ·rcases Ij.mp z with y|y
     ·cases y; simp at e
     ·exact .inl y
    ·exact .inr z
  ·rename_i hk;show gI r m acc ?_;rcases h with z|z
   ·rcases Ij.mp z with y|y
    ·cases y; exact absurd rfl hk
    ·exact .inl y
   ·exact .inr z
end
abbrev aV (mi:MI)(g:FG)(c:FT)(f:FE):Hz->Hz->Fm->aa->Hs (Ho W×aa)
 | 0,i,_,S=>match mi.at S i with
  | some gV=>ba ([],S)
  | _=>gV
 | n+1,i,Z,S=>match mi.at S i with
  | some (ba w)=>match g w Z S with
   | some (Z1,S1)=>match c Z1 S1 with
    | some (true,S2)=>match f Z1 S2 with
     | some (y,S3)=>match aV mi g c f n (i+1) Z1 S3 with
      | some (ys,S4)=>ba (y::ys,S4)
      | none=>gV
     | none=>gV
    | some (false,S2)=>aV mi g c f n (i+1) Z1 S2
    | none=>gV
   | none=>gV
  | _=>gV
abbrev ee (cap:Ho (Hs Hz))(Z:Fm):Fm:=cap.map λo=>match o with
 | some j=>(Z[j]?).join
 | none=>gV
abbrev jb (fi:FI)(g:FG)(c:FT)(f:FE)(cap:Ho (Hs Hz)):FE:=λZ S=>match fi Z S with
 | some (mi,S1)=>match mi.len S1 with
  | some n=>match aV mi g c f n 0 (ee cap Z) S1 with
   | some (ys,S2)=>kO S2 ys
   | none=>gV
  | none=>gV
 | none=>gV
abbrev zw:FT:=λ_ S=>ba (true,S)
abbrev jB (X:Cx)(scope:Kh)(cl:Ho (HC×Hv))(C:Hv)(N:Ho HC)(s0:Ht)(H0:Hp)(ex:Ho Hv):Cx:=
 { X with env:=compEnvC scope (cellsFrom (C+1) scope.names cl) C X.env,N:=N,s₀:=s0,H₀:=H0,outer:=X.stack,stack:=X.stack,ex:=ex,fn:=λx=>scope.names.any λy=>y.1==x&&y.2==.cell,pn:=[],xe:=λ_ _=>ID }
structure CompOk (X:Cx)(scope:Kh)(cl:Ho (HC×Hv))(N:Ho HC)(cap:Ho (Hs Hz)):Prop where
 clos:closureFor scope X.env=pure cl
 kind:scope.kind=.function
 names:∀y∈scope.names,y.2=.local->scope.names.lookup y.1=ba .local
 sub:∀x c,cl.lookup x=ba c->X.env.cells.lookup x=ba c
 has:∀m x,((relabel scope X.env).names.lookup x=ba .cell\/(relabel scope X.env).names.lookup x=ba .free)->∃c,(cellsFrom m scope.names cl).lookup x=ba c
 len:cap.length=N.length
 cap:∀(i j:Hz) (x:HC),cap[i]?=ba (ba j)->N[i]?=ba x->X.N[j]?=ba x/\(X.env.kindOf x=ba .cell\/X.env.kindOf x=ba .free)/\((relabel scope X.env).names.lookup x=ba .cell\/(relabel scope X.env).names.lookup x=ba .free)/\(x,KC)∉scope.names
def CompOk.of {X:Cx}{scope:Kh}{cl:Ho (HC×Hv)}{N:Ho HC}{cap:Ho (Hs Hz)}(ck:CompOk X scope cl N cap){m:Hz}{x:HC}{c:Hv}(z:(cellsFrom m scope.names cl).lookup x=ba c):X.env.cells.lookup x=ba c\/m<=c:=
 (da _ _ _ z).elim (λq=>.inl (ck.sub x c q.1)) λq=>.inr q.1
def eP {prog:HM}{w:HX}{A:HW}{R:Mx->Ht->Prop}{s:Ht}{elt target iter:HH}{ifs:Ho HH}{scope:Kh}{pos:Jw}{it acc:Hr}{env:LL}(I:Hz->Ht->Prop)
    (turn:∀n s,I n s->wpAny (model prog w) A (pyNext it) (λr s₁=>match r with
      | none=>R (.ok .next) s₁
      | some v=>wpAny (model prog w) A (letOwnedTupleGo target it v) (λ_ s₁=>wpAny (model prog w) A (assign target env v) (λ_ s₂=>
          wpAny (model prog w) A (forIn ifs true λc r=>if r=true then do let ok <- isTrue c env (eval c env); pure (JF ok)else pure (JF r)) (λok s₃=>
            if ok=true then wpAny (model prog w) A (eval elt env) (λx s₄=>
              wpAny (model prog w) A (call (.builtin "list.append") [acc,x]) (λ_ s₅=>∃m,m < n/\I m s₅) (λ_ _=>ID) s₄) (λ_ _=>ID) s₃
            else ∃m,m < n/\I m s₃) (λ_ _=>ID) s₂) (λ_ _=>ID) s₁) (λ_ _=>ID) s₁) (λ_ _=>ID) s)
    (n:Hz) (h:I n s) :
    codeAny (model prog w) A (.compLoop (.ListComp elt [#[target,iter,ifs,0]] scope pos) 0 it acc env) R s:=by
  show codeAny_loop rfl I (λn s hI=>?_) n h
  change wpAny _ A ((compTurn (.ListComp elt [#[target,iter,ifs,0]] scope pos) 0 it acc env).onRaise (λx=>do noteFrame x env; theTreesLotGoes x)) _ _ s
  show wpAny_noted ?_;rw[compTurn_list];show Hq (JV (Hq (IE (turn n s hI) (λr s₁ h₁=>?_) λ_ _ h'=>h'.elim)))
  cases r with
  | none=>exact Hy h₁
  | some v=>
    show Hq (IE h₁ (λ_ s₁ h₁=>?_) λ_ _ h'=>h'.elim)
    show Hq (IE h₁ (λ_ s₂ h₂=>Hq (IE h₂ (λok s₃ h₃=>?_) λ_ _ h'=>h'.elim)) λ_ _ h'=>h'.elim)
    cases ok with
    | false=>exact Hy #[rfl,h₃]
    | true=>
      exact Hq (Hq (IE h₃ (λx s₄ h₄=>Hq (IE h₄ (λ_ s₅ h₅=>Hy (Hy #[rfl,h₅])) λ_ _ h'=>h'.elim)) λ_ _ h'=>h'.elim))
section
variable{X:Cx}{J:Ho (Hv×Jg)}{Y:L2.St}{H:Hp}{s:Ht}
def Inv.adopt {D:Hv}{o:HO}(I:Inv X J Y H s)(hn:H D=gV)(h1:D∈X.ex\/X.s₀.heap.objs.size<=D)(hL:D≠X.env.locals)(h2:∀x c,X.env.cells.lookup x=ba c->c≠D)(h3:∀p∈X.pn++J,p.1≠D)
  (new:ObjOk X.prog X.w (aA H D o) s.heap D o):Inv X J Y (aA H D o) s:=by
 have nit:∀b u,H b=ba u->b≠D:=λb u e z=>by rw[z,hn]at e; cases e
 have key:Inv X J Y (aA H D o) { s with heap:=s.heap,gens:=s.gens,drawn:=s.drawn,toks:=s.toks }:=by
  show I.step (g':=s.gens) (d':=s.drawn) (t':=s.toks) (h':=s.heap) (ch:=[D]) (λb hb=>?_) (λb o _ _ hc e _=>e) (λb o _ _ hc e _=>#[o.slots,e]) (λb o hc e n=>?_)
   (λb o hc e=>#[o,e]) (λb xs e=>?_) (λb o xs e=>?_) (λb ps e=>#[#[],?_]) (λm hm=>hm) (λb u e=>?_) I.bare
  ·have e:b=D:=by simpa using hb
   subst e;exact#[h1,hL,h2,h3]
  ·rw[aj (λz=>hc (by simp[z]))]; exact n
  ·rw[aj (nit b _ e)]; exact e
  ·rw[aj (nit b _ e)]; exact e
  ·rw[aj (nit b _ e),e]; simp
  ·by_cases hb:b=D
   ·subst hb; rw[ak]at e; cases e; exact new
   ·rw[aj hb]at e;show(I.hok b u e).stay (λc v hc q=>q) (λc q=>?_) λc xs q=>?_
    ·rw[aj (nit c _ q)]; exact q
    ·rw[aj (nit c _ q)]; exact q
 exact key
def Bk {scope:Kh}{cl:Ho (HC×Hv)}{N:Ho HC}{cap:Ho (Hs Hz)}{C:Hv}{s0:Ht}{ex:Ho Hv}(I:Inv X J Y H s)(ck:CompOk X scope cl N cap)(hs:s.heap.objs.size<=s0.heap.objs.size)(hC:s0.heap.objs.size<=C)(hlt:∀x c,X.env.cells.lookup x=ba c->c < C+1)
  (hk:∀b o,s.heap.get? b=ba o->s0.heap.get? b=ba o) (hex:∀b∈ex,(b < C)/\(∀x c,X.env.cells.lookup x=ba c->c≠b)/\(∀o,X.base.get? b≠ba o)/\b∉jI X.stack) :
  (jB X scope cl C N s0 H ex).Ok where
 mod:=I.ok.mod
 kind:=ck.kind
 glob:=I.ok.glob
 blt:=I.ok.blt
 above:=hC
 inj:=gH scope.names (C+1) cl (λx c h=>hlt x c (ck.sub x c h)) λx y c h1 h2=>I.ok.inj x y c (ck.sub x c h1) (ck.sub y c h2)
 has:=λx h=>ck.has _ x h
 cab:=λx c h hc=>by
  obtain⟨⟨y,k⟩,hy,e⟩:=Os.mp h;rw[Hu]at e;have e1:y=x:=eq_of_beq e.1;have e2:k=.cell:=eq_of_beq e.2;subst e1 e2;rcases da _ _ _ hc with q|q
  ·exact absurd hy q.2
  ·exact Ix hC (Ix (JN _) q.1)
 hd:=I.ok.hd
 frames:=I.ok.frames
 stk:=.inl rfl
 exf:=λb hb=>#[HU (hex b hb).1,λx c h=>(ck.of h).elim (λq=>(hex b hb).2.1 x c q) λq z=>absurd (HV (Lh (hex b hb).1) q) (z ▸ Jc _)]
 bs:=λb o e=>#[hk b o (I.bk b o e),(I.bs b o e).2]
 bsz:=Ix (Ix I.ok.bsz I.sz) hs
 noex:=λb o e hb=>(hex b hb).2.2.1 o e
 exfs:=λb hb=>(hex b hb).2.2.2
 funs:=I.stack.of_keeps λb o e _=>#[o,hk b o e,rfl]
 frf:=I.stkFree
structure BlockOk (X:Cx)(scope:Kh)(cl:Ho (HC×Hv))(N:Ho HC)(tg elt:HH)(ifs:Ho HH)(g:FG)(c:FT)(f:FE):Prop where
 tgt:∀C s0 H0 ex,GG (jB X scope cl C N s0 H0 ex) tg g
 tst:∀C s0 H0 ex J s Y H Q,Inv (jB X scope cl C N s0 H0 ex) J Y H s->tT (jB X scope cl C N s0 H0 ex) c Y H Q->
  wpAny (model X.prog X.w) X.A (forIn ifs true λc r=>if r=true then do let ok <- isTrue c (compEnvC scope (cellsFrom (C+1) scope.names cl) C X.env) (eval c (compEnvC scope (cellsFrom (C+1) scope.names cl) C X.env)); pure (JF ok)else pure (JF r)) (TP (jB X scope cl C N s0 H0 ex) J Y Q) (λ_ _=>ID) s
 elt:∀C s0 H0 ex,GE (jB X scope cl C N s0 H0 ex) elt f
def lq {prog:HM}{w:HX}{B:HW}{s:Ht}{E:Hr->Ht->Prop}{Q:Hr->Ht->Prop}{D:Hv}{its:Ho Hr}{n:Hz}{u:Hr}(e:s.heap.get? D=ba { cls:=.type "list",data:=.seq its.toArray n })(hz:its.length < sizeLine)
  (h:∀h' n',h'.get? D=ba { cls:=.type "list",data:=.seq (its++[u]).toArray n' }->(∀b o,b≠D->s.heap.get? b=ba o->h'.get? b=ba o)->Q .none { s with heap:=h' }) :
  wpAny (model prog w) B (call (.builtin "list.append") [.ref D,u]) Q E s:=by
 show LS F.slot_list_append #[_,e,rfl] F.entry_list_append (F.args_list_append_2 _ _) (NV D its.toArray n u (by rw[HE]; omega)) #[e,?_]
 have q:=Oi e (λa=>a.push u)
 have e2:its.toArray.push u=(its++[u]).toArray:=by simp
 rw[e2]at q;exact h _ _ q (λb o hb ho=>(Il s.heap (Jr λa=>a.push u) (Ne.symm hb)).trans ho)
def j7 {scope:Kh}{cl:Ho (HC×Hv)}{N:Ho HC}{cap:Ho (Hs Hz)}{tg elt iter:HH}{ifs:Ho HH}{g:FG}{c:FT}{f:FE}{pos:Jw}{A:Ho Hv}{Z:Fm}{S S':aa}{mi:MI}{n:Hz}{ws:Ho W}{E:Hr->Ht->Prop}
  {it:Hv} {fp:Ho Hv} {tn:Hz->Ii->Prop} {Jqa:It} {RR:Hr->Hv->Mx->Ht->Prop}
  (I:Inv X J Y H s) (hc:X.calm=true) (er:EnvRel X.K A H Z Y) (so:StoreOk X.w X.K A H S) (ck:CompOk X scope cl N cap) (bk:BlockOk X scope cl N tg elt ifs g c f)
  (T:Turn X.prog X.w X.K tg Jqa fp it tn) (t0:tn 0 s.heap) (hfp:∀b∈fp,gv X J H b) (mit:MIt X.w X.K mi Jqa A H) (e:aV mi g c f n 0 (ee cap Z) S=ba (ws,S')) (hz:ws.length<=sizeLine)
  (fin:∀D C s' H' A' vs m,s'.heap.Ns C m->H' D=gV->D≠C->C≠X.env.locals->C∉X.fs->H' C=gV->X.s₀.heap.objs.size<=C->(∀x c,X.env.cells.lookup x=ba c->c≠C)->(∀p∈X.pn++J,p.1≠C)->
   Inv X J Y (aA H' D (.lst vs)) s'->Ext X.K A H A' H'->StoreOk X.w X.K A' H' S'->RelL X.K A' H' ws vs->RR (.ref D) C (.ok .next) s') :
  wpAny (model X.prog X.w) X.A (newList []) (λacc s₃=>wpAny (model X.prog X.w) X.A (newFunctionEnv scope X.env.globals cl [] X.env.qual gV .none (ba X.env)) (λcenv s₄=>
   codeAny (model X.prog X.w) X.A (.compStart (.ListComp elt [#[tg,iter,ifs,0]] scope pos) 0 (.ref it) acc { cenv with scope:=relabel scope X.env }) (RR acc cenv.locals) s₄) E s₃) E s:=by
 show IA (mI ?_);dsimp only;generalize hH2:s.heap.push { cls:=.type "list",dict:=gV,data:=.seq ([]:Ho Hr).toArray }=h2;obtain⟨h₁,hh₁⟩ : ∃h₁,h₁=pushCells (h2.push { cls:=.type "dict",data:=.dict #[] }) scope.names:=#[_,rfl];rw[<- hh₁];have hns₁:=uJ (names:=scope.names) (h2:=h2);rw[<- hh₁]at hns₁;have hCs:h2.objs.size=s.heap.objs.size+1:=by rw[<- hH2,Lg]
 have k2:∀b o,s.heap.get? b=ba o->h2.get? b=ba o:=λb o z=>hH2 ▸ Hw _ z
 have lt2:∀b o,h2.get? b=ba o->b < h2.objs.size:=λb o z=>HF z
 have k1:∀b o,h2.get? b=ba o->h₁.get? b=ba o:=λb o z=>hh₁ ▸ MO _ _ b o (Hw _ z)
 have hD2:h2.get? s.heap.objs.size=ba { cls:=.type "list",data:=.seq ([]:Ho Hr).toArray }:=hH2 ▸ HG _ rfl;have hDC:s.heap.objs.size≠h2.objs.size:=by rw[hCs]; omega
 have fresh:∀a,s.heap.objs.size<=a->H a=gV:=λa ha=>I.hok.fresh ha
 have cellLt:∀x c,X.env.cells.lookup x=ba c->c < s.heap.objs.size:=λx c z=>let ⟨_,q⟩:=I.cell x c z; q.lt
 have fpLt:∀b∈fp,b < s.heap.objs.size:=λb hb=>let ⟨_,q,_⟩:=T.obj 0 s.heap t0 b hb; HF q
 have stkLt:∀b∈jI X.stack,b < s.heap.objs.size:=λb hb=>let ⟨_,o,q,_⟩:=I.stack.mem hb; HF q
 have baseLt:∀b o,X.base.get? b=ba o->b < s.heap.objs.size:=λb o z=>HF (I.bk b o z)
 have fpStk:∀b∈fp,b∉jI X.stack:=λb hb z=>by
  rcases Ij.mp (I.stkSub b z)with q|q
  ·exact(hfp b hb).2.1 q
  ·exact(hfp b hb).2.2.1 q
 have fpBase:∀b∈fp,∀o,X.base.get? b≠ba o:=λb hb o z=>by
  rcases(hfp b hb).2.2.2.1 with q|q
  ·exact I.ok.noex b o z q
  ·exact absurd (HV (HF (I.ok.bs b o z).1) q) (Jc _)
 have ltD:∀ {b:Hv},b < s.heap.objs.size->b < h2.objs.size:=λhb=>by rw[hCs]; exact Lh hb
 have ltC:∀ {b:Hv},b < s.heap.objs.size->b≠h2.objs.size:=λhb=>HU (ltD hb)
 have ownNe:∀ {b c:Hv},b<=s.heap.objs.size->h2.objs.size+1<=c->c≠b:=λhb hc=>JC (LY hb (HV (by rw[hCs]; omega:s.heap.objs.size < h2.objs.size+1) hc))
 let s3:Ht:={ s with heap:=h2 }
 have ok':(jB X scope cl h2.objs.size N s3 H (fp++[s.heap.objs.size])).Ok:=by
  show Bk I ck (show s.heap.objs.size<=h2.objs.size by rw[hCs]; omega) (HJ _) (λx c z=>Lh (ltD (cellLt x c z))) k2 λb hb=>?_
  rcases IV.mp hb with hb|hb
  ·exact#[ltD (fpLt b hb),(hfp b hb).2.2.2.2.1,fpBase b hb,fpStk b hb]
  ·have eb:b=s.heap.objs.size:=by simpa using hb
   subst eb;exact#[(by rw[hCs]; exact JT _),λx c z=>HU (cellLt x c z),λo z=>Jc _ (baseLt _ o z),λz=>Jc _ (stkLt _ z)]
 obtain⟨m0,hn0,hl0⟩:=I.loc;have I0:Inv (jB X scope cl h2.objs.size N s3 H (fp++[s.heap.objs.size])) [] (cap.map λo=>match o with|some j=>(Y[j]?).join|none=>gV) H { s3 with heap:=h₁ }:=by
  show#[ok',rfl,I.bare,Un.kept k1,#[_,hns₁,λi x v e1 e2 e3=>?_],λx cc z=>?_,fresh _ (show s.heap.objs.size<=h2.objs.size by rw[hCs]; exact JN _),λx cc z=>(ck.of z).elim (I.freeC x cc) λq=>fresh _ (show s.heap.objs.size<=cc by omega),λp hp=>absurd hp (by simp[jB]),(I.hok.kept k2).kept k1,by rw[HB]; exact ck.len]
  ·rw[HQ]at e2;cases q:cap[i]? with
   | none=>rw[q]at e2; cases e2
   | some oj=>
    rw[q]at e2;cases oj with
    | none=>cases e2
    | some j=>
     obtain⟨z1,z2,z3,z4⟩:=ck.cap i j x q e1;have e2':(Y[j]?).join=ba v:=by simpa using e2
     have e2'':Y[j]?=ba (ba v):=by
      cases r:Y[j]? with
      | none=>rw[r]at e2'; cases e2'
      | some y=>rw[r]at e2'; exact congrArg ba e2'
     obtain⟨u,ru,lk⟩:=hl0 j x v z1 e2'' (by
      rcases z2 with z|z
      ·exact .inr (.inl z)
      ·exact .inr (.inr z))
     show#[u,ru,?_];rcases lk with⟨zk,_⟩|⟨_,cc,zc,zi⟩
     ·rcases z2 with z|z <;> (rw[zk]at z; cases z)
     ·obtain⟨c2,hc2⟩:=ck.has (h2.objs.size+1) x z3;have:=(da _ _ _ hc2).elim (λq=>ck.sub x c2 q.1) λq=>absurd q.2.1 z4
      rw[zc]at this; cases this
      show .inr #[z3,cc,hc2,?_];obtain⟨o,ho,hd⟩:=zi;exact#[o,k1 _ _ (k2 _ _ ho),hd]
  ·rcases da _ _ _ z with q|q
   ·obtain⟨v,o,ho,hd⟩:=I.cell x cc (ck.sub x cc q.1);exact#[v,o,k1 _ _ (k2 _ _ ho),hd]
   ·exact#[gV,hh₁ ▸ q.2.2 _ (Lg ..)]
 have er0:EnvRel X.K A H (ee cap Z) (cap.map λo=>match o with|some j=>(Y[j]?).join|none=>gV):=by
  show#[by simp[ee],λi w q=>?_]
  unfold ee at q;rw[HQ]at q ⊢;cases r:cap[i]? with
  | none=>rw[r]at q; cases q
  | some oj=>
   rw[r]at q;cases oj with
   | none=>cases q
   | some j=>
    have q':(Z[j]?).join=ba w:=by simpa using q
    have q'':Z[j]?=ba (ba w):=by
     cases z:Z[j]? with
     | none=>rw[z]at q'; cases q'
     | some y=>rw[z]at q'; exact congrArg ba q'
    obtain⟨v,z1,z2⟩:=er.2 j w q'';exact#[v,by simp[z1],z2]
 have t1:tn 0 h₁:=T.keep 0 s.heap h₁ t0 λb hb o z=>k1 b o (k2 b o z)
 have fpOk':∀ {H':Hp} {pp:Ho (Hv×Jg)},(∀b∈fp,H' b=gV)->(∀p∈pp,p.1=s.heap.objs.size)->∀b∈fp,gv (jB X scope cl h2.objs.size N s3 H (fp++[s.heap.objs.size])) pp H' b:=λhn hp b hb=>
  #[hn b hb,ltC (fpLt b hb),fpStk b hb,.inl (JH _ hb),λx cc z=>(ck.of z).elim (λq=>(hfp b hb).2.2.2.2.1 x cc q) (ownNe (J5 (fpLt b hb))),λp hpp=>by
   rw[hp p (by simpa [jB]using hpp)]
   exact(HU (fpLt b hb)).symm]
 have DinEx:s.heap.objs.size∈fp++[s.heap.objs.size]:=Ic _ (by simp)
 have cellD:∀x c,(cellsFrom (h2.objs.size+1) scope.names cl).lookup x=ba c->c≠s.heap.objs.size:=λx cc z=>(ck.of z).elim (λq=>HU (cellLt x cc q)) (ownNe (HJ _))
 have fpD:∀b∈fp,b≠s.heap.objs.size:=λb hb=>HU (fpLt b hb)
 have theEnd:∀s' Y' H' A' vs its nn,Inv (jB X scope cl h2.objs.size N s3 H (fp++[s.heap.objs.size])) [] Y' H' s'->s'.heap.get? s.heap.objs.size=ba { cls:=.type "list",data:=.seq its nn }->∀(hits:∃l:Ho Hr,its=l.toArray/\Vals vs l),H' s.heap.objs.size=gV->Ext X.K A H A' H'->StoreOk X.w X.K A' H' S'->RelL X.K A' H' ws vs->
   RR (.ref s.heap.objs.size) h2.objs.size (.ok .next) s':=by
  intro s' Y' H' A' vs its nn I' hD hits hDn ex so' rl;obtain⟨l,rfl,rv⟩:=hits;obtain⟨m,hn,_⟩:=id I'.loc;have un:Un (jI X.stack) (fp++[s.heap.objs.size]) H H' s.heap s'.heap:=(Un.kept k2).trans I'.base;have hch:∀b∈fp++[s.heap.objs.size],(b∈X.ex\/X.s₀.heap.objs.size<=b)/\b≠X.env.locals/\(∀x c,X.env.cells.lookup x=ba c->c≠b)/\∀p∈X.pn++J,p.1≠b:=λb hb=>by
   rcases IV.mp hb with hb|hb
   ·exact#[(hfp b hb).2.2.2.1,(hfp b hb).2.1,(hfp b hb).2.2.2.2.1,(hfp b hb).2.2.2.2.2]
   ·have eb:b=s.heap.objs.size:=by simpa using hb
    subst eb;exact#[.inr I.sz,(HU I.lt).symm,λx cc z=>HU (cellLt x cc z),λp hp=>HU (HF (I.pin p hp).1)]
  have I2:Inv X J Y H' s':=I.call' (show s'.os=s.os from I'.os) un I'.hok I'.bare hch
  have I3:Inv X J Y (aA H' s.heap.objs.size (.lst vs)) s':=Inv.adopt I2 hDn (hch _ DinEx).1 (hch _ DinEx).2.1 (hch _ DinEx).2.2.1 (hch _ DinEx).2.2.2 #[by rw[<- rl.length]; exact hz,l,nn,rv,hD]
  have hCle:s.heap.objs.size<=h2.objs.size:=by rw[hCs]; exact JN _
  exact fin _ _ s' H' A' vs m hn hDn hDC (JC (HV I.lt hCle)) (I.nofs hCle) I'.free (Ix I.sz hCle) (λx cc z=>HU (HV (cellLt x cc z) hCle))
   (λp hp=>HU (HV (HF (I.pin p hp).1) hCle)) I3 ex so' rl
 have loop:∀s4:Ht,s4={ s3 with heap:=h₁ }->
   codeAny (model X.prog X.w) X.A (.compLoop (.ListComp elt [#[tg,iter,ifs,0]] scope pos) 0 (.ref it) (.ref s.heap.objs.size) (compEnvC scope (cellsFrom (h2.objs.size+1) scope.names cl) h2.objs.size X.env)) (RR (.ref s.heap.objs.size) h2.objs.size) s4:=by
  rintro s4 rfl;show eP (λk s5=>∃i Y5 H5 A5 Z5 S5 done its nn vs ys,Inv (jB X scope cl h2.objs.size N s3 H (fp++[s.heap.objs.size])) [] Y5 H5 s5/\tn i s5.heap/\(∀b∈fp,H5 b=gV)/\s5.heap.get? s.heap.objs.size=ba { cls:=.type "list",data:=.seq (its:Ho Hr).toArray nn }/\H5 s.heap.objs.size=gV/\Vals vs its/\
   Ext X.K A H A5 H5/\EnvRel X.K A5 H5 Z5 Y5/\StoreOk X.w X.K A5 H5 S5/\RelL X.K A5 H5 done vs/\ws=done++ys/\aV mi g c f k i Z5 S5=ba (ys,S')) ?_ n
   #[0,_,H,A,_,S,[],[],0,[],ws,I0,t1,λb hb=>(hfp b hb).1,k1 _ _ hD2,fresh _ (HJ _),.nil,.refl,er0,so,.nil,rfl,e]
  rintro k s5 ⟨i,Y5,H5,A5,Z5,S5,done,its,nn,vs,ys,I5,t5,f5,d5,n5,v5,e5,er5,so5,rl5,hw5,w5⟩;have pinD:Inv (jB X scope cl h2.objs.size N s3 H (fp++[s.heap.objs.size])) [(s.heap.objs.size,{ cls:=.type "list",data:=.seq its.toArray nn })] Y5 H5 s5:=I5.pins_of λp hp=>by
   have hp':p=(s.heap.objs.size,{ cls:=.type "list",data:=.seq its.toArray nn }):=by simpa using hp
   subst hp';exact#[d5,n5,hDC,λz=>Jc _ (stkLt _ z),λv z=>by cases z]
  have oneD:∀p∈[(s.heap.objs.size,({ cls:=.type "list",data:=.seq its.toArray nn }:Jg))],p.1=s.heap.objs.size:=λp hp=>by
   have hp':p=(s.heap.objs.size,{ cls:=.type "list",data:=.seq its.toArray nn }):=by simpa using hp
   rw[hp']
  cases k with
  | zero=>
   dsimp only[aV]at w5;split at w5
   ·rename_i hst;cases w5;rw[JD]at hw5;subst hw5;show aG (T.done (jB X scope cl h2.objs.size N s3 H (fp++[s.heap.objs.size])) rfl rfl rfl hc i _ s5 Y5 H5 _ pinD (fpOk' f5 oneD) t5 (mit.stop A5 H5 _ i e5 so5 hst)) λr s6 #[hr,I6]=>?_
    subst hr;have p6:=I6.pin _ (Ic _ (Iv.mpr rfl));exact theEnd s6 Y5 H5 A5 vs _ nn (I6.pins_of λp hp=>absurd hp (by simp)) p6.1 #[its,rfl,v5] n5 e5 so5 rl5
   ·cases w5
  | succ k=>
   dsimp only[aV]at w5;split at w5
   ·rename_i w hw;obtain⟨go,yl⟩:=mit.go A5 H5 S5 i w e5 so5 hw;show aG (T.item (jB X scope cl h2.objs.size N s3 H (fp++[s.heap.objs.size])) rfl rfl rfl hc i _ s5 Y5 H5 _ pinD (fpOk' f5 oneD) t5 go) λr s6 #[u,hr,h6]=>?_
    subst hr;show aG h6 λ_ s7 #[x,H7,I7,r7,y7,t7,f7]=>?_
    obtain⟨x1,x2,x3⟩:=yl x H7 y7;have I7':=I7.pinned (fpOk' f7 oneD) (T.obj _ _ t7);split at w5
    ·rename_i Z8 S8 h8;show aG (bk.tgt _ _ _ _ _ s7 Y5 H7 x u (λY' H'=>∃A',Ext X.K A5 H5 A' H'/\StoreOk X.w X.K A' H' S8/\EnvRel X.K A' H' Z8 Y') I7' r7 #[A5,Z5,S5,w,Z8,S8,er5.mono x1,x2,x3,h8,λY' H' A' q1 q2 q3=>#[A',x1.trans q1,q2,q3]]) λ_ s8 #[Y8,H8,I8,A8,e58,so8,er8]=>?_
     have e8:Ext X.K A H A8 H8:=e5.trans e58;have pD:∀ {Y':L2.St} {H':Hp} {s':Ht},Inv (jB X scope cl h2.objs.size N s3 H (fp++[s.heap.objs.size])) ([(s.heap.objs.size,{ cls:=.type "list",data:=.seq its.toArray nn })]++gw fp s7.heap) Y' H' s'->s'.heap.get? s.heap.objs.size=ba { cls:=.type "list",data:=.seq its.toArray nn }/\H' s.heap.objs.size=gV:=λI'=>
      let q:=I'.pin _ (Ic _ (JH _ (Iv.mpr rfl)))
      #[q.1,q.2.1]
     have pF:∀ {Y':L2.St} {H':Hp} {s':Ht},Inv (jB X scope cl h2.objs.size N s3 H (fp++[s.heap.objs.size])) ([(s.heap.objs.size,{ cls:=.type "list",data:=.seq its.toArray nn })]++gw fp s7.heap) Y' H' s'->(∀b∈fp,H' b=gV)/\∀b∈fp,∀o,s7.heap.get? b=ba o->s'.heap.get? b=ba o:=λI'=>
      #[λb hb=>by
       obtain⟨o,eo,_⟩:=T.obj _ _ t7 b hb;exact(I'.pin (b,o) (Ic _ (Ic _ (dj hb eo)))).2.1,
       λb hb o eo=>(I'.pin (b,o) (Ic _ (Ic _ (dj hb eo)))).1]
     split at w5
     ·rename_i S9 h9;show aG (bk.tst _ _ _ _ _ s8 Y8 H8 (λb H'=>b=true/\∃A',Ext X.K A8 H8 A' H'/\StoreOk X.w X.K A' H' S9) I8 #[A8,Z8,S8,true,S9,er8,so8,h9,λb H' #[z0,A',z1,z2]=>#[z0,A',z1,z2]]) λb s9 #[H9,I9,z0,A9,e9,so9]=>?_
      subst z0;rw[HN rfl];split at w5
      ·rename_i y S10 h10;split at w5
       ·rename_i ys' S4 h11;cases w5;show aG (bk.elt _ _ _ _ _ s9 Y8 H9 (EndV X.w X.K A9 H9 S10 y) I9 #[A9,Z8,S9,y,S10,er8.mono e9,so9,h10,λ_ _ z=>z]) λu10 s10 #[v10,H10,I10,r10,A10,e10,so10,rl10]=>?_
        obtain⟨d10,n10⟩:=pD I10;obtain⟨f10,k10⟩:=pF I10;have hlen:its.length < sizeLine:=by
         have l1:=v5.length;have l2:=rl5.length;rw[hw5,HK,IU]at hz;omega
        show lq d10 hlen λh' n' hd' hk'=>?_
        have Ib:Inv (jB X scope cl h2.objs.size N s3 H (fp++[s.heap.objs.size])) [] Y8 H10 { s10 with heap:=h' }:=by
         have Ia:Inv (jB X scope cl h2.objs.size N s3 H (fp++[s.heap.objs.size])) [] Y8 H10 s10:=I10.pins_of λp hp=>absurd hp (by simp)
         exact Ia.turned (t':=s10.toks) (it:=s.heap.objs.size) hk' n10 hDC (.inl DinEx) cellD (λp hp=>absurd hp (by simp[jB]))
        show#[k,JT k,i+1,Y8,H10,A10,Z8,S10,done++[y],its++[u10],n',vs++[v10],ys',Ib,?_,f10,hd',n10,v5.append #v[r10],(e8.trans e9).trans e10,(er8.mono e9).mono e10,so10,?_,?_,h11]
        ·exact T.keep (i+1) s7.heap h' t7 λb hb o eo=>hk' b o (fpD b hb) (k10 b hb o eo)
        ·exact(rl5.mono ((e58.trans e9).trans e10)).append #v[rl10]
        ·rw[hw5,KD]; rfl
       ·cases w5
      ·cases w5
     ·rename_i S9 h9;show aG (bk.tst _ _ _ _ _ s8 Y8 H8 (λb H'=>b=false/\∃A',Ext X.K A8 H8 A' H'/\StoreOk X.w X.K A' H' S9) I8 #[A8,Z8,S8,false,S9,er8,so8,h9,λb H' #[z0,A',z1,z2]=>#[z0,A',z1,z2]]) λb s9 #[H9,I9,z0,A9,e9,so9]=>?_
      subst z0;rw[HY HS];obtain⟨d9,n9⟩:=pD I9;obtain⟨f9,k9⟩:=pF I9;show#[k,JT k,i+1,Y8,H9,A9,Z8,S9,done,its,nn,vs,ys,I9.pins_of λp hp=>absurd hp (by simp),T.keep (i+1) s7.heap _ t7 k9,f9,d9,n9,v5,e8.trans e9,er8.mono e9,so9,rl5.mono (e58.trans e9),hw5,w5]
     ·cases w5
    ·cases w5
   ·cases w5
 exact codeAny_compStart_list (loop _ rfl) (T.self X.A 0 _ _ _ t1 (loop _ rfl))
def mJ {fi:FI}{g:FG}{c:FT}{f:FE}{cap:Ho (Hs Hz)}{Z:Fm}{S:aa}{w:W}{S':aa}(e:jb fi g c f cap Z S=ba (w,S')) :
  ∃mi S1 n ys S2,fi Z S=ba (mi,S1)/\mi.len S1=ba n/\aV mi g c f n 0 (ee cap Z) S1=ba (ys,S2)/\ys.length<=sizeLine/\w=.ref S2.length/\S'=S2++[.lst ys]:=by
 unfold jb at e;split at e
 ·rename_i mi S1 h1;split at e
  ·rename_i n h2;split at e
   ·rename_i ys S2 h3;obtain⟨h4,h5,h6⟩:=ib e;exact#[mi,S1,n,ys,S2,h1,h2,h3,h4,h5,h6]
   ·cases e
  ·cases e
 ·cases e
def yd {scope:Kh}{N:Ho HC}{cap:Ho (Hs Hz)}{tg elt iter:HH}{ifs:Ho HH}{fi:FI}{g:FG}{c:FT}{f:FE}{pos:Jw}(hc:X.calm=true)(hi:GI X tg iter fi)(hck:X.Ok->∃cl,CompOk X scope cl N cap/\BlockOk X scope cl N tg elt ifs g c f)
  (hs:∀x,foldedSetIterable iter X.env x=pure x):GE X (.ListComp elt [#[tg,iter,ifs,0]] scope pos) (jb fi g c f cap):=by
 intro J s Y H Q I ⟨A,Z,S,w,S',er,so,e,hq⟩;obtain⟨mi,S1,n,ys,S2,h1,h2,h3,h4,rfl,rfl⟩:=mJ e;obtain⟨cl,ck,bk⟩:=hck I.ok;rw[eval_ListComp];show Mq (use:=gV) rfl hs ck.clos ck.kind ck.names (aG (hi J s Y H (λJqa H'=>∃A',Ext X.K A H A' H'/\StoreOk X.w X.K A' H' S1/\MIt X.w X.K mi Jqa A' H') I #[A,Z,S,mi,S1,er,so,h1,λJqa H' A' z1 z2 z3=>#[A',z1,z2,z3]]) λv s1 q1=>aG q1 λitv s2 q2=>?_)
 obtain⟨it,fp,tn,Jqa,H2,rfl,I2,T,t0,hfp,A2,e2,so2,mit⟩:=q2;show j7 (RR:=λacc C=>compPost (model X.prog X.w) X.A X.xe gV (EP X J Y Q) acc C) I2 hc (er.mono e2) so2 ck bk T t0 hfp mit h3 h4 ?_
 intro D C s' H' A' vs m hn hDn hDC hCL hCf hCn hCs hCc hCp I3 ex so3 rl;show#[m,hn,λh' hs'=>?_]
 have I4:Inv X J Y (aA H' D (.lst vs)) { s' with heap:=h' }:=I3.turned (t':=s'.toks) (it:=C) (λb o hb eo=>hs'.extBut b o hb eo) (by rw[aj (Ne.symm hDC)]; exact hCn) hCL (.inr hCs) hCc hCp
 exact#[.ref D,_,I4,rfl,hq _ _ (EndV.after (e2.trans ex) (.lst so3 rl hDn))]
def oq {scope:Kh}{N:Ho HC}{cap:Ho (Hs Hz)}{tg elt iter:HH}{ifs:Ho HH}{fi:FI}{g:FG}{c:FT}{f:FE}{pos py spos:Jw}{y:HC}{i:Hz}(hc:X.calm=true)(hi:GI X tg iter fi)(hck:X.Ok->∃cl,CompOk X scope cl N cap/\BlockOk X scope cl N tg elt ifs g c f)
  (hs:∀x,foldedSetIterable iter X.env x=pure x) (hsw:swapsWith (.ListComp elt [#[tg,iter,ifs,0]] scope pos) (ba (.Name y py)) spos.line X.env=pure true) (hN:X.N.Nodup) (hy:X.N[i]?=ba y) (hl:X.env.scope.names.lookup y=ba .local) :
  GS X (.Assign [.Name y py] (.ListComp elt [#[tg,iter,ifs,0]] scope pos) spos) (d7 (jb fi g c f cap) (xR i)):=by
 intro J s Y H Dd I ⟨A,Z,S,o,S',er,so,e,hd⟩;unfold d7 at e;split at e
 ·rename_i w S0 h0;simp only[xR]at e;cases e;obtain⟨mi,S1,n,ys,S2,h1,h2,h3,h4,rfl,rfl⟩:=mJ h0;obtain⟨cl,ck,bk⟩:=hck I.ok;rw[exec_Assign_Name_used _ _ _ _ hsw];show Hq (JV (Hq ?_));change wpAny _ X.A (do let _ <- comprehension (.ListComp elt [⟨tg,iter,ifs,0⟩] scope pos) scope X.env _ (newList []) false (eval iter X.env) (ba (assign (.Name y py) X.env))) _ _ s
  show Hq (IE (Mq (use:=ba (assign (.Name y py) X.env)) (Q:=λ_ s'=>SP X J Dd .next s') rfl hs ck.clos ck.kind ck.names
   (aG (hi J s Y H (λJqa H'=>∃A',Ext X.K A H A' H'/\StoreOk X.w X.K A' H' S1/\MIt X.w X.K mi Jqa A' H') I #[A,Z,S,mi,S1,er,so,h1,λJqa H' A' z1 z2 z3=>#[A',z1,z2,z3]]) λv s1 q1=>aG q1 λitv s2 q2=>?_)) (λ_ s' hq=>Hy (Hy hq)) λ_ _ e=>e)
  obtain⟨it,fp,tn,Jqa,H2,rfl,I2,T,t0,hfp,A2,e2,so2,mit⟩:=q2;show j7 (RR:=λacc C=>compPost (model X.prog X.w) X.A X.xe (ba (assign (.Name y py) X.env)) (λ_ s'=>SP X J Dd .next s') acc C) I2 hc (er.mono e2) so2 ck bk T t0 hfp mit h3 h4 ?_
  intro D C s' H' A' vs m hn hDn hDC hCL hCf hCn hCs hCc hCp I3 ex so3 rl;obtain⟨oC,esC,epC,hoC,hdC,hrC⟩:=id hn;have I3':Inv X (J++[(C,oC)]) Y (aA H' D (.lst vs)) s':=I3.pins_of λp hp=>by
   rcases IV.mp hp with hp|hp
   ·exact I3.pin p (Ic _ hp)
   ·have hp':p=(C,oC):=by simpa using hp
    subst hp';exact#[hoC,by rw[aj (Ne.symm hDC)]; exact hCn,hCL,hCf,λv z=>by rw[hdC]at z; cases z]
  change wpAny _ X.A (assign (.Name y py) X.env (.ref D)) _ _ _;show NM (bI I3' hN hy (.inl hl) (v:=.ref D) rfl (λs4 I4=>?_) (.inr hl))
  have pC:=I4.pin (C,oC) (Ic _ (Ic _ (Iv.mpr rfl)));show#[m,#[oC,esC,epC,pC.1,hdC,hrC],λh' hs'=>?_]
  have I5:Inv X J (Y.set i (ba (.ref D))) (aA H' D (.lst vs)) s4:=I4.pins_of λp hp=>I4.pin p (Ic _ (JH _ hp))
  have I6:Inv X J (Y.set i (ba (.ref D))) (aA H' D (.lst vs)) { s4 with heap:=h' }:=I5.turned (t':=s4.toks) (it:=C) (λb o hb eo=>hs'.extBut b o hb eo) (by rw[aj (Ne.symm hDC)]; exact hCn) hCL (.inr hCs) hCc hCp
  obtain⟨Af,f1,f2,f3⟩:=EndV.after (e2.trans ex) (EndV.lst so3 rl hDn);exact#[_,_,I6,hd.nx _ _ #[_,Af,rfl,f1,f2,(er.mono f1).set f3 i]]
 ·cases e
end
open PySem.Builtin.SmallTypes (nextOf)
section
variable{prog:HM}{w:HX}
structure Zit (prog:HM)(w:HX)(it:Hv)(T:Hz->Ii->Prop)(C:Ii->Prop)(i:Hz)(Uq:Hs (Hr->Prop)):Prop where
 keep:∀j h h',T j h->(∀o,h.get? it=ba o->h'.get? it=ba o)->T j h'
 next:∀V,Uq=ba V->∀(B:HW) (s:Ht) (Q:Hr->Ht->Prop) (E:Hr->Ht->Prop),T i s.heap->C s.heap->(∀u h' tk,V u->T (i+1) h'->Ki it s.heap h'->Q u { s with heap:=h',toks:=tk })->wpAny (model prog w) B (nextOf (.ref it)) Q E s
 stop:Uq=gV->∀(B:HW) (s:Ht) (Q:Hr->Ht->Prop) (E:Hr->Ht->Prop),B.handled=gV->T i s.heap->C s.heap->(∀h' e,M0 it s.heap h'->(∃o,h'.get? e=ba o/\o.cls=.type "StopIteration")->E (.ref e) { s with heap:=h' })->wpAny (model prog w) B (nextOf (.ref it)) Q E s
variable{B:HW}{E:Hr->Ht->Prop}{s:Ht}{z p q i1 i2:Hv}{T1 T2:Hz->Ii->Prop}{C1 C2:Ii->Prop}{i:Hz}{a b:Hr}
abbrev Zc (z q i1 i2:Hv)(C:Ii->Prop):Prop:=∀h h',C h->(∀c o,c≠z->c≠q->c≠i1->c≠i2->h.get? c=ba o->h'.get? c=ba o)->C h'
end
end Mi
namespace Mi
open PySem PySem.Spec PyProof.Rows L2
open PySem.Builtin.SmallTypes (nextOf)
abbrev ou (prog:HM)(w:HX)(v:Hr)(o:Jg)(C:Ii->Prop):Prop:=∀(B:HW) (s:Ht) (Q:Hr->Ht->Prop) (E:Hr->Ht->Prop),C s.heap->Q (.ref s.heap.objs.size) { s with heap:=s.heap.push o }->wpAny (model prog w) B (pyIter v) Q E s
end Mi
namespace Mi
open PySem PySem.Spec PyProof.Rows L2
open PySem.Builtin.SmallTypes (nextOf)
section
variable{prog:HM}{w:HX}{A:HW}{E:Hr->Ht->Prop}{s:Ht}
def DB {it t:Hv}{i:Hz}{items:Iu Hr}{x:Hr}{Q:Hr->Ht->Prop}(hit:s.heap.IsTupleIter it t i)(ht:s.heap.IsTuple t items)(hx:items[i]?=ba x)
  (hQ:∀h',h'.IsTupleIter it t (i+1)->Ki it s.heap h'->Q x { s with heap:=h' }):wpAny (model prog w) A (nextOf (.ref it)) Q E s:=by
 obtain⟨o,ho,hc,hd⟩:=id hit;obtain⟨ot,hot,_,nt,hdt⟩:=ht;unfold Mb;show Hq (Ja (name:=Je "__next__") hit.typeIs F.slot_tuple_iterator_next (Jk F.slot_tuple_iterator_next hit.typeIs F.entry_tuple_iterator_next ?_ (F.args_tuple_iterator_next_1 _)));change wpAny _ _ (field (.ref it) 0 >>= _) _ _ s;show Hq (Jh ho hd (x:=.ref t) rfl ?_);change wpAny _ _ (if (HL t==Iz)=true then _ else _) _ _ s
 rw[HY (show ¬ ((HL t==Iz)=true)from HS)]
 change wpAny _ _ (field (.ref it) 1 >>= _) _ _ s;show Hq (Jh ho hd (x:=.int i 0) rfl (Hq (KP hot hdt ?_)));simp only[Ir,hx];show Hq (Ku ho hd (by simp) (Hy #[x,rfl,Hy (hQ _ #[_,Jd _ ho (Lj (Kc hd _)),(N2 ..).trans hc,?_] (KT ..))]))
 rw[Kc hd]; simp[rawInt]
def DC {it t:Hv}{i:Hz}{items:Iu Hr}{Q:Hr->Ht->Prop}(hh:A.handled=gV)(hit:s.heap.IsTupleIter it t i)(ht:s.heap.IsTuple t items)(hx:items[i]?=gV)
  (hE:∀h' e,M0 it s.heap h'->(∃o,h'.get? e=ba o/\o.cls=.type "StopIteration")->E (.ref e) { s with heap:=h' }):wpAny (model prog w) A (nextOf (.ref it)) Q E s:=by
 obtain⟨o,ho,hc,hd⟩:=id hit;obtain⟨ot,hot,_,nt,hdt⟩:=ht;unfold Mb;show Hq (Ja (name:=Je "__next__") hit.typeIs F.slot_tuple_iterator_next (Jk F.slot_tuple_iterator_next hit.typeIs F.entry_tuple_iterator_next ?_ (F.args_tuple_iterator_next_1 _)));change wpAny _ _ (field (.ref it) 0 >>= _) _ _ s;show Hq (Jh ho hd (x:=.ref t) rfl ?_);change wpAny _ _ (if (HL t==Iz)=true then _ else _) _ _ s
 rw[HY (show ¬ ((HL t==Iz)=true)from HS)]
 change wpAny _ _ (field (.ref it) 1 >>= _) _ _ s;show Hq (Jh ho hd (x:=.int i 0) rfl (Hq (KP hot hdt ?_)));simp only[Ir,hx];show Hq (Lm (Hq (Ku ho hd (by simp) ?_)))
 change wpAny _ _ (newExc (.type "StopIteration") [] >>= _) _ _ _;show Hq ?_;simp only[newExc,newTuple];show Hq (IA ?_ (by size_fits))
 show Hq (m:=firstArgMember _ _) (M2 (a:=Iz) (by first|rfl|(simp only[firstArgMember]; rfl)) (IA ?_ (by size_fits)))
 simp only[raiseNew];show Hq (Pf ?_)
 first|rw[show A.in1.handled=gV from hh]|rw[hh]
 exact Hq (Hy (PP (hE _ _ (((KT ..).extBut.push _).push _) #[_,HG _ rfl,rfl])))
end
inductive Zs where|tup (a:Hv)|lst (a:Hv)|txt (x:HC)
abbrev Zs.T (it:Hv):Zs->Hz->Ii->Prop
 | .tup a,i,h=>h.IsTupleIter it a i
 | .lst a,i,h=>h.IsListIter it a i
 | .txt x,i,h=>∃t,h.IsStrIter it "str_ascii_iterator" x t i\/h.IsStrIter it "str_iterator" x t i
abbrev Zs.at (K:HA)(H:Hp)(i:Hz)(v:V):Zs->Prop
 | .tup a=>∃xs,SqT K H a xs/\xs[i]?=ba v
 | .lst a=>∃xs,SqL K H a xs/\xs[i]?=ba v
 | .txt x=>∃c,x.cps[i]?=ba c/\v=.str #[[c].toArray]
abbrev Zs.out (K:HA)(H:Hp)(i:Hz):Zs->Prop
 | .tup a=>∃xs,SqT K H a xs/\xs.length<=i
 | .lst a=>∃xs,SqL K H a xs/\xs.length<=i
 | .txt x=>x.cps.size<=i
def Zs.keep {S:Zs}{it:Hv}{j:Hz}{h h':Ii}(t:S.T it j h)(k:∀o,h.get? it=ba o->h'.get? it=ba o):S.T it j h':=by
 cases S with
 | tup a=>exact t.at k
 | lst a=>exact t.at k
 | txt x=>
  obtain⟨tk,t⟩:=t;exact#[tk,t.imp (λ#[o,e,r]=>#[o,k _ e,r]) λ#[o,e,r]=>#[o,k _ e,r]]
section
variable{X:Cx}{J:Ho (Hv×Jg)}{Y:L2.St}{H:Hp}{s:Ht}
def uK (I:Inv X J Y H s){a b:Hv}{o:Jg}(h:X.K.lookup a=ba o)(f:gv X J H b):a≠b:=λz=>by
 subst z;have hb:=I.ok.mod.kin a o h;rcases f.2.2.2.1 with q|q
 ·exact I.ok.noex a o hb q
 ·exact absurd (HV (HF (I.ok.bs a o hb).1) q) (Jc _)
end
end Mi
namespace Mi
open PySem PySem.Spec PyProof.Rows L2
open PySem.Builtin.SmallTypes (nextOf)
section
variable{X:Cx}{J:Ho (Hv×Jg)}{Y:L2.St}{H:Hp}{s:Ht}{h':Ii}
def uL {a b:Hv}{u:HO}(h:Rd H a u)(f:H b=gV):a≠b:=λz=>by
 subst z;rcases h with h|⟨o,h⟩ <;> (rw[f]at h; cases h)
def Inv.turnedL {t':Hz}{ch:Ho Hv}(I:Inv X J Y H s)(k:∀b o,b∉ch->s.heap.get? b=ba o->h'.get? b=ba o)(hf:∀b∈ch,gv X J H b):Inv X J Y H { s with heap:=h',toks:=t' }:=by
 have nit:∀b u,H b=ba u->b∉ch:=λb u e z=>by have:=(hf b z).1; rw[e]at this; cases this
 show I.step (g':=s.gens) (d':=s.drawn) (ch:=ch) (λb hb=>?_) (λb o _ _ hc e _=>k b o hc e) (λb o _ _ hc e _=>#[o.slots,k b o hc e]) (λ_ _ _ _ n=>n) (λb o hc e=>#[o,k b o hc e]) (λ_ _ e=>e) (λ_ _ _ e=>e) (λb ps e=>#[#[],by rw[e]; simp]) (λm hm=>?_) (λb u e=>?_) I.bare
 ·obtain⟨_,f1,_,f3,f4,f5⟩:=hf b hb;exact#[f3,f1,f4,f5]
 ·obtain⟨o,es,ep,ho,r⟩:=hm;exact#[o,es,ep,k _ o (λz=>(hf _ z).2.1 rfl) ho,r]
 ·show(I.hok b u e).stay (λc v hc q=>k c v ?_ q) (λ_ q=>q) λ_ _ q=>q
  rcases hc with z|z
  ·rw[z]; exact nit b u e
  ·exact nit c _ z
def Zs.zit {S:Zs}{it z q i1 i2:Hv}{i:Hz}{Uq:Hs V}(I:Inv X J Y H s)(hf:∀b∈[z,q,i1,i2],gv X J H b)(g:match Uq with|some v=>S.at X.K H i v|none=>S.out X.K H i) :
  ∃C,Zit X.prog X.w it (S.T it) C i (Uq.map λv u=>RelV v u)/\C s.heap/\Zc z q i1 i2 C:=by
 have zc:∀(a:Hv) (P:Ii->Prop),(∀h h',P h->(∀o,h.get? a=ba o->h'.get? a=ba o)->P h')->(∀b∈[z,q,i1,i2],a≠b)->Zc z q i1 i2 P:=λa P hP hn h h' p k=>
  hP h h' p λo e=>k a o (hn z (by simp)) (hn q (by simp)) (hn i1 (by simp)) (hn i2 (by simp)) e
 have sep:∀ {a:Hv} {u:HO} {o:Jg} {b:Hv},(Rd H a u\/X.K.lookup a=ba o)->b∈[z,q,i1,i2]->a≠b:=λh hb=>h.elim (λr=>uL r (hf _ hb).1) λr=>uK I r (hf _ hb)
 cases S with
 | tup a=>
  obtain⟨xs,hq,hx⟩ : ∃xs,SqT X.K H a xs/\(match Uq with|some v=>xs[i]?=ba v|none=>xs.length<=i):=by
   cases Uq <;> exact g
  obtain⟨its,rv,p,_⟩:=I.tuple hq;have hne:∀b∈[z,q,i1,i2],a≠b:=λb hb=>by
   rcases hq with r|⟨o,_,_,r,_⟩
   ·exact uL r (hf b hb).1
   ·exact uK I r (hf b hb)
  show#[λh=>h.IsTuple a its.toArray,#[λj h h' t k=>Zs.keep (S:=.tup a) t k,λV hV B s2 Q E t c hQ=>?_,λhU B s2 Q E hh t c hE=>?_],p,zc a _ (λh h' #[o,e,r] k=>#[o,k _ e,r]) hne]
  ·cases Uq with
   | none=>cases hV
   | some v=>
    cases hV;obtain⟨u,hu,ru⟩:=rv.get hx;exact DB t c (x:=u) (by simpa using hu) λh' t' sb=>hQ u h' s2.toks ru t' sb
  ·cases Uq with
   | some v=>cases hU
   | none=>
    have:=L2.Vals.length rv;have hx':xs.length<=i:=hx;exact DC hh t c (by simp; omega) hE
 | lst a=>
  obtain⟨xs,hq,hx⟩ : ∃xs,SqL X.K H a xs/\(match Uq with|some v=>xs[i]?=ba v|none=>xs.length<=i):=by
   cases Uq <;> exact g
  obtain⟨its,rv,p,_⟩:=I.list hq;have hne:∀b∈[z,q,i1,i2],a≠b:=λb hb=>by
   rcases hq with r|⟨o,_,_,r,_⟩
   ·exact uL r (hf b hb).1
   ·exact uK I r (hf b hb)
  show#[λh=>h.IsList a its.toArray,#[λj h h' t k=>Zs.keep (S:=.lst a) t k,λV hV B s2 Q E t c hQ=>?_,λhU B s2 Q E hh t c hE=>?_],p.isList,zc a _ (λh h' #[o,e,r] k=>#[o,k _ e,r]) hne]
  ·cases Uq with
   | none=>cases hV
   | some v=>
    cases hV;obtain⟨u,hu,ru⟩:=rv.get hx;exact wpAny_nextOf_list_item t c (x:=u) (by simpa using hu) λh' t' sb=>hQ u h' s2.toks ru t' sb
  ·cases Uq with
   | some v=>cases hU
   | none=>
    have:=L2.Vals.length rv;have hx':xs.length<=i:=hx;exact wpAny_nextOf_list_end hh t c (by simp; omega) hE
 | txt x=>
  show#[λ_=>NK,#[λj h h' t k=>Zs.keep (S:=.txt x) t k,λV hV B s2 Q E t _ hQ=>?_,λhU B s2 Q E hh t _ hE=>?_],trivial,λ_ _ _ _=>trivial]
  ·cases Uq with
   | none=>cases hV
   | some v=>
    cases hV;obtain⟨c,hc,rfl⟩ : ∃c,x.cps[i]?=ba c/\v=.str #[[c].toArray]:=g;obtain⟨tk,t|t⟩:=t
    ·exact wpAny_nextOf_ascii_item t hc λh' t' sb=>hQ _ h' _ #[_,rfl] #[tk,.inl t'] sb
    ·exact wpAny_nextOf_wide_item t hc λh' t' sb=>hQ _ h' _ #[_,rfl] #[tk,.inr t'] sb
  ·cases Uq with
   | some v=>cases hU
   | none=>
    have hx:x.cps[i]?=gV:=by simpa using(show x.cps.size<=i from g)
    obtain⟨tk,t|t⟩:=t
    ·exact wpAny_nextOf_ascii_end hh t hx hE
    ·exact wpAny_nextOf_wide_end hh t hx hE
end
abbrev Zs.is (K:HA)(H:Hp)(i:Hz)(v:V):Zs->Prop
 | .tup a=>∀xs,SqT K H a xs->xs[i]?=ba v
 | .lst a=>∀xs,SqL K H a xs->xs[i]?=ba v
 | .txt x=>∃c,x.cps[i]?=ba c/\v=.str #[[c].toArray]
def Zs.at_is {S:Zs}{X:Cx}{J:Ho (Hv×Jg)}{Y:L2.St}{H:Hp}{s:Ht}{i:Hz}{v:V}(I:Inv X J Y H s)(h:S.at X.K H i v):S.is X.K H i v:=by
 cases S with
 | tup a=>obtain⟨xs,hq,hx⟩:=h; exact λys hy=>by rw[I.tuple_inj hy hq]; exact hx
 | lst a=>obtain⟨xs,hq,hx⟩:=h; exact λys hy=>by rw[I.list_inj hy hq]; exact hx
 | txt x=>exact h
end Mi
namespace Mi
open PySem PySem.Spec PyProof.Rows L2
abbrev Gb:W->Hs (Ho W)
 | .tup xs=>ba xs
 | .str x=>ba (x.cps.toList.map λc=>.str #[[c].toArray])
 | _=>gV
section
variable{X:Cx}{J:Ho (Hv×Jg)}{Y:L2.St}{H:Hp}{s:Ht}{A:Ho Hv}
abbrev ZRel (K:HA)(A:Ho Hv)(H:Hp)(xs:Ho W):Zs->Prop
 | .tup a=>∃vs,SqT K H a vs/\RelL K A H xs vs
 | .lst a=>ID
 | .txt x=>xs=x.cps.toList.map λc=>.str #[[c].toArray]
def ZRel.mono {K:HA}{A A':Ho Hv}{H H':Hp}{xs:Ho W}{S:Zs}(e:Ext K A H A' H')(h:ZRel K A H xs S):ZRel K A' H' xs S:=by
 cases S with
 | tup a=>obtain⟨vs,h1,h2⟩:=h; exact#[vs,e.tp _ _ h1,h2.mono e]
 | lst a=>exact h
 | txt x=>exact h
def ZRel.at {K:HA}{xs:Ho W}{S:Zs}{i:Hz}{w:W}(h:ZRel K A H xs S)(hi:xs[i]?=ba w):∃v,S.at K H i v/\Rel K A H w v:=by
 cases S with
 | tup a=>obtain⟨vs,h1,h2⟩:=h; obtain⟨v,h3,h4⟩:=h2.get hi; exact#[v,#[vs,h1,h3],h4]
 | lst a=>exact h.elim
 | txt x=>
  have h:xs=x.cps.toList.map λc=>.str #[[c].toArray]:=h
  subst h;rw[HQ,Hx]at hi;obtain⟨c,hc,rfl⟩:=hi;exact#[.str #[[c].toArray],#[c,by rw[<- Jy]; exact hc,rfl],.str]
def ZRel.is {K:HA}{xs:Ho W}{S:Zs}{i:Hz}{w:W}{v:V}(h:ZRel K A H xs S)(hi:xs[i]?=ba w)(z:S.is K H i v):Rel K A H w v:=by
 obtain⟨v',h1,h2⟩:=h.at hi;cases S with
 | tup a=>
  obtain⟨vs,q,e⟩:=h1;have:=z vs q;rw[e]at this; cases this
  exact h2
 | lst a=>exact h.elim
 | txt x=>
  obtain⟨c,e,rfl⟩:=h1;obtain⟨c',e',rfl⟩:=z;rw[e]at e'; cases e'
  exact h2
def ZRel.out {K:HA}{xs:Ho W}{S:Zs}{i:Hz}(h:ZRel K A H xs S)(hi:xs.length<=i):S.out K H i:=by
 cases S with
 | tup a=>obtain⟨vs,h1,h2⟩:=h; exact#[vs,h1,by rw[<- h2.length]; exact hi]
 | lst a=>exact h.elim
 | txt x=>
  have h:xs=x.cps.toList.map λc=>.str #[[c].toArray]:=h
  subst h;change x.cps.size<=i
  simpa using hi
def ye {x:W}{v:V}{u:Hr}{xs:Ho W}(I:Inv X J Y H s)(r:Rel X.K A H x v)(ru:RelV v u)(e:Gb x=ba xs) :
  ∃(S:Zs) (o:Jg) (C:Ii->Prop),ZRel X.K A H xs S/\ou X.prog X.w u o C/\C s.heap/\(∀h o,C h->C (h.push o))/\o.isFreed=false/\∀it h,h.get? it=ba o->S.T it 0 h:=by
 cases r with
 | @tup ws a vs hq rl=>
  cases e;obtain⟨its,rv,p,_⟩:=I.tuple hq;obtain rfl:u=HL a:=ru;exact#[.tup a,{ cls:=.type "tuple_iterator",data:=.fields [.ref a,.int 0 0].toArray },λh=>h.IsTuple a its.toArray,#[vs,hq,rl],λB s Q E c hQ=>NE c hQ,p,λh o #[ot,e,r]=>#[ot,Hw _ e,r],rfl,λit h e=>#[_,e,rfl,rfl]]
 | @str x=>
  cases e;obtain⟨t,rfl⟩:=ru;cases ha:x.cps.all (· < 128)with
  | false=>exact#[.txt x,{ cls:=.type "str_iterator",data:=.fields [.str x t,.int 0 0].toArray },λ_=>NK,rfl,λB s Q E _ hQ=>wpAny_pyIter_wide ha hQ,trivial,λ_ _ _=>trivial,rfl,λit h e=>#[t,.inr #[_,e,rfl,rfl]]]
  | true=>exact#[.txt x,{ cls:=.type "str_ascii_iterator",data:=.fields [.str x t,.int 0 0].toArray },λ_=>NK,rfl,λB s Q E _ hQ=>wpAny_pyIter_ascii ha hQ,trivial,λ_ _ _=>trivial,rfl,λit h e=>#[t,.inl #[_,e,rfl,rfl]]]
 | _=>cases e
end
open PySem.Builtin.SmallTypes (nextOf)
section
variable{prog:HM}{w:HX}{B:HW}{E:Hr->Ht->Prop}{s:Ht}{e it:Hv}{T:Hz->Ii->Prop}{C:Ii->Prop}{i:Hz}{old:Hr}
structure EnAt (h0 h:Ii)(e it:Hv)(fs:Iu Hr)(T:Ii->Prop):Prop where
 here:h.get? e=ba { cls:=.type "enumerate",dict:=gV,data:=.fields fs,slots:=#[] }
 turn:T h
 kept:∀b o,b≠e->b≠it->h0.get? b=ba o->h.get? b=ba o
def EnAt.put {h0:Ii}{fs:Iu Hr}{T:Ii->Prop}{k:Hz}{v:Hr}{Q:P2->Ht->Prop}(x:EnAt h0 s.heap e it fs T)(hne:e≠it)(kT:∀h h',T h->(∀o,h.get? it=ba o->h'.get? it=ba o)->T h')(hk:k < fs.size)
  (q:∀h',EnAt h0 h' e it (fs.setIfInBounds k v) T->Ki e s.heap h'->Q () { s with heap:=h' }):wpAny (model prog w) B (setField (.ref e) k v) Q E s:=
 wpAny_setField_rec x.here hk λh' y sb=>q h' #[y,kT _ _ x.turn λo z=>sb.extBut _ _ (Ne.symm hne) z,λb o h1 h2 z=>sb.extBut b o h1 (x.kept b o h1 h2 z)] sb
def j8 {Uq:Hs (Hr->Prop)}{Q:Hr->Ht->Prop}(Zz:Zit prog w it T C i Uq)(hh:B.handled=gV)(he:P9 s.heap e it (i:HR) old)(t:T i s.heap)(c:C s.heap)(hne:e≠it)
  (hI:∀V,Uq=ba V->∀u h' tk tk0,V u->IsEnumOut h' e it ((i:HR)+1) u s.heap.objs.size->T (i+1) h'->h'.get? s.heap.objs.size=ba { cls:=.type "tuple",data:=.seq [.int i tk0,u].toArray }->
   (∀b o,b≠e->b≠it->s.heap.get? b=ba o->h'.get? b=ba o)->Q (.ref s.heap.objs.size) { s with heap:=h',toks:=tk })
  (hE:Uq=gV->∀h' x,M0 it s.heap h'->(∃o,h'.get? x=ba o/\o.cls=.type "StopIteration")->E (.ref x) { s with heap:=h' }) :
  wpAny (model prog w) B (K3.«enumerate.__next__» #[[.ref e],[]]) (λfin s'=>∃v,fin=.done (.ret v)/\Q v s') E s:=by
 obtain⟨hp,g,d,tk,os⟩:=s;change wpAny _ _ (field (.ref e) 2 >>= _) _ _ _;show Hq (Jh he rfl (x:=.ref it) rfl (Hq ?_));cases Uq with
 | none=>exact Zz.stop rfl _ _ _ _ hh t c λh' x a b=>hE rfl h' x a b
 | some V=>
  show Zz.next V rfl _ _ _ _ t c λu ha tka hu ta sba=>?_
  have kT:=Zz.keep (i+1);have xa:EnAt hp ha e it [.none,.bool false,.ref it,rawInt i,.none,old].toArray (T (i+1)):=#[(sba.2 e hne).trans he,ta,λb o _ h2 z=>sba.extBut b o h2 z]
  have za:ha.objs.size=hp.objs.size:=sba.1;clear sba ta;change wpAny _ _ (field (.ref e) 3 >>= _) _ _ #[ha,g,d,tka,os];show Hq (Jh xa.here rfl (x:=rawInt i) rfl ?_);change wpAny _ _ (field (.ref e) 4 >>= _) _ _ #[ha,g,d,tka,os];show Hq (Jh xa.here rfl (x:=.none) rfl ?_);change wpAny _ _ (mkInt i >>= _) _ _ #[ha,g,d,tka,os];show Hq (Oy (Hq (xa.put (s:=#[ha,g,d,tka+1,os]) hne kT (by simp) λhb xb sb1=>Hq (xb.put (s:=#[hb,g,d,tka+1,os]) hne kT (by simp) λhc xc sb2=>Hq (OZ ?_)))))
  have zc:hc.objs.size=hp.objs.size:=by rw[sb2.1,<- za]; exact sb1.1
  have hel:hp.objs.size≠e:=JC (HF he);have new:=HG hc (o:={ cls:=.type "tuple",data:=.seq [.int i tka,u].toArray }) rfl;have xd:EnAt hp (hc.push { cls:=.type "tuple",data:=.seq [.int i tka,u].toArray }) e it [.none,.bool false,.ref it,rawInt ((i:HR)+1),.none,old].toArray (T (i+1)):=#[Hw _ xc.here,kT _ _ xc.turn λo z=>Hw _ z,λb o h1 h2 z=>Hw _ (xc.kept b o h1 h2 z)]
  rw[zc]at new;change wpAny _ _ (KY (.ref e) >>= _) _ _ #[hc.push _,g,d,tka+1,os];rw[zc];generalize hc.push { cls:=.type "tuple",data:=.seq [.int i tka,u].toArray }=hd at new xd ⊢;clear zc sb2 xc sb1 xb hb xa za;show Hq ?_;unfold KY;show Hq (Jh xd.here rfl (x:=.none) rfl (Hy ?_));simp only[Kr];show Hq (Lm (Hq (Jh xd.here rfl (x:=old) rfl (Hq (xd.put (s:=#[hd,g,d,tka+1,os]) hne kT (by simp) λh1 x1 s1=>Hq ?_)))))
  unfold Nm;show Hq (x1.put (s:=#[h1,g,d,tka+1,os]) hne kT (by simp) λh2 x2 s2=>x2.put (s:=#[h2,g,d,tka+1,os]) hne kT (by simp) λh3 x3 s3=>Hq (Lv (Hy #[_,rfl,hI V rfl u h3 (tka+1) tka hu x3.here x3.turn ?_ x3.kept])))
  exact s3.extBut _ _ hel (s2.extBut _ _ hel (s1.extBut _ _ hel new))
variable{v:Hr}{o:Jg}
def mK (h1:ou prog w v o C) :
  MeetsIn prog w (K3.«enumerate.__new__» #[[.type "enumerate",v],[]]) (λ_ R s=>C s.heap/\R (.ok (.ret (.ref (s.heap.push o).objs.size))) { s with heap:=(s.heap.push o).push { cls:=.type "enumerate",data:=.fields [.none,.bool false,.ref s.heap.objs.size,rawInt 0,.none,.none].toArray } }):=
 .of_wp λA R s h=>by
  obtain⟨hp,g,d,tk,os⟩:=s;obtain⟨c,h⟩:=h;have hsub:=sub_enumerate;have d1:∀(B:HW) (Q:Hr->Ht->Prop) (E:Hr->Ht->Prop),Q (.ref hp.objs.size) #[hp.push o,g,d,tk,os]->wpAny (model prog w) B (pyIter v) Q E #[hp,g,d,tk,os]:=λB Q E q=>h1 B #[hp,g,d,tk,os] Q E c q
  wp_walk
  show wpAny_stack_any λst=>Hy ?_
  split
  ·rename_i c _ _ _ _ _;cases(c==td "enumerate")
   ·wp_walk using d1 _ _ _
    exact#[_,rfl,h]
   ·wp_walk using d1 _ _ _
    exact#[_,rfl,h]
  ·wp_walk using d1 _ _ _
   exact#[_,rfl,h]
def rF {Q:Hr->Ht->Prop}(h1:ou prog w v o C)(c:C s.heap)(n1:o.isFreed=false)
  (h:∀h',P9 h' (s.heap.objs.size+1) s.heap.objs.size 0 .none->h'.get? s.heap.objs.size=ba o->(∀b o,s.heap.get? b=ba o->h'.get? b=ba o)->Q (.ref (s.heap.objs.size+1)) { s with heap:=h' }) :
  wpAny (model prog w) B (call (.type "enumerate") [v]) Q E s:=by
 show callType_newIn F.called_enumerate #v[] (F.typeCall_enumerate_1 _) (F.newCall_enumerate_1 _) (λobj=>F.args_object_init_2 obj _) F.entry_enumerate_new (mK h1) #[c,?_]
 have hz:(s.heap.push o).objs.size=s.heap.objs.size+1:=Lg ..;change _/\_;rw[hz];have he:P9 ((s.heap.push o).push { cls:=.type "enumerate",data:=.fields [.none,.bool false,.ref s.heap.objs.size,rawInt 0,.none,.none].toArray }) (s.heap.objs.size+1) s.heap.objs.size 0 .none:=by
  have:=HG (s.heap.push o) (o:={ cls:=.type "enumerate",data:=.fields [.none,.bool false,.ref s.heap.objs.size,rawInt 0,.none,.none].toArray }) rfl;rw[hz]at this; exact this
 exact#[#[_,he,rfl],h _ he (Hw _ (HG _ n1)) λb o x=>Hw _ (Hw _ x)]
end
abbrev GV (K:HA)(S1:Zs):It:=
 #[λi H=>∃x,S1.at K H i x,λi H v H'=>∃p x,S1.is K H i x/\v=.ref p/\H p=gV/\H'=aA H p (.tup [.int i,x]),λi H=>S1.out K H i]
def rG {P:HM}{w:HX}{K:HA}{els:Ho HH}{k0:Hz}{tp:Jw}{S1:Zs}{z i1:Hv}(D:z≠i1) :
  Turn P w K (.Tuple els k0 tp) (GV K S1) [z,i1] z (λi h=>(∃old,P9 h z i1 i old)/\S1.T i1 i h) where
 mem:=by simp
 obj:=λi h #[#[old,a],d] b' hb=>by
  have it:∀ {S:Zs} {it:Hv},S.T it i h->∃o,h.get? it=ba o/\∀v,o.data≠.cell v:=λ{S it} t=>by
   cases S with
   | tup a=>obtain⟨o,e,_,d⟩:=t; exact#[o,e,λv z=>by rw[d]at z; cases z]
   | lst a=>obtain⟨o,e,_,d⟩:=t; exact#[o,e,λv z=>by rw[d]at z; cases z]
   | txt x=>obtain⟨tk,⟨o,e,_,d⟩|⟨o,e,_,d⟩⟩:=t <;> exact#[o,e,λv z=>by rw[d]at z; cases z]
  simp only[Ij,JU,L5]at hb;rcases hb with rfl|rfl
  ·exact#[_,a,λv z=>by cases z]
  ·exact it d
 keep:=λi h h' #[#[old,a],d] k=>#[#[old,k z (by simp) _ a],Zs.keep d (k i1 (by simp))]
 item:=by
  intro X hP hw hK hc i J s Y H E I hf st hg;subst hP hw hK;obtain⟨x,g1⟩:=hg;obtain⟨⟨old,a⟩,d⟩:=st;have hf4:∀b∈[z,z,i1,i1],gv X J H b:=λb hb=>hf b (by simp only[Ij,JU,L5]at hb ⊢; rcases hb with h|h|h|h <;> simp[h])
  obtain⟨C1,Zq,c1,k1⟩:=Zs.zit (it:=i1) (Uq:=ba x) I hf4 g1;have hT:s.TypeIs (.ref z) "enumerate":=#[_,a,rfl];unfold pyNext;show Hq (KA (Ja (name:=Je "__next__") hT F.slot_enumerate_next (Jk F.slot_enumerate_next hT F.entry_enumerate_next ?_ (F.args_enumerate_next_1 _))));show j8 Zq (I.ok.hd hc) a d c1 D (λV e1 u g tk tk0 r1 zg t1 ng kp=>?_) (λz=>by cases z)
  cases e1;show Hy #[_,rfl,?_];show wpAny_letOwnedTupleGo_enum (s:={ s with heap:=g,toks:=tk }) zg λg' zg' sb=>?_
  have N0:H s.heap.objs.size=gV:=I.hok.fresh (HJ _);have lt:∀ {b:Hv},b∈[z,i1]->s.heap.objs.size≠b:=λ{b} hb=>by
   have:∃o,s.heap.get? b=ba o:=by
    have it:∀ {S:Zs} {it:Hv},S.T it i s.heap->∃o,s.heap.get? it=ba o:=λ{S it} t=>by
     cases S with
     | tup a=>obtain⟨o,e,_⟩:=t; exact#[o,e]
     | lst a=>obtain⟨o,e,_⟩:=t; exact#[o,e]
     | txt x=>obtain⟨tk,⟨o,e,_⟩|⟨o,e,_⟩⟩:=t <;> exact#[o,e]
    simp only[Ij,JU,L5]at hb;rcases hb with rfl|rfl
    ·exact#[_,a]
    ·exact it d
   obtain⟨o,e⟩:=this;exact JC (HF e)
  have up:∀b o,b∉[z,i1]->s.heap.get? b=ba o->g'.get? b=ba o:=λb o hb e=>by
   simp only[Ij,JU,L5,not_or]at hb;exact sb.extBut _ _ hb.1 (kp b o hb.1 hb.2 e)
  have I1:Inv X J Y H { s with heap:=g',toks:=tk }:=Mi.Inv.turnedL I up hf
  have ng':g'.get? s.heap.objs.size=ba { cls:=.type "tuple",data:=.seq [.int i tk0,u].toArray }:=sb.extBut _ _ (lt (by simp)) ng
  have I2:Inv X J Y (aA H s.heap.objs.size (.tup [.int i,x])) { s with heap:=g',toks:=tk }:=by
   show Mi.Inv.adopt I1 N0 (.inr I.sz) (JC I.lt) (λw c e=>?_) (λp hp=>?_) #[#[by change 2<=sizeLine; decide,#[_,ng',rfl]],[.int i tk0,u],.cons #[_,rfl] #v[r1],#[_,ng',rfl,0,rfl]]
   ·obtain⟨v,q⟩:=I.cell w c e;exact HU q.lt
   ·exact HU (HF (I.pin p hp).1)
  show#[.ref s.heap.objs.size,_,I2,rfl,#[s.heap.objs.size,x,Zs.at_is I g1,rfl,N0,rfl],#[#[_,zg'],Zs.keep t1 λo e=>sb.extBut _ _ (Ne.symm D) e],λb hb=>?_]
  rw[aj (Ne.symm (lt hb))];exact(hf b hb).1
 done:=by
  intro X hP hw hK hc i J s Y H E I hf st hg;subst hP hw hK;obtain⟨⟨old,a⟩,d⟩:=st;have hf4:∀b∈[z,z,i1,i1],gv X J H b:=λb hb=>hf b (by simp only[Ij,JU,L5]at hb ⊢; rcases hb with h|h|h|h <;> simp[h])
  obtain⟨C1,Zq,c1,k1⟩:=Zs.zit (it:=i1) (Uq:=gV) I hf4 hg;have hT:s.TypeIs (.ref z) "enumerate":=#[_,a,rfl];unfold pyNext;show Hq (KA (Ja (name:=Je "__next__") hT F.slot_enumerate_next (Jk F.slot_enumerate_next hT F.entry_enumerate_next ?_ (F.args_enumerate_next_1 _))));show j8 Zq (I.ok.hd hc) a d c1 D (λV e1=>by cases e1) λ_ h' e k #[o,ho,hc]=>?_
  exact Hq (Mt (T:="StopIteration") (b:=true) #[o,ho,hc] OY (Hy #[rfl,Mi.Inv.turnedL (t':=s.toks) I (λb o hb e=>by
    simp only[Ij,JU,L5,not_or]at hb;exact k b o hb.2 e) hf]))
 self:=λ_ _ _ _ _ st h=>by obtain⟨⟨old,a⟩,_⟩:=st; exact N7 a h
abbrev lr (xs:Ho W):Ho W:=xs.zipIdx.map λp=>.tup [.int (p.2:Hz),p.1]
def mL {xs:Ho W}{i:Hz}{w:W}(h:(lr xs)[i]?=ba w):∃x,xs[i]?=ba x/\w=.tup [.int i,x]:=by
 unfold lr at h;rw[HQ,List.getElem?_zipIdx,Option.map_map,Hx]at h;obtain⟨x,h1,rfl⟩:=h;exact#[x,h1,by simp]
abbrev yf (f:FA):FI:=λZ S=>match f Z S with
 | some ([x],S1)=>match Gb x with
  | some xs=>ba (.its (lr xs),S1)
  | none=>gV
 | _=>gV
section
variable{X:Cx}{J:Ho (Hv×Jg)}{Y:L2.St}{H:Hp}{s:Ht}{A:Ho Hv}
def uM {S1:Zs}{xs:Ho W}(z1:ZRel X.K A H xs S1):MIt X.w X.K (.its (lr xs)) (GV X.K S1) A H:=by
 show#[λA' H' S i w e so hi=>?_,λA' H' S i e so hi=>?_]
 ·simp only[MI.at,IG]at hi;obtain⟨x,e1,rfl⟩:=mL hi;obtain⟨v,g1,r1⟩:=(z1.mono e).at e1;show#[#[v,g1],λp H2 #[a,v',q1,hp,hn,hH]=>?_]
  subst hp hH;have ex:Ext X.K A' H' A' (aA H' a (.tup [.int i,v'])):=aN (.inl hn);exact#[ex,so.lay hn,.tup (.of ak) #v[.int,((z1.mono e).is e1 q1).mono ex]]
 ·simp only[MI.at,IG,JP,lr,HB,List.length_zipIdx]at hi;exact(z1.mono e).out hi
def rH:bootBuiltins "enumerate" = ba (.type "enumerate"):=rfl
def yg {els:Ho HH}{k0:Hz}{tp:Jw}{a:HH}{f:FA}{p pos:Jw}(hg:Gl X "enumerate")(hm:X.mg "enumerate" = gV)(ha:GA X [a] f)(hs:starEach [a] X.env=[(false,eval a X.env)]) :
  GI X (.Tuple els k0 tp) (.Call (.Name "enumerate" p) [a] [] pos) (yf f):=by
 intro J s Y H R I ⟨A,Z,S,mi,S',er,so,e,hq⟩;unfold yf at e;split at e
 ·rename_i x S1 h1;split at e
  ·rename_i xs e1;cases e;show Call_ (gr I hg hm rH (J6 (aG (ha pos J s Y H _ I #[A,Z,S,_,_,er,so,h1,λ_ _ z=>z]) λus s1 #[vs,H1,I1,r1,A1,z1,z2,z3]=>?_) (by rw[hs]; rfl) (by rfl)))
   cases z3 with
   | cons ra t=>
    cases t;cases r1 with
    | cons ua t=>
     cases t;obtain⟨Sa,oa,Ca,za,ia,ca,ka,na,ta⟩:=ye I1 ra ua e1;show rF ia ca na λh' hz g1 kp=>?_
     have I2:Inv X J Y H1 { s1 with heap:=h' }:=I1.kept (t':=s1.toks) kp
     show N7 (s:={ s1 with heap:=h' }) hz ?_
     show#[s1.heap.objs.size+1,_,_,_,H1,rfl,I2,rG (S1:=Sa) (i1:=s1.heap.objs.size) (by simp),#[#[_,hz],ta _ _ g1],λb hb=>?_,hq _ _ A1 z1 z2 (uM za)]
     have hb':s1.heap.objs.size<=b:=by
      simp only[Ij,JU,L5]at hb;rcases hb with rfl|rfl
      ·exact Nat.le_add_right _ _
      ·exact HJ _
     exact I1.fpOk hb' (I1.hok.fresh hb')
  ·cases e
 ·cases e
end
end Mi
namespace Mi
open PySem PySem.Spec PyProof.Rows L2
abbrev Bl (g1 g2:Ho W->aa->Hs (W×aa))(xs:Ho W)(S:aa):Hs (W×aa):=match g1 xs S with
 | some r=>ba r
 | none=>g2 xs S
def mM {X:Cx}{f:Hr}{g1 g2:Ho W->aa->Hs (W×aa)}(h1:LCall X f g1)(h2:LCall X f g2):LCall X f (Bl g1 g2):=by
 intro J s Y H A S xs vs us w S' I so rl rv e;unfold Bl at e;split at e
 ·rename_i r hr;cases e;exact h1 J s Y H A S xs vs us w S' I so rl rv hr
 ·exact h2 J s Y H A S xs vs us w S' I so rl rv e
inductive Bi where|len|str|list|tuple|int|sorted|range|all|min
 deriving KH
abbrev Bi.fn:Bi->Ho W->aa->Hs (W×aa)
 | .len=>n0|.str=>xX|.list=>Bl lX jZ|.tuple=>iV|.int=>Dl|.sorted=>fO|.range=>nW|.all=>xD|.min=>Bl xC t6
abbrev Bi.name:Bi->HC
 | .len=>"len"|.str=>"str"|.list=>"list"|.tuple=>"tuple"|.int=>"int"|.sorted=>"sorted"|.range=>"range"|.all=>"all"|.min=>"min"
inductive Me where|append|extend|join|pop|get
 deriving KH
abbrev Me.fn:Me->W->Ho W->aa->Hs (W×aa)
 | .append=>fL|.extend=>kX|.join=>pk|.pop=>AO|.get=>tL
abbrev Me.name:Me->HC
 | .append=>"append"|.extend=>"extend"|.join=>"join"|.pop=>"pop"|.get=>"get"
abbrev Me.ty:Me->Jb
 | .append=>"list"|.extend=>"list"|.join=>"str"|.pop=>"list"|.get=>"dict"
inductive Tg where
 | nm (i:Hz)|tp (is:Ho Hz)
set_option genSizeOf false in
set_option genInjectivity false in
mutual
inductive E where
 | c (w:W)|v (i:Hz)|sem (g:FE)
 | op (o:BOp) (a b:E)
 | cmp (o:COp) (a b:E)
 | and (a b:E)|or (a b:E)|not (a:E)
 | own (f:HC) (n:Hz) (es:Es)|bi (b:Bi) (es:Es)|me (m:Me) (o:E) (es:Es)
 | ix (a b:E)|sl (a:E) (lo hi:Ep)|tup (es:Es)|lst (es:Es)
 | isi (c:Jb) (a:E)
 | neg (a:E)|dnew|disp (es:Es)|chn (o o':COp) (a b d:E)|ite (t a b:E)
 | comp (elt:E) (tg:Tg) (it:Ie) (cs:Es) (cap:Ho (Hs Hz))
inductive Es where
 | nil|cons (e:E) (es:Es)
inductive Ep where
 | no|yes (e:E)
inductive Ie where
 | seq (e:E)|rng (es:Es)|rng2 (es:Es)|enu (es:Es)
end
set_option genSizeOf false in
set_option genInjectivity false in
mutual
inductive Sm where
 | sem (g:(HC->FF)->FS)|set (i:Hz) (e:E)|asg (is:Ho Hz) (e:E)|par (i j:Hz) (es:Es)|pr3 (i j l:Hz) (es:Es)|put (o k e:E)
 | ex (e:E)|ret (e:E)|retN|pass|brk|cont|bad
 | ite (t:E) (a b:Ss)|whl (t:E) (b:Ss)|loop (tg:Tg) (it:Ie) (b:Ss)
inductive Ss where
 | nil|cons (s:Sm) (ss:Ss)
end
abbrev lK:Tg->FG
 | .nm i=>xR i
 | .tp is=>Bb is
section
variable (M:HC->FF)
mutual
def ar:E->FE
 | .c w=>fC w
 | .v i=>fV i
 | .sem g=>g
 | .op o a b=>t8 (eF o) (ar a) (ar b)
 | .cmp o a b=>lm o (ar a) (ar b)
 | .and a b=>pI (ar a) (ar b)
 | .or a b=>xI (ar a) (ar b)
 | .not a=>pJ (ar a)
 | .own f n es=>cY n (M f) (aX es)
 | .bi b es=>gW b.fn (aX es)
 | .me m o es=>Cv m.ty m.fn (ar o) (aX es)
 | .ix a b=>F8 (ar a) (ar b)
 | .sl a lo hi=>Ds (ar a) (pP lo) (pP hi)
 | .tup es=>rs (aX es)
 | .lst es=>uu (aX es)
 | .isi c a=>uG c (ar a)
 | .neg a=>t9 (ar a)
 | .dnew=>zv
 | .disp es=>mH (aX es)
 | .chn o o' a b d=>d0 o o' (ar a) (ar b) (ar d)
 | .ite t a b=>xJ (bF t) (ar a) (ar b)
 | .comp elt tg it cs cap=>jb (j9 it) (lK tg) (yh cs) (ar elt) cap
def bF:E->FT
 | .cmp o a b=>fP (lm o (ar a) (ar b))
 | .and a b=>uf (bF a) (bF b)
 | .or a b=>Dr (bF a) (bF b)
 | .not a=>xE (bF a)
 | .c w=>du (fC w)
 | .v i=>du (fV i)
 | .sem g=>du g
 | .op o a b=>du (t8 (eF o) (ar a) (ar b))
 | .own f n es=>du (cY n (M f) (aX es))
 | .bi b es=>du (gW b.fn (aX es))
 | .me m o es=>du (Cv m.ty m.fn (ar o) (aX es))
 | .ix a b=>du (F8 (ar a) (ar b))
 | .sl a lo hi=>du (Ds (ar a) (pP lo) (pP hi))
 | .tup es=>du (rs (aX es))
 | .lst es=>du (uu (aX es))
 | .isi c a=>du (uG c (ar a))
 | .neg a=>du (t9 (ar a))
 | .dnew=>λ_ _=>gV
 | .disp _=>λ_ _=>gV
 | .chn o o' a b d=>fP (d0 o o' (ar a) (ar b) (ar d))
 | .ite _ _ _=>λ_ _=>gV
 | .comp _ _ _ _ _=>λ_ _=>gV
def aX:Es->FA
 | .nil=>g9
 | .cons e es=>cr (ar e) (aX es)
def yh:Es->FT
 | .nil=>zw
 | .cons e .nil=>bF e
 | .cons _ (.cons _ _)=>λ_ _=>gV
def pP:Ep->FO
 | .no=>A6
 | .yes e=>pM (ar e)
def j9:Ie->FI
 | .seq e=>eU (ar e)
 | .rng es=>ol (aX es)
 | .rng2 es=>iRng2 (aX es)
 | .enu es=>yf (aX es)
end
variable (fuel:Hz)
mutual
def bv:Sm->FS
 | .sem g=>g M
 | .set i e=>d7 (ar M e) (xR i)
 | .asg is e=>d7 (ar M e) (Bb is)
 | .par i j es=>uB i j (aX M es)
 | .pr3 i j l es=>uE i j l (aX M es)
 | .put o k e=>d7 (ar M e) (xS (ar M o) (ar M k))
 | .ex e=>mz (ar M e)
 | .ret e=>mB (ar M e)
 | .retN=>λ_ S=>ba (.rt .non,S)
 | .pass=>uy
 | .brk=>λZ S=>ba (.bk Z,S)
 | .cont=>λZ S=>ba (.ct Z,S)
 | .bad=>λ_ _=>gV
 | .ite t a b=>eO (bF M t) (bH a) (bH b)
 | .whl t b=>lp (bF M t) (bH b) fuel
 | .loop tg it b=>hW (j9 M it) (lK tg) (bH b)
def bH:Ss->FS
 | .nil=>λZ S=>ba (.nx Z,S)
 | .cons s ss=>hG (bv s) (bH ss)
end
end
structure Gam where
 sc:Ho (HC×Jn)
 N:Ho HC
 fns:Ho (HC×Hz)
 blt:Ho HC
 dfn:HP
 own:Ho HC
abbrev Bm:Hs Jn->HP
 | some .local=>true|some .cell=>true|some .free=>true|_=>false
abbrev yi:Hs Jn->HP
 | some .cell=>true|some .free=>true|_=>false
abbrev ef (names outer:Ho (HC×Jn)):Ho (HC×Jn):=names.map λ(n,k)=>if (k==.free&&outer.lookup n==ba .cell)then(n,.cell)else(n,k)
abbrev slot (Γ:Gam)(x:HC):Hs Hz:=if Bm (Γ.sc.lookup x) && !(x==("__debug__" : HC)) && !(x==("__classdict__" : HC))then Γ.N.findIdx? (· == x)else gV
abbrev pQ:NO->Hs BOp
 | .Add=>ba .add|.Sub=>ba .sub|.Mult=>ba .mul|.FloorDiv=>ba .fdiv|.Mod=>ba .mod|.Pow=>ba .pow|_=>gV
abbrev gX:Ow->Hs COp
 | .Eq=>ba .eq|.NotEq=>ba .ne|.Lt=>ba .lt|.LtE=>ba .le|.Gt=>ba .gt|.GtE=>ba .ge|.In=>ba .isin|.NotIn=>ba .notin|.Is=>ba .is|.IsNot=>ba .isnot
abbrev yj (x:HC):Hs Bi:=[Bi.len,.str,.list,.tuple,.int,.sorted,.range,.all,.min].find? λb=>b.name==x
abbrev yk (x:HC):Hs Me:=[Me.append,.extend,.join,.pop,.get].find? λb=>b.name==x
abbrev DD (Γ:Gam)(x:HC):HP:=Γ.sc.lookup x==ba .globalImplicit && !(x==("__debug__" : HC))
abbrev uN (x:HC):Hs Jb:=if x==("bool" : HC)then ba "bool" else if x==("int" : HC)then ba "int" else if x==("str" : HC)then ba "str" else if x==("tuple" : HC)then ba "tuple" else if x==("list" : HC)then ba "list" else if x==("dict" : HC)then ba "dict" else gV
abbrev pR:Ho (Hs HH)->Ho HH->Ho HH
 | some k::ks,v::vs=>k::v::pR ks vs
 | _,_=>[]
abbrev ym (Γ:Gam)(f:HH->Hs E):Ho HH->Hs E
 | [a,.Name c _]=>if DD Γ c&&Γ.blt.contains c then match uN c,f a with
  | some cs,ba a'=>ba (.isi cs a')
  | _,_=>gV
  else gV
 | _=>gV
abbrev eI:HH->HP
 | .Name _ _=>true|.Constant _ _ _=>true|.Subscript _ _ _=>true|_=>false
abbrev bK (Γ:Gam)(x:HC):HP:=Γ.sc.lookup x==ba .globalImplicit && !(x==("__debug__" : HC))
abbrev aR (Γ:Gam)(x:HC):Hs Hz:=if (Γ.sc.lookup x==ba .local)||((Γ.dfn||Γ.own.contains x)&&Γ.sc.lookup x==ba .cell)then Γ.N.findIdx? (· == x)else gV
abbrev cA (f:HH->Hs E)(es:Ho HH):Hs Es:=es.foldr (λe acc=>match f e,acc with|some e',ba es'=>ba (.cons e' es')|_,_=>gV) (ba .nil)
abbrev cB (f:HH->Hs E)(op:O0):Ho HH->Hs E
 | []=>gV
 | [a]=>f a
 | a::b::au=>match f a,cB f op (b::au)with
  | some a',ba b'=>ba (match op with|.And=>.and a' b'|.Or=>.or a' b')
  | _,_=>gV
abbrev cP (f:HH->Hs E):Hs HH->Hs Ep
 | none=>ba .no
 | some e=>(f e).map .yes
abbrev isTup:HH->HP
 | .Tuple _ _ _=>true
 | _=>false
abbrev cI (Γ:Gam)(f:HH->Hs E)(tg:HH):HH->Hs Ie
 | .Call (.Name x p) [a] [] q=>if x==("range" : HC)&&bK Γ x&&Γ.blt.contains x then(cA f [a]).map .rng else if x==("enumerate" : HC)&&bK Γ x&&Γ.blt.contains x&&isTup tg then(cA f [a]).map .enu else(f (.Call (.Name x p) [a] [] q)).map .seq
 | .Call (.Name x p) [a,b] [] q=>if x==("range" : HC)&&bK Γ x&&Γ.blt.contains x then(cA f [a,b]).map .rng2 else(f (.Call (.Name x p) [a,b] [] q)).map .seq
 | e=>(f e).map .seq
abbrev zz (Γ:Gam):Ho HH->Hs (Ho Hz)
 | []=>ba []
 | .Name x _::ts=>match aR Γ x,zz Γ ts with
  | some i,ba is=>ba (i::is)
  | _,_=>gV
 | _::_=>gV
abbrev cT (Γ:Gam):HH->Hs Tg
 | .Name x _=>(aR Γ x).map .nm
 | .Tuple ts _ _=>(zz Γ ts).map .tp
 | _=>gV
abbrev eV (names:Ho (HC×Jn)):Ho HC:=(names.filter λp=>p.2==.local||p.2==.cell||p.2==.free).map (·.1)
abbrev eJ (Γ:Gam)(names:Ho (HC×Jn)):Ho (Hs Hz):=(eV names).map λx=>if names.lookup x==ba .local||names.lookup x==ba .cell then gV else Γ.N.findIdx? (· == x)
abbrev uO (Γ:Gam)(scope:Kh):HP:=
 (scope.kind==.function)&&scope.names.all (λy=>!(y.2==.local)||scope.names.lookup y.1==ba .local)&&scope.names.all (λy=>!(y.2==.cell)||scope.names.lookup y.1==ba .cell) &&
 scope.names.all (λy=>!(y.2==.free)||(yi (Γ.sc.lookup y.1)&&scope.names.lookup y.1==ba .free&&(Γ.N.findIdx? (· == y.1)).isSome))&&decide (eV scope.names).Nodup
abbrev eW (Γ:Gam)(scope:Kh):Gam:={ Γ with sc:=ef scope.names Γ.sc,N:=eV scope.names,dfn:=false,own:=(scope.names.filter λp=>p.2==.cell).map (·.1) }
abbrev uP (f:HH->Hs E)(keys:Ho (Hs HH))(values:Ho HH):Hs E:=
 if keys.isEmpty&&values.isEmpty then ba .dnew
 else if keys.all (·.isSome)&&decide (keys.length=values.length)&&decide (keys.length<=15)then(cA f (pR keys values)).map .disp else gV
abbrev cE:Hz->Gam->HH->Hs E
 | 0,_,_=>gV
 | n+1,Γ,e=>match e with
  | .Constant (.int i) _ _=>ba (.c (.int i))
  | .Constant (.str x) _ _=>ba (.c (.str x))
  | .Constant (.bool b) _ _=>ba (.c (.bl b))
  | .Constant .none _ _=>ba (.c .non)
  | .Name x _=>match slot Γ x with
   | some i=>ba (.v i)
   | none=>gV
  | .BinOp a op b _=>match pQ op,cE n Γ a,cE n Γ b with
   | some o,ba a',ba b'=>ba (.op o a' b')
   | _,_,_=>gV
  | .UnaryOp .Not a _=>(cE n Γ a).map .not
  | .UnaryOp .USub a _=>(cE n Γ a).map .neg
  | .BoolOp op vs _=>cB (cE n Γ) op vs
  | .Compare a [op] [b] _=>match gX op,cE n Γ a,cE n Γ b with
   | some o,ba a',ba b'=>ba (.cmp o a' b')
   | _,_,_=>gV
  | .Compare a [op,op'] [b,d] _=>match gX op,gX op',cE n Γ a,cE n Γ b,cE n Γ d with
   | some o,ba o',ba a',ba b',ba d'=>ba (.chn o o' a' b' d')
   | _,_,_,_,_=>gV
  | .IfExp t a b _=>match cE n Γ t,cE n Γ a,cE n Γ b with
   | some t',ba a',ba b'=>ba (.ite t' a' b')
   | _,_,_=>gV
  | .Call (.Name f _) args [] _=>if bK Γ f then match Γ.fns.lookup f with
    | some k=>(cA (cE n Γ) args).map (.own f k)
    | none=>if f==("isinstance" : HC)then(if Γ.blt.contains f then ym Γ (cE n Γ) args else gV)else match yj f,args with
     | some b,a::as=>if Γ.blt.contains f then(cA (cE n Γ) (a::as)).map (.bi b)else gV
     | _,_=>gV
   else gV
  | .Call (.Attribute o m apos) (a::as) [] cpos=>match yk m,cE n Γ o,cA (cE n Γ) (a::as)with
   | some m',ba o',ba es=>if eI o&&(apos.endLine==cpos.line)&&decide ((a::as).length < 29)then ba (.me m' o' es)else gV
   | _,_,_=>gV
  | .Subscript a (.Slice lo hi gV _) _=>match cE n Γ a,cP (cE n Γ) lo,cP (cE n Γ) hi with
   | some a',ba lo',ba hi'=>ba (.sl a' lo' hi')
   | _,_,_=>gV
  | .Subscript a b _=>match cE n Γ a,cE n Γ b with
   | some a',ba b'=>ba (.ix a' b')
   | _,_=>gV
  | .Tuple es _ _=>(cA (cE n Γ) es).map .tup
  | .List es _=>(cA (cE n Γ) es).map .lst
  | .Dict keys values _=>uP (cE n Γ) keys values
  | .ListComp elt [#[tg,iter,ifs,asy]] scope _=>if (asy==0)&&(uO Γ scope&&decide (ifs.length<=1))then
    match cI Γ (cE n Γ) tg iter,cT (eW Γ scope) tg,cA (cE n (eW Γ scope)) ifs,cE n (eW Γ scope) elt with
    | some it,ba t,ba cs,ba el=>ba (.comp el t it cs (eJ Γ scope.names))
    | _,_,_,_=>gV
   else gV
  | _=>gV
structure CtxOk (M:HC->FF)(X:Cx)(Γ:Gam):Prop where
 names:X.env.scope.names=Γ.sc
 kind:X.env.scope.kind=.function
 N:X.N=Γ.N
 nd:Γ.N.Nodup
 calm:X.calm=true
 xe:Ln (model X.prog X.w) X.A X.env X.xe
 un:X.A.units+dm < cLine
 dfn:Γ.dfn=true->∀x,X.fn x=true
 own:∀x∈Γ.own,X.fn x=true
 blt:∀x∈Γ.blt,X.mg x=gV
 fns:∀f n,Γ.fns.lookup f=ba n->∃k fa fd ps,FnOk X.prog X.w X.K X.mg X.base iG k fa fd ps (spF X.w X.K n (M f))/\Room k X.A/\X.mg f=ba (.ref fa)/\IZ X.K (.ref fa)=true/\Binds X.K fd ps []
def ag {α:Type}{x:α}{P:Prop}(h:(gV:Hs α)=ba x):P:=nomatch h
abbrev cK:HH->HP
 | .Starred _ _=>false
 | _=>true
def ap {e:HH}{es:Ho HH}{env:LL}(h:cK e=true):starEach (e::es) env=(false,eval e env)::starEach es env:=by
 cases e <;> first|rfl|cases h
def aC {env:LL}{pos:Jw}:∀ {es:Ho HH},es.all cK=true->(backTo pos (starEach es env)).any (·.1)=false
 | [],_=>rfl
 | e::es,h=>by
  rw[Io,Hu]at h;rw[ap h.1];show(false||(backTo pos (starEach es env)).any (·.1))=false
  rw[aC h.2];rfl
def mN {env:LL}{pos:Jw}:∀ {es:Ho HH},es.all cK=true->(backTo pos (starEach es env)).all (λx=>!x.1)=true
 | [],_=>rfl
 | e::es,h=>by
  rw[Io,Hu]at h;rw[ap h.1];show(true&&(backTo pos (starEach es env)).all (λx=>!x.1))=true
  rw[mN h.2];rfl
def gJ {n:Hz}{Γ:Gam}{e:HH}{e':E}(h:cE n Γ e=ba e'):cK e=true:=by
 cases n with
 | zero=>cases h
 | succ n=>cases e <;> first|rfl|(exact ag h)
def dv {f:HH->Hs E}{e:HH}{es:Ho HH}{r:Es}(h:cA f (e::es)=ba r):∃e' es',f e=ba e'/\cA f es=ba es'/\r=.cons e' es':=by
 simp only[cA,OF]at h;split at h
 ·rename_i e' es' h1 h2;cases h;exact#[e',es',h1,h2,rfl]
 ·cases h
def aW {n:Hz}{Γ:Gam}:∀ {es:Ho HH} {r:Es},cA (cE n Γ) es=ba r->es.all cK=true
 | [],_,_=>rfl
 | e::es,r,h=>by
  obtain⟨e',es',h1,h2,_⟩:=dv h;rw[Io,gJ h1,aW h2];rfl
def aF {N:Ho HC}{x:HC}{i:Hz}(h:N.findIdx? (· == x)=ba i):N[i]?=ba x:=by
 obtain⟨hl,h1,_⟩:=List.findIdx?_eq_some_iff_getElem.mp h;rw[HI hl];exact congrArg ba (eq_of_beq h1)
section
variable{M:HC->FF}{X:Cx}{Γ:Gam}
def ii {e:HH}:GT X e (λ_ _=>gV):=λJ s Y H Q I #[A,Z,S,k,S',er,so,e1,hq]=>by cases e1
def mO {x:HC}(h:Bm (X.env.scope.names.lookup x)=true):Fg X.env.scope x:=by
 unfold Bm at h;split at h
 ·exact .inl (by assumption)
 ·exact .inr (.inl (by assumption))
 ·exact .inr (.inr (by assumption))
 ·cases h
def uQ (K:CtxOk M X Γ){x:HC}{pos:Jw}{i:Hz}(h:slot Γ x=ba i):GE X (.Name x pos) (fV i):=by
 unfold slot at h;split at h
 ·rename_i hc;rw[Hu,Hu]at hc;obtain⟨⟨h1,h2⟩,h3⟩:=hc;show AU (gq (by rw[K.N]; exact aF h) (mO (by rw[K.names]; exact h1)) (by simpa using h2) (by simpa using h3))
 ·cases h
def eX (K:CtxOk M X Γ){x:HC}(h:bK Γ x=true):Gl X x/\(x==("__debug__" : HC))=false:=by
 unfold bK at h;rw[Hu]at h;show#[?_,by simpa using h.2]
 change X.env.scope.names.lookup x=_;rw[K.names];exact eq_of_beq h.1
def jc {o:Ow}{c:COp}(h:gX o=ba c):c.py=o:=by
 cases o <;> (simp only[gX,IG]at h; subst h; rfl)
def uR {o:NO}{c:BOp}(h:pQ o=ba c):c.py=o:=by
 cases o <;> simp only[pQ,IG]at h <;> first|(subst h; rfl)|cases h
def rJ {x:HC}{b:Bi}(h:yj x=ba b):b.name=x:=by
 have:=OG h;exact eq_of_beq this
def rK {x:HC}{b:Me}(h:yk x=ba b):b.name=x:=by
 have:=OG h;exact eq_of_beq this
def bD {n:Hz}(ih:∀ {e:HH} {e':E},cE n Γ e=ba e'->GE X e (ar M e')):∀ {es:Ho HH} {r:Es},cA (cE n Γ) es=ba r->GA X es (aX M r)
 | [],r,h=>by cases h; exact ut
 | e::es,r,h=>by
  obtain⟨e',es',h1,h2,rfl⟩:=dv h;exact pK (ih h1) (bD ih h2) (ap (gJ h1))
def DE (K:CtxOk M X Γ){n:Hz}{f:HC}{p pos:Jw}{args:Ho HH}{k:Hz}{r:Es}(hg:bK Γ f=true)(hf:Γ.fns.lookup f=ba k)(ha:cA (cE n Γ) args=ba r)(h:GA X args (aX M r)):GE X (.Call (.Name f p) args [] pos) (cY k (M f) (aX M r)):=by
 obtain⟨d,fa,fd,ps,F,hr,hm,hk,hb⟩:=K.fns f k hf;obtain⟨g1,g2⟩:=eX K hg;cases args with
 | nil=>cases ha; exact xM F hr g1 hm hk hb g2
 | cons a as=>
  have ns:=aW ha;rw[Io,Hu]at ns;exact A7 F hr g1 hm hk hb h g2 (ap ns.1) (aC ns.2)
def Gc (K:CtxOk M X Γ){n:Hz}{f:HC}{p pos:Jw}{a:HH}{as:Ho HH}{b:Bi}{r:Es}(hg:bK Γ f=true)(hb:yj f=ba b)(hc:Γ.blt.contains f=true)(ha:cA (cE n Γ) (a::as)=ba r)(h:GA X (a::as) (aX M r)):GE X (.Call (.Name f p) (a::as) [] pos) (gW b.fn (aX M r)):=by
 obtain⟨g1,g2⟩:=eX K hg;have hm:X.mg f=gV:=K.blt f (by simpa using hc)
 have ns:=aW ha;rw[Io,Hu]at ns;have e:=rJ hb;subst e;have hu:X.A.units+12 < cLine:=by have:=K.un; have:dm=20:=rfl; omega
 have calm:∀ {f:Hr} {g:Ho W->aa->Hs (W×aa)},(X.A.handled=gV->LCall X f g)->LCall X f g:=λh J s Y H A S xs vs us w S' I=>h (I.ok.hd K.calm) J s Y H A S xs vs us w S' I
 cases b with
 | len=>exact pL oo g1 hm PySem.boot_len h #v[] g2 (ap ns.1) (aC ns.2)
 | list=>exact mw (calm λhh=>mM (l3 hh) (mr hh)) g1 hm rfl h #v[] g2 (ap ns.1) (aC ns.2)
 | tuple=>exact mw (calm ll) g1 hm rfl h #v[] g2 (ap ns.1) (aC ns.2)
 | str=>exact mw rD g1 hm rfl h #v[] g2 (ap ns.1) (aC ns.2)
 | int=>exact mw qZ g1 hm rfl h #v[] g2 (ap ns.1) (aC ns.2)
 | sorted=>exact pL (calm λhh=>lj hh hu) g1 hm rfl h #v[] g2 (ap ns.1) (aC ns.2)
 | range=>exact mw lZ g1 hm rfl h #v[] g2 (ap ns.1) (aC ns.2)
 | all=>exact pL (calm rq) g1 hm rfl h #v[] g2 (ap ns.1) (aC ns.2)
 | min=>exact pL (calm λhh=>mM (rm hh hu) (n8 K.calm)) g1 hm rfl h #v[] g2 (ap ns.1) (aC ns.2)
def uS {x:HC}{c:Jb}(h:uN x=ba c):bootBuiltins x=ba (.type c)/\x≠"__name__":=by
 unfold uN at h;split at h
 ·rename_i e; cases h; rw[eq_of_beq e]; exact#[rfl,#v[]]
 ·split at h
  ·rename_i e; cases h; rw[eq_of_beq e]; exact#[rfl,#v[]]
  ·split at h
   ·rename_i e; cases h; rw[eq_of_beq e]; exact#[rfl,#v[]]
   ·split at h
    ·rename_i e; cases h; rw[eq_of_beq e]; exact#[rfl,#v[]]
    ·split at h
     ·rename_i e; cases h; rw[eq_of_beq e]; exact#[rfl,#v[]]
     ·split at h
      ·rename_i e; cases h; rw[eq_of_beq e]; exact#[rfl,#v[]]
      ·cases h
def DF (K:CtxOk M X Γ){n:Hz}{f:HC}{p pos:Jw}{args:Ho HH}{r:E}(hg:bK Γ f=true)(hb:(f==("isinstance" : HC))=true)(hc:Γ.blt.contains f=true)(ih:∀ {e:HH} {e':E},cE n Γ e=ba e'->GE X e (ar M e'))(h:ym Γ (cE n Γ) args=ba r) :
  GE X (.Call (.Name f p) args [] pos) (ar M r)/\∃a c,r=.isi c a:=by
 obtain⟨g1,g2⟩:=eX K hg;have hm:X.mg f=gV:=K.blt f (by simpa using hc)
 have e:=eq_of_beq hb;subst e;unfold ym at h;split at h
 ·rename_i a c q;split at h
  ·rename_i hcc;rw[Hu]at hcc;obtain⟨g3,g4⟩:=eX K (x:=c) hcc.1;have hm2:X.mg c=gV:=K.blt c (by simpa using hcc.2)
   split at h
   ·rename_i cs a' h1 h2;cases h;obtain⟨b1,b2⟩:=uS h1;exact#[Bj g1 hm g3 hm2 b1 b2 g4 (ih h2) (ap (gJ h2)),a',cs,rfl]
   ·cases h
  ·cases h
 ·cases h
def db {o:HH}{name:HC}{env:LL}(h:eI o=true):attributeBase o name env (eval o env)=eval o env:=by
 cases o <;> first|rfl|cases h
def pS {n:Hz}{pos:Jw}(ih:∀ {e:HH} {e':E},cE n Γ e=ba e'->GE X e (ar M e')):∀(keys:Ho (Hs HH)) (values:Ho HH) {r:Es},keys.all (·.isSome)=true->keys.length=values.length->cA (cE n Γ) (pR keys values)=ba r->DA X pos keys values (aX M r)
 | [],[],r,_,_,h=>by cases h; exact x9
 | [],_::_,r,_,hl,_=>by cases hl
 | _::_,[],r,_,hl,_=>by cases hl
 | none::_,_::_,r,ha,_,_=>by cases ha
 | some k::ks,v::vs,r,ha,hl,h=>by
  dsimp only[pR]at h;obtain⟨e1,es1,h1,h2,rfl⟩:=dv h;obtain⟨e2,es2,h3,h4,rfl⟩:=dv h2;rw[Io,Hu]at ha;exact uH (ih h1) (ih h3) (pS ih ks vs ha.2 (by simpa using hl) h4)
def Gd (K:CtxOk M X Γ){n:Hz}{m:HC}{apos cpos:Jw}{o a:HH}{as:Ho HH}{b:Me}{o':E}{r:Es}(hm:yk m=ba b)(hr:eI o=true)(hl:(apos.endLine==cpos.line)=true)(hn:(a::as).length < 29)(ho:GE X o (ar M o'))(ha:cA (cE n Γ) (a::as)=ba r)(h:GA X (a::as) (aX M r)) :
  GE X (.Call (.Attribute o m apos) (a::as) [] cpos) (Cv b.ty b.fn (ar M o') (aX M r)):=by
 have ns:=aW ha;have ns':=ns;rw[Io,Hu]at ns;have vo:((backTo cpos (starEach (a::as) X.env)).all (λx=>!x.1)&&(backToKw cpos (keywordEach [] X.env)).all (λx=>x.1.isSome)&&decide ((a::as).length+([]:Ho My).length+(if ([]:Ho My).isEmpty then 0 else 1) < 30))=true:=by
  rw[mN ns',Nr,Hu];exact#[rfl,Ji (by simp only[JE,List.isEmpty_nil,Kr]; omega)]
 have e:=rK hm;subst e;cases b with
 | append=>exact mx La PySem.F.slot_list_append PySem.F.type_list_append kW ho h (db hr) vo hl (ap ns.1) (aC ns.2)
 | extend=>exact mx La PySem.F.slot_list_extend PySem.F.type_list_extend kY ho h (db hr) vo hl (ap ns.1) (aC ns.2)
 | join=>exact mx PySem.F.plainAttrs_str PySem.F.slot_str_join PySem.F.type_str_join nV ho h (db hr) vo hl (ap ns.1) (aC ns.2)
 | pop=>exact mx La PySem.F.slot_list_pop PySem.F.type_list_pop q8 ho h (db hr) vo hl (ap ns.1) (aC ns.2)
 | get=>exact mx PySem.F.plainAttrs_dict MQ PySem.F.type_dict_get (nX (by have:=K.un; have:dm=20:=rfl; omega)) ho h (db hr) vo hl (ap ns.1) (aC ns.2)
def fS {n:Hz}{Γ:Gam}{e:HH}{e':E}{op:Ow}(h:cE n Γ e=ba e'):behindInMarks op e=false:=by
 cases n with
 | zero=>cases h
 | succ n=>cases e <;> first|rfl|(exact ag h)
def ow {n:Hz}{Γ:Gam}{e:HH}{e':E}(h:cE n Γ e=ba e'):kJ e:=by
 cases n with
 | zero=>cases h
 | succ n=>cases e <;> first|(intro o i; rfl)|(exact ag h)
def ij {n:Hz}{Γ:Gam}{f:HH->Hs E}{e:HH}{i:Ie}{env:LL}{tg:HH}(hf:∀el k p,f (.Set el k p)=gV)(h:cI Γ f tg e=ba i):∀x,foldedSetIterable e env x=pure x:=by
 intro x;cases e <;> first|rfl|(simp[cI,hf]at h)
def ls {n:Hz}{op:O0}{pos:Jw}(ih:∀ {e:HH} {e':E},cE n Γ e=ba e'->GE X e (ar M e')):∀ {vs:Ho HH} {r:E},cB (cE n Γ) op vs=ba r->GE X (.BoolOp op vs pos) (ar M r)
 | [],r,h=>by cases h
 | [a],r,h=>um (ih h)
 | a::b::au,r,h=>by
  simp only[cB]at h;split at h
  ·rename_i a' b' h1 h2;cases h;cases op with
   | And=>exact uq (ih h1) (ls ih h2)
   | Or=>exact zr (ih h1) (ls ih h2)
  ·cases h
def lu {n:Hz}{op:O0}{pos:Jw}(ih:∀ {e:HH} {e':E},cE n Γ e=ba e'->GT X e (bF M e')):∀ {vs:Ho HH} {r:E},cB (cE n Γ) op vs=ba r->GW X (.BoolOp op vs pos) (bF M r)
 | [],r,h=>by cases h
 | [a],r,h=>by
  cases op with
  | And=>exact pH (ih h)
  | Or=>exact uh (ih h)
 | a::b::au,r,h=>by
  simp only[cB]at h;split at h
  ·rename_i a' b' h1 h2;cases h;cases op with
   | And=>exact uj (ih h1) (lu ih h2)
   | Or=>exact zq (ih h1) (lu ih h2)
  ·cases h
def uT {n:Hz}(ih:∀ {e:HH} {e':E},cE n Γ e=ba e'->GE X e (ar M e')){o:Hs HH}{p:Ep}(h:cP (cE n Γ) o=ba p):GO X o (pP M p):=by
 cases o with
 | none=>cases h; exact xK
 | some e=>
  simp only[cP,Hx]at h;obtain⟨e',h1,rfl⟩:=h;exact xL (ih h1)
def lv (K:CtxOk M X Γ){n:Hz}(ih:∀ {e:HH} {e':E},cE n Γ e=ba e'->GE X e (ar M e')){tg e:HH}{i:Ie}(h:cI Γ (cE n Γ) tg e=ba i):GI X tg e (j9 M i):=by
 have gen:(cE n Γ e).map Ie.seq=ba i->GI X tg e (j9 M i):=λh=>by
  rw[Hx]at h;obtain⟨e',h1,rfl⟩:=h;exact yc (ih h1)
 unfold cI at h;split at h
 ·rename_i x p a pos;split at h
  ·rename_i hc;rw[Hu,Hu]at hc;obtain⟨⟨h1,h2⟩,h3⟩:=hc;have hx:=eq_of_beq h1;subst hx;rw[Hx]at h;obtain⟨r,hr,rfl⟩:=h;have ns:=aW hr;rw[Io,Hu]at ns;exact x5 (eX K h2).1 (K.blt _ (by simpa using h3)) (bD ih hr) (ap ns.1)
  ·split at h
   ·rename_i hc;rw[Hu,Hu,Hu]at hc;obtain⟨⟨⟨h1,h2⟩,h3⟩,h4⟩:=hc;have hx:=eq_of_beq h1;subst hx;rw[Hx]at h;obtain⟨r,hr,rfl⟩:=h;have ns:=aW hr;rw[Io,Hu]at ns;cases tg with
    | Tuple els k0 tp=>exact yg (eX K h2).1 (K.blt _ (by simpa using h3)) (bD ih hr) (ap ns.1)
    | _=>cases h4
   ·exact gen h
 ·rename_i x p a b pos;split at h
  ·rename_i hc;rw[Hu,Hu]at hc;obtain⟨⟨h1,h2⟩,h3⟩:=hc;have hx:=eq_of_beq h1;subst hx;rw[Hx]at h;obtain⟨r,hr,rfl⟩:=h;have ns:=aW hr;rw[Io,Io,Hu,Hu]at ns;exact x6 (eX K h2).1 (K.blt _ (by simpa using h3)) (bD ih hr) (by rw[ap ns.1,ap ns.2.1]; rfl) (ap ns.2.1)
  ·exact gen h
 ·exact gen h
def ik (K:CtxOk M X Γ){x:HC}{i:Hz}(h:aR Γ x=ba i):X.N[i]?=ba x/\sg X.env.scope x/\(X.fn x=true\/X.env.scope.names.lookup x=ba .local):=by
 unfold aR at h;split at h
 ·rename_i hc;show#[by rw[K.N]; exact aF h,?_]
  unfold L2.sg;rw[K.names];rw[Jj,Hu]at hc;rcases hc with hc|⟨hd,hc⟩
  ·have:=eq_of_beq hc;exact#[.inl this,.inr this]
  ·rw[Jj]at hd;exact#[.inr (eq_of_beq hc),.inl (hd.elim (λhd=>K.dfn hd x) λhd=>K.own x (by simpa using hd))]
 ·cases h
def jd (K:CtxOk M X Γ):∀ {ts:Ho HH} {is:Ho Hz},zz Γ ts=ba is->(∀x∈ts,∃y p,x=Nd y p)/\Mw (λ(t:HH) (i:Hz)=>∃x p,t=Nd x p/\X.N[i]?=ba x/\sg X.env.scope x/\(X.fn x=true\/X.env.scope.names.lookup x=ba .local)) ts is
 | [],is,h=>by cases h; exact#[λx hx=>by simp at hx,.nil]
 | t::ts,is,h=>by
  cases t with
  | Name x p=>
   dsimp only[zz]at h;split at h
   ·rename_i i is' h1 h2;cases h;obtain⟨a,b⟩:=jd K h2;exact#[λy hy=>(Ij.mp hy).elim (λe=>#[x,p,e]) (a y),.cons #[x,p,rfl,ik K h1] b]
   ·cases h
  | _=>cases h
def cu {env:LL}:∀ {ts:Ho HH},(∀x∈ts,∃y p,x=Nd y p)->(assignEach ts env).length=ts.length/\(assignEach ts env).findIdx? (·.1)=gV
 | [],_=>#[rfl,rfl]
 | t::ts,h=>by
  obtain⟨y,p,rfl⟩:=h t Iw;obtain⟨a,b⟩:=cu (env:=env) λx hx=>h x (Ig _ hx)
  show#[by show(assignEach ts env).length+1=ts.length+1; rw[a],?_]
  change List.findIdx? (·.1) ((false,assign (.Name y p) env)::assignEach ts env)=gV
  rw[List.findIdx?_cons,b];rfl
def kh (K:CtxOk M X Γ){tg:HH}{t:Tg}(h:cT Γ tg=ba t):GG X tg (lK t):=by
 have hN:X.N.Nodup:=by rw[K.N]; exact K.nd
 cases tg with
 | Name x p=>
  dsimp only[cT]at h; simp only[Hx]at h
  obtain⟨i,h1,rfl⟩:=h;obtain⟨a,b,c⟩:=ik K h1;exact ig hN a b c
 | Tuple ts k p=>
  dsimp only[cT]at h; simp only[Hx]at h
  obtain⟨is,h1,rfl⟩:=h;obtain⟨a,b⟩:=jd K h1;exact uA K.calm a b hN (cu a).1 (cu a).2
 | _=>cases h
end
abbrev cL (env:LL):Ho (HC×Jn)->Ho (HC×Hv)->Ho (HC×Hv)
 | [],cs=>cs
 | (n,k)::r,cs=>cL env r (if k==.free then(n,(env.cells.lookup n).getD 0)::cs else cs)
def gK {env:LL}:∀(names:Ho (HC×Jn)) (cs:Ho (HC×Hv)),(∀y∈names,y.2=.free->(env.cells.lookup y.1).isSome=true)->
  (forIn names cs λx r=>match x with|(name,kind)=>if (kind==KZ)=true then do let a <- cellOf env name; pure (JF ((name,a)::r))else pure (JF r):O6 (Ho (HC×Hv)))=pure (cL env names cs)
 | [],cs,_=>by rw[LZ]; rfl
 | (n,k)::r,cs,h=>by
  rw[Lz];have hr:=λy hy=>h y (Ig _ hy)
  by_cases hk:(k==KZ)=true
  ·obtain⟨c,hc⟩:=IM.mp (h (n,k) Iw (eq_of_beq hk));have e1:cellOf env n=pure c:=by unfold cellOf; rw[hc]
   simp only[hk,Kr,e1,pure_bind];rw[gK r _ hr];simp only[cL,hk,Kr,hc,Lp]
  ·have hk':(k==KZ)=false:=by simpa using hk
   simp only[hk',IK,JQ,pure_bind];rw[gK r _ hr];simp only[cL,hk',IK,JQ]
def hX {scope:Kh}{env:LL}(h:∀y∈scope.names,y.2=.free->(env.cells.lookup y.1).isSome=true):closureFor scope env=pure (cL env scope.names []):=by
 have:=gK scope.names [] h;unfold closureFor;simp only[this,pure_bind]
def je {env:LL}:∀(names:Ho (HC×Jn)) (cs:Ho (HC×Hv)),(∀y∈names,y.2=.free->(env.cells.lookup y.1).isSome=true)->(∀x c,cs.lookup x=ba c->env.cells.lookup x=ba c)->
  ∀x c,(cL env names cs).lookup x=ba c->env.cells.lookup x=ba c
 | [],cs,_,h,x,c,e=>h x c e
 | (n,k)::r,cs,hn,h,x,c,e=>by
  show je r _ (λy hy=>hn y (Ig _ hy)) (λx c e=>?_) x c e
  split at e
  ·rename_i hk;rw[IC]at e;split at e
   ·rename_i hx;cases e;have:=eq_of_beq hx;subst this;obtain⟨c,hc⟩:=IM.mp (hn (x,k) Iw (eq_of_beq hk));rw[hc]; rfl
   ·exact h x c e
  ·exact h x c e
def gY {env:LL}{x:HC}:∀(names:Ho (HC×Jn)) (cs:Ho (HC×Hv)),(∃c,cs.lookup x=ba c)->∃c,(cL env names cs).lookup x=ba c
 | [],cs,h=>h
 | (n,k)::r,cs,h=>by
  show gY r _ ?_;split
  ·rw[IC];split
   ·exact#[_,rfl]
   ·exact h
  ·exact h
def jf {env:LL}{x:HC}:∀(names:Ho (HC×Jn)) (cs:Ho (HC×Hv)),(x,KZ)∈names->∃c,(cL env names cs).lookup x=ba c
 | [],cs,h=>by simp at h
 | (n,k)::r,cs,h=>by
  rcases Ij.mp h with e|h
  ·cases e;show gY r _ ?_;simp[IC]
  ·exact jf r _ h
def jg {x:HC}{k:Jn}:∀ {l:Ho (HC×Jn)},l.lookup x=ba k->(x,k)∈l
 | [],h=>by simp at h
 | (n,j)::r,h=>by
  rw[IC]at h;split at h
  ·rename_i hx;cases h;have:=eq_of_beq hx;subst this;exact Iw
  ·exact Ig _ (jg h)
def cM {X:Cx}{M:HC->FF}{Γ:Gam}(K:CtxOk M X Γ)(scope:Kh):(relabel scope X.env).names=ef scope.names Γ.sc:=by
 unfold relabel ef K5;rw[K.kind,K.names];show Ks λ#[n,k] _=>?_
 have e:(NF==NF)=true:=rfl;simp only[e,Mn]
def cv {outer:Ho (HC×Jn)}{x:HC}:∀ {names:Ho (HC×Jn)},(ef names outer).lookup x=(names.lookup x).map λk=>if (k==.free&&outer.lookup x==ba .cell)then .cell else k
 | []=>rfl
 | (n,k)::r=>by
  have ih:=cv (outer:=outer) (x:=x) (names:=r);change KJ x ((if (k==KZ&&outer.lookup n==ba .cell)=true then(n,KC)else(n,k))::ef r outer)=_
  cases hx:x==n with
  | true=>
   have:=eq_of_beq hx;subst this;simp only[IC,IP,IW];split <;> simp[IC]
  | false=>
   simp only[IC,hx];split <;> (simp only[IC,hx]; exact ih)
section
variable{M:HC->FF}{X:Cx}{Γ:Gam}
structure ScOk (Γ:Gam)(scope:Kh):Prop where
 kind:scope.kind=.function
 names:∀y∈scope.names,y.2=.local->scope.names.lookup y.1=ba .local
 cell:∀y∈scope.names,y.2=.cell->scope.names.lookup y.1=ba .cell
 free:∀y∈scope.names,y.2=.free->yi (Γ.sc.lookup y.1)=true/\scope.names.lookup y.1=ba .free/\(Γ.N.findIdx? (· == y.1)).isSome=true
 nd:(eV scope.names).Nodup
def pT {scope:Kh}(h:uO Γ scope=true):ScOk Γ scope:=by
 unfold uO at h;rw[Hu,Hu,Hu,Hu]at h;obtain⟨⟨⟨⟨h1,h2⟩,h3⟩,h4⟩,h5⟩:=h;show#[eq_of_beq h1,λy hy e=>?_,λy hy e=>?_,λy hy e=>?_,IX h5]
 ·have:=Ih.mp h2 y hy;rw[e]at this
  simpa using this
 ·have:=Ih.mp h3 y hy;rw[e]at this
  simpa using this
 ·have:=Ih.mp h4 y hy;rw[e]at this;simp only[IP,Ls,Mo,Hu]at this;exact#[this.1.1,eq_of_beq this.1.2,this.2]
def pU {o:Hs Jn}(h:yi o=true):o=ba .cell\/o=ba .free:=by
 unfold yi at h;split at h
 ·exact .inl rfl
 ·exact .inr rfl
 ·cases h
def ki (K:CtxOk M X Γ)(ok:X.Ok){scope:Kh}(sc:ScOk Γ scope):CompOk X scope (cL X.env scope.names []) (eV scope.names) (eJ Γ scope.names):=by
 have cells:∀y∈scope.names,y.2=.free->(X.env.cells.lookup y.1).isSome=true:=λy hy e=>by
  have hk:=pU (sc.free y hy e).1;obtain⟨c,hc⟩:=ok.has y.1 (by unfold K5; rw[K.names]; exact hk)
  rw[hc]; rfl
 have relab:∀x,((relabel scope X.env).names.lookup x=ba .cell\/(relabel scope X.env).names.lookup x=ba .free)->(x,KC)∈scope.names\/(x,KZ)∈scope.names:=λx h=>by
  rw[cM K,cv]at h;cases q:scope.names.lookup x with
  | none=>rw[q]at h; rcases h with h|h <;> cases h
  | some k=>
   rw[q]at h;have hm:=jg q;cases k with
   | free=>exact .inr hm
   | cell=>exact .inl hm
   | _=>rcases h with h|h <;> simp at h
 show#[hX cells,sc.kind,sc.names,je _ _ cells (λx c e=>by cases e),λm x h=>gI _ _ _ ((relab x h).imp id λz=>jf _ _ z),by simp[eJ],λi j x hi hx=>?_]
 unfold eJ at hi;rw[HQ,hx]at hi;simp only[IW,IG]at hi;split at hi
 ·cases hi
 ·rename_i hl;have hx2:x∈eV scope.names:=Jq hx;unfold eV at hx2;obtain⟨⟨x',k⟩,hf,e⟩:=IS.mp hx2;obtain⟨hm,hk⟩:=Ke.mp hf;have e':x'=x:=e;subst e';have hkf:k=.free:=by
   simp only[Jj]at hk;rcases hk with(hk|hk)|hk
   ·have:k=.local:=eq_of_beq hk;subst this;have:=sc.names (x',.local) hm rfl;rw[this]at hl;simp at hl
   ·have:k=.cell:=eq_of_beq hk;subst this;have:=sc.cell (x',.cell) hm rfl;rw[this]at hl;simp at hl
   ·exact eq_of_beq hk
  subst hkf;obtain⟨f1,f2,f3⟩:=sc.free _ hm rfl;show#[by rw[K.N]; exact aF hi,by unfold K5; rw[K.names]; exact pU f1,?_,λz=>by rw[sc.cell _ z rfl]at f2; cases f2]
  rw[cM K,cv,f2];simp only[IW,IG,IP,Nr];split
  ·exact .inl rfl
  ·exact .inr rfl
def dc (K:CtxOk M X Γ){scope:Kh}(sc:ScOk Γ scope)(C:Hv)(s0:Ht)(H0:Hp)(ex:Ho Hv):CtxOk M (jB X scope (cL X.env scope.names []) C (eV scope.names) s0 H0 ex) (eW Γ scope) where
 names:=cM K scope
 kind:=sc.kind
 N:=rfl
 nd:=sc.nd
 calm:=K.calm
 xe:=LB
 un:=K.un
 dfn:=λh=>by cases h
 own:=λx h=>by
  obtain⟨⟨y,k⟩,hy,e⟩:=IS.mp h;obtain⟨hm,hk⟩:=Ke.mp hy;have e':y=x:=e;subst e';exact Os.mpr #[(y,k),hm,by simpa using hk]
 blt:=K.blt
 fns:=K.fns
def mP {cs:Es}{n:Hz}{ifs:Ho HH}{Γ:Gam}(hl:ifs.length<=1)(hc:cA (cE n Γ) ifs=ba cs){Yj:Cx}(ih:∀ {e:HH} {e':E},cE n Γ e=ba e'->GT Yj e (bF M e'))(hx:Yj.xe=λ_ _=>ID) :
  ∀J s Y H Q,Inv Yj J Y H s->tT Yj (yh M cs) Y H Q->
  wpAny (model Yj.prog Yj.w) Yj.A (forIn ifs true λc r=>if r=true then do let ok <- isTrue c Yj.env (eval c Yj.env); pure (JF ok)else pure (JF r)) (TP Yj J Y Q) (λ_ _=>ID) s:=by
 intro J s Y H Q I h
 match ifs,hl,hc with
 | [],_,hc=>
  cases hc;obtain⟨A,Z,S,k,S',er,so,e,hq⟩:=h;cases e;exact wpAny_tests_nil #[H,I,hq _ _ #[rfl,A,.refl,so]]
 | [c],_,hc=>
  obtain⟨e',es',h1,h2,rfl⟩:=dv hc;cases h2;have:=ih h1 J s Y H Q I h;rw[hx]at this;exact wpAny_tests_one this
def aE:∀(n:Hz) {Γ:Gam} {X:Cx} {e:HH} {e':E},CtxOk M X Γ->cE n Γ e=ba e'->GE X e (ar M e')/\GT X e (bF M e'):=by
 intro n
 induction n with
 | zero=>intro Γ X e e' K h; cases h
 | succ n ih=>
  intro Γ X e e' K h;have ihE:∀ {e:HH} {e':E},cE n Γ e=ba e'->GE X e (ar M e'):=λq=>(ih K q).1
  have ihT:∀ {e:HH} {e':E},cE n Γ e=ba e'->GT X e (bF M e'):=λq=>(ih K q).2
  have hu10:X.A.units+10 < cLine:=by have:=K.un; have:dm=20:=rfl; omega
  cases e with
  | Constant c k p=>
   cases c <;> cases h
   all_goals first
    | exact#[dZ kF (λ_ _=>.non),aJ (dZ kF (λ_ _=>.non)) λ_=>rfl]
    | exact#[dZ lL (λ_ _=>.bl),aJ (dZ lL (λ_ _=>.bl)) λ_=>rfl]
    | exact#[dZ kE (λ_ _=>.int),aJ (dZ kE (λ_ _=>.int)) λ_=>rfl]
    | exact#[dZ kG (λ_ _=>.str),aJ (dZ kG (λ_ _=>.str)) λ_=>rfl]
  | Name x p=>
   replace h:(match slot Γ x with|some i=>ba (E.v i)|none=>gV)=ba e':=h
   split at h
   ·rename_i i h1;cases h;exact#[uQ K h1,aJ (uQ K h1) λ_=>rfl]
   ·cases h
  | BinOp a op b p=>
   replace h:(match pQ op,cE n Γ a,cE n Γ b with|some o,ba a',ba b'=>ba (E.op o a' b')|_,_,_=>gV)=ba e':=h
   split at h
   ·rename_i o a' b' h1 h2 h3;cases h;have e:=uR h1;subst e;exact#[zp (pf o) (ihE h2) (ihE h3),aJ (zp (pf o) (ihE h2) (ihE h3)) λ_=>rfl]
   ·cases h
  | UnaryOp op a p=>
   cases op with
   | Not=>
    replace h:(cE n Γ a).map E.not=ba e':=h;rw[Hx]at h;obtain⟨a',h1,rfl⟩:=h;exact#[ur (ihE h1),uk (ihT h1)]
   | USub=>
    replace h:(cE n Γ a).map E.neg=ba e':=h;rw[Hx]at h;obtain⟨a',h1,rfl⟩:=h;exact#[ub (ihE h1),aJ (ub (ihE h1)) λ_=>rfl]
   | _=>exact ag h
  | BoolOp op vs p=>
   replace h:cB (cE n Γ) op vs=ba e':=h;exact#[ls ihE h,(lu ihT h).pt]
  | Compare a ops cs p=>
   match ops,cs,h with
   | [op],[b],h=>
    replace h:(match gX op,cE n Γ a,cE n Γ b with|some o,ba a',ba b'=>ba (E.cmp o a' b')|_,_,_=>gV)=ba e':=h
    split at h
    ·rename_i o a' b' h1 h2 h3;cases h;have e:=jc h1;subst e;exact#[AV K.un (ihE h2) (ihE h3) (fS h3),AW K.un (ihE h2) (ihE h3) (fS h3)]
    ·cases h
   | [],_,h=>exact ag h
   | [_],[],h=>exact ag h
   | [_],_::_::_,h=>exact ag h
   | [op,op'],[b,d],h=>
    replace h:(match gX op,gX op',cE n Γ a,cE n Γ b,cE n Γ d with|some o,ba o',ba a',ba b',ba d'=>ba (E.chn o o' a' b' d')|_,_,_,_,_=>gV)=ba e':=h
    split at h
    ·rename_i o o' a' b' d' h1 h2 h3 h4 h5;cases h;have e:=jc h1;subst e;have e:=jc h2;subst e;exact#[ud K.un (ihE h3) (ihE h4) (ihE h5) (fS h5),ue K.un (ihE h3) (ihE h4) (ihE h5) (fS h5)]
    ·cases h
   | [_,_],[],h=>exact ag h
   | [_,_],[_],h=>exact ag h
   | [_,_],_::_::_::_,h=>exact ag h
   | _::_::_::_,_,h=>exact ag h
  | IfExp t a b p=>
   replace h:(match cE n Γ t,cE n Γ a,cE n Γ b with|some t',ba a',ba b'=>ba (E.ite t' a' b')|_,_,_=>gV)=ba e':=h
   split at h
   ·rename_i t' a' b' h1 h2 h3;cases h;exact#[AX (ihT h1) (ihE h2) (ihE h3),ii]
   ·cases h
  | Call f args kws p=>
   cases kws with
   | cons _ _=>cases f <;> first|(exact ag h)|(cases args <;> (exact ag h))
   | nil=>
    cases f with
    | Name x q=>
     replace h:(if bK Γ x then match Γ.fns.lookup x with|some k=>(cA (cE n Γ) args).map (E.own x k)|none=>if x==("isinstance" : HC)then(if Γ.blt.contains x then ym Γ (cE n Γ) args else gV)else match (generalizing:=false) yj x,args with|some b,a::as=>if Γ.blt.contains x then(cA (cE n Γ) (a::as)).map (E.bi b)else gV|_,_=>gV else gV)=ba e':=h
     split at h
     ·rename_i hg;split at h
      ·rename_i k hk;rw[Hx]at h;obtain⟨r,hr,rfl⟩:=h;have g:=DE (pos:=p) (p:=q) K hg hk hr (bD ihE hr);exact#[g,aJ g λ_=>rfl]
      ·split at h
       ·rename_i his;split at h
        ·rename_i hc;obtain⟨g,a',c',rfl⟩:=DF (pos:=p) (p:=q) K hg his hc ihE h;exact#[g,aJ g λ_=>rfl]
        ·cases h
       ·split at h
        ·rename_i bb a as hb;split at h
         ·rename_i hc;rw[Hx]at h;obtain⟨r,hr,rfl⟩:=h;have g:=Gc (pos:=p) (p:=q) K hg hb hc hr (bD ihE hr);exact#[g,aJ g λ_=>rfl]
         ·cases h
        ·cases h
     ·cases h
    | Attribute o m q=>
     cases args with
     | nil=>exact ag h
     | cons a as=>
      replace h:(match yk m,cE n Γ o,cA (cE n Γ) (a::as)with|some m',ba o',ba es=>if eI o&&(q.endLine==p.line)&&decide ((a::as).length < 29)then ba (E.me m' o' es)else gV|_,_,_=>gV)=ba e':=h
      split at h
      ·rename_i m' o' es h1 h2 h3;split at h
       ·rename_i hc;rw[Hu,Hu,Im]at hc;cases h;have g:=Gd K (cpos:=p) (apos:=q) h1 hc.1.1 hc.1.2 hc.2 (ihE h2) h3 (bD ihE h3);exact#[g,aJ g λ_=>rfl]
       ·cases h
      ·cases h
    | _=>exact ag h
  | Subscript a b p=>
   have plain:(match cE n Γ a,cE n Γ b with|some a',ba b'=>ba (E.ix a' b')|_,_=>gV)=ba e'->GE X (.Subscript a b p) (ar M e')/\GT X (.Subscript a b p) (bF M e'):=λh=>by
    split at h
    ·rename_i a' b' h1 h2;cases h;have g:=Dt (pos:=p) hu10 (ihE h1) (ihE h2) (ow h2);exact#[g,aJ g λ_=>rfl]
    ·cases h
   cases b with
   | Slice lo hi st q=>
    cases st with
    | none=>
     replace h:(match cE n Γ a,cP (cE n Γ) lo,cP (cE n Γ) hi with|some a',ba lo',ba hi'=>ba (E.sl a' lo' hi')|_,_,_=>gV)=ba e':=h
     split at h
     ·rename_i a' lo' hi' h1 h2 h3;cases h;have g:=Du (pos:=p) (p2:=q) (ihE h1) (uT ihE h2) (uT ihE h3);exact#[g,aJ g λ_=>rfl]
     ·cases h
    | some z=>exact plain h
   | _=>exact plain h
  | Tuple es k p=>
   replace h:(cA (cE n Γ) es).map E.tup=ba e':=h;rw[Hx]at h;obtain⟨r,h1,rfl⟩:=h;exact#[og (bD ihE h1),aJ (og (bD ihE h1)) λ_=>rfl]
  | List es p=>
   replace h:(cA (cE n Γ) es).map E.lst=ba e':=h;rw[Hx]at h;obtain⟨r,h1,rfl⟩:=h;exact#[uw (bD ihE h1),aJ (uw (bD ihE h1)) λ_=>rfl]
  | Dict keys values p=>
   replace h:uP (cE n Γ) keys values=ba e':=h;unfold uP at h;split at h
   ·rename_i hc;cases h;rw[Hu]at hc;have k0:keys=[]:=Ot.mp hc.1;have v0:values=[]:=Ot.mp hc.2;subst k0 v0;exact#[ya,ii]
   ·rename_i hc0;split at h
    ·rename_i hc;rw[Hu,Hu,Im,Im]at hc;rw[Hx]at h;obtain⟨r,hr,rfl⟩:=h;have h0:keys≠[]:=λz=>by
      subst z;have v0:values=[]:=J0.mp hc.1.2.symm;subst v0;exact hc0 rfl
     exact#[yb (pos:=p) hu10 (pS ihE keys values hc.1.1 hc.1.2 hr) hc.1.1 hc.1.2 h0 hc.2,ii]
    ·cases h
  | ListComp elt gens scope p=>
   match gens,h with
   | [#[tg,iter,ifs,asy]],h=>
    replace h:(if (asy==0)&&(uO Γ scope&&decide (ifs.length<=1))then match cI Γ (cE n Γ) tg iter,cT (eW Γ scope) tg,cA (cE n (eW Γ scope)) ifs,cE n (eW Γ scope) elt with|some it,ba t,ba cs,ba el=>ba (E.comp el t it cs (eJ Γ scope.names))|_,_,_,_=>gV else gV)=ba e':=h
    split at h
    ·rename_i hc;rw[Hu,Hu,Im]at hc;have e0:asy=0:=eq_of_beq hc.1;subst e0;replace hc:=hc.2;split at h
     ·rename_i it t cs el h1 h2 h3 h4;cases h;have sc:=pT hc.1;show#[yd K.calm (lv K ihE h1) (λok=>#[_,ki K ok sc,?_]) (ij (n:=n) (λel k p=>by cases n <;> rfl) h1),ii]
      show#[λC s0 H0 ex=>kh (dc K sc C s0 H0 ex) h2,λC s0 H0 ex J s Y H Q I q=>?_,λC s0 H0 ex=>(ih (dc K sc C s0 H0 ex) h4).1]
      exact mP hc.2 h3 (λz=>(ih (dc K sc C s0 H0 ex) z).2) rfl J s Y H Q I q
     ·cases h
    ·cases h
   | [],h=>exact ag h
   | #[_,_,_,_]::_::_,h=>exact ag h
  | _=>exact ag h
end
noncomputable abbrev ay:Hz:=30
abbrev zA:HH->HP
 | .Constant (.str _) _ _=>true
 | _=>false
abbrev gL:HH->HP
 | .ListComp _ _ _ _=>true
 | _=>false
abbrev pV:HH->HP
 | .Slice _ _ _ _=>true
 | _=>false
abbrev eh (f:Jf->Hs Sm)(ss:Ho Jf):Hs Ss:=ss.foldr (λs acc=>match f s,acc with|some s',ba ss'=>ba (.cons s' ss')|_,_=>gV) (ba .nil)
abbrev DH (Γ:Gam):Ho HH->HH->Hs Sm
 | [.Name x px,.Name y py],.Tuple [a,b] _ _=>match Γ.N.findIdx? (· == x),Γ.N.findIdx? (· == y),cA (cE ay Γ) [a,b]with
  | some i,ba j,ba es=>if !(i==j)&&(Γ.sc.lookup x==ba .local)&&(Γ.sc.lookup y==ba .local)&&(py.line==px.line) && !([a,b].all (foldedForSure 8)) && !([a,b].all (constantsAlone 8))then ba (.par i j es)else gV
  | _,_,_=>gV
 | _,_=>gV
abbrev DI (Γ:Gam):Ho HH->HH->Hs Sm
 | [.Name x px,.Name y py,.Name z pz],.Tuple [a,b,c] _ _=>match Γ.N.findIdx? (· == x),Γ.N.findIdx? (· == y),Γ.N.findIdx? (· == z),cA (cE ay Γ) [a,b,c]with
  | some i,ba j,ba l,ba es=>if !(i==j) && !(i==l) && !(j==l)&&(Γ.sc.lookup x==ba .local)&&(Γ.sc.lookup y==ba .local)&&(Γ.sc.lookup z==ba .local)&&(py.line==px.line)&&(pz.line==px.line) && !([a,b,c].all (foldedForSure 8)) && !([a,b,c].all (constantsAlone 8))then ba (.pr3 i j l es)else gV
  | _,_,_,_=>gV
 | _,_=>gV
abbrev Bn:HH->HP
 | .Tuple vs _ _=>vs.all (foldedForSure 8)
 | _=>false
abbrev Bo (Γ:Gam)(ts:Ho HH)(e:HH):Hs Sm:=if Bn e then(match zz Γ ts,cE ay Γ e with
 | some is,ba e'=>ba (.asg is e')
 | _,_=>gV)else if ts.length=3 then DI Γ ts e else DH Γ ts e
abbrev cS:Hz->Gam->Jf->Hs Sm
 | 0,_,_=>gV
 | n+1,Γ,st=>match st with
  | .Assign [.Name x _] e _=>match aR Γ x,cE ay Γ e with
   | some i,ba e'=>ba (.set i e')
   | _,_=>gV
  | .Assign [.Tuple ts _ _] e _=>if isTup e then Bo Γ ts e else if gL e then gV else match zz Γ ts,cE ay Γ e with
   | some is,ba e'=>ba (.asg is e')
   | _,_=>gV
  | .Assign [.Subscript o k _] e _=>if pV k then gV else match cE ay Γ o,cE ay Γ k,cE ay Γ e with
   | some o',ba k',ba e'=>ba (.put o' k' e')
   | _,_,_=>gV
  | .Expr e _=>if zA e then ba .pass else if gL e then gV else(cE ay Γ e).map .ex
  | .Return (ba e) _=>(cE ay Γ e).map .ret
  | .Return gV _=>ba .retN
  | .Pass _=>ba .pass
  | .Raise _ _ _=>ba .bad
  | .Break _=>ba .brk
  | .Continue _=>ba .cont
  | .If t a b _=>match cE ay Γ t,eh (cS n Γ) a,eh (cS n Γ) b with
   | some t',ba a',ba b'=>ba (.ite t' a' b')
   | _,_,_=>gV
  | .While t b [] _=>match cE ay Γ t,eh (cS n Γ) b with
   | some t',ba b'=>ba (.whl t' b')
   | _,_=>gV
  | .For tg it b [] _=>match cT Γ tg,cI Γ (cE ay Γ) tg it,eh (cS n Γ) b with
   | some t,ba i,ba b'=>ba (.loop t i b')
   | _,_,_=>gV
  | _=>gV
section
variable{M:HC->FF}{X:Cx}{Γ:Gam}{fuel:Hz}
def fT {f:Jf->Hs Sm}{s:Jf}{ss:Ho Jf}{r:Ss}(h:eh f (s::ss)=ba r):∃s' ss',f s=ba s'/\eh f ss=ba ss'/\r=.cons s' ss':=by
 simp only[eh,OF]at h;split at h
 ·rename_i e' es' h1 h2;cases h;exact#[e',es',h1,h2,rfl]
 ·cases h
def dw {n:Hz}(ih:∀ {st:Jf} {s':Sm},cS n Γ st=ba s'->GS X st (bv M fuel s')):∀ {ss:Ho Jf} {r:Ss},eh (cS n Γ) ss=ba r->GSs X ss (bH M fuel r)
 | [],r,h=>by cases h; exact fQ
 | s::ss,r,h=>by
  obtain⟨s',ss',h1,h2,rfl⟩:=fT h;exact iX (ih h1) (dw ih h2)
def jh {e:HH}{t:Hs HH}{l:Hz}{env:LL}(h:gL e=false)(n:Hz){Γ:Gam}{e':E}(hc:cE n Γ e=ba e'):swapsWith e t l env=pure false:=by
 cases n with
 | zero=>cases hc
 | succ n=>cases e <;> first|(exfalso; exact ag hc)|rfl|cases h
def oy (K:CtxOk M X Γ){n:Hz}{elt:HH}{gens:Ho Comprehension}{scope:Kh}{p:Jw}{e':E}(h:cE (n+1) Γ (.ListComp elt gens scope p)=ba e') :
  ∃tg iter ifs fi g c f cap,gens=[#[tg,iter,ifs,0]]/\ar M e'=jb fi g c f cap/\GI X tg iter fi/\(X.Ok->∃cl,CompOk X scope cl (eV scope.names) cap/\BlockOk X scope cl (eV scope.names) tg elt ifs g c f)/\∀x,foldedSetIterable iter X.env x=pure x:=by
 match gens,h with
 | [#[tg,iter,ifs,asy]],h=>
  replace h:(if (asy==0)&&(uO Γ scope&&decide (ifs.length<=1))then match cI Γ (cE n Γ) tg iter,cT (eW Γ scope) tg,cA (cE n (eW Γ scope)) ifs,cE n (eW Γ scope) elt with|some it,ba t,ba cs,ba el=>ba (E.comp el t it cs (eJ Γ scope.names))|_,_,_,_=>gV else gV)=ba e':=h
  split at h
  ·rename_i hc;rw[Hu,Hu,Im]at hc;have e0:asy=0:=eq_of_beq hc.1;subst e0;replace hc:=hc.2;split at h
   ·rename_i it t cs el h1 h2 h3 h4;cases h;have sc:=pT hc.1;show#[tg,iter,ifs,_,_,_,_,_,rfl,rfl,lv K (λz=>(aE n K z).1) h1,λok=>#[_,ki K ok sc,?_],ij (n:=n) (λel k p=>by cases n <;> rfl) h1]
    show#[λC s0 H0 ex=>kh (dc K sc C s0 H0 ex) h2,λC s0 H0 ex J s Y H Q I q=>?_,λC s0 H0 ex=>(aE n (dc K sc C s0 H0 ex) h4).1]
    exact mP hc.2 h3 (λz=>(aE n (dc K sc C s0 H0 ex) z).2) rfl J s Y H Q I q
   ·cases h
  ·cases h
 | [],h=>exact ag h
 | #[_,_,_,_]::_::_,h=>exact ag h
def DJ (K:CtxOk M X Γ){x:HC}{px pos:Jw}{e:HH}{i:Hz}{e':E}(hi:aR Γ x=ba i)(he:cE ay Γ e=ba e'):GS X (.Assign [.Name x px] e pos) (d7 (ar M e') (xR i)):=by
 obtain⟨a,b,c⟩:=ik K hi;have hN:X.N.Nodup:=by rw[K.N]; exact K.nd
 have plain:swapsWith e (ba (.Name x px)) pos.line X.env=pure false->GS X (.Assign [.Name x px] e pos) (d7 (ar M e') (xR i)):=λhs=>iY (aE _ K he).1 (ig hN a b c) hs (by cases e <;> rfl) rfl
 cases hc:gL e with
 | false=>exact plain (jh hc _ he)
 | true=>
  cases e with
  | ListComp elt gens scope p=>
   cases hsw:(X.env.blockKind==.function&&X.env.kindOf x==ba .local&&px.line==p.line && !(scope.names.any λ(n,k)=>n==x&&(k==.local||k==.cell)))with
   | false=>
    show plain ?_;show(pure (X.env.blockKind==.function&&X.env.kindOf x==ba .local&&px.line==p.line && !(scope.names.any λ(n,k)=>n==x&&(k==.local||k==.cell))):O6 HP)=pure false
    rw[hsw]
   | true=>
    have hsw':swapsWith (.ListComp elt gens scope p) (ba (.Name x px)) pos.line X.env=pure true:=by
     show(pure (X.env.blockKind==.function&&X.env.kindOf x==ba .local&&px.line==p.line && !(scope.names.any λ(n,k)=>n==x&&(k==.local||k==.cell))):O6 HP)=pure true
     rw[hsw]
    rw[Hu,Hu,Hu]at hsw;have hl:X.env.scope.names.lookup x=ba .local:=eq_of_beq hsw.1.1.2;obtain⟨tg,iter,ifs,fi,g,c',f,cap,rfl,e2,gi,hck,hs⟩:=oy K he;rw[e2];exact oq K.calm gi hck hs hsw' hN a hl
  | _=>cases hc
def mQ (K:CtxOk M X Γ){x y:HC}{px py pt pt2:Jw}{kt k2:Hz}{a b:HH}(hxy:x≠y)(hx:Γ.sc.lookup x=ba .local)(hy:Γ.sc.lookup y=ba .local)(hl:(py.line==px.line)=true)(h1:[a,b].all (foldedForSure 8)=false)(h2:[a,b].all (constantsAlone 8)=false)(hs:cK a=true)(hs2:cK b=true) :
  swappedStores [.Tuple [.Name x px,.Name y py] kt pt] (.Tuple [a,b] k2 pt2) X.env=pure (ba [x,y]):=by
 have kx:(X.env.kindOf x==ba .local)=true:=by unfold K5; rw[K.names,hx]; rfl
 have ky:(X.env.kindOf y==ba .local)=true:=by unfold K5; rw[K.names,hy]; rfl
 have bk:(X.env.blockKind != .function)=false:=by
  unfold Ph;rw[K.kind];rfl
 have hp:(px.line==px.line)=true:=by simp
 have ed:([x,y].eraseDups.length != [x,y].length)=false:=by
  have:(y==x)=false:=by simpa using Ne.symm hxy
  simp[LG,this]
 have kx':X.env.kindOf x=ba .local:=eq_of_beq kx;have ky':X.env.kindOf y=ba .local:=eq_of_beq ky;have hl':py.line=px.line:=eq_of_beq hl;have bk':X.env.blockKind=.function:=by simpa using bk
 have yx:(y==x)=false:=by simpa using Ne.symm hxy
 have h1':(foldedForSure 8 a&&foldedForSure 8 b)=false:=by simpa using h1
 have h2':(constantsAlone 8 a&&constantsAlone 8 b)=false:=by simpa using h2
 unfold swappedStores;simp only[JB,Pu,Np,JM,NG,kx',ky',bk',OH,IW,Lp,IU,JE,Io,Pw,Mn,h1',h2'];show Eq.trans (HY ?_) (Eq.trans (HY ?_) ?_)
 ·decide
 ·rw[Jj];rintro(hh|hh)
  ·clear h1 h2 h1' h2';cases a <;> first|(cases hh; done)|(cases hs; done)
  ·clear h1 h2 h1' h2';cases b <;> first|(cases hh; done)|(cases hs2; done)
 ·dsimp only[Qq]; simp[hl',yx,LG]
def mR (K:CtxOk M X Γ){x y z:HC}{px py pz pt pt2:Jw}{kt k2:Hz}{a b c:HH}(hxy:x≠y)(hxz:x≠z)(hyz:y≠z)(hx:Γ.sc.lookup x=ba .local)(hy:Γ.sc.lookup y=ba .local)(hz:Γ.sc.lookup z=ba .local)(hl:(py.line==px.line)=true)(hm:(pz.line==px.line)=true)(h1:[a,b,c].all (foldedForSure 8)=false)(h2:[a,b,c].all (constantsAlone 8)=false)(hs:[a,b,c].all cK=true) :
  swappedStores [.Tuple [.Name x px,.Name y py,.Name z pz] kt pt] (.Tuple [a,b,c] k2 pt2) X.env=pure (ba [x,y,z]):=by
 have kx':X.env.kindOf x=ba .local:=by unfold K5; rw[K.names,hx]
 have ky':X.env.kindOf y=ba .local:=by unfold K5; rw[K.names,hy]
 have kz':X.env.kindOf z=ba .local:=by unfold K5; rw[K.names,hz]
 have bk':X.env.blockKind=.function:=by
  unfold Ph;rw[K.kind];rfl
 have hl':py.line=px.line:=eq_of_beq hl;have hm':pz.line=px.line:=eq_of_beq hm;have yx:(y==x)=false:=by simpa using Ne.symm hxy
 have zx:(z==x)=false:=by simpa using Ne.symm hxz
 have zy:(z==y)=false:=by simpa using Ne.symm hyz
 have h1':(foldedForSure 8 a&&(foldedForSure 8 b&&foldedForSure 8 c))=false:=by simpa [MZ]using h1
 have h2':(constantsAlone 8 a&&(constantsAlone 8 b&&constantsAlone 8 c))=false:=by simpa [MZ]using h2
 rw[Io,Io,Io,Hu,Hu,Hu]at hs;obtain⟨hs1,hs2,hs3,_⟩:=hs;unfold swappedStores;simp only[JB,Pu,Np,JM,NG,kx',ky',kz',bk',OH,IW,Lp,IU,JE,Io,Pw,Mn,h1',h2'];show Eq.trans (HY ?_) (Eq.trans (HY ?_) ?_)
 ·decide
 ·rw[Jj,Jj];rintro(hh|hh|hh)
  ·clear h1 h2 h1' h2';cases a <;> first|(cases hh; done)|(cases hs1; done)
  ·clear h1 h2 h1' h2';cases b <;> first|(cases hh; done)|(cases hs2; done)
  ·clear h1 h2 h1' h2';cases c <;> first|(cases hh; done)|(cases hs3; done)
 ·dsimp only[Qq]; simp[hl',hm',yx,zx,zy,LG]
def il (fuel:Hz)(K:CtxOk M X Γ):∀(n:Hz) {st:Jf} {s':Sm},cS n Γ st=ba s'->GS X st (bv M fuel s'):=by
 have hN:X.N.Nodup:=by rw[K.N]; exact K.nd
 have own:Ln (model X.prog X.w) X.A X.env X.xe:=K.xe;intro n
 induction n with
 | zero=>intro st s' h; cases h
 | succ n ih=>
  intro st s' h;cases st with
  | Expr e p=>
   replace h:(if zA e then ba Sm.pass else if gL e then gV else(cE ay Γ e).map Sm.ex)=ba s':=h
   split at h
   ·rename_i hd;cases h;cases e with
    | Constant c k q=>
     cases c with
     | str x=>exact Ba
     | _=>cases hd
    | _=>cases hd
   ·split at h
    ·cases h
    ·rename_i hd hc;rw[Hx]at h;obtain⟨e',h1,rfl⟩:=h;exact Dv (aE _ K h1).1 (jh (by simpa using hc) _ h1)
  | Return o p=>
   cases o with
   | none=>cases h; exact xQ
   | some e=>
    replace h:(cE ay Γ e).map Sm.ret=ba s':=h;rw[Hx]at h;obtain⟨e',h1,rfl⟩:=h;exact oh (aE _ K h1).1
  | Pass p=>cases h; exact xN
  | Raise exc cause pos=>cases h; exact λJ s D Y H I #[A,Z,S,o,S',er,so,e,hq]=>nomatch e
  | Break p=>cases h; exact uz
  | Continue p=>cases h; exact xP
  | If t a b p=>
   replace h:(match cE ay Γ t,eh (cS n Γ) a,eh (cS n Γ) b with|some t',ba a',ba b'=>ba (Sm.ite t' a' b')|_,_,_=>gV)=ba s':=h
   split at h
   ·rename_i t' a' b' h1 h2 h3;cases h;exact zt (aE _ K h1).2 (dw ih h2) (dw ih h3)
   ·cases h
  | While t b o p=>
   cases o with
   | cons _ _=>exact ag h
   | nil=>
    replace h:(match cE ay Γ t,eh (cS n Γ) b with|some t',ba b'=>ba (Sm.whl t' b')|_,_=>gV)=ba s':=h
    split at h
    ·rename_i t' b' h1 h2;cases h;exact uC fuel own (aE _ K h1).2 (dw ih h2)
    ·cases h
  | For tg it b o p=>
   cases o with
   | cons _ _=>exact ag h
   | nil=>
    replace h:(match cT Γ tg,cI Γ (cE ay Γ) tg it,eh (cS n Γ) b with|some t,ba i,ba b'=>ba (Sm.loop t i b')|_,_,_=>gV)=ba s':=h
    split at h
    ·rename_i t i b' h1 h2 h3;cases h;exact Bh own K.calm (lv K (λz=>(aE _ K z).1) h2) (kh K h1) (dw ih h3) (ij (n:=ay) (λel k p=>rfl) h2)
    ·cases h
  | Assign ts e p=>
   match ts,h with
   | [],h=>exact ag h
   | a::_::_,h=>cases a <;> exact ag h
   | [t],h=>
    cases t with
    | Name x px=>
     replace h:(match aR Γ x,cE ay Γ e with|some i,ba e'=>ba (Sm.set i e')|_,_=>gV)=ba s':=h
     split at h
     ·rename_i i e' h1 h2;cases h;exact DJ K h1 h2
     ·cases h
    | Subscript o k q=>
     replace h:(if pV k then gV else match cE ay Γ o,cE ay Γ k,cE ay Γ e with|some o',ba k',ba e'=>ba (Sm.put o' k' e')|_,_,_=>gV)=ba s':=h
     split at h
     ·cases h
     ·rename_i hc;split at h
      ·rename_i o' k' e' h1 h2 h3;cases h;show iY (aE _ K h3).1 (Bc (by have:=K.un; have:dm=20:=rfl; omega) (aE _ K h1).1 (aE _ K h2).1 ?_) (by cases e <;> rfl) (by cases e <;> rfl) rfl
       intro v;cases k <;> first|rfl|exact absurd rfl hc
      ·cases h
    | Tuple ts' k q=>
     have par:∀ {x y:HC} {px py:Jw} {a b:Qa} {k2:Hz} {q2:Jw},(match Γ.N.findIdx? (· == x),Γ.N.findIdx? (· == y),cA (cE ay Γ) [a,b]with
       | some i,ba j,ba es=>if !(i==j)&&(Γ.sc.lookup x==ba .local)&&(Γ.sc.lookup y==ba .local)&&(py.line==px.line) && !([a,b].all (foldedForSure 8)) && !([a,b].all (constantsAlone 8))then ba (Sm.par i j es)else gV
       | _,_,_=>gV)=ba s'->GS X (.Assign [.Tuple [.Name x px,.Name y py] k q] (.Tuple [a,b] k2 q2) p) (bv M fuel s'):=λ{x y px py a b k2 q2} h=>by
      split at h
      ·rename_i i j es h1 h2 h3;split at h
       ·rename_i hc;cases h;rw[Hu,Hu,Hu,Hu,Hu]at hc;obtain⟨⟨⟨⟨⟨c1,c2⟩,c3⟩,c4⟩,c5⟩,c6⟩:=hc;have hij:i≠j:=by simpa using c1
        have ns:=aW h3;rw[Io,Io,Hu,Hu]at ns;have hi:X.N[i]?=ba x:=by rw[K.N]; exact aF h1
        have hj:X.N[j]?=ba y:=by rw[K.N]; exact aF h2
        show Bd K.calm hN hi hj hij (by rw[K.names]; exact eq_of_beq c2) (by rw[K.names]; exact eq_of_beq c3) (bD (λz=>(aE _ K z).1) h3) (mQ K ?_ (eq_of_beq c2) (eq_of_beq c3) c4 (by rw[<- KG]; exact c5) (by rw[<- KG]; exact c6) ns.1 ns.2.1) rfl
        rintro rfl;rw[h1]at h2;cases h2;exact hij rfl
       ·cases h
      ·cases h
     replace h:(if isTup e then Bo Γ ts' e else if gL e then gV else match zz Γ ts',cE ay Γ e with|some is,ba e'=>ba (Sm.asg is e')|_,_=>gV)=ba s':=h
     have pr3:∀ {x y z:HC} {px py pz:Jw} {a b c:Qa} {k2:Hz} {q2:Jw},(match Γ.N.findIdx? (· == x),Γ.N.findIdx? (· == y),Γ.N.findIdx? (· == z),cA (cE ay Γ) [a,b,c]with
       | some i,ba j,ba l,ba es=>if !(i==j) && !(i==l) && !(j==l)&&(Γ.sc.lookup x==ba .local)&&(Γ.sc.lookup y==ba .local)&&(Γ.sc.lookup z==ba .local)&&(py.line==px.line)&&(pz.line==px.line) && !([a,b,c].all (foldedForSure 8)) && !([a,b,c].all (constantsAlone 8))then ba (Sm.pr3 i j l es)else gV
       | _,_,_,_=>gV)=ba s'->GS X (.Assign [.Tuple [.Name x px,.Name y py,.Name z pz] k q] (.Tuple [a,b,c] k2 q2) p) (bv M fuel s'):=λ{x y z px py pz a b c k2 q2} h=>by
      split at h
      ·rename_i i j l es h1 h2 h3 h4;split at h
       ·rename_i hc;cases h;rw[Hu,Hu,Hu,Hu,Hu,Hu,Hu,Hu,Hu]at hc;obtain⟨⟨⟨⟨⟨⟨⟨⟨⟨c1,c2⟩,c3⟩,c4⟩,c5⟩,c6⟩,c7⟩,c8⟩,c9⟩,c10⟩:=hc;have hij:i≠j:=by simpa using c1
        have hil:i≠l:=by simpa using c2
        have hjl:j≠l:=by simpa using c3
        show Bf K.calm hN (by rw[K.N]; exact aF h1) (by rw[K.N]; exact aF h2) (by rw[K.N]; exact aF h3) hij hil hjl (by rw[K.names]; exact eq_of_beq c4) (by rw[K.names]; exact eq_of_beq c5) (by rw[K.names]; exact eq_of_beq c6) (bD (λz=>(aE _ K z).1) h4)
         (mR K ?_ ?_ ?_ (eq_of_beq c4) (eq_of_beq c5) (eq_of_beq c6) c7 c8 (by rw[<- KG]; exact c9) (by rw[<- KG]; exact c10) (aW h4)) rfl
        ·rintro rfl; rw[h1]at h2; cases h2; exact hij rfl
        ·rintro rfl; rw[h1]at h3; cases h3; exact hil rfl
        ·rintro rfl; rw[h2]at h3; cases h3; exact hjl rfl
       ·cases h
      ·cases h
     split at h
     ·rename_i ht;unfold Bo at h;split at h
      ·rename_i hf;split at h
       ·rename_i is e' h1 h2;cases h;cases e with
        | Tuple vs k2 q2=>
         exact iY (aE _ K h2).1 (kh (tg:=.Tuple ts' k q) (t:=.tp is) K (by(dsimp only[cT]; simp[h1]))) rfl (ja hf) rfl
        | _=>cases ht
       ·cases h
      ·split at h
       ·unfold DI at h;split at h
        ·exact pr3 h
        ·cases h
       ·unfold DH at h;split at h
        ·exact par h
        ·cases h
     ·split at h
      ·cases h
      ·rename_i hc1 hc2;split at h
       ·rename_i is e' h1 h2;cases h;show iY (aE _ K h2).1 (kh (tg:=.Tuple ts' k q) (t:=.tp is) K (by(dsimp only[cT]; simp[h1]))) (jh (t:=ba (.Tuple ts' k q)) (l:=p.line) (env:=X.env) (by simpa using hc2) _ h2) ?_ rfl
        cases e <;> first|rfl|exact absurd rfl hc1
       ·cases h
    | _=>exact ag h
  | _=>exact ag h
end
structure Df where
 ps:Ho HC
 N:Ho HC
 body:Ss
abbrev aY (N:Ho HC)(ws:Ho W):Fm:=ws.map ba++Iq (N.length - ws.length) gV
abbrev ah (defs:Ho (HC×Df))(fuel:Hz):Hz->HC->FF
 | 0,_,_,_=>gV
 | d+1,f,ws,S=>match defs.lookup f with
  | some df=>if ws.length=df.ps.length then match bH (ah defs fuel d) fuel df.body (aY df.N ws) S with
    | some (.rt w,S')=>ba (w,S')
    | some (.nx _,S')=>ba (.non,S')
    | _=>gV
   else gV
  | none=>gV
structure Md where
 fns:Ho (HC×Hz)
 blt:Ho HC
abbrev dI (Mqa:Md)(st:Jf)(N:Ho HC):Gam:={ sc:=(am st).names,N:=N,fns:=Mqa.fns,blt:=Mqa.blt,dfn:=true,own:=[] }
abbrev DL (Mqa:Md)(st:Jf)(df:Df):Prop:=eh (cS 20 (dI Mqa st df.N)) (aD st)=ba df.body
def bN {K:HA}{A:Ho Hv}{H:Hp}{ws:Ho W}{vs:Ho V}{N:Ho HC}(r:RelL K A H ws vs):EnvRel K A H (aY N ws) (dP N vs):=by
 show#[by simp[aY,L2.dP,r.length],λi w h=>?_]
 unfold aY at h;unfold L2.dP
 by_cases hi:i < ws.length
 ·rw[IB (by simpa using hi),HQ]at h
  rw[IB (by rw[HB,<- r.length]; exact hi),HQ]
  cases q:ws[i]? with
  | none=>rw[q]at h; cases h
  | some w'=>
   rw[q]at h;simp only[IW,IG]at h;subst h;obtain⟨v,h1,h2⟩:=r.get q;exact#[v,by rw[h1]; rfl,h2]
 ·rw[KM (by simpa using hi)]at h
  have:=Jq h;simp at this
section
variable{P:HM}{w:HX}{K:HA}{mg:HC->Hs Hr}{base:Ii}
abbrev pW (P:HM)(w:HX)(K:HA)(mg:HC->Hs Hr)(base:Ii)(Mqa:Md)(defs:Ho (HC×Df))(fuel d:Hz):Prop:=
 ∀f n,Mqa.fns.lookup f=ba n->∃fa fd ps,FnOk P w K mg base iG (d+2) fa fd ps (spF w K n (ah defs fuel d f))/\mg f=ba (.ref fa)/\IZ K (.ref fa)=true/\Binds K fd ps []
structure MdOk (w:HX)(K:HA)(mg:HC->Hs Hr)(Mqa:Md):Prop where
 blt:∀y∈Mqa.blt,mg y=gV
def zB {Mqa:Md}{defs:Ho (HC×Df)}{fuel d:Hz}{x qual:HC}{st:Jf}{f:Hv}{fd:IY}{df:Df}(F:Fun K x qual st f fd)(S:FnScope df.N df.ps (am st))(hd:defs.lookup x=ba df)(hc:DL Mqa st df)
  (hb:MdOk w K mg Mqa) (prev:pW P w K mg base Mqa defs fuel d):FnOk P w K mg base iG (d+3) f fd df.ps (spF w K df.ps.length (ah defs fuel (d+1) x)):=by
 show F.ok S (λvs H Q E h=>?_) (λcdv A outer s H vs Q E hr h=>?_)
 ·obtain⟨A,S,ws,w',S',_,rl,hl,_⟩:=h;rw[<- rl.length]; exact hl
 ·obtain⟨A',St,ws,w',S',so,rl,hl,e,hq⟩:=h;have K':CtxOk (ah defs fuel d) (dQ iG P w K mg base df.N qual (am st) f cdv A outer s H E).nox (dI Mqa st df.N):=by
   show#[rfl,S.kind,rfl,S.nd,rfl,LB,?_,λ_ _=>rfl,λ_ h=>(nomatch h),hb.blt,λg n hg=>?_]
   ·have:=hr.un;show(A.deeper _).units+20 < cLine;omega
   ·obtain⟨fa,fd',ps',h1,h2,h3,h4⟩:=prev g n hg;exact#[d+2,fa,fd',ps',h1,hr,h2,h3,h4]
  show#[tS _ (bH (ah defs fuel d) fuel df.body),dw (λz=>il fuel K' 20 z) hc,?_]
  (dsimp only[ah]at e; simp only[hd]at e)
  rw[HN hl]at e;split at e
  ·rename_i w1 S1 h1;cases e;show#[A',aY df.N ws,St,_,_,bN rl,so,h1,#[λY' H' #[_,_,z,_,_,_]=>(by cases z),λv H' #[w2,A2,z0,z1,z2,z3]=>?_,λY' H' #[_,_,z,_,_,_]=>(by cases z),λY' H' #[_,_,z,_,_,_]=>(by cases z)]]
   cases z0;exact hq v H' #[A2,z1,z2,z3]
  ·rename_i Z1 S1 h1;cases e;show#[A',aY df.N ws,St,_,_,bN rl,so,h1,#[λY' H' #[w2,A2,z0,z1,z2,z3]=>?_,λY' H' #[_,_,z,_,_,_]=>(by cases z),λY' H' #[_,_,z,_,_,_]=>(by cases z),λY' H' #[_,_,z,_,_,_]=>(by cases z)]]
   exact hq _ H' #[A2,z1,z2,.non]
  ·cases e
def rL {H:Hp}{a:Hv}{ns:Ho HR}(hO:sN H)(hS:SqL K H a (ns.map V.int)):StoreOk w K [a] H [.fro (ns.map W.int)]/\RelL K [a] H [.ref 0] [.ref a]:=by
 have rl:∀ns:Ho HR,RelL K [a] H (ns.map W.int) (ns.map V.int):=by
  intro ns
  induction ns with
  | nil=>exact .nil
  | cons n ns ih=>exact .cons .int ih
 have fr:FroL K H a (ns.map V.int):=by
  rcases hS with(h|⟨o,h⟩)|h
  ·rcases hO a with z|⟨o,xs,z⟩ <;> (rw[z]at h; cases h)
  ·exact .inl #[o,h]
  ·exact .inr h
 show#[#[rfl,λi j b o u e1 m1 e2 m2 _ _=>?_,λi o b e1 e2=>?_],.cons (.ref rfl) .nil]
 ·cases i with
  | zero=>simp at e1; subst e1; cases m1
  | succ i=>simp at e1
 ·cases i with
  | zero=>
   simp at e1 e2;subst e1 e2;exact#[_,fr,rl ns]
  | succ i=>simp at e1
def Bp {g:FF}{H:Hp}{a:Hv}{ns:Ho HR}(h:∃S',g [.ref 0] [.fro (ns.map W.int)]=ba (.bl true,S'))(hO:sN H)(hS:SqL K H a (ns.map V.int)):spF w K 1 g [.ref a] H (λv _=>v=.bl true) λ_ _ _=>ID:=by
 obtain⟨S',e⟩:=h;obtain⟨so,rl⟩:=rL hO hS;exact#[[a],_,_,_,S',so,rl,rfl,e,λv H' #[A',z1,z2,z3]=>by cases z3; rfl]
end
end Mi
namespace Mi
open PySem PySem.Spec PyProof.Rows L2 Xc
abbrev pX (N:Ho HC)(fs:FS):FF:=λws S=>match fs (aY N ws) S with
 | some (.rt w,S')=>ba (w,S')
 | some (.nx _,S')=>ba (.non,S')
 | _=>gV
abbrev zC (N:Ho HC)(fx:FX):Dy:=λws S=>fx (aY N ws) S
section
variable{P:HM}{w:HX}{K:HA}{mg:HC->Hs Hr}{base:Ii}{cl:Cl}
def Bq {N ps:Ho HC}{x qual:HC}{st:Jf}{f:Hv}{fd:IY}{k:Hz}{fs:FS}{fx:FX}(F:Fun K x qual st f fd)(S:FnScope N ps (am st))
  (body:∀(cdv:Hr) (A:HW) (outer:Ho LL) (s:Ht) (H:Hp) (E:L2.XK),Room k (A.deeper (envOfC qual (am st) s.heap.objs.size f cdv))->zu (dQ (CXx P w) P w K mg base N qual (am st) f cdv A outer s H E) cl E (aD st) fs fx) :
  FnOk P w K mg base (CXx P w) (k+1) f fd ps (spX w K cl ps.length (pX N fs) (zC N fx)):=by
 obtain⟨oc,od,kV,doc,pm,an,cdv,ct,osl,rfl,lk,hcd⟩:=F.ex;show zb lk hcd S (λvs H Q E h=>?_) λA outer s H vs Q E hr hsp=>#[_,body cdv A outer s H E hr,?_]
 ·rcases h with⟨A,S,ws,w',S',_,rl,hl,_⟩|⟨A,S,ws,_,_,_,_,_,_,rl,hl,_⟩
  ·rw[<- rl.length]; exact hl
  ·rw[<- rl.length]; exact hl
 ·rcases hsp with⟨A',St,ws,w',S',so,rl,hl,e,hq⟩|⟨A',St,ws,cn,us,S',C,gs,so,rl,hl,e,hc,hq⟩
  ·apply Or.inl;unfold pX at e;split at e
   ·rename_i w1 S1 h1;cases e;show#[A',aY N ws,St,_,_,bN rl,so,h1,#[λY' H' #[_,_,z,_,_,_]=>(by cases z),λv H' #[w2,A2,z0,z1,z2,z3]=>?_,λY' H' #[_,_,z,_,_,_]=>(by cases z),λY' H' #[_,_,z,_,_,_]=>(by cases z)]]
    cases z0;exact hq v H' #[A2,z1,z2,z3]
   ·rename_i Z1 S1 h1;cases e;show#[A',aY N ws,St,_,_,bN rl,so,h1,#[λY' H' #[w2,A2,z0,z1,z2,z3]=>?_,λY' H' #[_,_,z,_,_,_]=>(by cases z),λY' H' #[_,_,z,_,_,_]=>(by cases z),λY' H' #[_,_,z,_,_,_]=>(by cases z)]]
    exact hq _ H' #[A2,z1,z2,.non]
   ·cases e
  ·exact .inr #[A',aY N ws,St,cn,us,S',C,gs,bN rl,so,e,hc,hq]
def yn {N:Ho HC}{qual:HC}{scope:Kh}{f:Hv}{cd:Hr}{A:HW}{outer:Ho LL}{s0:Ht}{H0:Hp}{E:L2.XK}:xU (dQ (CXx P w) P w K mg base N qual scope f cd A outer s0 H0 E) E:=
 λ_ _ _ _ _ _ _ _ Yj q=>AK Yj q
end
def Br {P:HM}{w:HX}{K:HA}{mg:HC->Hs Hr}{base:Ii}{N:Ho HC}{qual:HC}{scope:Kh}{f:Hv}{cd:Hr}{A:HW}{outer:Ho LL}{s0:Ht}{H0:Hp}{E:L2.XK} :
  Ln (model P w) (dQ (CXx P w) P w K mg base N qual scope f cd A outer s0 H0 E).A (dQ (CXx P w) P w K mg base N qual scope f cd A outer s0 H0 E).env (dQ (CXx P w) P w K mg base N qual scope f cd A outer s0 H0 E).xe:=Qh
abbrev dy (mi:MI)(g:FG)(b:FS)(bx:FX):Hz->Hz->FX
 | 0,_,_,_=>gV
 | n+1,i,Z,S=>match mi.at S i with
  | some (ba w)=>match g w Z S with
   | some (Z1,S1)=>match b Z1 S1 with
    | some (.nx Z2,S2)=>dy mi g b bx n (i+1) Z2 S2
    | some (.ct Z2,S2)=>dy mi g b bx n (i+1) Z2 S2
    | some _=>gV
    | none=>bx Z1 S1
   | none=>gV
  | _=>gV
abbrev pY (fi:FI)(g:FG)(b:FS)(bx:FX):FX:=λZ S=>match fi Z S with
 | some (mi,S1)=>match mi.len S1 with
  | some n=>dy mi g b bx n 0 Z S1
  | none=>gV
 | none=>gV
def Bs {X:Cx}{cl:Cl}{Ew:L2.XK}{tg iter:HH}{body:Ho Jf}{pos:Jw}{fi:FI}{g:FG}{fb:FS}{fx:FX}(hp:Ln (model X.prog X.w) X.A X.env X.xe)(hc:X.calm=true)(hi:GI X tg iter fi)(hg:GG X tg g)(hb:zu X cl Ew body fb fx)
  (hs:∀x,foldedSetIterable iter X.env x=pure x):GX X cl Ew (.For tg iter body [] pos) (hW fi g fb) (pY fi g fb fx):=λJ s Y H D I q=>by
 show sx hp hc hi hg hb hs J s Y H D I ?_;rcases q with⟨A,Z,S,o,S',er,so,e,hd⟩|⟨A,Z,S,cn,ws,S',C,gs,er,so,e,hcl,q⟩
 ·unfold hW at e;split at e
  ·rename_i mi S1 h1;split at e
   ·rename_i n hn;show#[A,Z,S,mi,S1,er,so,h1,λJqa H1 A1 z1 z2 mit=>?_]
    show#[λi m Y2 H2=>∃A2 Z2 S2,Ext X.K A1 H1 A2 H2/\EnvRel X.K A2 H2 Z2 Y2/\StoreOk X.w X.K A2 H2 S2/\bq mi g fb m i Z2 S2=ba (o,S'),#[n,A1,Z,S1,.refl,er.mono z1,z2,e],?_]
    rintro i m Y2 H2 ⟨A2,Z2,S2,e2,er2,so2,w2⟩;cases m with
    | zero=>
     dsimp only[bq]at w2;split at w2
     ·rename_i hs;cases w2;exact .inl #[mit.stop A2 H2 _ i e2 so2 hs,hd.nx _ _ #[_,A2,rfl,z1.trans e2,so2,er2]]
     ·cases w2
    | succ m=>
     dsimp only[bq]at w2;split at w2
     ·rename_i w hw;obtain⟨go,yl⟩:=mit.go A2 H2 S2 i w e2 so2 hw;show .inr #[go,λY3 H3=>∃A3 Z3 S3,Ext X.K A1 H1 A3 H3/\EnvRel X.K A3 H3 Z3 Y3/\StoreOk X.w X.K A3 H3 S3/\bq mi g fb m (i+1) Z3 S3=ba (o,S'),λY' H' h=>#[m,JT _,h],λx H3 hy=>?_]
      obtain⟨x1,x2,x3⟩:=yl x H3 hy;split at w2
      ·rename_i Z3 S3 h3;show#[A2,Z2,S2,w,Z3,S3,er2.mono x1,x2,x3,h3,λY4 H4 A4 y1 y2 y3=>?_]
       have ex:Ext X.K A1 H1 A4 H4:=(e2.trans x1).trans y1;split at w2
       ·rename_i Z5 S5 h5;show .inl #[A4,Z3,S3,_,S5,y3,y2,h5,#[λY' H' #[Z',A',u0,u1,u2,u3]=>?_,λv H' #[w,A',y0,_,_,_]=>(by cases y0),λv H' #[w,A',y0,_,_,_]=>(by cases y0),λv H' #[w,A',y0,_,_,_]=>(by cases y0)]]
        cases u0;exact#[A',_,S5,ex.trans u1,u3,u2,w2]
       ·rename_i Z5 S5 h5;show .inl #[A4,Z3,S3,_,S5,y3,y2,h5,#[λv H' #[w,A',y0,_,_,_]=>(by cases y0),λv H' #[w,A',y0,_,_,_]=>(by cases y0),λv H' #[w,A',y0,_,_,_]=>(by cases y0),λY' H' #[Z',A',u0,u1,u2,u3]=>?_]]
        cases u0;exact#[A',_,S5,ex.trans u1,u3,u2,w2]
       ·rename_i Z5 S5 h5;cases w2;show .inl #[A4,Z3,S3,_,_,y3,y2,h5,#[λv H' #[w,A',y0,_,_,_]=>(by cases y0),λv H' #[w,A',y0,_,_,_]=>(by cases y0),λY' H' #[Z',A',u0,u1,u2,u3]=>?_,λv H' #[w,A',y0,_,_,_]=>(by cases y0)]]
        cases u0;exact hd.nx _ _ #[_,A',rfl,(z1.trans ex).trans u1,u2,u3]
       ·rename_i w5 S5 h5;cases w2;show .inl #[A4,Z3,S3,_,_,y3,y2,h5,#[λv H' #[w,A',y0,_,_,_]=>(by cases y0),λv H' #[w,A',u0,u1,u2,u3]=>?_,λv H' #[w,A',y0,_,_,_]=>(by cases y0),λv H' #[w,A',y0,_,_,_]=>(by cases y0)]]
        cases u0;exact hd.rt _ _ #[_,A',rfl,(z1.trans ex).trans u1,u2,u3]
       ·cases w2
      ·cases w2
     ·cases w2
   ·cases e
  ·cases e
 ·unfold pY at e;split at e
  ·rename_i mi S1 h1;split at e
   ·rename_i n hn;show#[A,Z,S,mi,S1,er,so,h1,λJqa H1 A1 z1 z2 mit=>?_]
    show#[λi m Y2 H2=>∃A2 Z2 S2,Ext X.K A1 H1 A2 H2/\EnvRel X.K A2 H2 Z2 Y2/\StoreOk X.w X.K A2 H2 S2/\dy mi g fb fx m i Z2 S2=ba (cn,ws,S'),#[n,A1,Z,S1,.refl,er.mono z1,z2,e],?_]
    rintro i m Y2 H2 ⟨A2,Z2,S2,e2,er2,so2,w2⟩;cases m with
    | zero=>cases w2
    | succ m=>
     dsimp only[dy]at w2;split at w2
     ·rename_i w hw;obtain⟨go,yl⟩:=mit.go A2 H2 S2 i w e2 so2 hw;show .inr #[go,λY3 H3=>∃A3 Z3 S3,Ext X.K A1 H1 A3 H3/\EnvRel X.K A3 H3 Z3 Y3/\StoreOk X.w X.K A3 H3 S3/\dy mi g fb fx m (i+1) Z3 S3=ba (cn,ws,S'),λY' H' h=>#[m,JT _,h],λx H3 hy=>?_]
      obtain⟨x1,x2,x3⟩:=yl x H3 hy;split at w2
      ·rename_i Z3 S3 h3;show#[A2,Z2,S2,w,Z3,S3,er2.mono x1,x2,x3,h3,λY4 H4 A4 y1 y2 y3=>?_]
       have ex:Ext X.K A1 H1 A4 H4:=(e2.trans x1).trans y1;split at w2
       ·rename_i Z5 S5 h5;show .inl #[A4,Z3,S3,_,S5,y3,y2,h5,#[λY' H' #[Z',A',u0,u1,u2,u3]=>?_,λv H' #[w,A',y0,_,_,_]=>(by cases y0),λv H' #[w,A',y0,_,_,_]=>(by cases y0),λv H' #[w,A',y0,_,_,_]=>(by cases y0)]]
        cases u0;exact#[A',_,S5,ex.trans u1,u3,u2,w2]
       ·rename_i Z5 S5 h5;show .inl #[A4,Z3,S3,_,S5,y3,y2,h5,#[λv H' #[w,A',y0,_,_,_]=>(by cases y0),λv H' #[w,A',y0,_,_,_]=>(by cases y0),λv H' #[w,A',y0,_,_,_]=>(by cases y0),λY' H' #[Z',A',u0,u1,u2,u3]=>?_]]
        cases u0;exact#[A',_,S5,ex.trans u1,u3,u2,w2]
       ·cases w2
       ·exact .inr #[A4,Z3,S3,cn,ws,S',C,gs,y3,y2,w2,hcl,λcls dd H5 z=>q cls dd H5 ((z.after ex).after z1)]
      ·cases w2
     ·cases w2
   ·cases e
  ·cases e
end Mi
namespace Mi
open PySem PySem.Spec PyProof.Rows L2
abbrev Wp {α:Type}(o:Hs α)(Q:α->Prop):Prop:=∃a,o=ba a/\Q a
def ac {α:Type}{a:α}{Q:α->Prop}:Wp (ba a) Q↔Q a:=#[λ#[b,e,h]=>(by cases e; exact h),λh=>#[a,rfl,h]]
def ae {α:Type}{Q:α->Prop}:Wp (gV:Hs α) Q↔ID:=#[λ#[b,e,h]=>(by cases e),λh=>h.elim]
def Wp.mono {α:Type}{o:Hs α}{Q Q':α->Prop}(h:Wp o Q)(k:∀a,Q a->Q' a):Wp o Q':=let ⟨a,e,q⟩:=h; #[a,e,k a q]
def Ge {α β:Type}{o:Hs α}{f:α->β}{Q:β->Prop}:Wp (o.map f) Q↔Wp o λa=>Q (f a):=by cases o <;> simp[ac,ae]
section
variable{M:HC->FF}{fuel:Hz}{Z:Fm}{S:aa}
noncomputable abbrev QW:=W×aa->Prop
def G9 {w:W}{Q:QW}:Wp (ar M (.c w) Z S) Q↔Q (w,S):=by(dsimp only[ar]; simp[fC,ac,ae])
def GY {i:Hz}{Q:QW}:Wp (ar M (.v i) Z S) Q↔∃w,Z[i]?=ba (ba w)/\Q (w,S):=by
 (dsimp only[ar]; simp only[fV])
 rcases h:Z[i]? with _|_|w <;> simp[ac,ae]
def uU {g:W->W->aa->Hs (W×aa)}{a b:FE}{Q:QW}:Wp (t8 g a b Z S) Q↔Wp (a Z S) λp=>Wp (b Z p.2) λq=>Wp (g p.1 q.1 q.2) Q:=by
 unfold t8;rcases h:a Z S with _|⟨x,S1⟩
 ·simp[ac,ae]
 ·rcases h2:b Z S1 with _|⟨y,S2⟩ <;> simp[ac,ae,h2]
def Gf {o:BOp}{a b:E}{Q:QW}:Wp (ar M (.op o a b) Z S) Q↔Wp (ar M a Z S) λp=>Wp (ar M b Z p.2) λq=>Wp (eF o p.1 q.1 q.2) Q:=by dsimp only[ar]; exact uU
def zD {o:COp}{a b:E}{Q:QW}:Wp (ar M (.cmp o a b) Z S) Q↔Wp (ar M a Z S) λp=>Wp (ar M b Z p.2) λq=>Wp (cV o p.1 q.1 q.2) Q:=by dsimp only[ar]; exact uU
def Gg {a b:E}{Q:QW}:Wp (ar M (.ix a b) Z S) Q↔Wp (ar M a Z S) λp=>Wp (ar M b Z p.2) λq=>Wp (iP p.1 q.1 q.2) Q:=by dsimp only[ar]; exact uU
def DM {a b:E}{Q:QW}:Wp (ar M (.and a b) Z S) Q↔Wp (ar M a Z S) λp=>∃k,p.1=.bl k/\(k=true->Wp (ar M b Z p.2) Q)/\(k=false->Q (.bl false,p.2)):=by
 (dsimp only[ar]; dsimp only[pI])
 rcases h:ar M a Z S with _|⟨x,S1⟩
 ·simp[ac,ae]
 ·cases x <;> simp[ac,ae]
  rename_i b; cases b <;> simp[ac,ae]
def Gh {a b:E}{Q:QW}:Wp (ar M (.or a b) Z S) Q↔Wp (ar M a Z S) λp=>∃k,p.1=.bl k/\(k=true->Q (.bl true,p.2))/\(k=false->Wp (ar M b Z p.2) Q):=by
 (dsimp only[ar]; dsimp only[xI])
 rcases h:ar M a Z S with _|⟨x,S1⟩
 ·simp[ac,ae]
 ·cases x <;> simp[ac,ae]
  rename_i b; cases b <;> simp[ac,ae]
def DN {a:E}{Q:QW}:Wp (ar M (.not a) Z S) Q↔Wp (ar M a Z S) λp=>∃k,p.1=.bl k/\Q (.bl (!k),p.2):=by
 (dsimp only[ar]; dsimp only[pJ])
 rcases h:ar M a Z S with _|⟨x,S1⟩
 ·simp[ac,ae]
 ·cases x <;> simp[ac,ae]
  rename_i k; cases k <;> simp
def DO {t a b:E}{Q:QW}:Wp (ar M (.ite t a b) Z S) Q↔Wp (bF M t Z S) λp=>(p.1=true->Wp (ar M a Z p.2) Q)/\(p.1=false->Wp (ar M b Z p.2) Q):=by
 (dsimp only[ar]; simp only[xJ])
 rcases h:bF M t Z S with _|⟨x,S1⟩
 ·simp[ac,ae]
 ·cases x <;> simp[ac,ae]
def zE {f:HC}{n:Hz}{es:Es}{Q:QW}:Wp (ar M (.own f n es) Z S) Q↔Wp (aX M es Z S) λp=>p.1.length=n/\Wp (M f p.1 p.2) Q:=by
 (dsimp only[ar]; dsimp only[cY])
 rcases h:aX M es Z S with _|⟨x,S1⟩
 ·simp[ac,ae]
 ·by_cases hl:x.length=n <;> simp[ac,ae,hl]
def DP {b:Bi}{es:Es}{Q:QW}:Wp (ar M (.bi b es) Z S) Q↔Wp (aX M es Z S) λp=>Wp (b.fn p.1 p.2) Q:=by
 (dsimp only[ar]; dsimp only[gW])
 rcases h:aX M es Z S with _|⟨x,S1⟩ <;> simp[ac,ae]
def Gi {m:Me}{o:E}{es:Es}{Q:QW}:Wp (ar M (.me m o es) Z S) Q↔Wp (ar M o Z S) λp=>tyOk m.ty p.2 p.1=true/\Wp (aX M es Z p.2) λq=>Wp (m.fn p.1 q.1 q.2) Q:=by
 (dsimp only[ar]; dsimp only[Cv])
 rcases h:ar M o Z S with _|⟨x,S1⟩
 ·simp[ac,ae]
 ·by_cases ht:tyOk m.ty S1 x=true
  ·rcases h2:aX M es Z S1 with _|⟨y,S2⟩ <;> simp[ac,ae,ht,h2]
  ·simp[ac,ae,ht]
def Gj {a:E}{lo hi:Ep}{Q:QW}:Wp (ar M (.sl a lo hi) Z S) Q↔Wp (ar M a Z S) λp=>Wp (pP M lo Z p.2) λq=>Wp (pP M hi Z q.2) λr=>Wp (jV p.1 q.1 r.1 r.2) Q:=by
 (dsimp only[ar]; dsimp only[Ds])
 rcases h:ar M a Z S with _|⟨x,S1⟩
 ·simp[ac,ae]
 ·rcases h2:pP M lo Z S1 with _|⟨y,S2⟩
  ·simp[ac,ae,h2]
  ·rcases h3:pP M hi Z S2 with _|⟨z,S3⟩ <;> simp[ac,ae,h2,h3]
def Gk {Q:Hs HR×aa->Prop}:Wp (pP M .no Z S) Q↔Q (gV,S):=by(dsimp only[pP]; simp[A6,ac,ae])
def DQ {a:E}{Q:Hs HR×aa->Prop}:Wp (pP M (.yes a) Z S) Q↔Wp (ar M a Z S) λp=>∃i,p.1=.int i/\Q (ba i,p.2):=by
 (dsimp only[pP]; simp only[pM])
 rcases h:ar M a Z S with _|⟨x,S1⟩
 ·simp[ac,ae]
 ·cases x <;> simp[ac,ae]
def DR {es:Es}{Q:QW}:Wp (ar M (.tup es) Z S) Q↔Wp (aX M es Z S) λp=>p.1.length<=sizeLine/\Q (.tup p.1,p.2):=by
 (dsimp only[ar]; (dsimp only[rs]; simp only[kP]))
 rcases h:aX M es Z S with _|⟨x,S1⟩
 ·simp[ac,ae]
 ·by_cases hl:x.length<=sizeLine <;> simp[ac,ae,hl]
def DS {es:Es}{Q:QW}:Wp (ar M (.lst es) Z S) Q↔Wp (aX M es Z S) λp=>p.1.length<=sizeLine/\Q (.ref p.2.length,p.2++[.lst p.1]):=by
 (dsimp only[ar]; (dsimp only[uu]; simp only[kO]))
 rcases h:aX M es Z S with _|⟨x,S1⟩
 ·simp[ac,ae]
 ·by_cases hl:x.length<=sizeLine <;> simp[ac,ae,hl]
def zF {c:Jb}{a:E}{Q:QW}:Wp (ar M (.isi c a) Z S) Q↔Wp (ar M a Z S) λp=>∃k,nA p.2 p.1 c=ba k/\Q (.bl k,p.2):=by
 (dsimp only[ar]; simp only[uG])
 rcases h:ar M a Z S with _|⟨x,S1⟩
 ·simp[ac,ae]
 ·cases h2:nA S1 x c <;> simp[ac,ae,h2]
  rename_i k; cases k <;> simp
def DU {a:E}{Q:QW}:Wp (ar M (.neg a) Z S) Q↔Wp (ar M a Z S) λp=>∃i,p.1=.int i/\Q (.int (-i),p.2):=by
 (dsimp only[ar]; simp only[t9])
 rcases h:ar M a Z S with _|⟨x,S1⟩
 ·simp[ac,ae]
 ·cases x <;> simp[ac,ae]
def Bt {es:Es}{Q:QW}:Wp (ar M (.disp es) Z S) Q↔Wp (aX M es Z (S++[.dic []])) λp=>p.2[S.length]?=ba (.dic [])/\∃U,fA [] p.1=ba U/\Q (.ref S.length,p.2.set S.length (.dic U)):=by
 have e:ar M (.disp es) Z S=mH (aX M es) Z S:=by dsimp only[ar]
 rw[e];unfold mH;cases aX M es Z (S++[.dic []])with
 | none=>simp[ae]
 | some p=>
  obtain⟨x,S1⟩:=p;simp only[ac];cases h2:S1[S.length]? with
  | none=>simp[ae]
  | some o=>
   cases o with
   | lst _=>simp[ae]
   | fro _=>simp[ae]
   | frd _=>simp[ae]
   | exc _ _ _ _=>simp[ae]
   | rng _ _=>simp[ae]
   | dic U=>
    cases U with
    | nil=>cases h3:fA [] x <;> simp[ac,ae]
    | cons a b=>simp[ae]
def zG {o o':COp}{a b d:E}{Q:QW}(h:Wp (ar M a Z S) λp=>Wp (ar M b Z p.2) λq=>∃k,v4 o p.1 q.1 q.2=ba k/\(k=true->Wp (ar M d Z q.2) λr=>Wp (cU o' q.1 r.1 r.2) Q)/\(k=false->Q (.bl false,q.2))):Wp (ar M (.chn o o' a b d) Z S) Q:=by
 obtain⟨⟨x,S1⟩,e1,⟨y,S2⟩,e2,k,e3,h1,h2⟩:=h;have e:ar M (.chn o o' a b d) Z S=d0 o o' (ar M a) (ar M b) (ar M d) Z S:=by dsimp only[ar]
 rw[e];unfold d0;rw[e1];dsimp only;rw[e2];dsimp only;rw[e3];cases k with
 | false=>exact#[_,rfl,h2 rfl]
 | true=>
  obtain⟨⟨z,S3⟩,e4,⟨r,e5,q⟩⟩:=h1 rfl;dsimp only;rw[e4];exact#[_,e5,q]
def DV {Q:Ho W×aa->Prop}:Wp (aX M .nil Z S) Q↔Q ([],S):=by(dsimp only[aX]; (dsimp only[g9]; simp[ac,ae]))
def Bu {e:E}{es:Es}{Q:Ho W×aa->Prop}:Wp (aX M (.cons e es) Z S) Q↔Wp (ar M e Z S) λp=>Wp (aX M es Z p.2) λq=>Q (p.1::q.1,q.2):=by
 (dsimp only[aX]; dsimp only[cr])
 rcases h:ar M e Z S with _|⟨x,S1⟩
 ·simp[ac,ae]
 ·rcases h2:aX M es Z S1 with _|⟨y,S2⟩ <;> simp[ac,ae,h2]
noncomputable abbrev QB:=HP×aa->Prop
def zH {f:FE}{Q:QB}:Wp (fP f Z S) Q↔Wp (f Z S) λp=>∃k,p.1=.bl k/\Q (k,p.2):=by
 unfold fP;rcases h:f Z S with _|⟨x,S1⟩
 ·simp[ac,ae]
 ·cases x <;> simp[ac,ae]
  rename_i k; cases k <;> simp
def pZ {f:FE}{Q:QB}:Wp (du f Z S) Q↔Wp (f Z S) λp=>∃k,b6 p.2 p.1=ba k/\Q (k,p.2):=by
 unfold du;rcases h:f Z S with _|⟨x,S1⟩
 ·simp[ac,ae]
 ·cases h2:b6 S1 x <;> simp[ac,ae,h2]
  rename_i k; cases k <;> simp
def DY {o:COp}{a b:E}{Q:QB}:Wp (bF M (.cmp o a b) Z S) Q↔Wp (ar M (.cmp o a b) Z S) λp=>∃k,p.1=.bl k/\Q (k,p.2):=by dsimp only[bF,ar]; exact zH
def DZ {o o':COp}{a b d:E}{Q:QB}:Wp (bF M (.chn o o' a b d) Z S) Q↔Wp (ar M (.chn o o' a b d) Z S) λp=>∃k,p.1=.bl k/\Q (k,p.2):=by dsimp only[bF,ar]; exact zH
def D0 {a b:E}{Q:QB}:Wp (bF M (.and a b) Z S) Q↔Wp (bF M a Z S) λp=>(p.1=true->Wp (bF M b Z p.2) Q)/\(p.1=false->Q (false,p.2)):=by
 (dsimp only[bF]; simp only[uf])
 rcases h:bF M a Z S with _|⟨x,S1⟩
 ·simp[ac,ae]
 ·cases x <;> simp[ac,ae]
def Gm {a b:E}{Q:QB}:Wp (bF M (.or a b) Z S) Q↔Wp (bF M a Z S) λp=>(p.1=true->Q (true,p.2))/\(p.1=false->Wp (bF M b Z p.2) Q):=by
 (dsimp only[bF]; simp only[Dr])
 rcases h:bF M a Z S with _|⟨x,S1⟩
 ·simp[ac,ae]
 ·cases x <;> simp[ac,ae]
def D1 {a:E}{Q:QB}:Wp (bF M (.not a) Z S) Q↔Wp (bF M a Z S) λp=>Q (!p.1,p.2):=by
 (dsimp only[bF]; simp only[xE])
 rcases h:bF M a Z S with _|⟨x,S1⟩ <;> simp[ac,ae]
def Ha {i:Hz}{Q:QB}:Wp (bF M (.v i) Z S) Q↔Wp (ar M (.v i) Z S) λp=>∃k,b6 p.2 p.1=ba k/\Q (k,p.2):=by dsimp only[bF,ar]; exact pZ
def D2 {f:HC}{n:Hz}{es:Es}{Q:QB}:Wp (bF M (.own f n es) Z S) Q↔Wp (ar M (.own f n es) Z S) λp=>∃k,b6 p.2 p.1=ba k/\Q (k,p.2):=by dsimp only[bF,ar]; exact pZ
def Gn {b:Bi}{es:Es}{Q:QB}:Wp (bF M (.bi b es) Z S) Q↔Wp (ar M (.bi b es) Z S) λp=>∃k,b6 p.2 p.1=ba k/\Q (k,p.2):=by dsimp only[bF,ar]; exact pZ
def D3 {c:Jb}{a:E}{Q:QB}:Wp (bF M (.isi c a) Z S) Q↔Wp (ar M (.isi c a) Z S) λp=>∃k,b6 p.2 p.1=ba k/\Q (k,p.2):=by dsimp only[bF,ar]; exact pZ
noncomputable abbrev QO:=Out×aa->Prop
def D4 {Q:QO}:Wp (bH M fuel .nil Z S) Q↔Q (.nx Z,S):=by(dsimp only[bH]; simp[ac,ae])
def Bv {s:Sm}{ss:Ss}{Q:QO}:Wp (bH M fuel (.cons s ss) Z S) Q↔Wp (bv M fuel s Z S) λp=>(∀Z',p.1=.nx Z'->Wp (bH M fuel ss Z' p.2) Q)/\((∀Z',p.1≠.nx Z')->Q p):=by
 (dsimp only[bH]; simp only[hG])
 rcases h:bv M fuel s Z S with _|⟨o,S1⟩
 ·simp[ac,ae]
 ·cases o <;> simp[ac,ae]
def uV {f:FE}{g:FG}{Q:QO}:Wp (d7 f g Z S) Q↔Wp (f Z S) λp=>Wp (g p.1 Z p.2) λq=>Q (.nx q.1,q.2):=by
 unfold d7;rcases h:f Z S with _|⟨x,S1⟩
 ·simp[ac,ae]
 ·rcases h2:g x Z S1 with _|⟨y,S2⟩ <;> simp[ac,ae,h2]
def Bw {i:Hz}{e:E}{Q:QO}:Wp (bv M fuel (.set i e) Z S) Q↔Wp (ar M e Z S) λp=>Q (.nx (Z.set i (ba p.1)),p.2):=by
 dsimp only[bv]; rw[uV]; simp[xR,ac,ae]
def Bx {is:Ho Hz}{e:E}{Q:QO}:Wp (bv M fuel (.asg is e) Z S) Q↔Wp (ar M e Z S) λp=>∃ws Z',p.1=.tup ws/\d6 is ws Z=ba Z'/\Q (.nx Z',p.2):=by
 dsimp only[bv]; rw[uV]
 constructor
 ·show λh=>h.mono λp hp=>?_
  obtain⟨w,S1⟩:=p;obtain⟨q,h1,h2⟩:=hp;cases w with
  | tup ws=>
   simp only[Bb,Hx]at h1;obtain⟨Z',h3,rfl⟩:=h1;exact#[ws,Z',rfl,h3,h2]
  | _=>cases h1
 ·show λh=>h.mono λp hp=>?_
  obtain⟨w,S1⟩:=p;obtain⟨ws,Z',h0,h1,h2⟩:=hp;subst h0;exact#[(Z',S1),by simp[Bb,h1],h2]
def By {i j:Hz}{es:Es}{Q:QO}:Wp (bv M fuel (.par i j es) Z S) Q↔Wp (aX M es Z S) λp=>∃x y,p.1=[x,y]/\Q (.nx ((Z.set i (ba x)).set j (ba y)),p.2):=by
 (dsimp only[bv]; dsimp only[uB])
 rcases h:aX M es Z S with _|⟨x,S1⟩
 ·simp[ae]
 ·match x with
  | []=>simp[ac,ae]
  | [_]=>simp[ac,ae]
  | [a,b]=>
   simp only[ac];exact#[λh=>#[a,b,rfl,h],λ#[x,y,e,h]=>by cases e; exact h]
  | _::_::_::_=>simp[ac,ae]
def Bz {i j l:Hz}{es:Es}{Q:QO}(h:Wp (aX M es Z S) λp=>∃x y z,p.1=[x,y,z]/\Q (.nx (((Z.set i (ba x)).set j (ba y)).set l (ba z)),p.2)):Wp (bv M fuel (.pr3 i j l es) Z S) Q:=by
 obtain⟨⟨ws,S1⟩,e,x,y,z,rfl,q⟩:=h;exact#[_,by dsimp only[bv,uE]; rw[e],q]
def BA {o k e:E}{Q:QO}:Wp (bv M fuel (.put o k e) Z S) Q↔Wp (ar M e Z S) λp=>Wp (ar M o Z p.2) λq=>Wp (ar M k Z q.2) λr=>∃S',g8 q.1 r.1 p.1 r.2=ba S'/\Q (.nx Z,S'):=by
 dsimp only[bv]; rw[uV]
 rcases h:ar M e Z S with _|⟨x,S1⟩
 ·simp[ac,ae]
 ·simp only[ac];unfold xS;rcases h2:ar M o Z S1 with _|⟨y,S2⟩
  ·simp[ac,ae]
  ·rcases h3:ar M k Z S2 with _|⟨z,S3⟩
   ·simp[ac,ae,h3]
   ·cases h4:g8 y z x S3 <;> simp[ac,ae,h3,h4]
def D5 {e:E}{Q:QO}:Wp (bv M fuel (.ex e) Z S) Q↔Wp (ar M e Z S) λp=>Q (.nx Z,p.2):=by
 (dsimp only[bv]; simp only[mz])
 rcases h:ar M e Z S with _|⟨x,S1⟩ <;> simp[ac,ae]
def BB {e:E}{Q:QO}:Wp (bv M fuel (.ret e) Z S) Q↔Wp (ar M e Z S) λp=>Q (.rt p.1,p.2):=by
 (dsimp only[bv]; simp only[mB])
 rcases h:ar M e Z S with _|⟨x,S1⟩ <;> simp[ac,ae]
def BC {t:E}{a b:Ss}{Q:QO}:Wp (bv M fuel (.ite t a b) Z S) Q↔Wp (bF M t Z S) λp=>(p.1=true->Wp (bH M fuel a Z p.2) Q)/\(p.1=false->Wp (bH M fuel b Z p.2) Q):=by
 (dsimp only[bv]; simp only[eO])
 rcases h:bF M t Z S with _|⟨x,S1⟩
 ·simp[ac,ae]
 ·cases x <;> simp[ac,ae]
abbrev uW (I:Fm->aa->Prop)(Q:QO)(o:Out×aa):Prop:=match o.1 with
 | .nx Z'=>I Z' o.2
 | .ct Z'=>I Z' o.2
 | .bk Z'=>Q (.nx Z',o.2)
 | .rt w=>Q (.rt w,o.2)
def gM {mi:MI}{g:FG}{b:FS}{xs:Ho W}{Q:QO}(I:Hz->Fm->aa->Prop)(hat:∀i Z S,I i Z S->mi.at S i=ba xs[i]?)
  (hstep:∀i w Z S,xs[i]?=ba w->I i Z S->Wp (g w Z S) λq=>Wp (b q.1 q.2) (uW (I (i+1)) Q)) (hend:∀Z S,I xs.length Z S->Q (.nx Z,S)):∀(n i:Hz) (Z:Fm) (S:aa),i+n=xs.length->I i Z S->Wp (bq mi g b n i Z S) Q
 | 0,i,Z,S,hl,hI=>by
  have e:mi.at S i=ba gV:=by rw[hat i Z S hI,MU ∅]
  simp only[bq,e];have hi:i=xs.length:=∅
  exact ac.mpr (hend Z S (hi ▸ hI))
 | n+1,i,Z,S,hl,hI=>by
  have hi:i < xs.length:=∅
  have e:mi.at S i=ba (ba xs[i]):=by rw[hat i Z S hI,HI hi]
  obtain⟨⟨Z1,S1⟩,h1,⟨o,S2⟩,h2,h3⟩:=hstep i xs[i] Z S (HI hi) hI;simp only[bq,e,h1,h2];cases o with
  | nx Z2=>exact gM I hat hstep hend n (i+1) Z2 S2 ∅ h3
  | ct Z2=>exact gM I hat hstep hend n (i+1) Z2 S2 ∅ h3
  | bk Z2=>exact ac.mpr h3
  | rt w=>exact ac.mpr h3
def D6 {fi:FI}{g:FG}{b:FS}{Q:QO}:Wp (hW fi g b Z S) Q↔Wp (fi Z S) λp=>∃n,p.1.len p.2=ba n/\Wp (bq p.1 g b n 0 Z p.2) Q:=by
 unfold hW;rcases h:fi Z S with _|⟨mi,S1⟩
 ·simp[ae]
 ·cases h2:mi.len S1 <;> simp[ac,ae,h2]
def b9 {mi:MI}{g:FG}{c:FT}{f:FE}{xs:Ho W}{Q:Ho W×aa->Prop}(I:Hz->Ho W->Fm->aa->Prop)(hat:∀i ys Z S,I i ys Z S->mi.at S i=ba xs[i]?)
  (hstep:∀i w ys Z S,xs[i]?=ba w->I i ys Z S->Wp (g w Z S) λq=>Wp (c q.1 q.2) λk=>(k.1=true->Wp (f q.1 k.2) λy=>I (i+1) (ys++[y.1]) q.1 y.2)/\(k.1=false->I (i+1) ys q.1 k.2))
  (hend:∀ys Z S,I xs.length ys Z S->Q (ys,S)):∀(n i:Hz) (ys:Ho W) (Z:Fm) (S:aa),i+n=xs.length->I i ys Z S->Wp (aV mi g c f n i Z S) λp=>Q (ys++p.1,p.2)
 | 0,i,ys,Z,S,hl,hI=>by
  have e:mi.at S i=ba gV:=by rw[hat i ys Z S hI,MU ∅]
  simp only[aV,e];show ac.mpr ?_;have:i=xs.length:=∅
  simpa using hend ys Z S (this ▸ hI)
 | n+1,i,ys,Z,S,hl,hI=>by
  have hi:i < xs.length:=∅
  have e:mi.at S i=ba (ba xs[i]):=by rw[hat i ys Z S hI,HI hi]
  obtain⟨⟨Z1,S1⟩,h1,⟨k,S2⟩,h2,h3,h4⟩:=hstep i xs[i] ys Z S (HI hi) hI;simp only[aV,e,h1,h2];cases k with
  | true=>
   obtain⟨⟨y,S3⟩,h5,h6⟩:=h3 rfl;simp only[h5];obtain⟨⟨zs,S4⟩,h7,h8⟩:=b9 I hat hstep hend n (i+1) (ys++[y]) Z1 S3 ∅ h6
   simp only[h7];exact ac.mpr (by simpa using h8)
  | false=>exact b9 I hat hstep hend n (i+1) ys Z1 S2 ∅ (h4 rfl)
def uX {elt:E}{tg:Tg}{it:Ie}{cs:Es}{cap:Ho (Hs Hz)}{Q:QW}:Wp (ar M (.comp elt tg it cs cap) Z S) Q↔Wp (j9 M it Z S) λp=>∃n,p.1.len p.2=ba n/\Wp (aV p.1 (lK tg) (yh M cs) (ar M elt) n 0 (ee cap Z) p.2) λq=>q.1.length<=sizeLine/\Q (.ref q.2.length,q.2++[.lst q.1]):=by
 (dsimp only[ar]; simp only[jb,kO])
 rcases h:j9 M it Z S with _|⟨mi,S1⟩
 ·simp[ae]
 ·rcases h2:mi.len S1 with _|n
  ·simp[ac,ae,h2]
  ·rcases h3:aV mi (lK tg) (yh M cs) (ar M elt) n 0 (ee cap Z) S1 with _|⟨ys,S2⟩
   ·simp[ac,ae,h2,h3]
   ·by_cases hl:ys.length<=sizeLine <;> simp[ac,ae,h2,h3,hl]
def D7 {Q:QB}:Wp (yh M .nil Z S) Q↔Q (true,S):=by(dsimp only[yh]; simp[zw,ac])
def D8 {e:E}{Q:QB}:Wp (yh M #v[e] Z S) Q↔Wp (bF M e Z S) Q:=by dsimp only[yh]; exact Iff.rfl
def ji {c:FT}{b:FS}{Q:QO}(I:Hz->Fm->aa->Prop)(hstep:∀m Z S,I m Z S->Wp (c Z S) λk=>(k.1=true->∃m',m=m'+1/\Wp (b Z k.2) (uW (I m') Q))/\(k.1=false->Q (.nx Z,k.2))) :
  ∀(n m:Hz) (Z:Fm) (S:aa),m < n->I m Z S->Wp (lp c b n Z S) Q
 | 0,m,Z,S,h,_=>∅
 | n+1,m,Z,S,h,hI=>by
  obtain⟨⟨k,S1⟩,h1,h2,h3⟩:=hstep m Z S hI;simp only[lp,h1];cases k with
  | false=>exact ac.mpr (h3 rfl)
  | true=>
   obtain⟨m',rfl,⟨o,S2⟩,h5,h6⟩:=h2 rfl;simp only[h5];cases o with
   | nx Z2=>exact ji I hstep n m' Z2 S2 ∅ h6
   | ct Z2=>exact ji I hstep n m' Z2 S2 ∅ h6
   | bk Z2=>exact ac.mpr h6
   | rt w=>exact ac.mpr h6
def rM {defs:Ho (HC×Df)}{d:Hz}{f:HC}{ws:Ho W}{df:Df}{Q:QW}(h:defs.lookup f=ba df)(hl:ws.length=df.ps.length)
  (hb:Wp (bH (ah defs fuel d) fuel df.body (aY df.N ws) S) λp=>match p.1 with|.rt w=>Q (w,p.2)|.nx _=>Q (.non,p.2)|_=>ID):Wp (ah defs fuel (d+1) f ws S) Q:=by
 obtain⟨⟨o,S1⟩,h1,h2⟩:=hb;simp only[ah,h,HN hl,h1];cases o with
 | rt w=>exact ac.mpr h2
 | nx Z=>exact ac.mpr h2
 | bk _=>exact h2.elim
 | ct _=>exact h2.elim
end
section
variable{S:aa}{Q:QW}
def bW {a b:HR}:eF .add (.int a) (.int b) S=ba (.int (a+b),S):=rfl
def D9 {a b:HR}:eF .sub (.int a) (.int b) S=ba (.int (a - b),S):=rfl
def lw {c:HR->HR->HP}{f:HR->HR->HR}{i j:HR}(h:c i j=true):vZ c f (.int i) (.int j) S=ba (.int (f i j),S):=by
 unfold vZ;dsimp only;rw[HN h]
def qa {a b:HR}(h : -(2 ^ 64) < b)(h2:b < 2 ^ 64):eF .mul (.int a) (.int b) S=ba (.int (a*b),S):=lw (c:=qV) (f:=(· * ·)) (by
 unfold qV;simp only[Jj,Hu,Im];exact .inr #[h,h2])
def mS {a b:HR}(h:0 < b):eF .mod (.int a) (.int b) S=ba (.int (a % b),S):=lw (c:=λ_ j=>decide (0 < j)) (f:=(· % ·)) (Ji h)
def uY {a b:HR}(h:0 < b)(h2:b < 1073741824):eF .fdiv (.int a) (.int b) S=ba (.int (a / b),S):=lw (c:=λ_ j=>wX j) (f:=(· / ·)) (by
 unfold wX;simp only[Hu,Im];exact#[h,h2])
def BE:eF .pow (.int 10) (.int 18) S=ba (.int 1000000000000000000,S):=rfl
def BF {x y:HC}(h:x.length+y.length<=sizeLine):eF .add (.str x) (.str y) S=ba (.str (x++y),S):=by simp only[eF,qW]; rw[HN h]
def oz {xs ys:Ho W}(h:(xs++ys).length<=sizeLine):eF .add (.tup xs) (.tup ys) S=ba (.tup (xs++ys),S):=by simp only[eF,qW,kP]; rw[HN h]
def uZ {i j:Hz}{xs ys:Ho W}(h1:S[i]?=ba (.lst xs))(h2:S[j]?=ba (.lst ys))(h:(xs++ys).length<=sizeLine):eF .add (.ref i) (.ref j) S=ba (.ref S.length,S++[.lst (xs++ys)]):=by
 simp only[eF,qW,lJ,h1,h2,kO]; rw[HN h]
def mT {a b:HR}:cV .eq (.int a) (.int b) S=ba (.bl (a==b),S):=rfl
def Ea {a b:HR}:cV .lt (.int a) (.int b) S=ba (.bl (decide (a < b)),S):=rfl
def Eb {a b:HR}:cV .gt (.int a) (.int b) S=ba (.bl (decide (a > b)),S):=rfl
def Go {a b:HR}:cV .ge (.int a) (.int b) S=ba (.bl (decide (a>=b)),S):=rfl
def zI {a b:HC}:cV .eq (.str a) (.str b) S=ba (.bl (a==b),S):=rfl
def Ec {a b:HC}:cV .ne (.str a) (.str b) S=ba (.bl (!(a==b)),S):=rfl
def aT {r:Hz}{xs:Ho W}(h:S[r]?=ba (.lst xs)):fm S r=ba xs:=by simp[fm,h]
def yo {r:Hz}{xs:Ho W}(h:S[r]?=ba (.fro xs)):fm S r=ba xs:=by simp[fm,h]
def io {r:Hz}{xs:Ho W}(h:S[r]?=ba (.lst xs)):lJ S r=ba xs:=by simp[lJ,h]
def qb {r:Hz}{xs:Ho W}(h:S[r]?=ba (.lst xs)):jA S r=gV:=by simp[jA,h]
def yp {r:Hz}{U:Ho (T×W)}(h:S[r]?=ba (.dic U)):jA S r=ba U:=by simp[jA,h]
def yq {r:Hz}{U:Ho (T×W)}(h:S[r]?=ba (.dic U)):fm S r=gV:=by simp[fm,h]
def atI_nat {α:Type}{xs:Ho α}{j:Hz}{w:α}(h:xs[j]?=ba w):nz xs (j:HR)=ba w:=by
 have hl:=(HD.mp h).1;unfold nz r6;rw[HN (IR j),HN (by exact_mod_cast hl)]
 simpa using h
def lx {α:Type}{xs:Ho α}{i:HR}{w:α}(h0:0<=i)(h:xs[i.toNat]?=ba w):nz xs i=ba w:=by
 have:=atI_nat h
 rwa [Nj h0]at this
def u4 {r:Hz}{xs:Ho W}{i:HR}{w:W}(h:S[r]?=ba (.lst xs))(h0:0<=i)(hw:xs[i.toNat]?=ba w):iP (.ref r) (.int i) S=ba (w,S):=by
 change r8 (.ref r) (.int i) S=_;simp[r8,aT h,lx h0 hw]
def Ed {xs:Ho W}{i:HR}{w:W}(h0:0<=i)(hw:xs[i.toNat]?=ba w):iP (.tup xs) (.int i) S=ba (w,S):=by
 change r8 (.tup xs) (.int i) S=_;simp[r8,lx h0 hw]
def zJ {x:HC}{i:HR}{c:Hz}(hz:x.length<=sizeLine)(h0:0<=i)(hw:x.cps.toList[i.toNat]?=ba c):iP (.str x) (.int i) S=ba (.str #[[c].toArray],S):=by
 change r8 (.str x) (.int i) S=_;simp[r8,hz,lx h0 hw]
def Ee {r:Hz}{xs:Ho W}{i:HR}{w:W}(h:S[r]?=ba (.lst xs))(h0:0<=i)(hi:i.toNat < xs.length):g8 (.ref r) (.int i) w S=ba (S.set r (.lst (xs.set i.toNat w))):=by
 change qX (.ref r) (.int i) w S=_;have:r6 xs.length i=ba i.toNat:=by
  unfold r6;rw[HN h0,HN ∅]
 simp[qX,io h,this]
def zK {r:Hz}{xs:Ho W}(h:S[r]?=ba (.lst xs)):n0 [.ref r] S=ba (.int xs.length,S):=by
 (dsimp only[n0,nU]; simp[qb h,aT h])
def Ef {r:Hz}{xs:Ho W}{y:W}(h:S[r]?=ba (.lst xs))(hl:xs.length < sizeLine):fL (.ref r) [y] S=ba (.non,S.set r (.lst (xs++[y]))):=by
 simp[fL,io h,hl]
def Eg {r:Hz}{xs:Ho W}(h:S[r]?=ba (.lst xs)):iV [.ref r] S=ba (.tup xs,S):=by
 (dsimp only[iV,iM]; simp[AQ,h,aT h])
def jj {r:Hz}{xs:Ho W}(h:S[r]?=ba (.lst xs)):tyOk "list" S (.ref r)=true:=by simp[tyOk,aT h]
def eu {r:Hz}{o o':O}(h:S[r]?=ba o):(S.set r o')[r]?=ba o':=by
 rw[Jo,HN rfl,HN (HD.mp h).1]
def gZ {r j:Hz}{o':O}(h:r≠j):(S.set r o')[j]?=S[j]?:=by rw[Jo,HY h]
def aq {o:O}:(S++[o])[S.length]?=ba o:=by simp
def aK {j:Hz}{o u:O}(h:S[j]?=ba o):(S++[u])[j]?=ba o:=by rw[IB (HD.mp h).1]; exact h
def qe {j:Hz}{o:O}(h:S[j]?=ba o):j < S.length:=(HD.mp h).1
structure Kp (r:Hz)(S S':aa):Prop where
 get:∀j o,j≠r->S[j]?=ba o->S'[j]?=ba o
 len:S.length<=S'.length
def Kp.refl {r:Hz}{S:aa}:Kp r S S:=#[λ_ _ _ h=>h,HJ _]
def Kp.trans {r:Hz}{S S' S'':aa}(a:Kp r S S')(b:Kp r S' S''):Kp r S S'':=#[λj o n h=>b.get j o n (a.get j o n h),Ix a.len b.len]
def Kp.set {r:Hz}{S:aa}{o:O}:Kp r S (S.set r o):=#[λj u n h=>by rw[gZ (Ne.symm n)]; exact h,by simp]
def Kp.push {r:Hz}{S:aa}{o:O}:Kp r S (S++[o]):=#[λj u n h=>aK h,by simp]
def Kp.late {r t:Hz}{S0 S:aa}{o:O}(a:Kp r S0 S)(h:S0.length<=t):Kp r S0 (S.set t o):=
 #[λj u n e=>by
  have:=qe e;rw[gZ ∅]; exact a.get j u n e,by simpa using a.len]
end
abbrev wO {α:Type}(o:Hs α)(Q:α->Prop):Prop:=match o with
 | some a=>Q a
 | none=>ID
def aO {α:Type}{o:Hs α}{Q:α->Prop}(h:wO o Q):Wp o Q:=by
 cases o with
 | none=>exact h.elim
 | some a=>exact#[a,rfl,h]
def Eh {α:Type}{o:Hs α}{Q:α->Prop}(h:Wp o Q):wO o Q:=by
 obtain⟨a,rfl,q⟩:=h;exact q
def af {α:Type}{o:Hs α}{a:α}{Q:α->Prop}(e:o=ba a)(h:Q a):wO o Q:=by subst e; exact h
abbrev wB:W->(HP->Prop)->Prop
 | .bl k,Q=>Q k
 | _,_=>ID
abbrev wN:W->(HR->Prop)->Prop
 | .int k,Q=>Q k
 | _,_=>ID
abbrev wU:W->(Ho W->Prop)->Prop
 | .tup k,Q=>Q k
 | _,_=>ID
def mU {w:W}{Q:HP->Prop}(h:wB w Q):∃k,w=.bl k/\Q k:=by cases w <;> first|exact h.elim|exact#[_,rfl,h]
def zL {w:W}{Q:HR->Prop}(h:wN w Q):∃k,w=.int k/\Q k:=by cases w <;> first|exact h.elim|exact#[_,rfl,h]
def Ei {w:W}{Q:Ho W->Prop}(h:wU w Q):∃k,w=.tup k/\Q k:=by cases w <;> first|exact h.elim|exact#[_,rfl,h]
abbrev w2:Ho W->(W->W->Prop)->Prop
 | [x,y],Q=>Q x y
 | _,_=>ID
def Ej {xs:Ho W}{Q:W->W->Prop}(h:w2 xs Q):∃x y,xs=[x,y]/\Q x y:=by
 match xs,h with
 | [x,y],h=>exact#[x,y,rfl,h]
abbrev w3:Ho W->(W->W->W->Prop)->Prop
 | [x,y,z],Q=>Q x y z
 | _,_=>ID
def Ek {xs:Ho W}{Q:W->W->W->Prop}(h:w3 xs Q):∃x y z,xs=[x,y,z]/\Q x y z:=by
 match xs,h with
 | [x,y,z],h=>exact#[x,y,z,rfl,h]
abbrev wG:Hs W->(W->Prop)->Prop
 | some w,Q=>Q w
 | none,_=>ID
abbrev wV:Fm->Hz->(W->Prop)->Prop
 | [],_,_=>ID
 | o::_,0,Q=>wG o Q
 | _::Z,n+1,Q=>wV Z n Q
def u5 {Q:W->Prop}:∀ {Z:Fm} {i:Hz},wV Z i Q->∃w,Z[i]?=ba (ba w)/\Q w
 | [],i,h=>h.elim
 | some w::Z,0,h=>#[w,rfl,h]
 | none::Z,0,h=>h.elim
 | x::Z,n+1,h=>by
  obtain⟨w,e2,q⟩:=u5 (Z:=Z) (i:=n) h;exact#[w,e2,q]
abbrev aU (M:HC->FF)(f:HC)(n:Hz)(ws:Ho W)(S:aa):Hs (W×aa):=if ws.length=n then M f ws S else gV
section
variable (M:HC->FF) (fuel:Hz)
mutual
def wE:E->Fm->aa->QW->Prop
 | .c w,_,S,Q=>Q (w,S)
 | .v i,Z,S,Q=>wV Z i λw=>Q (w,S)
 | .sem g,Z,S,Q=>wO (g Z S) Q
 | .op o a b,Z,S,Q=>wE a Z S λp=>wE b Z p.2 λq=>wO (eF o p.1 q.1 q.2) Q
 | .cmp o a b,Z,S,Q=>wE a Z S λp=>wE b Z p.2 λq=>wO (cV o p.1 q.1 q.2) Q
 | .and a b,Z,S,Q=>wE a Z S λp=>wB p.1 λk=>(k=true->wE b Z p.2 Q)/\(k=false->Q (.bl false,p.2))
 | .or a b,Z,S,Q=>wE a Z S λp=>wB p.1 λk=>(k=true->Q (.bl true,p.2))/\(k=false->wE b Z p.2 Q)
 | .not a,Z,S,Q=>wE a Z S λp=>wB p.1 λk=>Q (.bl (!k),p.2)
 | .own f n es,Z,S,Q=>wA es Z S λp=>wO (aU M f n p.1 p.2) Q
 | .bi b es,Z,S,Q=>wA es Z S λp=>wO (b.fn p.1 p.2) Q
 | .me m o es,Z,S,Q=>wE o Z S λp=>tyOk m.ty p.2 p.1=true/\wA es Z p.2 λq=>wO (m.fn p.1 q.1 q.2) Q
 | .ix a b,Z,S,Q=>wE a Z S λp=>wE b Z p.2 λq=>wO (iP p.1 q.1 q.2) Q
 | .sl a lo hi,Z,S,Q=>wE a Z S λp=>wP lo Z p.2 λq=>wP hi Z q.2 λr=>wO (jV p.1 q.1 r.1 r.2) Q
 | .tup es,Z,S,Q=>wA es Z S λp=>Q (.tup p.1,p.2)
 | .lst es,Z,S,Q=>wA es Z S λp=>Q (.ref p.2.length,p.2++[.lst p.1])
 | .isi c a,Z,S,Q=>wE a Z S λp=>wO (nA p.2 p.1 c) λk=>Q (.bl k,p.2)
 | .neg a,Z,S,Q=>wE a Z S λp=>wN p.1 λi=>Q (.int (-i),p.2)
 | .dnew,_,S,Q=>Q (.ref S.length,S++[.dic []])
 | .disp es,Z,S,Q=>wA es Z (S++[.dic []]) λp=>p.2[S.length]?=ba (.dic [])/\wO (fA [] p.1) λU=>Q (.ref S.length,p.2.set S.length (.dic U))
 | .chn o o' a b d,Z,S,Q=>wE a Z S λp=>wE b Z p.2 λq=>wO (v4 o p.1 q.1 q.2) λk=>(k=true->wE d Z q.2 λr=>wO (cU o' q.1 r.1 r.2) Q)/\(k=false->Q (.bl false,q.2))
 | .ite t a b,Z,S,Q=>wT t Z S λp=>(p.1=true->wE a Z p.2 Q)/\(p.1=false->wE b Z p.2 Q)
 | .comp elt tg it cs cap,Z,S,Q=>Wp (ar M (.comp elt tg it cs cap) Z S) Q
def wT:E->Fm->aa->QB->Prop
 | .cmp o a b,Z,S,Q=>wE a Z S λp=>wE b Z p.2 λq=>wO (cV o p.1 q.1 q.2) λr=>wB r.1 λk=>Q (k,r.2)
 | .and a b,Z,S,Q=>wT a Z S λp=>(p.1=true->wT b Z p.2 Q)/\(p.1=false->Q (false,p.2))
 | .or a b,Z,S,Q=>wT a Z S λp=>(p.1=true->Q (true,p.2))/\(p.1=false->wT b Z p.2 Q)
 | .not a,Z,S,Q=>wT a Z S λp=>Q (!p.1,p.2)
 | .isi c a,Z,S,Q=>wE a Z S λp=>wO (nA p.2 p.1 c) λk=>Q (k,p.2)
 | .c w,Z,S,Q=>Wp (bF M (.c w) Z S) Q
 | .v i,Z,S,Q=>wV Z i λw=>wO (b6 S w) λk=>Q (k,S)
 | .sem g,Z,S,Q=>wO (g Z S) λq=>wO (b6 q.2 q.1) λk=>Q (k,q.2)
 | .op o a b,Z,S,Q=>Wp (bF M (.op o a b) Z S) Q
 | .own f n es,Z,S,Q=>wA es Z S λp=>wO (aU M f n p.1 p.2) λq=>wO (b6 q.2 q.1) λk=>Q (k,q.2)
 | .bi b es,Z,S,Q=>wA es Z S λp=>wO (b.fn p.1 p.2) λq=>wO (b6 q.2 q.1) λk=>Q (k,q.2)
 | .me m o es,Z,S,Q=>Wp (bF M (.me m o es) Z S) Q
 | .ix a b,Z,S,Q=>Wp (bF M (.ix a b) Z S) Q
 | .sl a lo hi,Z,S,Q=>Wp (bF M (.sl a lo hi) Z S) Q
 | .tup es,Z,S,Q=>Wp (bF M (.tup es) Z S) Q
 | .lst es,Z,S,Q=>Wp (bF M (.lst es) Z S) Q
 | .neg a,Z,S,Q=>Wp (bF M (.neg a) Z S) Q
 | .dnew,Z,S,Q=>Wp (bF M .dnew Z S) Q
 | .disp es,Z,S,Q=>Wp (bF M (.disp es) Z S) Q
 | .chn o o' a b d,Z,S,Q=>wE a Z S λp=>wE b Z p.2 λq=>wO (v4 o p.1 q.1 q.2) λk=>(k=true->wE d Z q.2 λr=>wO (cU o' q.1 r.1 r.2) λs=>wB s.1 λc=>Q (c,s.2))/\(k=false->Q (false,q.2))
 | .ite t a b,Z,S,Q=>Wp (bF M (.ite t a b) Z S) Q
 | .comp elt tg it cs cap,Z,S,Q=>Wp (bF M (.comp elt tg it cs cap) Z S) Q
def wA:Es->Fm->aa->(Ho W×aa->Prop)->Prop
 | .nil,_,S,Q=>Q ([],S)
 | .cons e es,Z,S,Q=>wE e Z S λp=>wA es Z p.2 λq=>Q (p.1::q.1,q.2)
def wP:Ep->Fm->aa->(Hs HR×aa->Prop)->Prop
 | .no,_,S,Q=>Q (gV,S)
 | .yes a,Z,S,Q=>wE a Z S λp=>wN p.1 λi=>Q (ba i,p.2)
end
abbrev mV (K:Fm->aa->Prop)(Q:QO)(p:Out×aa):Prop:=match p.1 with
 | .nx Z=>K Z p.2
 | o=>Q (o,p.2)
mutual
def wS:Sm->Fm->aa->(Fm->aa->Prop)->QO->Prop
 | .sem g,Z,S,K,Q=>wO (g M Z S) (mV K Q)
 | .set i e,Z,S,K,_=>wE M e Z S λp=>K (Z.set i (ba p.1)) p.2
 | .asg is e,Z,S,K,_=>wE M e Z S λp=>wU p.1 λws=>wO (d6 is ws Z) λZ'=>K Z' p.2
 | .par i j es,Z,S,K,_=>wA M es Z S λp=>w2 p.1 λx y=>K ((Z.set i (ba x)).set j (ba y)) p.2
 | .pr3 i j l es,Z,S,K,_=>wA M es Z S λp=>w3 p.1 λx y z=>K (((Z.set i (ba x)).set j (ba y)).set l (ba z)) p.2
 | .put o k e,Z,S,K,_=>wE M e Z S λp=>wE M o Z p.2 λq=>wE M k Z q.2 λr=>wO (g8 q.1 r.1 p.1 r.2) λS'=>K Z S'
 | .ex e,Z,S,K,_=>wE M e Z S λp=>K Z p.2
 | .ret e,Z,S,_,Q=>wE M e Z S λp=>Q (.rt p.1,p.2)
 | .retN,_,S,_,Q=>Q (.rt .non,S)
 | .pass,Z,S,K,_=>K Z S
 | .brk,Z,S,_,Q=>Q (.bk Z,S)
 | .cont,Z,S,_,Q=>Q (.ct Z,S)
 | .bad,_,_,_,_=>ID
 | .ite t a b,Z,S,K,Q=>wT M t Z S λp=>∀Q':QO,(∀Z' S',K Z' S'->Q' (.nx Z',S'))->(∀o S',(∀Z',o≠.nx Z')->Q (o,S')->Q' (o,S'))->(p.1=true->u6 a Z p.2 Q')/\(p.1=false->u6 b Z p.2 Q')
 | .whl t b,Z,S,K,Q=>Wp (bv M fuel (.whl t b) Z S) (mV K Q)
 | .loop tg it b,Z,S,K,Q=>Wp (bv M fuel (.loop tg it b) Z S) (mV K Q)
def u6:Ss->Fm->aa->QO->Prop
 | .nil,Z,S,Q=>Q (.nx Z,S)
 | .cons s ss,Z,S,Q=>wS s Z S (λZ' S'=>u6 ss Z' S' Q) Q
end
end
abbrev Cw:Es->Hz
 | .nil=>0
 | .cons _ es=>Cw es+1
mutual
def dz:E->HP
 | .c _|.v _|.sem _|.comp _ _ _ _ _|.dnew=>true
 | .op _ a b|.cmp _ a b|.and a b|.or a b|.ix a b=>dz a&&dz b
 | .chn _ _ a b c|.ite a b c=>dz a&&dz b&&dz c
 | .neg a|.not a|.isi _ a=>dz a
 | .own _ n es=>Cw es==n&&mW es
 | .bi _ es|.disp es=>mW es
 | .me _ o es=>dz o&&mW es
 | .sl a lo hi=>dz a&&Gp lo&&Gp hi
 | .tup es|.lst es=>decide (Cw es<=1000)&&mW es
def mW:Es->HP
 | .nil=>true
 | .cons e es=>dz e&&mW es
def Gp:Ep->HP
 | .no=>true
 | .yes e=>dz e
end
mutual
def GZ:Sm->HP
 | .set _ e|.asg _ e|.ex e|.ret e=>dz e
 | .put o k e=>dz o&&dz k&&dz e
 | .par _ _ es=>mW es
 | .pr3 _ _ _ es=>mW es
 | .ite t a b=>dz t&&fU a&&fU b
 | _=>true
def fU:Ss->HP
 | .nil=>true
 | .cons s ss=>GZ s&&fU ss
end
section
variable{M:HC->FF}{fuel:Hz}
def eL:∀ {es:Es} {Z:Fm} {S S':aa} {ws:Ho W},aX M es Z S=ba (ws,S')->ws.length=Cw es
 | .nil,Z,S,S',ws,h=>by dsimp only[aX]at h; cases h; rfl
 | .cons e es,Z,S,S',ws,h=>by
  dsimp only[aX]at h;unfold cr at h;split at h
  ·split at h
   ·rename_i h2; cases h; rw[IU,eL h2]; rfl
   ·cases h
  ·cases h
def oB {n:Hz}(h:decide (n<=1000)=true):n<=sizeLine:=Ix (IX h) (by rw[IN]; decide)
def El {g:FE}{Z:Fm}{S:aa}{Q:QB}(h:wO (g Z S) λq=>wO (b6 q.2 q.1) λk=>Q (k,q.2)):Wp (du g Z S) Q:=by
 obtain⟨⟨w,S1⟩,e,hq⟩:=aO h;obtain⟨k,e2,q⟩:=aO hq;show#[(k,S1),?_,q];unfold du;rw[e];dsimp only;rw[e2];rfl
def bh {a b:HP}(h:(a&&b)=true):a=true:=by cases a <;> first|rfl|cases h
def bO {a b:HP}(h:(a&&b)=true):b=true:=by cases a <;> first|exact h|cases h
mutual
theorem aB:∀(e:E) {Z:Fm} {S:aa} {Q:QW},dz e=true->wE M e Z S Q->Wp (ar M e Z S) Q
 | .c w,Z,S,Q,k,h=>G9.mpr h
 | .v i,Z,S,Q,k,h=>GY.mpr (u5 h)
 | .sem g,Z,S,Q,k,h=>aO h
 | .op o a b,Z,S,Q,k,h=>Gf.mpr ((aB a (bh k) h).mono λp hp=>(aB b (bO k) hp).mono λq hq=>aO hq)
 | .cmp o a b,Z,S,Q,k,h=>zD.mpr ((aB a (bh k) h).mono λp hp=>(aB b (bO k) hp).mono λq hq=>aO hq)
 | .and a b,Z,S,Q,k,h=>DM.mpr ((aB a (bh k) h).mono λp hp=>let ⟨c,e,h1,h2⟩:=mU hp; #[c,e,λz=>aB b (bO k) (h1 z),h2])
 | .or a b,Z,S,Q,k,h=>Gh.mpr ((aB a (bh k) h).mono λp hp=>let ⟨c,e,h1,h2⟩:=mU hp; #[c,e,h1,λz=>aB b (bO k) (h2 z)])
 | .not a,Z,S,Q,k,h=>DN.mpr ((aB a k h).mono λp hp=>mU hp)
 | .own f n es,Z,S,Q,k,h=>zE.mpr (by
   obtain⟨⟨ws,S1⟩,e,hq⟩:=ey es (bO k) h;have hl:ws.length=n:=(eL e).trans (eq_of_beq (bh k));simp only[aU,HN hl]at hq;exact#[_,e,hl,aO hq])
 | .bi b es,Z,S,Q,k,h=>DP.mpr ((ey es k h).mono λp hp=>aO hp)
 | .me m o es,Z,S,Q,k,h=>Gi.mpr ((aB o (bh k) h).mono λp hp=>#[hp.1,(ey es (bO k) hp.2).mono λq hq=>aO hq])
 | .ix a b,Z,S,Q,k,h=>Gg.mpr ((aB a (bh k) h).mono λp hp=>(aB b (bO k) hp).mono λq hq=>aO hq)
 | .sl a lo hi,Z,S,Q,k,h=>Gj.mpr ((aB a (bh (bh k)) h).mono λp hp=>(zM lo (bO (bh k)) hp).mono λq hq=>(zM hi (bO k) hq).mono λr hr=>aO hr)
 | .tup es,Z,S,Q,k,h=>DR.mpr (by
   obtain⟨⟨ws,S1⟩,e,hq⟩:=ey es (bO k) h;exact#[_,e,by rw[eL e]; exact oB (bh k),hq])
 | .lst es,Z,S,Q,k,h=>DS.mpr (by
   obtain⟨⟨ws,S1⟩,e,hq⟩:=ey es (bO k) h;exact#[_,e,by rw[eL e]; exact oB (bh k),hq])
 | .isi c a,Z,S,Q,k,h=>zF.mpr ((aB a k h).mono λp hp=>aO hp)
 | .neg a,Z,S,Q,k,h=>DU.mpr ((aB a k h).mono λp hp=>zL hp)
 | .dnew,Z,S,Q,k,h=>#[_,rfl,h]
 | .disp es,Z,S,Q,k,h=>Bt.mpr ((ey es k h).mono λp hp=>#[hp.1,let ⟨U,e,q⟩:=aO hp.2; #[U,e,q]])
 | .chn o o' a b d,Z,S,Q,k,h=>zG ((aB a (bh (bh k)) h).mono λp hp=>(aB b (bO (bh k)) hp).mono λq hq=>let ⟨c,e,h1,h2⟩:=aO hq; #[c,e,λz=>(aB d (bO k) (h1 z)).mono λr hr=>aO hr,h2])
 | .ite t a b,Z,S,Q,k,h=>DO.mpr ((fW t (bh (bh k)) h).mono λp hp=>#[λz=>aB a (bO (bh k)) (hp.1 z),λz=>aB b (bO k) (hp.2 z)])
 | .comp elt tg it cs cap,Z,S,Q,k,h=>h
theorem ey:∀(es:Es) {Z:Fm} {S:aa} {Q:Ho W×aa->Prop},mW es=true->wA M es Z S Q->Wp (aX M es Z S) Q
 | .nil,Z,S,Q,k,h=>DV.mpr h
 | .cons e es,Z,S,Q,k,h=>Bu.mpr ((aB e (bh k) h).mono λp hp=>ey es (bO k) hp)
theorem zM:∀(e:Ep) {Z:Fm} {S:aa} {Q:Hs HR×aa->Prop},Gp e=true->wP M e Z S Q->Wp (pP M e Z S) Q
 | .no,Z,S,Q,k,h=>Gk.mpr h
 | .yes a,Z,S,Q,k,h=>DQ.mpr ((aB a k h).mono λp hp=>zL hp)
theorem fW:∀(e:E) {Z:Fm} {S:aa} {Q:QB},dz e=true->wT M e Z S Q->Wp (bF M e Z S) Q
 | .cmp o a b,Z,S,Q,k,h=>DY.mpr (zD.mpr ((aB a (bh k) h).mono λp hp=>(aB b (bO k) hp).mono λq hq=>(aO hq).mono λr hr=>mU hr))
 | .and a b,Z,S,Q,k,h=>D0.mpr ((fW a (bh k) h).mono λp hp=>#[λz=>fW b (bO k) (hp.1 z),hp.2])
 | .or a b,Z,S,Q,k,h=>Gm.mpr ((fW a (bh k) h).mono λp hp=>#[hp.1,λz=>fW b (bO k) (hp.2 z)])
 | .not a,Z,S,Q,k,h=>D1.mpr (fW a k h)
 | .isi c a,Z,S,Q,k,h=>D3.mpr (zF.mpr ((aB a k h).mono λp hp=>let ⟨b,e,q⟩:=aO hp; #[b,e,b,rfl,q]))
 | .v i,Z,S,Q,k,h=>Ha.mpr (GY.mpr (let ⟨w,e,q⟩:=u5 h; #[w,e,aO q]))
 | .sem g,Z,S,Q,k,h=>El h
 | .own f n es,Z,S,Q,k,h=>D2.mpr (zE.mpr (by
   obtain⟨⟨ws,S1⟩,e,hq⟩:=ey es (bO k) h;have hl:ws.length=n:=(eL e).trans (eq_of_beq (bh k));simp only[aU,HN hl]at hq;exact#[_,e,hl,(aO hq).mono λq hq=>aO hq]))
 | .c w,Z,S,Q,k,h=>h
 | .op o a b,Z,S,Q,k,h=>h
 | .bi b es,Z,S,Q,k,h=>Gn.mpr (DP.mpr ((ey es k h).mono λp hp=>(aO hp).mono λq hq=>aO hq))
 | .me m o es,Z,S,Q,k,h=>h
 | .ix a b,Z,S,Q,k,h=>h
 | .sl a lo hi,Z,S,Q,k,h=>h
 | .tup es,Z,S,Q,k,h=>h
 | .lst es,Z,S,Q,k,h=>h
 | .neg a,Z,S,Q,k,h=>h
 | .dnew,Z,S,Q,k,h=>h
 | .disp es,Z,S,Q,k,h=>h
 | .chn o o' a b d,Z,S,Q,k,h=>DZ.mpr (zG ((aB a (bh (bh k)) h).mono λp hp=>(aB b (bO (bh k)) hp).mono λq hq=>let ⟨c,e,h1,h2⟩:=aO hq; #[c,e,λz=>(aB d (bO k) (h1 z)).mono λr hr=>(aO hr).mono λs hs=>mU hs,λz=>#[false,rfl,h2 z]]))
 | .ite t a b,Z,S,Q,k,h=>h
 | .comp elt tg it cs cap,Z,S,Q,k,h=>h
end
mutual
theorem Em:∀(s:Sm) {Z:Fm} {S:aa} {K:Fm->aa->Prop} {Q:QO},GZ s=true->wS M fuel s Z S K Q->Wp (bv M fuel s Z S) (mV K Q)
 | .sem g,Z,S,K,Q,k,h=>aO h
 | .set i e,Z,S,K,Q,k,h=>Bw.mpr (aB e k h)
 | .asg is e,Z,S,K,Q,k,h=>Bx.mpr ((aB e k h).mono λp hp=>let ⟨ws,e1,h1⟩:=Ei hp; let ⟨Z',e2,h2⟩:=aO h1; #[ws,Z',e1,e2,h2])
 | .par i j es,Z,S,K,Q,k,h=>By.mpr ((ey es k h).mono λp hp=>Ej hp)
 | .pr3 i j l es,Z,S,K,Q,k,h=>Bz ((ey es k h).mono λp hp=>Ek hp)
 | .put o i e,Z,S,K,Q,k,h=>BA.mpr ((aB e (bO k) h).mono λp hp=>(aB o (bh (bh k)) hp).mono λq hq=>(aB i (bO (bh k)) hq).mono λr hr=>aO hr)
 | .ex e,Z,S,K,Q,k,h=>D5.mpr (aB e k h)
 | .ret e,Z,S,K,Q,k,h=>BB.mpr (aB e k h)
 | .retN,Z,S,K,Q,k,h=>#[_,rfl,h]
 | .pass,Z,S,K,Q,k,h=>#[_,rfl,h]
 | .brk,Z,S,K,Q,k,h=>#[_,rfl,h]
 | .cont,Z,S,K,Q,k,h=>#[_,rfl,h]
 | .bad,Z,S,K,Q,k,h=>h.elim
 | .ite t a b,Z,S,K,Q,k,h=>BC.mpr ((fW t (bh (bh k)) h).mono λp hp=>by
   obtain⟨h1,h2⟩:=hp (mV K Q) (λZ' S' z=>z) (λo S' hn z=>by cases o <;> first|exact z|exact absurd rfl (hn _))
   exact#[λz=>fB a (bO (bh k)) (h1 z),λz=>fB b (bO k) (h2 z)])
 | .whl t b,Z,S,K,Q,k,h=>h
 | .loop tg it b,Z,S,K,Q,k,h=>h
theorem fB:∀(ss:Ss) {Z:Fm} {S:aa} {Q:QO},fU ss=true->u6 M fuel ss Z S Q->Wp (bH M fuel ss Z S) Q
 | .nil,Z,S,Q,k,h=>D4.mpr h
 | .cons s ss,Z,S,Q,k,h=>Bv.mpr ((Em s (bh k) h).mono λp hp=>by
   obtain⟨o,S1⟩:=p;cases o with
   | nx Z'=>exact#[λZ2 e=>by cases e; exact fB ss (bO k) hp,λz=>absurd rfl (z Z')]
   | _=>exact#[λZ2 e=>(by cases e),λ_=>hp])
end
structure wZ (M:HC->FF)(fuel:Hz)(ss:Ss)(Z:Fm)(S:aa)(Q:QO):Prop where
 out:u6 M fuel ss Z S Q
def En {ss:Ss}{Z:Fm}{S:aa}{Q:QO}:u6 M fuel ss Z S Q=wZ M fuel ss Z S Q:=propext #[λh=>#[h],λh=>h.out]
def BG {defs:Ho (HC×Df)}{d:Hz}{f:HC}{n:Hz}{ws:Ho W}{df:Df}{S:aa}{Q:QW}(h:defs.lookup f=ba df)(hn:ws.length=n)(hl:ws.length=df.ps.length)(ok:fU df.body=true)
  (hb:∀Q':QO,(∀w S',Q (w,S')->Q' (.rt w,S'))->wZ (ah defs fuel d) fuel df.body (aY df.N ws) S Q'):wO (aU (ah defs fuel (d+1)) f n ws S) Q:=by
 unfold aU;rw[HN hn];exact Eh (rM h hl ((fB _ ok (hb (λp=>match p.1 with|.rt w=>Q (w,p.2)|_=>ID) λw S' q=>q).out).mono λp hp=>by
  obtain⟨o,S1⟩:=p;cases o <;> first|exact hp|exact hp.elim))
end
end Mi
namespace Mi
open PySem PySem.Spec PyProof.Rows L2 Xc
abbrev rN:W->Hs W
 | .tup [.non,w]=>ba w
 | .non=>ba .non
 | _=>gV
abbrev xV:W->Hs (HC×Ho W)
 | .tup (.str c::ws)=>ba (c,ws)
 | _=>gV
def Eo {w w':W}(h:rN w=ba w'):xV w=gV:=by
 unfold rN at h;split at h
 ·rfl
 ·rfl
 ·cases h
abbrev E8:Out->Hs Out
 | .rt w=>(rN w).map .rt
 | o=>ba o
abbrev xO:Out->Hs (HC×Ho W)
 | .rt w=>xV w
 | _=>gV
abbrev dN (F:FS):FS:=λZ S=>match F Z S with
 | some (o,S')=>(E8 o).map λo'=>(o',S')
 | none=>gV
abbrev xF (F:FS):FX:=λZ S=>match F Z S with
 | some (o,S')=>(xO o).map λp=>(p.1,p.2,S')
 | none=>gV
def ly (w:W):E8 (.rt w)=gV\/∃w',E8 (.rt w)=ba (.rt w')/\xO (.rt w)=gV:=by
 cases h:rN w with
 | none=>
  show .inl ?_;show(rN w).map _=gV;rw[h];rfl
 | some w'=>
  show .inr #[w',?_,Eo h];show(rN w).map _=_;rw[h];rfl
section
variable{X:Cx}{cl:Cl}{Ew:L2.XK}
def GX.mono {st:Jf}{f f':FS}{fx fx':FX}(h:GX X cl Ew st f fx)(hf:∀Z S r,f' Z S=ba r->f Z S=ba r)(hx:∀Z S r,fx' Z S=ba r->fx Z S=ba r):GX X cl Ew st f' fx':=λJ s Y H D I q=>h J s Y H D I (by
 rcases q with⟨A,Z,S,o,S',er,so,e,d⟩|⟨A,Z,S,cn,ws,S',C,gs,er,so,e,hc,q⟩
 ·exact .inl #[A,Z,S,o,S',er,so,hf _ _ _ e,d]
 ·exact .inr #[A,Z,S,cn,ws,S',C,gs,er,so,hx _ _ _ e,hc,q])
end
def yr (f g:FS):dN (hG f g)=hG (dN f) (dN g):=by
 funext Z S
 unfold dN hG;dsimp only;cases f Z S with
 | none=>rfl
 | some p=>
  obtain⟨o,S1⟩:=p;cases o with
  | rt w=>rcases ly w with e|⟨w',e,_⟩ <;> (dsimp only; rw[e]; rfl)
  | _=>rfl
def BH (f g:FS):xF (hG f g)=pN (dN f) (xF f) (xF g):=by
 funext Z S
 unfold xF hG pN dN;dsimp only;cases f Z S with
 | none=>rfl
 | some p=>
  obtain⟨o,S1⟩:=p;cases o with
  | rt w=>rcases ly w with e|⟨w',e,e2⟩ <;> dsimp only <;> rw[e] <;> first|rfl|(rw[e2]; rfl)
  | _=>rfl
def BI (c:FT)(f g:FS):dN (eO c f g)=eO c (dN f) (dN g):=by
 funext Z S
 unfold dN eO;dsimp only;cases c Z S with
 | none=>rfl
 | some p=>obtain⟨b,S1⟩:=p; cases b <;> rfl
def Er (c:FT)(f g:FS):xF (eO c f g)=xW c (xF f) (xF g):=by
 funext Z S
 unfold xF eO xW;dsimp only;cases c Z S with
 | none=>rfl
 | some p=>obtain⟨b,S1⟩:=p; cases b <;> rfl
def mX (mi:MI)(g:FG)(b:FS):∀(n i:Hz) (Z:Fm) (S:aa),dN (bq mi g b n i) Z S=bq mi g (dN b) n i Z S
 | 0,i,Z,S=>by
  unfold dN;dsimp only[bq];cases mi.at S i with
  | none=>rfl
  | some o=>cases o <;> rfl
 | n+1,i,Z,S=>by
  have ih:=mX mi g b n;unfold dN at ih ⊢;dsimp only[bq];cases mi.at S i with
  | none=>rfl
  | some o=>
   cases o with
   | none=>rfl
   | some w=>
    dsimp only;cases g w Z S with
    | none=>rfl
    | some p=>
     dsimp only;cases b p.1 p.2 with
     | none=>rfl
     | some q=>
      obtain⟨o,S2⟩:=q;cases o with
      | nx Z2=>exact ih (i+1) Z2 S2
      | ct Z2=>exact ih (i+1) Z2 S2
      | bk Z2=>rfl
      | rt w=>rcases ly w with e|⟨w',e,_⟩ <;> (dsimp only; rw[e]; rfl)
def yt (fi:FI)(g:FG)(b:FS):dN (hW fi g b)=hW fi g (dN b):=by
 funext Z S
 have h:=mX;unfold dN at h ⊢;unfold hW;cases fi Z S with
 | none=>rfl
 | some p=>
  obtain⟨mi,S1⟩:=p;dsimp only;cases mi.len S1 with
  | none=>rfl
  | some n=>exact h mi g b n 0 Z S1
def qf (mi:MI)(g:FG)(b:FS):∀(n i:Hz) (Z:Fm) (S:aa),xF (bq mi g b n i) Z S=dy mi g (dN b) (xF b) n i Z S
 | 0,i,Z,S=>by
  unfold xF;dsimp only[bq,dy];cases mi.at S i with
  | none=>rfl
  | some o=>cases o <;> rfl
 | n+1,i,Z,S=>by
  have ih:=qf mi g b n;unfold xF at ih ⊢;dsimp only[bq,dy];cases mi.at S i with
  | none=>rfl
  | some o=>
   cases o with
   | none=>rfl
   | some w=>
    dsimp only;cases g w Z S with
    | none=>rfl
    | some p=>
     dsimp only;unfold dN at ih ⊢
     try dsimp only at ih ⊢
     cases hb:b p.1 p.2 with
     | none=>rfl
     | some q=>
      obtain⟨o,S2⟩:=q;cases o with
      | nx Z2=>exact ih (i+1) Z2 S2
      | ct Z2=>exact ih (i+1) Z2 S2
      | bk Z2=>rfl
      | rt w=>rcases ly w with e|⟨w',e,e2⟩ <;> dsimp only <;> rw[e] <;> first|rfl|(rw[e2]; rfl)
def BJ (fi:FI)(g:FG)(b:FS):xF (hW fi g b)=pY fi g (dN b) (xF b):=by
 funext Z S
 have h:=qf;unfold xF at h ⊢;unfold hW pY;cases fi Z S with
 | none=>rfl
 | some p=>
  obtain⟨mi,S1⟩:=p;dsimp only;cases mi.len S1 with
  | none=>rfl
  | some n=>exact h mi g b n 0 Z S1
abbrev lz:Sm->HP
 | .set _ _|.asg _ _|.par _ _ _|.pr3 _ _ _ _|.put _ _ _|.ex _|.pass=>true
 | _=>false
section
variable{M:HC->FF}{fuel:Hz}
def oE {f:FE}{g:FG}{Z:Fm}{S:aa}{o:Out}{S':aa}(h:d7 f g Z S=ba (o,S')):∃Z',o=.nx Z':=by
 unfold d7 at h;split at h
 ·split at h
  ·cases h; exact#[_,rfl]
  ·cases h
 ·cases h
def mY {s:Sm}(hp:lz s=true){Z:Fm}{S:aa}{o:Out}{S':aa}(h:bv M fuel s Z S=ba (o,S')):∃Z',o=.nx Z':=by
 cases s with
 | set i e=>dsimp only[bv]at h; exact oE h
 | asg is e=>dsimp only[bv]at h; exact oE h
 | put a b c=>dsimp only[bv]at h; exact oE h
 | par i j es=>
  dsimp only[bv]at h;unfold uB at h;split at h
  ·cases h; exact#[_,rfl]
  ·cases h
 | pr3 i j l es=>
  dsimp only[bv]at h;unfold uE at h;split at h
  ·cases h; exact#[_,rfl]
  ·cases h
 | ex e=>
  dsimp only[bv]at h;unfold mz at h;split at h
  ·cases h; exact#[_,rfl]
  ·cases h
 | pass=>cases h; exact#[_,rfl]
 | _=>cases hp
def rO {s:Sm}(hp:lz s=true){Z:Fm}{S:aa}{r:Out×aa}(h:dN (bv M fuel s) Z S=ba r):bv M fuel s Z S=ba r:=by
 unfold dN at h;split at h
 ·rename_i o S' e;obtain⟨Z',rfl⟩:=mY hp e;rw[e];exact h
 ·cases h
def u7 {s:Sm}(hp:lz s=true){Z:Fm}{S:aa}:xF (bv M fuel s) Z S=gV:=by
 unfold xF;split
 ·rename_i o S' e;obtain⟨Z',rfl⟩:=mY hp e;rfl
 ·rfl
end
abbrev Et (Γ:Gam)(st:Jf):Hs Sm:=match cS 20 Γ st with
 | some s'=>if lz s' then ba s' else gV
 | none=>gV
abbrev cX (R:Ho (HC×Hz)):Hz->Gam->Jf->Hs Sm
 | 0,_,_=>gV
 | n+1,Γ,st=>match st with
  | .Return (ba e) _=>(cE ay Γ e).map λe'=>.ret (.tup #v[.c .non,e'])
  | .Raise (ba (.Call (.Name c _) args [] _)) gV _=>if bK Γ c&&(R.lookup c==ba args.length)then(cA (cE ay Γ) args).map λes=>.ret (.tup (.cons (.c (.str c)) es))else gV
  | .If t a b _=>match cE ay Γ t,eh (cX R n Γ) a,eh (cX R n Γ) b with
   | some t',ba a',ba b'=>ba (.ite t' a' b')
   | _,_,_=>gV
  | .For tg it b [] _=>match cT Γ tg,cI Γ (cE ay Γ) tg it,eh (cX R n Γ) b with
   | some t,ba i,ba b'=>ba (.loop t i b')
   | _,_,_=>gV
  | st=>Et Γ st
inductive RK (X:Cx)(cl:Cl)(c:HC):Hz->Prop
 | zero {k:Hz} {f C:Hv} {cd:Jz} {fd:IY} {ps:Ho HC} (Mqa:XM X.K C f cd) (F:FnOk X.prog X.w X.K X.mg X.base iG k f fd ps (wW X.K)) (hr:Room (k+1) X.A) (hm:X.mg c=ba (.ref C)) (hb:Binds X.K fd ps []) (hc:cl c=ba (C,[])):RK X cl c 0
 | one {k:Hz} {f C:Hv} {cd:Jz} {fd:IY} {ps:Ho HC} {g:HC} (Mqa:XM X.K C f cd) (hf:Kv X.K (.ref C) g=ba gV) (F:FnOk X.prog X.w X.K X.mg X.base iG k f fd ps (tm X.K g)) (hr:Room (k+1) X.A) (hm:X.mg c=ba (.ref C)) (hb:Binds X.K fd ps []) (hc:cl c=ba (C,[g])):RK X cl c 1
structure XOk (X:Cx)(R:Ho (HC×Hz))(cl:Cl)(Ew:L2.XK):Prop where
 hh:X.A.handled=gV
 w:xU X Ew
 rk:∀c k,R.lookup c=ba k->RK X cl c k
section
variable{M:HC->FF}{X:Cx}{Γ:Gam}{fuel:Hz}{R:Ho (HC×Hz)}{cl:Cl}{Ew:L2.XK}
def lA (K:CtxOk M X Γ){st:Jf}{s':Sm}(h:Et Γ st=ba s'):GX X cl Ew st (dN (bv M fuel s')) (xF (bv M fuel s')):=by
 unfold Et at h;split at h
 ·rename_i s1 h1;split at h
  ·rename_i hp;cases h;exact(mE (il fuel K 20 h1)).mono (λZ S r e=>rO hp e) λZ S r e=>by rw[u7 hp]at e; cases e
  ·cases h
 ·cases h
def rP {S S':aa}{ws:Ho W}{w:W}(h:kP S ws=ba (w,S')):w=.tup ws/\S'=S:=by
 unfold kP at h;split at h
 ·cases h; exact#[rfl,rfl]
 ·cases h
def fX {e:E}{es:Es}{c w:W}{Z:Fm}{S S':aa}(h:ar M (.tup (.cons (.c c) es)) Z S=ba (w,S')):∃ws,aX M es Z S=ba (ws,S')/\w=.tup (c::ws):=by
 dsimp only[ar,aX]at h;unfold rs at h;split at h
 ·rename_i ws S1 e1;obtain⟨rfl,rfl⟩:=rP h;unfold cr at e1;dsimp only[fC]at e1;split at e1
  ·rename_i ws2 S2 e2;cases e1;exact#[_,e2,rfl]
  ·cases e1
 ·cases h
def fY {f:FE}{Z:Fm}{S:aa}{o:Out}{S':aa}(h:mB f Z S=ba (o,S')):∃w,f Z S=ba (w,S')/\o=.rt w:=by
 unfold mB at h;split at h
 ·rename_i w S1 e; cases h; exact#[w,e,rfl]
 ·cases h
def BL {e':E}{Z:Fm}{S:aa}{r:Out×aa}(h:dN (bv M fuel (.ret (.tup #v[.c .non,e']))) Z S=ba r):mB (ar M e') Z S=ba r:=by
 unfold dN at h;split at h
 ·rename_i o S' e;obtain⟨w,e1,rfl⟩:=fY e;obtain⟨ws,e2,rfl⟩:=fX (e:=e') e1;dsimp only[aX]at e2;unfold cr at e2;split at e2
  ·rename_i w2 S2 e3;dsimp only[g9]at e2;cases e2;cases h;unfold mB;rw[e3]
  ·cases e2
 ·cases h
def BM {e':E}{Z:Fm}{S:aa}:xF (bv M fuel (.ret (.tup #v[.c .non,e']))) Z S=gV:=by
 unfold xF;split
 ·rename_i o S' e;obtain⟨w,e1,rfl⟩:=fY e;obtain⟨ws,e2,rfl⟩:=fX (e:=e') e1;rfl
 ·rfl
def u8 {f:HH->Hs E}:∀ {es:Ho HH} {r:Es},cA f es=ba r->Cw r=es.length
 | [],_,h=>by cases h; rfl
 | e::es,r,h=>by
  obtain⟨e',es',h1,h2,rfl⟩:=dv h;change Cw es'+1=_;rw[u8 h2];rfl
def u9 {c:HC}{es:Es}{Z:Fm}{S:aa}:dN (bv M fuel (.ret (.tup (.cons (.c (.str c)) es)))) Z S=gV:=by
 unfold dN;split
 ·rename_i o S' e;obtain⟨w,e1,rfl⟩:=fY e;obtain⟨ws,e2,rfl⟩:=fX (e:=.dnew) e1;rfl
 ·rfl
def yu {c:HC}{es:Es}{Z:Fm}{S:aa}{r:HC×Ho W×aa}(h:xF (bv M fuel (.ret (.tup (.cons (.c (.str c)) es)))) Z S=ba r):∃ws S',aX M es Z S=ba (ws,S')/\r=(c,ws,S'):=by
 unfold xF at h;split at h
 ·rename_i o S' e;obtain⟨w,e1,rfl⟩:=fY e;obtain⟨ws,e2,rfl⟩:=fX (e:=.dnew) e1;cases h;exact#[ws,S',e2,rfl]
 ·cases h
def yv (K:CtxOk M X Γ)(Zz:XOk X R cl Ew){c:HC}{args:Ho HH}{p cpos pos:Jw}{s':Sm}(h:(if bK Γ c&&(R.lookup c==ba args.length)then(cA (cE ay Γ) args).map λes=>Sm.ret (.tup (.cons (.c (.str c)) es))else gV)=ba s') :
  GX X cl Ew (.Raise (ba (.Call (.Name c p) args [] cpos)) gV pos) (dN (bv M fuel s')) (xF (bv M fuel s')):=by
 split at h
 ·rename_i hc;rw[Hu]at hc;obtain⟨g1,g2⟩:=eX K hc.1;have hl:R.lookup c=ba args.length:=eq_of_beq hc.2;rw[Hx]at h;obtain⟨es,h1,rfl⟩:=h;have ga:=bD (λz=>(aE ay K z).1) h1
  have rk:=Zz.rk c _ hl;have ln:=u8 h1;have ns:=aW h1;have hx:∀k,args.length=k->∀Z S r,xF (bv M fuel (.ret (.tup (.cons (.c (.str c)) es)))) Z S=ba r->iZ c k (aX M es) Z S=ba r:=λk hk Z S r e=>by
   obtain⟨ws,S',e1,rfl⟩:=yu e;unfold iZ;rw[e1];dsimp only;rw[HN ((eL e1).trans (ln.trans hk))]
  have ho:∀(f:FS) Z S r,dN (bv M fuel (.ret (.tup (.cons (.c (.str c)) es)))) Z S=ba r->f Z S=ba r:=λf Z S r e=>by rw[u9]at e; cases e
  generalize hk:args.length=k at rk;cases rk with
  | zero Mqa F hr hm hb hcl=>
   obtain rfl:args=[]:=J0.mp hk;show(rC (p:=p) (cpos:=cpos) (pos:=pos) Zz.hh Mqa F hr g1 hm hb Zz.w hcl g2).mono (ho _) λZ S r e=>?_
   have q:=hx 0 hk Z S r e;cases h1;cases q;rfl
  | one Mqa hf F hr hm hb hcl=>
   cases args with
   | nil=>cases hk
   | cons a as=>
    rw[Io,Hu]at ns;exact(rB (p:=p) (cpos:=cpos) (pos:=pos) Zz.hh Mqa hf F hr g1 hm hb Zz.w hcl ga g2 (ap ns.1) (aC ns.2)).mono (ho _) (hx 1 hk)
 ·cases h
def fZ {n:Hz}(ih:∀ {st:Jf} {s':Sm},cX R n Γ st=ba s'->GX X cl Ew st (dN (bv M fuel s')) (xF (bv M fuel s'))):∀ {ss:Ho Jf} {r:Ss},eh (cX R n Γ) ss=ba r->zu X cl Ew ss (dN (bH M fuel r)) (xF (bH M fuel r))
 | [],r,h=>by
  cases h;exact xT
 | s::ss,r,h=>by
  obtain⟨s',ss',h1,h2,rfl⟩:=fT h;have g:=uD (ih h1) (fZ ih h2);rw[<- yr,<- BH]at g;exact g
def yw (fuel:Hz)(K:CtxOk M X Γ)(Zz:XOk X R cl Ew):∀(n:Hz) {st:Jf} {s':Sm},cX R n Γ st=ba s'->GX X cl Ew st (dN (bv M fuel s')) (xF (bv M fuel s')):=by
 intro n
 induction n with
 | zero=>intro st s' h; cases h
 | succ n ih=>
  intro st s' h;cases st with
  | Return o p=>
   cases o with
   | none=>exact lA K h
   | some e=>
    replace h:(cE ay Γ e).map (λe'=>Sm.ret (.tup #v[.c .non,e']))=ba s':=h
    rw[Hx]at h;obtain⟨e',h1,rfl⟩:=h;exact(mE (oh (aE _ K h1).1)).mono (λZ S r e=>BL e) λZ S r e=>by rw[BM]at e; cases e
  | Raise exc cause pos=>
   have bad:Et Γ (.Raise exc cause pos)=gV:=rfl;have plain:Et Γ (.Raise exc cause pos)=ba s'->GX X cl Ew (.Raise exc cause pos) (dN (bv M fuel s')) (xF (bv M fuel s')):=λz=>by rw[bad]at z; cases z
   cases cause with
   | some _=>cases exc with
    | none=>exact plain h
    | some e=>cases e with
     | Call f args kw cpos=>cases f with
      | Name c p=>cases kw <;> exact plain h
      | _=>exact plain h
     | _=>exact plain h
   | none=>cases exc with
    | none=>exact plain h
    | some e=>cases e with
     | Call f args kw cpos=>cases f with
      | Name c p=>cases kw with
       | nil=>exact yv K Zz h
       | cons _ _=>exact plain h
      | _=>exact plain h
     | _=>exact plain h
  | If t a b p=>
   replace h:(match cE ay Γ t,eh (cX R n Γ) a,eh (cX R n Γ) b with|some t',ba a',ba b'=>ba (Sm.ite t' a' b')|_,_,_=>gV)=ba s':=h
   split at h
   ·rename_i t' a' b' h1 h2 h3;cases h;have g:=Dw (pos:=p) (aE _ K h1).2 (fZ ih h2) (fZ ih h3);rw[<- BI,<- Er]at g;exact g
   ·cases h
  | For tg it b o p=>
   cases o with
   | cons _ _=>exact lA K h
   | nil=>
    replace h:(match cT Γ tg,cI Γ (cE ay Γ) tg it,eh (cX R n Γ) b with|some t,ba i,ba b'=>ba (Sm.loop t i b')|_,_,_=>gV)=ba s':=h
    split at h
    ·rename_i t i b' h1 h2 h3;cases h;have g:=Bs (pos:=p) K.xe K.calm (lv K (λz=>(aE _ K z).1) h2) (kh K h1) (fZ ih h3) (ij (n:=ay) (λel k p=>rfl) h2)
     rw[<- yt,<- BJ]at g;exact g
    ·cases h
  | _=>exact lA K h
end
abbrev mZ (g:FF):FF:=λws S=>match g ws S with
 | some (w,S')=>(rN w).map λv=>(v,S')
 | none=>gV
abbrev xG (g:FF):Dy:=λws S=>match g ws S with
 | some (w,S')=>(xV w).map λp=>(p.1,p.2,S')
 | none=>gV
section
variable{P:HM}{w:HX}{K:HA}{mg:HC->Hs Hr}{base:Ii}
inductive CK (P:HM)(w:HX)(K:HA)(mg:HC->Hs Hr)(base:Ii)(cl:Cl)(c:HC):Hz->Prop
 | zero {f C:Hv} {cd:Jz} {fd:IY} {ps:Ho HC} (Mqa:XM K C f cd) (F:FnOk P w K mg base iG 1 f fd ps (wW K)) (hm:mg c=ba (.ref C)) (hb:Binds K fd ps []) (hc:cl c=ba (C,[])):CK P w K mg base cl c 0
 | one {f C:Hv} {cd:Jz} {fd:IY} {ps:Ho HC} {g:HC} (Mqa:XM K C f cd) (hf:Kv K (.ref C) g=ba gV) (F:FnOk P w K mg base iG 1 f fd ps (tm K g)) (hm:mg c=ba (.ref C)) (hb:Binds K fd ps []) (hc:cl c=ba (C,[g])):CK P w K mg base cl c 1
def CK.rk {cl:Cl}{c:HC}{n:Hz}(h:CK P w K mg base cl c n){X:Cx}(e1:X.prog=P)(e2:X.w=w)(e3:X.K=K)(e4:X.mg=mg)(e5:X.base=base)(hr:Room 2 X.A):RK X cl c n:=by
 subst e1 e2 e3 e4 e5;cases h with
 | zero Mqa F hm hb hc=>exact .zero Mqa F hr hm hb hc
 | one Mqa hf F hm hb hc=>exact .one Mqa hf F hr hm hb hc
def BN {Mqa:Md}{R:Ho (HC×Hz)}{cl:Cl}{defs:Ho (HC×Df)}{fuel d:Hz}{x x' qual:HC}{st:Jf}{f:Hv}{fd:IY}{df:Df}(F:Fun K x qual st f fd)(S:FnScope df.N df.ps (am st))(hd:defs.lookup x'=ba df)
  (hc:eh (cX R 20 (dI Mqa st df.N)) (aD st)=ba df.body) (hb:MdOk w K mg Mqa) (prev:pW P w K mg base Mqa defs fuel d) (ck:∀c k,R.lookup c=ba k->CK P w K mg base cl c k) :
  FnOk P w K mg base (CXx P w) (d+3) f fd df.ps (spX w K cl df.ps.length (mZ (ah defs fuel (d+1) x')) (xG (ah defs fuel (d+1) x'))):=by
 have F2:=Bq (P:=P) (w:=w) (mg:=mg) (base:=base) (cl:=cl) (k:=d+2) (fs:=dN (bH (ah defs fuel d) fuel df.body)) (fx:=xF (bH (ah defs fuel d) fuel df.body)) F S λcdv A outer s H E hr=>by
  have K':CtxOk (ah defs fuel d) (dQ (CXx P w) P w K mg base df.N qual (am st) f cdv A outer s H E) (dI Mqa st df.N):=by
   show#[rfl,S.kind,rfl,S.nd,rfl,Br,?_,λ_ _=>rfl,λ_ h=>(nomatch h),hb.blt,λg n hg=>?_]
   ·have:=hr.un;show(A.deeper _).units+20 < cLine;omega
   ·obtain⟨fa,fd',ps',h1,h2,h3,h4⟩:=prev g n hg;exact#[d+2,fa,fd',ps',h1,hr,h2,h3,h4]
  exact fZ (λz=>yw fuel K' #[hr.hd,yn,λc k h=>(ck c k h).rk rfl rfl rfl rfl rfl (hr.mono (Nat.le_add_left _ _))] 20 z) hc
 show F2.imp λvs H Q E h=>?_
 have key:∀ {ws:Ho W} {S:aa} {wv:W} {S':aa},ws.length=df.ps.length->ah defs fuel (d+1) x' ws S=ba (wv,S')->(∃o,bH (ah defs fuel d) fuel df.body (aY df.N ws) S=ba (o,S')/\(o=.rt wv\/(wv=.non/\∃Z,o=.nx Z))):=λ{ws S wv S'} hl e=>by
  dsimp only[ah]at e;rw[hd]at e;dsimp only at e;rw[HN hl]at e;split at e
  ·rename_i w1 S1 h1; cases e; exact#[_,h1,.inl rfl]
  ·rename_i Z1 S1 h1; cases e; exact#[_,h1,.inr #[rfl,_,rfl]]
  ·cases e
 rcases h with⟨A,St,ws,w',S',so,rl,hl,e,hq⟩|⟨A,St,ws,cn,us,S',C,gs,so,rl,hl,e,hc',hq⟩
 ·show .ok #[A,St,ws,w',S',so,rl,hl,?_,hq];unfold mZ at e;split at e
  ·rename_i w1 S1 e1;rw[Hx]at e;obtain⟨v,e2,e3⟩:=e;cases e3;obtain⟨o,e4,rfl|⟨rfl,Z,rfl⟩⟩:=key hl e1
   ·unfold pX dN;rw[e4];dsimp only[E8];rw[e2];rfl
   ·cases e2;unfold pX dN;rw[e4];rfl
  ·cases e
 ·show .xc A St ws cn us S' C gs so rl hl ?_ hc' hq;unfold xG at e;split at e
  ·rename_i w1 S1 e1;rw[Hx]at e;obtain⟨v,e2,e3⟩:=e;cases e3;obtain⟨o,e4,rfl|⟨rfl,Z,rfl⟩⟩:=key hl e1
   ·unfold zC xF;rw[e4];dsimp only[xO];rw[e2];rfl
   ·cases e2
  ·cases e
abbrev zN (f:HC)(n:Hz):Ss:=.cons (.sem λM Z S=>match M f ((Z.take n).filterMap id) S with
 | some (w,S')=>(rN w).map λv=>(.rt v,S')
 | none=>gV) .nil
def oF {N:Ho HC}{ws:Ho W}{n:Hz}(h:ws.length=n):((aY N ws).take n).filterMap id=ws:=by
 subst h;unfold aY;rw[Lw (by simp),J8 (by simp),LR]
 induction ws with
 | nil=>rfl
 | cons w ws ih=>simp[JM]
def BO {cl:Cl}{defs:Ho (HC×Df)}{fuel d n k k':Hz}{x x':HC}{f:Hv}{fd:IY}{ps:Ho HC}{df:Df}(F:FnOk P w K mg base (CXx P w) k f fd ps (spX w K cl n (mZ (ah defs fuel d x')) (xG (ah defs fuel d x'))))(hd:defs.lookup x=ba df)(hn:df.ps.length=n)(hb:df.body=zN x' n)(hk:k<=k') :
  FnOk P w K mg base iG k' f fd ps (spF w K n (ah defs fuel (d+1) x)):=by
 have conv:∀vs H Q (E E':L2.XK),spF w K n (ah defs fuel (d+1) x) vs H Q E->spX w K cl n (mZ (ah defs fuel d x')) (xG (ah defs fuel d x')) vs H Q E':=λvs H Q E E' #[A,S0,ws,w',S',so,rl,hl,e,hq]=>by
  show .ok #[A,S0,ws,w',S',so,rl,hl,?_,hq];dsimp only[ah]at e;rw[hd]at e;dsimp only at e;rw[HN (hl.trans hn.symm),hb]at e;dsimp only[zN,bH,bv,hG]at e;rw[oF hl]at e;unfold mZ;cases h:ah defs fuel d x' ws S0 with
  | none=>rw[h]at e; cases e
  | some p=>
   obtain⟨w1,S1⟩:=p;rw[h]at e;dsimp only at e ⊢;cases h2:rN w1 with
   | none=>rw[h2]at e; cases e
   | some v=>rw[h2]at e; cases e; rfl
 show#[λvs H Q E z=>F.len vs H Q E (conv vs H Q E E z),λA outer s H args us vs Q E hr he hbd hv z=>?_]
 show Kx (F.run A outer s H args us vs Q (λ_ _ _=>ID) (hr.mono hk) he hbd hv (conv vs H Q E _ z)) λr s' h=>?_
 cases r with
 | error e=>obtain⟨_,_,_,_,_,_,_,_,_,_,_,_,_,_,q⟩:=h; exact q.elim
 | ok fl=>cases fl <;> exact h
end
section
variable{K:HA}{wd:HX}{A A':Ho Hv}{H:Hp}{S:aa}
def EnvRel.unset {Z:Fm}{Y:L2.St}(h:EnvRel K A H Z Y)(i:Hz):EnvRel K A H (Z.set i gV) (Y.set i gV):=by
 show#[by simp[h.1],λj w q=>?_]
 rw[Jo]at q ⊢
 by_cases e:i=j
 ·subst e;rw[HN rfl]at q;split at q <;> cases q
 ·rw[HY e]at q ⊢;exact h.2 j w q
def ObjRel.grow {a:Hv}{b:O}(e:Ext K A H A' H)(h:ObjRel wd K A H a b):ObjRel wd K A' H a b:=by
 cases b with
 | exc cn C gs ws=>
  obtain⟨ob,dd,q,r⟩:=h;show#[ob,dd,q,?_];rcases r with r|⟨dx,od,vs,e1,e2,e3⟩
  ·exact .inl r
  ·exact .inr #[dx,od,vs,e1,e2,e3.mono e]
 | _=>first|exact h|(obtain⟨vs,q,r⟩:=h; exact#[vs,q,r.mono e])|(obtain⟨ob,xs,q,r⟩:=h; exact#[ob,xs,q,r.mono e])
def gb {p:Hv}:Ext K A H (A++[p]) H:=#[λi a h=>by rw[IB (HD.mp h).1]; exact h,λ_ _ h=>h,λ_ _ _ h=>h]
def StoreOk.pushN {p:Hv}{n:O}(h:StoreOk wd K A H S)(hm:n.mut=false)(r:ObjRel wd K (A++[p]) H p n):StoreOk wd K (A++[p]) H (S++[n]):=by
 have old:∀ {i:Hz} {o:O} {a:Hv},(S++[n])[i]?=ba o->(A++[p])[i]?=ba a->i < S.length->S[i]?=ba o/\A[i]?=ba a:=λ{i o a} e ea hl=>by
  rw[IB hl]at e;rw[IB (h.len ▸ hl)]at ea;exact#[e,ea]
 have new:∀ {i:Hz} {o:O},(S++[n])[i]?=ba o->¬ i < S.length->i=S.length/\o=n:=λ{i o} e hl=>by
  have hi:i=S.length:=by
   have:=(HD.mp e).1;simp at this;omega
  subst hi;simp at e;exact#[rfl,e.symm]
 show#[by simp[h.len],λi j a o u e1 m1 e2 m2 a1 a2=>?_,λi o a e ea=>?_]
 ·by_cases hi:i < S.length
  ·by_cases hj:j < S.length
   ·obtain⟨x1,y1⟩:=old e1 a1 hi;obtain⟨x2,y2⟩:=old e2 a2 hj;exact h.nd i j a o u x1 m1 x2 m2 y1 y2
   ·rw[(new e2 hj).2,hm]at m2; cases m2
  ·rw[(new e1 hi).2,hm]at m1; cases m1
 ·by_cases hi:i < S.length
  ·obtain⟨x1,y1⟩:=old e ea hi;exact(h.obj i o a x1 y1).grow gb
  ·obtain⟨rfl,rfl⟩:=new e hi;rw[<- h.len]at ea;simp at ea;subst ea;exact r
def StoreOk.frz {p:Hv}{φ:Ii->Prop}{u:HO}(h:StoreOk wd K A H S)(hp:H p=ba (.ext φ))(hn:∀(j:Hz) (o:O),S[j]?=ba o->o.mut=true->A[j]?≠ba p):StoreOk wd K A (aA H p u) S:=
 #[h.len,h.nd,λi b a e ea=>(h.obj i b a e ea).keep (.ext hp) (λhm z=>hn i b e hm (z ▸ ea)) (aN (.ext hp))]
end
section
variable{X:Cx}{J:Ho (Hv×Jg)}{Y:L2.St}{s:Ht}{A:Ho Hv}{H H':Hp}{S1:aa}{C a:Hv}{gs:Ho HC}{ws:Ho W}{dd:Hs Hv}
def qg {φ:Ii->Prop}(I:L2.Inv X J Y H s)(ha:H a=ba (.ext φ)):∃o,L2.Inv X J Y (aA H a (.frz o (.ext φ))) s:=by
 have z:=I.hok a _ ha;obtain⟨x,⟨o,ho⟩,st⟩:=z;exact#[o,I.write (o:=.frz o (.ext φ)) (t':=s.toks) (h':=s.heap) (x:=a) (e:=a) (by rw[ha]; trivial) (.inl rfl) (λb u _ q=>q) #[_,ho] #[ho,x,#[o,ho],st]]
def qh {φ ψ:Ii->Prop}(h:ba (HO.ext φ)=ba (HO.ext ψ)):φ=ψ:=by cases h; rfl
def vc (I:L2.Inv X J Y H' s)(ha:H' a=ba (.ext (Ex a C dd))){A':Ho Hv}(so:StoreOk X.w X.K A' H' S1)(j:Hz)(o:O)(ej:S1[j]?=ba o)(mj:o.mut=true):A'[j]?≠ba a:=λea=>by
 have r:=so.obj j o a ej ea;obtain⟨⟨vs,sl,x⟩,_⟩:=I.hok a _ ha;cases o with
 | lst ws=>obtain⟨us,q,_⟩:=r; rw[ha]at q; cases q
 | dic U=>
  obtain⟨xs,q,_⟩:=r;rw[ha]at q;have e:=qh q;have y:DicAt X.w a xs s.heap:=by rw[<- e]; exact#[vs,sl,x]
  obtain⟨_,_,_,ob,es,ep,g1,g2,g3,_⟩:=y;rw[x]at g1;cases g1;cases g3
 | _=>cases mj
def BQ (cn:HC)(I:L2.Inv X J Y H' s)(ha:H' a=ba (.ext (Ex a C dd)))(q:EndX X.w X.K A H S1 C gs ws (.ref C) dd H'):∃A2 H2,L2.Inv X J Y H2 s/\Ext X.K A H A2 H2/\A2[S1.length]?=ba a/\StoreOk X.w X.K A2 H2 (S1++[.exc cn C gs ws]):=by
 obtain⟨oa,I2⟩:=qg I ha;cases q with
 | no A' ec eg ed e so=>
  subst ed eg;show#[A'++[a],_,I2,(e.trans (aN (.ext ha))).trans gb,by rw[<- so.len]; simp,?_]
  exact(so.frz ha (vc I ha so)).pushN rfl #[oa,gV,ak,.inl #[rfl,rfl]]
 | «at» A' dx vs ec ed hd nd e so r=>
  subst ed;have ne:dx≠a:=λz=>by
   subst z;rw[ha]at hd;have e:=qh hd;obtain⟨⟨vs',sl,x⟩,_⟩:=I.hok dx _ ha;have y:Dx dx (gs.zip vs) s.heap:=by rw[<- e]; exact#[vs',sl,x]
   obtain⟨mA,⟨o,es,ep,g1,g2,_⟩,_⟩:=y;rw[x]at g1;cases g1;cases g2
  have hd2:aA H' a (.frz oa (.ext (Ex a C (ba dx)))) dx=ba (.ext (Dx dx (gs.zip vs))):=by rw[aj ne]; exact hd
  obtain⟨od,I3⟩:=qg I2 hd2;have x1:Ext X.K A' H' A' (aA H' a (.frz oa (.ext (Ex a C (ba dx))))):=aN (.ext ha);have x2:=aN (K:=X.K) (A:=A') (o:=.frz od (.ext (Dx dx (gs.zip vs)))) (Wr.ext hd2);show#[A'++[a],_,I3,((e.trans x1).trans x2).trans gb,by rw[<- so.len]; simp,?_]
  show((so.frz ha (vc I ha so)).frz hd2 nd).pushN rfl #[oa,ba dx,by rw[aj (Ne.symm ne),ak],.inr #[dx,od,vs,rfl,ak,?_]]
  exact r.mono ((x1.trans x2).trans gb)
noncomputable abbrev Cx.tr (X:Cx)(J:Ho (Hv×Jg))(E:Hr->Ht->Prop):Cx:={ X with pn:=X.pn++J,xe:=E }
def BR {E:Hr->Ht->Prop}(I:L2.Inv X J Y H s):L2.Inv (Cx.tr X J E) [] Y H s:=by
 obtain⟨ok,i2,i3,i4,i5,i6,i7,i8,i9,i10,i11⟩:=I;exact#[#[ok.mod,ok.kind,ok.glob,ok.blt,ok.above,ok.inj,ok.has,ok.cab,ok.hd,ok.frames,ok.stk,ok.exf,ok.bs,ok.bsz,ok.noex,ok.exfs,ok.funs,ok.frf],i2,i3,i4,i5,i6,i7,i8,λp hp=>i9 p (by rw[JD]at hp; exact hp),i10,i11]
def gd {E:Hr->Ht->Prop}{J1:Ho (Hv×Jg)}(I:L2.Inv (Cx.tr X J E) J1 Y H s):L2.Inv X J Y H s:=by
 obtain⟨ok,i2,i3,i4,i5,i6,i7,i8,i9,i10,i11⟩:=I;exact#[#[ok.mod,ok.kind,ok.glob,ok.blt,ok.above,ok.inj,ok.has,ok.cab,ok.hd,ok.frames,ok.stk,ok.exf,ok.bs,ok.bsz,ok.noex,ok.exfs,ok.funs,ok.frf],i2,i3,i4,i5,i6,i7,i8,λp hp=>i9 p (JH _ hp),i10,i11]
def BS {E:Hr->Ht->Prop}{D:Ends}{f:Qj}(h:SP (Cx.tr X J E) [] D f s):SP X J D f s:=by
 cases f with
 | next=>obtain⟨Y',H',I,q⟩:=h; exact#[Y',H',gd I,q]
 | brk=>obtain⟨Y',H',I,q⟩:=h; exact#[Y',H',gd I,q]
 | cont=>obtain⟨Y',H',I,q⟩:=h; exact#[Y',H',gd I,q]
 | ret u=>obtain⟨v,Y',H',I,r,q⟩:=h; exact#[v,Y',H',gd I,r,q]
def yy {E:Hr->Ht->Prop}{J1:Ho (Hv×Jg)}{a0:Hr}(Yj:Air (Cx.tr X J E) J1 Y H s a C dd a0):Air X J Y H s a C dd a0:=
 #[gd Yj.inv,Yj.fly,Yj.new,Yj.ext,Yj.low,λp hp=>Yj.pin p (JH _ hp)]
end
abbrev vd (f:FS)(fx:FX)(sb:HC->HP)(cl:Cl)(i:Hz)(h:FS):FS:=λZ S=>match f Z S with
  | some r=>ba r
  | none=>match fx Z S with
    | some (cn,ws,S1)=>match cl cn with
      | some (C,gs)=>if sb cn=true then(match h (Z.set i (ba (.ref S1.length))) (S1++[.exc cn C gs ws])with
        | some (.nx Z',S2)=>ba (.nx (Z'.set i gV),S2)
        | some (.rt w,S2)=>ba (.rt w,S2)
        | _=>gV)else gV
      | none=>gV
    | none=>gV
abbrev MX (X:Cx)(cl:Cl)(Ew:L2.XK)(Y0:L2.St)(f:FS)(fx:FX):TS:=λD Y H=>Y=Y0/\(tS X f D Y H\/tX X cl Ew fx Y H)
def vf (X Yj:Cx)(eK:Yj.K=X.K)(ew:Yj.w=X.w){A:Ho Hv}{H:Hp}{o:Out}{S':aa}{D:Ends}(d:Imp (EndS X A H o S') D):Imp (EndS Yj A H o S') D:=
 #[λ_ _ #[Z',A',eo,e,so,er]=>d.nx _ _ #[Z',A',eo,eK ▸ e,eK ▸ ew ▸ so,eK ▸ er],λ_ _ #[w,A',eo,e,so,r]=>d.rt _ _ #[w,A',eo,eK ▸ e,eK ▸ ew ▸ so,eK ▸ r],
  λ_ _ #[Z',A',eo,e,so,er]=>d.bk _ _ #[Z',A',eo,eK ▸ e,eK ▸ ew ▸ so,eK ▸ er],λ_ _ #[Z',A',eo,e,so,er]=>d.ct _ _ #[Z',A',eo,eK ▸ e,eK ▸ ew ▸ so,eK ▸ er]]
def BU {X:Cx}{cl:Cl}{body suite:Ho Jf}{b0:Jf}{c n:HC}{np hpos pos:Jw}{D:Hv}{i:Hz}{f:FS}{fx:FX}{h:FS}{sb:HC->HP}
  (hst:X.stack=X.env::X.outer) (hfr:X.env.frame=ba X.env.locals) (hN:X.N.Nodup) (hi:X.N[i]?=ba n) (hx:X.env.scope.names.lookup n=ba .local) (hg:Gl X c) (hm:X.mg c=ba (.ref D)) (T:XD X.K D) (hdb:(c==("__debug__" : HC))=false)
  (hs:∀cn C gs,cl cn=ba (C,gs)->sb cn=true->Nt X.K (.ref C) (.ref D)=ba true)
  (hb:∀J E Y0 Ew,(∀J1 H s a C dd a0,Air (Cx.tr X J E) J1 Y0 H s a C dd a0->Ew (.ref C) dd H->E (.ref a) s)->PSs (Cx.tr X J E) body (MX (Cx.tr X J E) cl Ew Y0 f fx))
  (hh:∀a,GSs (pc X a) (b0::suite) h):GS X (.Try body [.ExceptHandler (ba (.Name c np)) (ba n) (b0::suite) hpos] [] [] pos) (vd f fx sb cl i h):=by
 intro J s Y H Dd I ⟨A,Z,S,o,S',er,so,e,d⟩;show Dh (X:=X) (J:=J) (Q:=SP X J Dd) hst hfr hN hi hx hg hm T ?_ hdb;have run:∀Ew:L2.XK,(∀J1 H s a C dd a0,Air (Cx.tr X J (Caught X J D i b0 suite (SP X J Dd))) J1 Y H s a C dd a0->Ew (.ref C) dd H->Caught X J D i b0 suite (SP X J Dd) (.ref a) s)->MX (Cx.tr X J (Caught X J D i b0 suite (SP X J Dd))) cl Ew Y f fx Dd Y H->
   wpAny (model X.prog X.w) X.A (execs body X.env) (SP X J Dd) (Caught X J D i b0 suite (SP X J Dd)) s:=λEw hw q=>
  IE (hb J _ Y Ew hw [] s Y H Dd (BR I) q) (λfl s1 z=>BS z) λ_ _ z=>z
 unfold vd at e;split at e
 ·rename_i r h1;cases e;exact run (λ_ _ _=>ID) (λ_ _ _ _ _ _ _ _ z=>z.elim) #[rfl,.inl #[A,Z,S,o,S',er,so,h1,vf X (Cx.tr X J (Caught X J D i b0 suite (SP X J Dd))) rfl rfl d]]
 ·rename_i h1;split at e
  ·rename_i cn ws S1 h2;split at e
   ·rename_i C gs h3;split at e
    ·rename_i h4;show run (λcls dd H'=>EndX X.w X.K A H S1 C gs ws cls dd H') (λJ1 H' s1 a C' dd a0 Yj q=>?_) #[rfl,.inr #[A,Z,S,cn,ws,S1,C,gs,er,so,h2,h3,λ_ _ _ z=>z]]
     obtain rfl:C'=C:=by
      cases q with
      | no A' ec eg ed e so=>cases ec; rfl
      | «at» A' dx vs ec ed hd nd e so r=>cases ec; rfl
     have Yx:=yy Yj;show#[a,C',dd,a0,Y,H',rfl,Yx,hs cn C' gs h3 h4,λs2 I2=>?_]
     obtain⟨A2,H2,I3,ex,ea,so2⟩:=BQ cn I2 Yx.ext q;have er2:EnvRel X.K A2 H2 (Z.set i (ba (.ref S1.length))) (Y.set i (ba (.ref a))):=(er.mono ex).set (.ref ea) i;have fin:∀o2 S2,h (Z.set i (ba (.ref S1.length))) (S1++[.exc cn C' gs ws])=ba (o2,S2)->Imp (EndS (pc X a) A2 H2 o2 S2) { nx:=λY' H'=>Dd.nx (Y'.set i gV) H',rt:=Dd.rt,bk:=λ_ _=>ID,ct:=λ_ _=>ID }->
       wpAny (model X.prog X.w) (pc X a).A (execs (b0::suite) X.env) (λf s3=>∃Y3 H3,L2.Inv (pc X a) J Y3 H3 s3/\∀s4,L2.Inv X J (Y3.set i gV) H3 s4->SP X J Dd f s4) (λ_ _=>ID) s2:=λo2 S2 e2 im=>by
      show IE (hh a J s2 _ H2 _ I3 #[A2,_,_,o2,S2,er2,so2,e2,im]) (λfl s3 z=>?_) λ_ _ z=>z
      cases fl with
      | next=>obtain⟨Y',H3,I4,q⟩:=z; exact#[Y',H3,I4,λs4 I5=>#[_,_,I5,q]]
      | ret u=>obtain⟨v,Y',H3,I4,r,q⟩:=z; exact#[Y',H3,I4,λs4 I5=>#[v,_,_,I5,r,q]]
      | brk=>obtain⟨Y',H3,I4,q⟩:=z; exact q.elim
      | cont=>obtain⟨Y',H3,I4,q⟩:=z; exact q.elim
     split at e
     ·rename_i Z' S2 h5;cases e;show fin _ _ h5 #[λY' H3 #[Z2,A3,eo,e3,so3,er3]=>?_,λv H3 #[w,A3,eo,_,_,_]=>(by cases eo),λY' H3 #[Z2,A3,eo,_,_,_]=>(by cases eo),λY' H3 #[Z2,A3,eo,_,_,_]=>(by cases eo)]
      cases eo;exact d.nx _ _ #[_,A3,rfl,ex.trans e3,so3,er3.unset i]
     ·rename_i w S2 h5;cases e;show fin _ _ h5 #[λY' H3 #[Z2,A3,eo,_,_,_]=>(by cases eo),λv H3 #[w2,A3,eo,e3,so3,r3]=>?_,λY' H3 #[Z2,A3,eo,_,_,_]=>(by cases eo),λY' H3 #[Z2,A3,eo,_,_,_]=>(by cases eo)]
      cases eo;exact d.rt _ _ #[_,A3,rfl,ex.trans e3,so3,r3]
     ·cases e
    ·cases e
   ·cases e
  ·cases e
section
variable{X:Cx}{cl:Cl}{Ew:L2.XK}{Y0:L2.St}
abbrev ME (X:Cx)(cl:Cl)(Ew:L2.XK)(Y0:L2.St)(e:HH)(f:FE)(fx:FX):Prop:=PE X e λY H Q=>Y=Y0/\(tE X f Y H Q\/tX X cl Ew fx Y H)
abbrev MT (X:Cx)(cl:Cl)(Ew:L2.XK)(Y0:L2.St)(e:HH)(f:FT)(fx:FX):Prop:=PT X e λY H Q=>Y=Y0/\(tT X f Y H Q\/tX X cl Ew fx Y H)
def yz {CX:nJ}{k:Hz}{f:Hv}{fd:IY}{ps:Ho HC}{sp:Sp}{E:L2.XK}{J:Ho (Hv×Jg)}{H:Hp}{s:Ht}{Q:VK}{us:Ho Hr}{vs:Ho V}(F:FnOk X.prog X.w X.K X.mg X.base CX k f fd ps sp)(hr:Room k X.A)(hb:Binds X.K fd ps [])
  (hx:∀J H s e s',L2.Inv X J Y0 H s->CX X.stack H s E e s'->X.xe e s') (I:L2.Inv X J Y0 H s) (r:Vals vs us) (h:sp vs H Q E):wpAny (model X.prog X.w) X.A (call (.ref f) us) (EP X J Y0 Q) X.xe s:=by
 have hl:(us++[]).length=ps.length:=by rw[JD,<- r.length]; exact F.len _ _ _ _ h
 have b:=hb s us I.kIn hl;rw[JD]at b;show K4 (Kx (F.run X.A X.stack s H #[us,[]] us vs Q E hr I.env0 b r h) λr s' hq=>?_)
 cases r with
 | error e=>exact hx J H s e s' I hq
 | ok fl=>
  cases fl with
  | ret u=>exact I.after hq
  | next=>exact ID.elim hq
  | brk=>exact ID.elim hq
  | cont=>exact ID.elim hq
def BV {k n:Hz}{fa:Hv}{fd:IY}{ps:Ho HC}{g:FF}{gx:Dy}{x:HC}{e:HH}{es:Ho HH}{p pos:Jw}{f:FA}(F:FnOk X.prog X.w X.K X.mg X.base (CXx X.prog X.w) k fa fd ps (spX X.w X.K cl n g gx))(hr:Room k X.A)(hg:Gl X x)(hm:X.mg x=ba (.ref fa))
  (hk:IZ X.K (.ref fa)=true) (hb:Binds X.K fd ps []) (hw:∀J H s a C dd a0,Air X J Y0 H s a C dd a0->Ew (.ref C) dd H->X.xe (.ref a) s) (ha:GA X (e::es) f) (hdb:(x==("__debug__" : HC))=false) (he:starEach (e::es) X.env=(false,eval e X.env)::starEach es X.env) (hpl:(backTo pos (starEach es X.env)).any (·.1)=false) :
  ME X cl Ew Y0 (.Call (.Name x p) (e::es) [] pos) (cY n g f) (fR n gx f):=by
 have hx:∀J H s e s',L2.Inv X J Y0 H s->CXx X.prog X.w X.stack H s Ew e s'->X.xe e s':=λJ H s e s' I h=>by
  obtain⟨a,C,dd,a0,H',rfl,Yj,q⟩:=AJ I h;exact hw _ _ _ _ _ _ _ Yj q
 intro J s Y H Q I ⟨es0,q⟩;subst es0;show JR (cz I hg hm ?_ hdb);have go:∀ {A:Ho Hv} {Z:Fm} {S:aa} {ws:Ho W} {S1:aa},EnvRel X.K A H Z Y->StoreOk X.w X.K A H S->f Z S=ba (ws,S1)->(∀vs H1,EndA X A H S1 ws vs H1->spX X.w X.K cl n g gx vs H1 Q Ew)->wpAny (model X.prog X.w) X.A (callWith pos (.ref fa) [] (backTo pos (starEach (e::es) X.env)) (backToKw pos (keywordEach [] X.env))) (EP X J Y Q) X.xe s:=λ{A Z S ws S1} er so h1 h2=>
  LO (h₀:=X.base) I.ok.mod.kin hk (aG (ha pos J s Y H (λvs H1=>spX X.w X.K cl n g gx vs H1 Q Ew) I #[A,Z,S,ws,S1,er,so,h1,h2]) λus s1 #[vs,H1,I1,r,q]=>#[I1.kIn,yz F hr hb hx I1 r q]) he hpl
 rcases q with⟨A,Z,S,w,S',er,so,e1,q⟩|⟨A,Z,S,cn,ws,S',C,gs,er,so,e1,hc,q⟩
 ·unfold cY at e1;split at e1
  ·rename_i ws S1 h1;split at e1
   ·rename_i hl;exact go er so h1 λvs H1 #[A1,ex,so1,r]=>.ok #[A1,S1,ws,w,S',so1,r,hl,e1,λv H2 z=>q v H2 (z.after ex)]
   ·cases e1
  ·cases e1
 ·unfold fR at e1;split at e1
  ·rename_i us S1 h1;split at e1
   ·rename_i hl;exact go er so h1 λvs H1 #[A1,ex,so1,r]=>.xc A1 S1 us cn ws S' C gs so1 r hl e1 hc λcls dd H2 z=>q cls dd H2 (z.after ex)
   ·cases e1
  ·cases e1
def BW {a b:HH}{o:COp}{pos:Jw}{fa fb:FE}{fx:FX}(hu:X.A.units+dm < cLine)(ha:ME X cl Ew Y0 a fa fx)(hb:GE X b fb)(hm:behindInMarks o.py b=false):MT X cl Ew Y0 (.Compare a [o.py] [b] pos) (fP (lm o fa fb)) fx:=by
 intro J s Y H Q I ⟨es0,q⟩;show o5 (iR hu o).opr ha hb hm J s Y H Q I ?_;show#[es0,?_];rcases q with⟨A,Z,S,k,S',er,so,e,hq⟩|q
 ·apply Or.inl;unfold fP at e;split at e
  ·rename_i k' S'' h0;cases e;obtain⟨x,S1,y,S2,h1,h2,h3⟩:=Dq h0;show cW er so h1 h2 λa b H2 A2 e2 o2 r1 r2=>#[A2,S2,x,y,_,_,o2,r1,r2,h3,λv H' #[A',z1,z2,z3]=>?_]
   cases z3;exact#[k,rfl,hq _ _ #[rfl,A',e2.trans z1,z2]]
  ·cases e
 ·exact .inr q
def Eu {c:HH}{a b:Ho Jf}{pos:Jw}{fc:FT}{f g:FS}{fx:FX}(hc:MT X cl Ew Y0 c fc fx)(ha:GSs X a f)(hb:GSs X b g):PS X (.If c a b pos) (MX X cl Ew Y0 (eO fc f g) fx):=by
 intro J s Y H D I ⟨es0,q⟩;show sm hc ha hb J s Y H D I #[es0,?_];rcases q with⟨A,Z,S,o,S',er,so,e,d⟩|q
 ·apply Or.inl;unfold eO at e;split at e
  ·rename_i S1 h1;show#[A,Z,S,_,S1,er,so,h1,λb H1 #[z0,A1,z1,z2]=>?_]
   subst z0;rw[HN rfl];exact#[A1,Z,S1,o,S',er.mono z1,z2,e,(EndS.after z1).trans d]
  ·rename_i S1 h1;show#[A,Z,S,_,S1,er,so,h1,λb H1 #[z0,A1,z1,z2]=>?_]
   subst z0;rw[HY #v[]]
   exact#[A1,Z,S1,o,S',er.mono z1,z2,e,(EndS.after z1).trans d]
  ·cases e
 ·exact .inr q
def Ev {e:HH}{pos:Jw}{f:FE}{fx:FX}(h:ME X cl Ew Y0 e f fx)(hs:swapsWith e gV pos.line X.env=pure false):PS X (.Expr e pos) (MX X cl Ew Y0 (mz f) fx):=by
 intro J s Y H D I ⟨es0,q⟩;show kH h hs J s Y H D I #[es0,?_];rcases q with⟨A,Z,S,o,S',er,so,e,d⟩|q
 ·apply Or.inl;unfold mz at e;split at e
  ·rename_i w S1 h1;cases e;exact#[A,Z,S,w,_,er,so,h1,λv H1 #[A1,z1,z2,z3]=>d.nx _ _ #[Z,A1,rfl,z1,z2,er.mono z1]]
  ·cases e
 ·exact .inr q
def vg {tg e:HH}{pos:Jw}{f:FE}{fx:FX}{g:FG}(h:ME X cl Ew Y0 e f fx)(hg:GG X tg g)(hs:swapsWithSole [tg] e pos.line X.env=pure false)(hw:swappedStores [tg] e X.env=pure gV)(h1:(assignEach [tg] X.env).map (·.2)=[assign tg X.env]) :
  PS X (.Assign [tg] e pos) (MX X cl Ew Y0 (d7 f g) fx):=by
 intro J s Y H D I ⟨es0,q⟩;show sv h hg hs hw h1 J s Y H D I #[es0,?_];rcases q with⟨A,Z,S,o,S',er,so,e,hd⟩|q
 ·apply Or.inl;unfold d7 at e;split at e
  ·rename_i w S1 h1;split at e
   ·rename_i Z1 S2 h2;cases e;show#[A,Z,S,w,S1,er,so,h1,λv H1 #[A1,z1,z2,z3]=>?_]
    exact#[A1,Z,S1,w,Z1,_,er.mono z1,z2,z3,h2,λY' H' A' y1 y2 y3=>hd.nx _ _ #[Z1,A',rfl,z1.trans y1,y2,y3]]
   ·cases e
  ·cases e
 ·exact .inr q
end
abbrev eB (cn D:HC):HP:=D==cn||D==("LayError" : HC)||D==("ValueError" : HC)
abbrev Cy (i:Hz)(cl:Cl)(k:HC->Ho HC->Ho W->Hs W):FE:=λZ S=>match Z[i]? with
 | some (ba (.ref j))=>match S[j]? with
  | some (.exc cn C gs ws)=>if cl cn=ba (C,gs)then(k cn gs ws).map λw=>(w,S)else gV
  | _=>gV
 | _=>gV
abbrev gf (cl:Cl)(sb:HC->HP)(i:Hz):FE:=Cy i cl λcn _ _=>ba (.bl (sb cn))
abbrev rQ (cl:Cl)(g:HC)(i:Hz):FE:=Cy i cl λ_ gs ws=>(gs.zip ws).lookup g
def gh {i:Hz}{cl:Cl}{k:HC->Ho HC->Ho W->Hs W}{Z:Fm}{S S':aa}{w:W}(h:Cy i cl k Z S=ba (w,S')):∃j cn C gs ws,Z[i]?=ba (ba (.ref j))/\S[j]?=ba (.exc cn C gs ws)/\cl cn=ba (C,gs)/\k cn gs ws=ba w/\S'=S:=by
 unfold Cy at h;split at h
 ·rename_i j h1;split at h
  ·rename_i cn C gs ws h2;split at h
   ·rename_i h3;rw[Hx]at h;obtain⟨w',h4,h5⟩:=h;cases h5;exact#[j,cn,C,gs,ws,h1,h2,h3,h4,rfl]
   ·cases h
  ·cases h
 ·cases h
structure HCtx (X:Cx)(Γ:Gam)(cls:Ho HC)(cl:Cl):Prop where
 names:X.env.scope.names=Γ.sc
 N:X.N=Γ.N
 nd:Γ.N.Nodup
 un:X.A.units+dm < cLine
 dfn:∀x,X.fn x=true
 blt:∀x∈Γ.blt,X.mg x=gV
 xk:∀cn C gs,cl cn=ba (C,gs)->(∃cd,XK X.K C cd)/\X.base.get? C≠gV/\XT X.K C (.type "ValueError") true/\∀g∈gs,Kv X.K (.ref C) g=ba gV
 xt:∀D∈cls,∃Da,X.mg D=ba (.ref Da)/\∀cn C gs,cl cn=ba (C,gs)->XT X.K C (.ref Da) (eB cn D)
section
variable{X:Cx}{Γ:Gam}{cls:Ho HC}{cl:Cl}
def yA (K:HCtx X Γ cls cl){x:HC}(h:bK Γ x=true):Gl X x/\(x==("__debug__" : HC))=false:=by
 unfold bK at h;rw[Hu]at h;show#[?_,by simpa using h.2]
 change X.env.scope.names.lookup x=_;rw[K.names];exact eq_of_beq h.1
def kj (K:HCtx X Γ cls cl){x:HC}{pos:Jw}{i:Hz}(h:slot Γ x=ba i):PE X (.Name x pos) (nB i):=by
 unfold slot at h;split at h
 ·rename_i hc;rw[Hu,Hu]at hc;obtain⟨⟨h1,h2⟩,h3⟩:=hc;exact gq (by rw[K.N]; exact aF h) (mO (by rw[K.names]; exact h1)) (by simpa using h2) (by simpa using h3)
 ·cases h
def yB (K:HCtx X Γ cls cl){x:HC}{i:Hz}(h:aR Γ x=ba i):X.N[i]?=ba x/\sg X.env.scope x/\(X.fn x=true\/X.env.scope.names.lookup x=ba .local):=by
 unfold aR at h;split at h
 ·rename_i hc;show#[by rw[K.N]; exact aF h,?_,.inl (K.dfn x)]
  unfold L2.sg;rw[K.names];rw[Jj,Hu]at hc;rcases hc with hc|⟨hd,hc⟩
  ·exact .inl (eq_of_beq hc)
  ·exact .inr (eq_of_beq hc)
 ·cases h
def ObjRel.xin {wd:HX}{K:HA}{A:Ho Hv}{H:Hp}{a:Hv}{cn:HC}{C:Hv}{gs:Ho HC}{ws:Ho W}(h:ObjRel wd K A H a (.exc cn C gs ws)):∃dd,Ct H a C dd:=by
 obtain⟨o,dd,q,r⟩:=h;show#[dd,#[o,q],?_];rcases r with⟨rfl,_⟩|⟨dx,od,vs,rfl,e,_⟩
 ·exact .inl rfl
 ·exact .inr #[dx,_,od,rfl,e]
def yC {H:Hp}{a C p:Hv}{dd:Hs Hv}{u:HO}(h:Ct H a C dd)(hp:H p=gV):Ct (L2.aA H p u) a C dd:=by
 obtain⟨⟨o,h1⟩,h2⟩:=h;have ne:∀ {b v},H b=ba v->b≠p:=λhb z=>by rw[z,hp]at hb; cases hb
 show#[#[o,by rw[aj (ne h1)]; exact h1],?_]
 rcases h2 with rfl|⟨dx,fs,o',rfl,e⟩
 ·exact .inl rfl
 ·exact .inr #[dx,fs,o',rfl,by rw[aj (ne e)]; exact e]
def BX (K:HCtx X Γ cls cl){x D:HC}{i:Hz}{p p1 p2 pos:Jw}(hg:Gl X "isinstance")(hm:X.mg "isinstance" = gV)(hs:slot Γ x=ba i)(gD:Gl X D)(dD:(D==("__debug__" : HC))=false)(hD:D∈cls) :
  GE X (.Call (.Name "isinstance" p) [.Name x p1,.Name D p2] [] pos) (gf cl (λcn=>eB cn D) i):=by
 obtain⟨Da,mD,xt⟩:=K.xt D hD;show GE.of (dR jS hg hm rfl (bA (kj K hs) (bA (oX (v:=.ref Da) gD mD rfl dD) ff)) #v[] #v[] rfl rfl) λY H A Z S w S' er so e Q hq=>?_
 obtain⟨j,cn,C,gs,ws,h1,h2,h3,h4,rfl⟩:=gh e;cases h4;obtain⟨v,e1,r⟩:=er.2 i _ h1;cases r with
 | @ref _ a ea=>
  obtain⟨dd,xi⟩:=(so.obj j _ a h2 ea).xin;obtain⟨⟨cd,xk⟩,_,_,_⟩:=K.xk cn C gs h3;exact#[_,e1,a,C,cd,dd,.ref Da,_,rfl,xk,xi,.inl #[Da,rfl,xt cn C gs h3],hq _ _ (.here so .bl)]
def BY (K:HCtx X Γ cls cl){x:HC}{i:Hz}{p p1 p2 pos:Jw}(hg:Gl X "isinstance")(hm:X.mg "isinstance" = gV)(hs:slot Γ x=ba i)(gD:Gl X "ValueError")(mD:X.mg "ValueError" = gV) :
  GE X (.Call (.Name "isinstance" p) [.Name x p1,.Name "ValueError" p2] [] pos) (gf cl (λ_=>true) i):=by
 show GE.of (dR jS hg hm rfl (bA (kj K hs) (bA (oY (v:=.ty "ValueError") (u:=.type "ValueError") gD mD rfl rfl #v[] #v[]) ff)) #v[] #v[] rfl rfl) λY H A Z S w S' er so e Q hq=>?_
 obtain⟨j,cn,C,gs,ws,h1,h2,h3,h4,rfl⟩:=gh e;cases h4;obtain⟨v,e1,r⟩:=er.2 i _ h1;cases r with
 | @ref _ a ea=>
  obtain⟨dd,xi⟩:=(so.obj j _ a h2 ea).xin;obtain⟨⟨cd,xk⟩,_,xv,_⟩:=K.xk cn C gs h3;exact#[_,e1,a,C,cd,dd,.ty "ValueError",true,rfl,xk,xi,.inr #[_,rfl,xv],hq _ _ (.here so .bl)]
abbrev eM:Ho HH->Hs (Ho HC)
 | []=>ba []
 | .Name x _::es=>(eM es).map (x :: ·)
 | _::_=>gV
def vh (K:HCtx X Γ cls cl):∀ {es:Ho HH} {ds:Ho HC},eM es=ba ds->(ds.all λD=>bK Γ D&&cls.contains D)=true->
  ∃das:Ho Hv,das.length=ds.length/\PA X es (λ_ H Q=>Q (das.map V.ref) H)/\∀cn C gs,cl cn=ba (C,gs)->∃bs,XTs X.K C (das.map HL) bs/\bs.any id=ds.any (eB cn)
 | [],ds,h,_=>by
  cases h;exact#[[],rfl,ff,λ_ _ _ _=>#[[],.nil,rfl]]
 | e::es,ds,h,ha=>by
  cases e with
  | Name x p=>
   replace h:(eM es).map (x :: ·)=ba ds:=h
   rw[Hx]at h;obtain⟨ds',h1,rfl⟩:=h;rw[Io,Hu,Hu]at ha;obtain⟨⟨a1,a2⟩,a3⟩:=ha;obtain⟨das,l,pa,q⟩:=vh K h1 a3;obtain⟨g1,g2⟩:=yA K a1;obtain⟨Da,mD,xt⟩:=K.xt x (by simpa using a2)
   show#[Da::das,by simp[l],bA (oX (v:=.ref Da) g1 mD rfl g2) pa,λcn C gs hc=>?_]
   obtain⟨bs,b1,b2⟩:=q cn C gs hc;exact#[_::bs,.cons (xt cn C gs hc) b1,by rw[JB,JB,b2]; rfl]
  | _=>cases h
def BZ (K:HCtx X Γ cls cl){x:HC}{es:Ho HH}{ds:Ho HC}{i k:Hz}{p p1 p2 pos:Jw}(hg:Gl X "isinstance")(hm:X.mg "isinstance" = gV)(hs:slot Γ x=ba i)(hd:eM es=ba ds)(ha:(ds.all λD=>bK Γ D&&cls.contains D)=true)(hl:ds.length<=1000) :
  GE X (.Call (.Name "isinstance" p) [.Name x p1,.Tuple es k p2] [] pos) (gf cl (λcn=>ds.any (eB cn)) i):=by
 obtain⟨das,l,pa,q⟩:=vh K hd ha;show GE.of (dR nQ hg hm rfl (bA (kj K hs) (bA (sD pa) ff)) #v[] #v[] rfl rfl) λY H A Z S w S' er so e Q hq=>?_
 obtain⟨j,cn,C,gs,ws,h1,h2,h3,h4,rfl⟩:=gh e;cases h4;obtain⟨v,e1,r⟩:=er.2 i _ h1;cases r with
 | @ref _ a ea=>
  obtain⟨dd,xi⟩:=(so.obj j _ a h2 ea).xin;obtain⟨⟨cd,xk⟩,xb,_,_⟩:=K.xk cn C gs h3;obtain⟨bs,b1,b2⟩:=q cn C gs h3;show#[_,e1,by rw[HB,l]; exact oB (Ji hl),λtp ht=>#[a,C,cd,dd,tp,das,bs,rfl,xk,yC xi ht,ak,xb,b1,?_]]
  rw[b2];exact hq _ _ #[A,aN (.inl ht),so.lay ht,.bl]
def m5 {K:HA}{A:Ho Hv}{H:Hp}{g:HC}{w:W}:∀ {gs:Ho HC} {ws:Ho W} {vs:Ho V},RelL K A H ws vs->(gs.zip ws).lookup g=ba w->g∈gs/\∃v,(gs.zip vs).lookup g=ba v/\Rel K A H w v
 | [],_,_,_,h=>by cases h
 | _::_,_,_,.nil,h=>by cases h
 | y::gs,w'::ws,v'::vs,.cons r t,h=>by
  rw[JS,IC]at h;rw[JS,IC];cases e:g==y with
  | true=>
   rw[e]at h;cases h;exact#[by rw[eq_of_beq e]; exact Iw,v',rfl,r]
  | false=>
   rw[e]at h;obtain⟨h1,h2⟩:=m5 t h;exact#[Ig _ h1,h2]
def B0 (K:HCtx X Γ cls cl){x g:HC}{i:Hz}{p pos:Jw}(hs:slot Γ x=ba i):GE X (.Attribute (.Name x p) g pos) (rQ cl g i):=by
 show GE.of (tj (kj K hs) rfl) λY H A Z S w S' er so e Q hq=>?_
 obtain⟨j,cn,C,gs,ws,h1,h2,h3,h4,rfl⟩:=gh e;obtain⟨v,e1,r⟩:=er.2 i _ h1;cases r with
 | @ref _ a ea=>
  obtain⟨⟨cd,xk⟩,xb,_,hf⟩:=K.xk cn C gs h3;obtain⟨o,dd,q,au⟩:=so.obj j _ a h2 ea;rcases au with⟨_,rfl⟩|⟨dx,od,vs,rfl,e2,rl⟩
  ·cases h4
  ·obtain⟨hm,y,z1,z2⟩:=m5 rl h4;exact#[_,e1,a,C,cd,dx,_,y,o,od,rfl,xk,hf g hm,q,e2,z1,hq _ _ (.here so z2)]
end
abbrev B1 (Γ:Gam)(cls:Ho HC)(cl:Cl)(i:Hz):HH->Hs E
 | .Name D _=>if bK Γ D&&cls.contains D then ba (.sem (gf cl (λcn=>eB cn D) i))else if bK Γ D&&(D==("ValueError" : HC))&&Γ.blt.contains D then ba (.sem (gf cl (λ_=>true) i))else gV
 | .Tuple es _ _=>match eM es with
  | some ds=>if (ds.all λD=>bK Γ D&&cls.contains D)&&decide (ds.length<=1000)then ba (.sem (gf cl (λcn=>ds.any (eB cn)) i))else gV
  | none=>gV
 | _=>gV
abbrev oG (cls:Ho HC)(cl:Cl)(n:HC)(i:Hz)(Γ:Gam):Hz->HH->Hs E
 | 0,_=>gV
 | k+1,e=>match e with
  | .Constant (.int j) _ _=>ba (.c (.int j))
  | .Constant (.str x) _ _=>ba (.c (.str x))
  | .Constant (.bool b) _ _=>ba (.c (.bl b))
  | .Constant .none _ _=>ba (.c .non)
  | .Name x _=>match slot Γ x with
   | some j=>ba (.v j)
   | none=>gV
  | .UnaryOp .Not a _=>(oG cls cl n i Γ k a).map .not
  | .BoolOp op vs _=>cB (oG cls cl n i Γ k) op vs
  | .Tuple es _ _=>(cA (oG cls cl n i Γ k) es).map .tup
  | .Attribute (.Name x _) g _=>if x==n&&slot Γ n==ba i then ba (.sem (rQ cl g i))else gV
  | .Call (.Name f _) [.Name x _,c] [] _=>if f==("isinstance" : HC)&&bK Γ f&&Γ.blt.contains f&&x==n&&slot Γ n==ba i then B1 Γ cls cl i c else gV
  | _=>gV
abbrev zO (cls:Ho HC)(cl:Cl)(n:HC)(i:Hz)(Γ:Gam):Hz->Jf->Hs Sm
 | 0,_=>gV
 | k+1,st=>match st with
  | .Assign [.Name x _] e _=>match aR Γ x,oG cls cl n i Γ 20 e with
   | some j,ba e'=>ba (.set j e')
   | _,_=>gV
  | .Return (ba e) _=>(oG cls cl n i Γ 20 e).map .ret
  | .If t a b _=>match oG cls cl n i Γ 20 t,eh (zO cls cl n i Γ k) a,eh (zO cls cl n i Γ k) b with
   | some t',ba a',ba b'=>ba (.ite t' a' b')
   | _,_,_=>gV
  | _=>gV
section
variable{M:HC->FF}{fuel:Hz}{X:Cx}{Γ:Gam}{cls:Ho HC}{cl:Cl}{n:HC}{i:Hz}
def lB {f:HH->Hs E}{op:O0}{pos:Jw}(ih:∀ {e:HH} {e':E},f e=ba e'->GE X e (ar M e')):∀ {vs:Ho HH} {r:E},cB f op vs=ba r->GE X (.BoolOp op vs pos) (ar M r)
 | [],r,h=>by cases h
 | [a],r,h=>um (ih h)
 | a::b::au,r,h=>by
  simp only[cB]at h;split at h
  ·rename_i a' b' h1 h2;cases h;cases op with
   | And=>exact uq (ih h1) (lB ih h2)
   | Or=>exact zr (ih h1) (lB ih h2)
  ·cases h
def lC {f:HH->Hs E}{op:O0}{pos:Jw}(ih:∀ {e:HH} {e':E},f e=ba e'->GT X e (bF M e')):∀ {vs:Ho HH} {r:E},cB f op vs=ba r->GW X (.BoolOp op vs pos) (bF M r)
 | [],r,h=>by cases h
 | [a],r,h=>by
  cases op with
  | And=>exact pH (ih h)
  | Or=>exact uh (ih h)
 | a::b::au,r,h=>by
  simp only[cB]at h;split at h
  ·rename_i a' b' h1 h2;cases h;cases op with
   | And=>exact uj (ih h1) (lC ih h2)
   | Or=>exact zq (ih h1) (lC ih h2)
  ·cases h
def vk {f:HH->Hs E}(ns:∀ {e:HH} {e':E},f e=ba e'->cK e=true)(ih:∀ {e:HH} {e':E},f e=ba e'->GE X e (ar M e')):∀ {es:Ho HH} {r:Es},cA f es=ba r->GA X es (aX M r)
 | [],r,h=>by cases h; exact ut
 | e::es,r,h=>by
  obtain⟨e',es',h1,h2,rfl⟩:=dv h;exact pK (ih h1) (vk ns ih h2) (ap (ns h1))
def oH {k:Hz}{e:HH}{e':E}(h:oG cls cl n i Γ k e=ba e'):cK e=true:=by
 cases k with
 | zero=>cases h
 | succ k=>cases e <;> first|rfl|(exact ag h)
def Ey (K:HCtx X Γ cls cl){p p1 pos:Jw}{c:HH}{r:E}(hg:bK Γ ("isinstance" : HC)=true)(hb:Γ.blt.contains ("isinstance" : HC)=true)(hs:slot Γ n=ba i)(h:B1 Γ cls cl i c=ba r):∃g,r=.sem g/\GE X (.Call (.Name "isinstance" p) [.Name n p1,c] [] pos) g:=by
 obtain⟨g1,g2⟩:=yA K hg;have hm:X.mg "isinstance" = gV:=K.blt _ (by simpa using hb)
 cases c with
 | Name D q=>
  replace h:(if bK Γ D&&cls.contains D then ba (E.sem (gf cl (λcn=>eB cn D) i))else if bK Γ D&&(D==("ValueError" : HC))&&Γ.blt.contains D then ba (E.sem (gf cl (λ_=>true) i))else gV)=ba r:=h
  split at h
  ·rename_i hc;rw[Hu]at hc;obtain⟨g3,g4⟩:=yA K hc.1;cases h;exact#[_,rfl,BX K g1 hm hs g3 g4 (by simpa using hc.2)]
  ·split at h
   ·rename_i hc;rw[Hu,Hu]at hc;obtain⟨g3,g4⟩:=yA K hc.1.1;have e:=eq_of_beq hc.1.2;subst e;cases h;exact#[_,rfl,BY K g1 hm hs g3 (K.blt _ (by simpa using hc.2))]
   ·cases h
 | Tuple es k q=>
  replace h:(match eM es with|some ds=>if (ds.all λD=>bK Γ D&&cls.contains D)&&decide (ds.length<=1000)then ba (E.sem (gf cl (λcn=>ds.any (eB cn)) i))else gV|none=>gV)=ba r:=h
  split at h
  ·rename_i ds hd;split at h
   ·rename_i hc;rw[Hu,Im]at hc;cases h;exact#[_,rfl,BZ K g1 hm hs hd hc.1 hc.2]
   ·cases h
  ·cases h
 | _=>cases h
def jk (K:HCtx X Γ cls cl):∀(k:Hz) {e:HH} {e':E},oG cls cl n i Γ k e=ba e'->GE X e (ar M e')/\GT X e (bF M e'):=by
 intro k
 induction k with
 | zero=>intro e e' h; cases h
 | succ k ih=>
  intro e e' h;cases e with
  | Constant c j p=>
   cases c <;> cases h
   all_goals first
    | exact#[dZ kF (λ_ _=>.non),aJ (dZ kF (λ_ _=>.non)) λ_=>rfl]
    | exact#[dZ lL (λ_ _=>.bl),aJ (dZ lL (λ_ _=>.bl)) λ_=>rfl]
    | exact#[dZ kE (λ_ _=>.int),aJ (dZ kE (λ_ _=>.int)) λ_=>rfl]
    | exact#[dZ kG (λ_ _=>.str),aJ (dZ kG (λ_ _=>.str)) λ_=>rfl]
  | Name x p=>
   replace h:(match slot Γ x with|some j=>ba (E.v j)|none=>gV)=ba e':=h
   split at h
   ·rename_i j h1;cases h;exact#[AU (kj K h1),aJ (AU (kj K h1)) λ_=>rfl]
   ·cases h
  | UnaryOp op a p=>
   cases op with
   | Not=>
    replace h:(oG cls cl n i Γ k a).map E.not=ba e':=h;rw[Hx]at h;obtain⟨a',h1,rfl⟩:=h;exact#[ur (ih h1).1,uk (ih h1).2]
   | _=>exact ag h
  | BoolOp op vs p=>
   replace h:cB (oG cls cl n i Γ k) op vs=ba e':=h;exact#[lB (λz=>(ih z).1) h,(lC (λz=>(ih z).2) h).pt]
  | Tuple es j p=>
   replace h:(cA (oG cls cl n i Γ k) es).map E.tup=ba e':=h;rw[Hx]at h;obtain⟨r,h1,rfl⟩:=h;have g:=og (k:=j) (pos:=p) (vk (λz=>oH z) (λz=>(ih z).1) h1)
   exact#[g,aJ g λ_=>rfl]
  | Attribute o g p=>
   cases o with
   | Name x q=>
    replace h:(if x==n&&slot Γ n==ba i then ba (E.sem (rQ cl g i))else gV)=ba e':=h
    split at h
    ·rename_i hc;rw[Hu]at hc;have e:=eq_of_beq hc.1;subst e;cases h;have g:=B0 (g:=g) (p:=q) (pos:=p) K (eq_of_beq hc.2);exact#[g,aJ g λ_=>rfl]
    ·cases h
   | _=>exact ag h
  | Call f args kws p=>
   cases kws with
   | cons _ _=>cases f <;> first|(exact ag h)|(match args,h with|[],h=>exact ag h|[a],h=>(cases a <;> exact ag h)|[a,b],h=>(cases a <;> exact ag h)|a::b::c::d,h=>(cases a <;> exact ag h))
   | nil=>
    cases f with
    | Name x q=>
     match args,h with
     | [],h=>exact ag h
     | [a],h=>cases a <;> exact ag h
     | a::b::c::d,h=>cases a <;> exact ag h
     | [a,c],hh=>
      cases a with
      | Name y q2=>
       replace hh:(if x==("isinstance" : HC)&&bK Γ x&&Γ.blt.contains x&&y==n&&slot Γ n==ba i then B1 Γ cls cl i c else gV)=ba e':=hh
       split at hh
       ·rename_i hc;rw[Hu,Hu,Hu,Hu]at hc;obtain⟨⟨⟨⟨c1,c2⟩,c3⟩,c4⟩,c5⟩:=hc;have e:=eq_of_beq c1;subst e;have e:=eq_of_beq c4;subst e;obtain⟨g,rfl,z⟩:=Ey (p:=q) (p1:=q2) (pos:=p) K c2 c3 (eq_of_beq c5) hh;exact#[z,aJ z λ_=>rfl]
       ·cases hh
      | _=>exact ag hh
    | _=>exact ag h
  | _=>exact ag h
def B2 {k:Hz}{e:HH}{e':E}{t:Hs HH}{l:Hz}{env:LL}(h:oG cls cl n i Γ k e=ba e'):swapsWith e t l env=pure false:=by
 cases k with
 | zero=>cases h
 | succ k=>cases e <;> first|(exfalso; exact ag h)|rfl
def ip {k:Hz}(ih:∀ {st:Jf} {s':Sm},zO cls cl n i Γ k st=ba s'->GS X st (bv M fuel s')):∀ {ss:Ho Jf} {r:Ss},eh (zO cls cl n i Γ k) ss=ba r->GSs X ss (bH M fuel r)
 | [],r,h=>by cases h; exact fQ
 | s::ss,r,h=>by
  obtain⟨s',ss',h1,h2,rfl⟩:=fT h;exact iX (ih h1) (ip ih h2)
def vm (fuel:Hz)(K:HCtx X Γ cls cl):∀(k:Hz) {st:Jf} {s':Sm},zO cls cl n i Γ k st=ba s'->GS X st (bv M fuel s'):=by
 have hN:X.N.Nodup:=by rw[K.N]; exact K.nd
 intro k
 induction k with
 | zero=>intro st s' h; cases h
 | succ k ih=>
  intro st s' h;cases st with
  | Return o p=>
   cases o with
   | none=>exact ag h
   | some e=>
    replace h:(oG cls cl n i Γ 20 e).map Sm.ret=ba s':=h;rw[Hx]at h;obtain⟨e',h1,rfl⟩:=h;exact oh (jk K _ h1).1
  | If t a b p=>
   replace h:(match oG cls cl n i Γ 20 t,eh (zO cls cl n i Γ k) a,eh (zO cls cl n i Γ k) b with|some t',ba a',ba b'=>ba (Sm.ite t' a' b')|_,_,_=>gV)=ba s':=h
   split at h
   ·rename_i t' a' b' h1 h2 h3;cases h;exact zt (jk K _ h1).2 (ip ih h2) (ip ih h3)
   ·cases h
  | Assign ts e p=>
   match ts,h with
   | [],h=>exact ag h
   | a::_::_,h=>cases a <;> exact ag h
   | [t],h=>
    cases t with
    | Name x px=>
     replace h:(match aR Γ x,oG cls cl n i Γ 20 e with|some j,ba e'=>ba (Sm.set j e')|_,_=>gV)=ba s':=h
     split at h
     ·rename_i j e' h1 h2;cases h;obtain⟨a,b,c⟩:=yB K h1;exact iY (jk K _ h2).1 (ig hN a b c) (show swapsWith e (ba (.Name x px)) p.line X.env=pure false from B2 h2) (by cases e <;> rfl) rfl
     ·cases h
    | _=>exact ag h
  | _=>exact ag h
end
end Mi
namespace Mi
open PySem PySem.Spec PyProof.Rows L2
section
variable{M:HC->FF}{fuel:Hz}{Z:Fm}{S:aa}{K:Fm->aa->Prop}{Q:QO}
abbrev B3 (M:HC->FF)(fuel:Hz)(b:Ss)(Z:Fm)(S:aa)(I:Fm->aa->Prop)(Q:QO):Prop:=∀Q':QO,(∀Z' S',I Z' S'->Q' (.nx Z',S'))->(∀w S',Q (.rt w,S')->Q' (.rt w,S'))->wZ M fuel b Z S Q'
def jl {tg:Tg}{it:Ie}{b:Ss}{mi:MI}{S1:aa}{xs:Ho W}(I:Hz->Fm->aa->Prop)(ok:fU b=true)(hi:j9 M it Z S=ba (mi,S1))(hat:∀i Z S,I i Z S->mi.at S i=ba xs[i]?)(hl:mi.len S1=ba xs.length)(h0:I 0 Z S1)
  (hstep:∀(i:Hz) (w:W) (Z:Fm) (S:aa),xs[i]?=ba w->I i Z S->wO (lK tg w Z S) λq=>B3 M fuel b q.1 q.2 (I (i+1)) Q) (hend:∀Z S,I xs.length Z S->K Z S):Wp (bv M fuel (.loop tg it b) Z S) (mV K Q):=by
 rw[bv,D6];show#[_,hi,xs.length,hl,?_];show gM (Q:=mV K Q) I hat (λi w Z S h1 h2=>?_) (λZ S h=>hend Z S h) _ 0 Z S1 ∅ h0
 exact(aO (hstep i w Z S h1 h2)).mono λq hq=>fB b ok (wZ.out (hq _ (λ_ _ h=>h) λ_ _ h=>h))
def cN {e:E}{Q:QW}(ok:dz e=true)(h:wE M e Z S Q):∃w S',ar M e Z S=ba (w,S')/\Q (w,S'):=let ⟨⟨w,S'⟩,a,b⟩:=aB e ok h; #[w,S',a,b]
def iq {i0:Hz}{e:E}{b:Ss}(j:HR)(I:Hz->Fm->aa->Prop)(oe:dz e=true)(ok:fU b=true)(hj : -(2 ^ 62)<=j/\j < 2 ^ 62)(he:wE M e Z S λp=>p.1=.int j/\I 0 Z p.2)
  (hstep:∀(i:Hz) (Z:Fm) (S:aa),(i:HR) < j->I i Z S->B3 M fuel b (Z.set i0 (ba (.int i))) S (I (i+1)) Q) (hend:∀Z S,I j.toNat Z S->K Z S):Wp (bv M fuel (.loop (.nm i0) (.rng #v[e]) b) Z S) (mV K Q):=by
 obtain⟨w,S1,e1,rfl,h0⟩:=cN oe he;have hl:(cZ 0 j.toNat).length=j.toNat:=by simp[cZ]
 show jl (mi:=.its (cZ 0 j.toNat)) (S1:=S1) (xs:=cZ 0 j.toNat) I ok ?_ (λ_ _ _ _=>rfl) rfl h0 (λi w Z S hw hI=>?_) λZ S hI=>hend Z S (hl ▸ hI)
 ·simp only[j9,aX,cr,g9,ol,e1];rw[HN hj]
 ·rw[d8]at hw;split at hw
  ·rename_i hk;cases hw;rw[MC];exact hstep i Z S ∅ hI
  ·cases hw
def for_tup {tg:Tg}{e:E}{b:Ss}(xs:Ho W)(I:Hz->Fm->aa->Prop)(oe:dz e=true)(ok:fU b=true)(he:wE M e Z S λp=>p.1=.tup xs/\I 0 Z p.2)
  (hstep:∀(i:Hz) (w:W) (Z:Fm) (S:aa),xs[i]?=ba w->I i Z S->wO (lK tg w Z S) λq=>B3 M fuel b q.1 q.2 (I (i+1)) Q) (hend:∀Z S,I xs.length Z S->K Z S):Wp (bv M fuel (.loop tg (.seq e) b) Z S) (mV K Q):=by
 obtain⟨w,S1,e1,rfl,h0⟩:=cN oe he;exact jl (mi:=.its xs) (S1:=S1) I ok (by simp only[j9,eU,e1]) (λ_ _ _ _=>rfl) rfl h0 hstep hend
def Ez {t:E}{b:Ss}(I:Hz->Fm->aa->Prop)(m:Hz)(ot:dz t=true)(ok:fU b=true)(hm:m < fuel)(h0:I m Z S)
  (hstep:∀m Z S,I m Z S->wT M t Z S λk=>(k.1=true->∃m',m=m'+1/\B3 M fuel b Z k.2 (I m') Q)/\(k.1=false->K Z k.2)):Wp (bv M fuel (.whl t b) Z S) (mV K Q):=by
 rw[bv];show ji (Q:=mV K Q) I (λm Z S hI=>(fW t ot (hstep m Z S hI)).mono λk hk=>#[λz=>?_,λz=>hk.2 z]) fuel m Z S hm h0
 obtain⟨m',e,h⟩:=hk.1 z;exact#[m',e,fB b ok (wZ.out (h _ (λ_ _ h=>h) λ_ _ h=>h))]
abbrev wC (M:HC->FF):Es->Fm->aa->QB->Prop
 | .nil,_,S,Q=>Q (true,S)
 | .cons e .nil,Z,S,Q=>wT M e Z S Q
 | .cons _ (.cons _ _),_,_,_=>ID
def zP {cs:Es}{Q:QB}(ok:mW cs=true)(h:wC M cs Z S Q):Wp (yh M cs Z S) Q:=by
 match cs,h,ok with
 | .nil,h,_=>exact D7.mpr h
 | .cons e .nil,h,ok=>exact D8.mpr (fW e (bh ok) h)
abbrev m6 (M:HC->FF)(elt:E)(cs:Es)(Z:Fm)(S:aa)(G:W->Fm->aa->Prop)(N:Fm->aa->Prop):Prop:=wC M cs Z S λk=>(k.1=true->wE M elt Z k.2 λy=>G y.1 Z y.2)/\(k.1=false->N Z k.2)
def oI {elt:E}{tg:Tg}{it:Ie}{cs:Es}{cap:Ho (Hs Hz)}{mi:MI}{S1:aa}{xs:Ho W}{Q:QW}(I:Hz->Ho W->Fm->aa->Prop)(oe:dz elt=true)(oc:mW cs=true)(hi:j9 M it Z S=ba (mi,S1))(hat:∀i ys Z S,I i ys Z S->mi.at S i=ba xs[i]?)(hl:mi.len S1=ba xs.length)(h0:I 0 [] (ee cap Z) S1)
  (hstep:∀(i:Hz) (w:W) (ys:Ho W) (Z:Fm) (S:aa),xs[i]?=ba w->I i ys Z S->wO (lK tg w Z S) λq=>m6 M elt cs q.1 q.2 (λy=>I (i+1) (ys++[y])) (I (i+1) ys))
  (hend:∀ys Z S,I xs.length ys Z S->ys.length<=sizeLine/\Q (.ref S.length,S++[.lst ys])):Wp (ar M (.comp elt tg it cs cap) Z S) Q:=by
 rw[uX];show#[_,hi,xs.length,hl,?_];show(b9 (xs:=xs) (Q:=λq=>q.1.length<=sizeLine/\Q (.ref q.2.length,q.2++[.lst q.1])) I hat (λi w ys Z S h1 h2=>?_) hend xs.length 0 [] _ S1 ∅ h0).mono λq hq=>by simpa using hq
 exact(aO (hstep i w ys Z S h1 h2)).mono λq hq=>(zP oc hq).mono λk hk=>#[λz=>aB elt oe (hk.1 z),hk.2]
def ir {elt e:E}{i0:Hz}{cs:Es}{cap:Ho (Hs Hz)}{Q:QW}(j:HR)(I:Hz->Ho W->Fm->aa->Prop)(oi:dz e=true)(oe:dz elt=true)(oc:mW cs=true)(hj : -(2 ^ 62)<=j/\j < 2 ^ 62)(he:wE M e Z S λp=>p.1=.int j/\I 0 [] (ee cap Z) p.2)
  (hstep:∀(i:Hz) (ys:Ho W) (Z:Fm) (S:aa),(i:HR) < j->I i ys Z S->m6 M elt cs (Z.set i0 (ba (.int i))) S (λy=>I (i+1) (ys++[y])) (I (i+1) ys))
  (hend:∀ys Z S,I j.toNat ys Z S->ys.length<=sizeLine/\Q (.ref S.length,S++[.lst ys])):Wp (ar M (.comp elt (.nm i0) (.rng #v[e]) cs cap) Z S) Q:=by
 obtain⟨w,S1,e1,rfl,h0⟩:=cN oi he;have hl:(cZ 0 j.toNat).length=j.toNat:=by simp[cZ]
 show oI (mi:=.its (cZ 0 j.toNat)) (S1:=S1) (xs:=cZ 0 j.toNat) I oe oc ?_ (λ_ _ _ _ _=>rfl) rfl h0 (λi w ys Z S hw hI=>?_) λys Z S hI=>hend ys Z S (hl ▸ hI)
 ·simp only[j9,aX,cr,g9,ol,e1];rw[HN hj]
 ·rw[d8]at hw;split at hw
  ·rename_i hk;cases hw;rw[MC];exact hstep i ys Z S ∅ hI
  ·cases hw
def yD {elt e:E}{tg:Tg}{cs:Es}{cap:Ho (Hs Hz)}{Q:QW}(xs:Ho W)(I:Hz->Ho W->Fm->aa->Prop)(oi:dz e=true)(oe:dz elt=true)(oc:mW cs=true)(he:wE M e Z S λp=>p.1=.tup xs/\I 0 [] (ee cap Z) p.2)
  (hstep:∀(i:Hz) (w:W) (ys:Ho W) (Z:Fm) (S:aa),xs[i]?=ba w->I i ys Z S->wO (lK tg w Z S) λq=>m6 M elt cs q.1 q.2 (λy=>I (i+1) (ys++[y])) (I (i+1) ys))
  (hend:∀ys Z S,I xs.length ys Z S->ys.length<=sizeLine/\Q (.ref S.length,S++[.lst ys])):Wp (ar M (.comp elt tg (.seq e) cs cap) Z S) Q:=by
 obtain⟨w,S1,e1,rfl,h0⟩:=cN oi he;exact oI (mi:=.its xs) (S1:=S1) I oe oc (by simp only[j9,eU,e1]) (λ_ _ _ _ _=>rfl) rfl h0 hstep hend
def yE {elt e:E}{tg:Tg}{cs:Es}{cap:Ho (Hs Hz)}{Q:QW}(t:Hz)(xs:Ho W)(I:Hz->Ho W->Fm->aa->Prop)(oi:dz e=true)(oe:dz elt=true)(oc:mW cs=true)(he:wE M e Z S λp=>p.1=.ref t/\I 0 [] (ee cap Z) p.2)(hat:∀i ys Z S,I i ys Z S->S[t]?=ba (.lst xs))
  (hstep:∀(i:Hz) (w:W) (ys:Ho W) (Z:Fm) (S:aa),xs[i]?=ba w->I i ys Z S->wO (lK tg w Z S) λq=>m6 M elt cs q.1 q.2 (λy=>I (i+1) (ys++[y])) (I (i+1) ys))
  (hend:∀ys Z S,I xs.length ys Z S->ys.length<=sizeLine/\Q (.ref S.length,S++[.lst ys])):Wp (ar M (.comp elt tg (.seq e) cs cap) Z S) Q:=by
 obtain⟨w,S1,e1,rfl,h0⟩:=cN oi he;exact oI (mi:=.live t) (S1:=S1) I oe oc (by simp only[j9,eU,e1,aT (hat _ _ _ _ h0)]) (λi ys Z S h=>by simp only[MI.at,aT (hat _ _ _ _ h)]) (by simp only[MI.len,aT (hat _ _ _ _ h0),IW]) h0 hstep hend
def st {s:Sm}{ss:Ss}(h:wS M fuel s Z S (λZ' S'=>wZ M fuel ss Z' S' Q) Q):wZ M fuel (.cons s ss) Z S Q:=#[by
 dsimp only[u6];simp only[En];exact h]
def dh (h:Q (.nx Z,S)):wZ M fuel .nil Z S Q:=#[h]
def aw {t:HP}{a b:Ss}{Q Q0:QO}{K:Fm->aa->Prop}(ha:t=true->∀Q':QO,(∀Z' S',K Z' S'->Q' (.nx Z',S'))->(∀w S',Q (.rt w,S')->Q' (.rt w,S'))->wZ M fuel a Z S Q')(hb:t=false->∀Q':QO,(∀Z' S',K Z' S'->Q' (.nx Z',S'))->(∀w S',Q (.rt w,S')->Q' (.rt w,S'))->wZ M fuel b Z S Q') :
  ∀Q':QO,(∀Z' S',K Z' S'->Q' (.nx Z',S'))->(∀o S',(∀Z',o≠.nx Z')->Q (o,S')->Q' (o,S'))->(t=true->u6 M fuel a Z S Q')/\(t=false->u6 M fuel b Z S Q'):=
 λQ' h1 h2=>#[λe=>(ha e Q' h1 λw S'=>h2 (.rt w) S' (λ_ z=>nomatch z)).out,λe=>(hb e Q' h1 λw S'=>h2 (.rt w) S' (λ_ z=>nomatch z)).out]
end
end Mi
namespace Mi
open PySem PySem.Spec PyProof.Rows L2 Xc
inductive BK where
 | test (f:HC) (k:Hz) (es:Es) (a:Ss)|ex (f:HC) (k:Hz) (es:Es)|set (j:Hz) (f:HC) (k:Hz) (es:Es)|asg (js:Ho Hz) (f:HC) (k:Hz) (es:Es)
abbrev BK.fs (M:HC->FF):BK->FS
 | .test f k es a=>eO (fP (lm .is (cY k (mZ (M f)) (aX M es)) (fC (.bl true)))) (bH M 0 a) (bH M 0 .nil)
 | .ex f k es=>mz (cY k (mZ (M f)) (aX M es))
 | .set j f k es=>d7 (cY k (mZ (M f)) (aX M es)) (xR j)
 | .asg js f k es=>d7 (cY k (mZ (M f)) (aX M es)) (Bb js)
abbrev BK.fx (M:HC->FF):BK->FX
 | .test f k es _=>fR k (xG (M f)) (aX M es)
 | .ex f k es=>fR k (xG (M f)) (aX M es)
 | .set _ f k es=>fR k (xG (M f)) (aX M es)
 | .asg _ f k es=>fR k (xG (M f)) (aX M es)
abbrev Cz (cl:Cl)(c:HC)(i:Hz)(b:BK)(h:Ss):(HC->FF)->FS:=λM=>vd (b.fs M) (b.fx M) (λcn=>eB cn c) cl i (bH M 0 h)
abbrev m7 (XF:Ho (HC×HC×Hz))(Γ:Gam):HH->Hs (HC×Hz×Es)
 | .Call (.Name f _) (a::as) [] _=>if bK Γ f then match XF.lookup f,cA (cE ay Γ) (a::as)with
  | some (f',k),ba es=>ba (f',k,es)
  | _,_=>gV
  else gV
 | _=>gV
abbrev Gq:Ho HH->HP
 | [.Constant (.bool true) _ _]=>true
 | _=>false
abbrev Gr (XF:Ho (HC×HC×Hz))(Γ:Gam):Ho Jf->Hs BK
 | [.If (.Compare e [.Is] cs _) a [] _]=>if Gq cs then match m7 XF Γ e,eh (cS 20 Γ) a with
  | some (f,k,es),ba a'=>ba (.test f k es a')
  | _,_=>gV
  else gV
 | [.Expr e _]=>match m7 XF Γ e with
  | some (f,k,es)=>ba (.ex f k es)
  | none=>gV
 | [.Assign [.Name x _] e _]=>match aR Γ x,m7 XF Γ e with
  | some j,ba (f,k,es)=>ba (.set j f k es)
  | _,_=>gV
 | [.Assign [.Tuple ts _ _] e _]=>match zz Γ ts,m7 XF Γ e with
  | some js,ba (f,k,es)=>ba (.asg js f k es)
  | _,_=>gV
 | _=>gV
abbrev CA (XF:Ho (HC×HC×Hz))(cls:Ho HC)(cl:Cl)(Γ:Gam):Jf->Hs Sm
 | .Try body [.ExceptHandler (ba (.Name c _)) (ba n) (b0::suite) _] [] [] _=>if bK Γ c&&cls.contains c&&(Γ.sc.lookup n==ba .local)then match Γ.N.findIdx? (· == n)with
  | some i=>match Gr XF Γ body,eh (zO cls cl n i Γ 20) (b0::suite)with
   | some b,ba h=>ba (.sem (Cz cl c i b h))
   | _,_=>gV
  | none=>gV
  else gV
 | st=>cS 20 Γ st
section
variable{X:Cx}
def GA.nox {es:Ho HH}{f:FA}(h:GA X.nox es f):GA X es f:=λpos J s Y H Q I #[A,Z,S,ws,S',er,so,e,q]=>
 IE (h pos J s Y H Q (I.wish _) #[A,Z,S,ws,S',er,so,e,λvs H' #[A',x,y,z]=>q vs H' #[A',x,y,z]]) (λ_ _ #[v,H',I',r,q]=>#[v,H',I'.unwish,r,q]) λ_ _ z=>ID.elim z
def GSs.nox {st:Ho Jf}{f:FS}(h:GSs X.nox st f):GSs X st f:=λJ s Y H D I #[A,Z,S,o,S',er,so,e,d]=>
 IE (h J s Y H D (I.wish _) #[A,Z,S,o,S',er,so,e,vf X X.nox rfl rfl d]) (λ_ _ q=>q.unwish) λ_ _ z=>ID.elim z
end
structure TOk (M:HC->FF)(X:Cx)(Γ:Gam)(XF:Ho (HC×HC×Hz))(cls:Ho HC)(cl:Cl):Prop where
 st:X.stack=X.env::X.outer
 fr:X.env.frame=ba X.env.locals
 hc:∀a,HCtx (pc X a) Γ cls cl
 xd:∀c∈cls,∃D,X.mg c=ba (.ref D)/\XD X.K D
 xf:∀f f' k,XF.lookup f=ba (f',k)->∃d fa fd ps,FnOk X.prog X.w X.K X.mg X.base (CXx X.prog X.w) d fa fd ps (spX X.w X.K cl k (mZ (M f')) (xG (M f')))/\Room d X.A/\X.mg f=ba (.ref fa)/\IZ X.K (.ref fa)=true/\Binds X.K fd ps []
section
variable{M:HC->FF}{X:Cx}{Γ:Gam}{fuel:Hz}{XF:Ho (HC×HC×Hz)}{cls:Ho HC}{cl:Cl}
def vn (K:CtxOk M X Γ)(J:Ho (Hv×Jg))(E:Hr->Ht->Prop):CtxOk M (Cx.tr X J E).nox Γ:=#[K.names,K.kind,K.N,K.nd,K.calm,LB,K.un,K.dfn,K.own,K.blt,K.fns]
def lD (K:CtxOk M X Γ)(T:TOk M X Γ XF cls cl){e:HH}{f:HC}{k:Hz}{es:Es}(h:m7 XF Γ e=ba (f,k,es)){J:Ho (Hv×Jg)}{E:Hr->Ht->Prop}{Y0:L2.St}{Ew:L2.XK}
  (hw:∀J1 H s a C dd a0,Air (Cx.tr X J E) J1 Y0 H s a C dd a0->Ew (.ref C) dd H->E (.ref a) s):ME (Cx.tr X J E) cl Ew Y0 e (cY k (mZ (M f)) (aX M es)) (fR k (xG (M f)) (aX M es))/\(∀t l env,swapsWith e t l env=pure false)/\∀t,swappedStores [t] e (Cx.tr X J E).env=pure gV:=by
 cases e with
 | Call fn args kws pos=>
  cases fn with
  | Name x p=>
   cases args with
   | nil=>cases kws <;> exact ag h
   | cons a as=>
    cases kws with
    | cons _ _=>exact ag h
    | nil=>
     replace h:(if bK Γ x then match XF.lookup x,cA (cE ay Γ) (a::as)with|some (f',k),ba es=>ba (f',k,es)|_,_=>gV else gV)=ba (f,k,es):=h
     split at h
     ·rename_i hg;split at h
      ·rename_i f' k' es' h1 h2;cases h;obtain⟨d,fa,fd,ps,F,hr,hm,hk,hb⟩:=T.xf x f k h1;have K':=vn K J E;obtain⟨g1,g2⟩:=eX K hg;have ns:=aW h2;rw[Io,Hu]at ns;exact#[BV (X:=Cx.tr X J E) F hr g1 hm hk hb hw (GA.nox (bD (λz=>(aE ay K' z).1) h2)) g2 (ap ns.1) (aC ns.2),λ_ _ _=>rfl,λt=>by cases t <;> rfl]
      ·cases h
     ·cases h
  | _=>exact ag h
 | _=>exact ag h
def Gs (K:CtxOk M X Γ)(T:TOk M X Γ XF cls cl){body:Ho Jf}{b:BK}(h:Gr XF Γ body=ba b)(J:Ho (Hv×Jg))(E:Hr->Ht->Prop)(Y0:L2.St)(Ew:L2.XK)
  (hw:∀J1 H s a C dd a0,Air (Cx.tr X J E) J1 Y0 H s a C dd a0->Ew (.ref C) dd H->E (.ref a) s):PSs (Cx.tr X J E) body (MX (Cx.tr X J E) cl Ew Y0 (b.fs M) (b.fx M)):=by
 have K':=vn K J E;have hN:X.N.Nodup:=by rw[K.N]; exact K.nd
 unfold Gr at h;split at h
 ·rename_i e cs p a p2;split at h
  ·rename_i ht;split at h
   ·rename_i f k es a' h1 h2;cases h
    match cs,ht with
    | [.Constant (.bool true) k0 p0],_=>
     obtain⟨m,_,_⟩:=lD K T h1 hw;exact fF (Eu (BW (o:=.is) (X:=Cx.tr X J E) K.un m (dZ lL (λ_ _=>.bl)) rfl) (GSs.nox (dw (λz=>il 0 K' 20 z) h2)) fQ)
   ·cases h
  ·cases h
 ·rename_i e p;split at h
  ·rename_i f k es h1;cases h;obtain⟨m,s1,_⟩:=lD K T h1 hw;exact fF (Ev m (s1 _ _ _))
  ·cases h
 ·rename_i x px e p;split at h
  ·rename_i j f k es h1 h2;cases h;obtain⟨m,s1,s2⟩:=lD K T h2 hw;obtain⟨a,b,c⟩:=ik K h1;exact fF (vg m (ig (X:=Cx.tr X J E) hN a b c) (show swapsWith e (ba (.Name x px)) p.line X.env=pure false from s1 _ _ _) (s2 _) rfl)
  ·cases h
 ·rename_i ts k0 p0 e p;split at h
  ·rename_i js f k es h1 h2;cases h;obtain⟨m,s1,s2⟩:=lD K T h2 hw;obtain⟨a,b⟩:=jd K h1;exact fF (vg m (uA (X:=Cx.tr X J E) K.calm a b hN (cu a).1 (cu a).2) (show swapsWith e (ba (.Tuple ts k0 p0)) p.line X.env=pure false from s1 _ _ _) (s2 _) rfl)
  ·cases h
 ·cases h
def Gu (fuel:Hz)(K:CtxOk M X Γ)(T:TOk M X Γ XF cls cl){st:Jf}{s':Sm}(h:CA XF cls cl Γ st=ba s'):GS X st (bv M fuel s'):=by
 have hN:X.N.Nodup:=by rw[K.N]; exact K.nd
 unfold CA at h;split at h
 ·rename_i body c cp n b0 suite hp p;split at h
  ·rename_i hc;rw[Hu,Hu]at hc;obtain⟨⟨c1,c2⟩,c3⟩:=hc;split at h
   ·rename_i i hi;split at h
    ·rename_i b hs h1 h2;cases h;obtain⟨g1,g2⟩:=eX K c1;have c2':c∈cls:=by simpa using c2
     obtain⟨D,m,xd⟩:=T.xd c c2';show BU (D:=D) T.st T.fr hN (by rw[K.N]; exact aF hi) (by rw[K.names]; exact eq_of_beq c3) g1 m xd g2 (λcn C gs q1 q2=>?_) (λJ E Y0 Ew hw=>Gs K T h1 J E Y0 Ew hw) λa=>ip (λz=>vm 0 (T.hc a) 20 z) h2
     obtain⟨Da,m',xt⟩:=(T.hc 0).xt c c2';have e:ba (HL D)=ba (HL Da):=m.symm.trans m';cases e;have:=(xt cn C gs q1).sub;rw[q2]at this;exact this
    ·cases h
   ·cases h
  ·cases h
 ·exact il fuel K 20 h
def qi (K:CtxOk M X Γ)(T:TOk M X Γ XF cls cl):∀ {ss:Ho Jf} {r:Ss},eh (CA XF cls cl Γ) ss=ba r->GSs X ss (bH M fuel r)
 | [],r,h=>by cases h; exact fQ
 | s::ss,r,h=>by
  obtain⟨s',ss',h1,h2,rfl⟩:=fT h;exact iX (Gu fuel K T h1) (qi K T h2)
end
structure XCls (K:HA)(mg:HC->Hs Hr)(base:Ii)(cls:Ho HC)(cl:Cl):Prop where
 xk:∀cn C gs,cl cn=ba (C,gs)->(∃cd,XK K C cd)/\base.get? C≠gV/\XT K C (.type "ValueError") true/\∀g∈gs,Kv K (.ref C) g=ba gV
 xt:∀D∈cls,∃Da,mg D=ba (.ref Da)/\XD K Da/\∀cn C gs,cl cn=ba (C,gs)->XT K C (.ref Da) (eB cn D)
section
variable{P:HM}{w:HX}{K:HA}{mg:HC->Hs Hr}{base:Ii}
abbrev EA (P:HM)(w:HX)(K:HA)(mg:HC->Hs Hr)(base:Ii)(XF:Ho (HC×HC×Hz))(cl:Cl)(defs:Ho (HC×Df))(fuel d:Hz):Prop:=
 ∀f f' n,XF.lookup f=ba (f',n)->∃fa fd ps,FnOk P w K mg base (CXx P w) (d+2) fa fd ps (spX w K cl n (mZ (ah defs fuel d f')) (xG (ah defs fuel d f')))/\mg f=ba (.ref fa)/\IZ K (.ref fa)=true/\Binds K fd ps []
def B4 {Mqa:Md}{XF:Ho (HC×HC×Hz)}{cls:Ho HC}{cl:Cl}{defs:Ho (HC×Df)}{fuel d:Hz}{x qual:HC}{st:Jf}{f:Hv}{fd:IY}{df:Df}(F:Fun K x qual st f fd)(S:FnScope df.N df.ps (am st))(hd:defs.lookup x=ba df)
  (hc:eh (CA XF cls cl (dI Mqa st df.N)) (aD st)=ba df.body) (hb:MdOk w K mg Mqa) (prev:pW P w K mg base Mqa defs fuel d) (px:EA P w K mg base XF cl defs fuel d) (Zz:XCls K mg base cls cl) :
  FnOk P w K mg base iG (d+3) f fd df.ps (spF w K df.ps.length (ah defs fuel (d+1) x)):=by
 show F.ok S (λvs H Q E h=>?_) (λcdv A outer s H vs Q E hr h=>?_)
 ·obtain⟨A,S,ws,w',S',_,rl,hl,_⟩:=h;rw[<- rl.length]; exact hl
 ·obtain⟨A',St,ws,w',S',so,rl,hl,e,hq⟩:=h;have un:(A.deeper (envOfC qual (am st) s.heap.objs.size f cdv)).units+20 < cLine:=by
   have:=hr.un;omega
  have K':CtxOk (ah defs fuel d) (dQ iG P w K mg base df.N qual (am st) f cdv A outer s H E).nox (dI Mqa st df.N):=by
   show#[rfl,S.kind,rfl,S.nd,rfl,LB,un,λ_ _=>rfl,λ_ h=>(nomatch h),hb.blt,λg n hg=>?_]
   obtain⟨fa,fd',ps',h1,h2,h3,h4⟩:=prev g n hg;exact#[d+2,fa,fd',ps',h1,hr,h2,h3,h4]
  have T:TOk (ah defs fuel d) (dQ iG P w K mg base df.N qual (am st) f cdv A outer s H E).nox (dI Mqa st df.N) XF cls cl:=by
   show#[rfl,rfl,λa=>#[rfl,rfl,S.nd,un,λ_=>rfl,hb.blt,Zz.xk,λD hD=>?_],λc hc=>?_,λg g' n hg=>?_]
   ·obtain⟨Da,h1,_,h3⟩:=Zz.xt D hD;exact#[Da,h1,h3]
   ·obtain⟨Da,h1,h2,_⟩:=Zz.xt c hc;exact#[Da,h1,h2]
   ·obtain⟨fa,fd',ps',h1,h2,h3,h4⟩:=px g g' n hg;exact#[d+2,fa,fd',ps',h1,hr,h2,h3,h4]
  show#[tS _ (bH (ah defs fuel d) fuel df.body),qi K' T hc,?_]
  (dsimp only[ah]at e; simp only[hd]at e)
  rw[HN hl]at e;split at e
  ·rename_i w1 S1 h1;cases e;show#[A',aY df.N ws,St,_,_,bN rl,so,h1,#[λY' H' #[_,_,z,_,_,_]=>(by cases z),λv H' #[w2,A2,z0,z1,z2,z3]=>?_,λY' H' #[_,_,z,_,_,_]=>(by cases z),λY' H' #[_,_,z,_,_,_]=>(by cases z)]]
   cases z0;exact hq v H' #[A2,z1,z2,z3]
  ·rename_i Z1 S1 h1;cases e;show#[A',aY df.N ws,St,_,_,bN rl,so,h1,#[λY' H' #[w2,A2,z0,z1,z2,z3]=>?_,λY' H' #[_,_,z,_,_,_]=>(by cases z),λY' H' #[_,_,z,_,_,_]=>(by cases z),λY' H' #[_,_,z,_,_,_]=>(by cases z)]]
   exact hq _ H' #[A2,z1,z2,.non]
  ·cases e
end
section
variable{M:HC->FF}{cl:Cl}{c:HC}{i:Hz}{h:Ss}{Z:Fm}{S:aa}{K:Fm->aa->Prop}{Q:QO}
abbrev EB (i:Hz)(K:Fm->aa->Prop)(Q:QO)(p:Out×aa):Prop:=match p.1 with
 | .nx Z'=>K (Z'.set i gV) p.2
 | .rt w=>Q (.rt w,p.2)
 | _=>ID
def EC {b:BK}{cn:HC}{ws:Ho W}{S1:aa}{C:Hv}{gs:Ho HC}(ok:fU h=true)(h1:b.fs M Z S=gV)(h2:b.fx M Z S=ba (cn,ws,S1))(h3:cl cn=ba (C,gs))(h4:eB cn c=true)
  (hh:wZ M 0 h (Z.set i (ba (.ref S1.length))) (S1++[.exc cn C gs ws]) (EB i K Q)):wO (Cz cl c i b h M Z S) (mV K Q):=by
 obtain⟨⟨o,S2⟩,e,q⟩:=fB h ok hh.out;unfold Cz vd;simp only[h1,h2,h3,h4,Kr,e];cases o with
 | nx Z'=>exact q
 | rt w=>exact q
 | bk Z'=>exact q.elim
 | ct Z'=>exact q.elim
def ED {b:BK}{o:Out}{S1:aa}(h1:b.fs M Z S=ba (o,S1))(q:mV K Q (o,S1)):wO (Cz cl c i b h M Z S) (mV K Q):=by
 unfold Cz vd;simp only[h1];exact q
end
end Mi
namespace Mi
open PySem PySem.Spec PySem.W PyProof.Rows L2 Xc
structure DK (K:Frag)(D:Hv):Prop where
 hc:(clsIn K D).isSome=true
 ty:typeIn K (.ref D)=ba (.type "type")
 st:subIn K (.type "type") (.type "tuple")=ba false
 se:subIn K (.ref D) (.type "BaseException")=ba true
def DK.xd {K:Frag}{D:Hv}(h:DK K D):XD K D:=
 let ⟨_,hc⟩:=IM.mp h.hc
 #[λMqa h' X=>(looks_typeIn X h.ty).andThen (looks_subIn X h.st),λMqa h' X=>(fj hc Mqa h' X).andThen (looks_subIn X h.se)]
def DK.xt {K:Frag}{C D:Hv}{b:HP}(h:DK K D)(sub:subIn K (.ref C) (.ref D)=ba b)(eq:(!(HL C==HL D)||b)=true):XT K C (.ref D) b:=
 let ⟨_,hc⟩:=IM.mp h.hc
 #[λMqa h' X=>looks_typeIn X h.ty,λMqa h' X=>fj hc Mqa h' X,sub,λz=>by rw[z]at eq; exact eq]
def EE {K:Frag}{C:Hv}{T:Jb}{b:HP}(ty:typeOf (.type T)=pure (.type "type"))(sub:subIn K (.ref C) (.type T)=ba b):XT K C (.type T) b:=
 #[λMqa h X=>.of_pure ty,λMqa h X=>.of_pure rfl,sub,λz=>by cases z]
structure XE (K:Frag)(C N f:Hv)(nm:HC)(bs bm sub:Ho Hr)(k0 t2 t3:Hz)(gs:Ho HC):Prop where
 lk:K.lookup C=ba (excClassObj nm nm C N bs bm true [] sub false gV gV (ba (.ref k0)) gV (ba (.str nm t2)) (ba (.str nm t3)) (ba (.bool true)) "ValueError.__new__")
 mro:cG (.ref C::bm)=true
 tl:tailIn K GN bm=true
 bb:bm.contains (.type "BaseException")=true
 ga:findIn K (.ref C) "__getattribute__" = ba (ba (.builtin "BaseException.__getattribute__"))
 hk:findIn K (.ref C) "__getattr__" = ba gV
 kl:findIn K (.ref C) "__class__" = ba (ba (.builtin "object.__class__"))
 gg:specialIn K (.builtin "object.__class__") "__get__" = ba (ba (.builtin "getset_descriptor.__get__"))
 tk:takesIn K (.builtin "object.__class__")=ba true
 sa:findIn K (.ref C) "__setattr__" = ba (ba (.builtin "object.__setattr__"))
 init:findIn K (.ref C) "__init__" = ba (ba (.ref f))
 fn:typeIn K (.ref f)=ba (.type "function")
 kp:keepIn K (.ref C)=true
 ve:subIn K (.ref C) (.type "ValueError")=ba true
 at':(gs.all λg=>findIn K (.ref C) g==ba gV)=true
section
variable{K:Frag}{C N f:Hv}{nm:HC}{bs bm sub:Ho Hr}{k0 t2 t3:Hz}{gs:Ho HC}
def XE.xm (h:XE K C N f nm bs bm sub k0 t2 t3 gs):∃cd,XM K C f cd:=by
 have hc:clsIn K C=ba { name:=nm,bases:=bs,mro:=.ref C::bm,ns:=N,qualname:=nm,hasDict:=true,slotNames:=[],subclasses:=sub,abstract:=false,collection:=gV,hasDel:=false }:=by
  unfold clsIn;rw[h.lk]
 exact#[_,{ cls:=hc,mro:=h.mro,dct:=rfl,ga:=h.ga,hk:=h.hk,kl:=h.kl,gg:=h.gg,tk:=h.tk,obj:=#[_,_,_,_,_,_,_,_,_,_,_,_,_,_,_,h.lk,h.tl,h.bb],sa:=h.sa,init:=h.init,fn:=h.fn,kp:=h.kp }]
def XE.fd (h:XE K C N f nm bs bm sub k0 t2 t3 gs):∀g∈gs,findIn K (.ref C) g=ba gV:=λg hg=>eq_of_beq (Ih.mp h.at' g hg)
def XE.all {base:Ii}(h:XE K C N f nm bs bm sub k0 t2 t3 gs)(X:K.In base):(∃cd,XK K C cd)/\base.get? C≠gV/\XT K C (.type "ValueError") true/\∀g∈gs,findIn K (.ref C) g=ba gV:=by
 obtain⟨cd,m⟩:=h.xm;show#[#[cd,m.toXC.toXK],?_,EE rfl h.ve,h.fd];rw[X _ _ h.lk];exact λe=>nomatch e
end
def gj {α:Type}{x:HC}{v:α}:∀ {l:Ho (HC×α)},l.lookup x=ba v->(x,v)∈l
 | [],h=>nomatch h
 | (y,u)::l,h=>by
  rw[IC]at h;split at h
  ·rename_i e;cases h;have:=eq_of_beq e;subst this;exact Iw
  ·exact Ig _ (gj h)
def EF {o:HH}{name:HC}{apos pos:Jw}{args:Ho HH}{env:LL}(hb:attributeBase o name env (eval o env)=eval o env)(hform:methodCallForm (args.length+([]:Ho My).length) (backTo pos (starEach args env)) (backToKw pos (keywordEach [] env))=true)(hline:(apos.endLine==pos.line)=true) :
  eval (.Call (.Attribute o name apos) args [] pos) env=(do
   let ov <- eval o env
   standAt apos.atName
   let (f,first) <- holding [ov] (getMethod ov name (do return(<- importBound o env).getD true))
   callWith pos f first (backTo pos (starEach args env)) (backToKw pos (keywordEach [] env))):=by
 have hpos:methodCallPos true o env apos pos=pure pos:=by unfold methodCallPos; simp[hline]
 rw[arm_eval_Call,hb];unfold methodCall calleeOf;rw[hform,hpos];simp only[Kr,pure_bind]
section
variable{P:HM}{w:HX}{K:Frag}{mg:HC->Hs Hr}{base:Ii}{x qual L self y z g h:HC}{st:Jf}{f CL:Hv}{fd:IY}{mc:Hr}{k:Hz}
def B5 (F:Fun K x qual st f fd)(S:FnScope [self,y] [self,y] (am st))(hb:∃p1 p2 p3 p4 p5 p6 p7 p8 p9 p10,aD st=[.Expr (.Call (.Attribute (.Name L p1) "__init__" p2) [.Name self p3,.Name y p4] [] p5) p6,.Assign [.Attribute (.Name self p7) g p8] (.Name y p9) p10]/\(p2.endLine==p5.line)=true)
  (hgl:(am st).names.lookup L=ba .globalImplicit) (hs:(am st).names.lookup self=ba .local) (hy:(am st).names.lookup y=ba .local) (hmg:mg L=ba (.ref CL)) (Zz:XL K CL mc)
  (hdb:(L==("__debug__" : HC))=false) (d1:(self==("__debug__" : HC))=false) (d2:(self==("__classdict__" : HC))=false) (d3:(y==("__debug__" : HC))=false) (d4:(y==("__classdict__" : HC))=false):FnOk P w K mg base iG (k+1) f fd [self,y] (tm K g):=by
 obtain⟨p1,p2,p3,p4,p5,p6,p7,p8,p9,p10,hb,hl⟩:=hb;show F.ok S (λvs H Q E #[_,_,_,_,q,_]=>by rw[q]; rfl) λcdv A outer s H vs Q E hr hq=>?_
 rw[hb];obtain⟨e,v,C,cd,rfl,Yj,hf,he,hk⟩:=hq;show#[CJ (y6 (sU K (sC (nB 0) (sC (nB 1) wq)))) (ze K (nB 0) (nB 1) g),iz (kH (sV hgl hmg Zz.ga Zz.rd Zz.fc (bA (gq rfl (.inl hs) d1 d2) (bA (gq rfl (.inl hy) d3 d4) ff)) (hdb:=hdb) (ht:=EF rfl rfl hl)) rfl) (fF (wQ (gq rfl (.inl hs) d1 d2) (gq rfl (.inl hy) d3 d4) rfl)),?_];show#[.ref e,rfl,v,rfl,e,C,cd,gV,[v],rfl,?_,Yj,he,v,rfl,.ref e,rfl,e,C,cd,rfl,Yj,hf,.inl #[he,hk]];rw[IN];change 1<=_;decide
end
end Mi
namespace Mi
open PySem PySem.Spec PyProof.Rows L2
abbrev cw:Ss:=
 #v[.ret (.lst #v[.bi .list #v[.v 0],.c (.int 0),.c (.int 0),.c (.int 1),.c (.int 0)])]
abbrev bE:Ss:=
 #v[.ite (.and (.cmp .eq (.ix (.v 0) (.c (.int 2))) (.c (.int 0))) (.cmp .lt (.ix (.v 0) (.c (.int 1))) (.bi .len #v[.ix (.v 0) (.c (.int 0))]))) #v[.set 2 (.ix (.ix (.v 0) (.c (.int 0))) (.ix (.v 0) (.c (.int 1)))),.put (.v 0) (.c (.int 1)) (.op .add (.ix (.v 0) (.c (.int 1))) (.c (.int 1))),.ite (.cmp .ge (.v 2) (.op .pow (.c (.int 10)) (.c (.int 18)))) #v[.put (.v 0) (.c (.int 2)) (.v 2)] #v[.put (.v 0) (.c (.int 3)) (.op .mod (.op .add (.op .add (.op .mul (.ix (.v 0) (.c (.int 3))) (.c (.int 40013))) (.op .mod (.v 2) (.c (.int 1000003)))) (.c (.int 1))) (.c (.int 2147483647)))]] .nil,.ite (.cmp .gt (.ix (.v 0) (.c (.int 2))) (.c (.int 0))) #v[.set 3 (.op .mod (.ix (.v 0) (.c (.int 2))) (.v 1)),.put (.v 0) (.c (.int 2)) (.op .fdiv (.ix (.v 0) (.c (.int 2))) (.v 1)),.ret (.v 3)] .nil,.put (.v 0) (.c (.int 4)) (.op .add (.ix (.v 0) (.c (.int 4))) (.c (.int 1))),.put (.v 0) (.c (.int 3)) (.op .mod (.op .add (.op .add (.op .mul (.ix (.v 0) (.c (.int 3))) (.c (.int 48271))) (.c (.int 12820163))) (.ix (.v 0) (.c (.int 4)))) (.c (.int 2147483647))),.ret (.op .mod (.op .fdiv (.op .mod (.op .mul (.op .add (.op .mod (.ix (.v 0) (.c (.int 3))) (.c (.int 65521))) (.c (.int 1))) (.op .add (.op .fdiv (.ix (.v 0) (.c (.int 3))) (.c (.int 65521))) (.c (.int 7919)))) (.c (.int 1000003))) (.c (.int 7))) (.v 1))]
abbrev bQ:Ss:=
 #v[.ret (.me .join (.c (.str "")) #v[.comp (.ix (.c (.str "abcdefghijklmnopqrstuvwxyz")) (.own "_law_pick" 2 #v[.v 2,.c (.int 26)])) (.nm 1) (.rng #v[.v 1]) .nil [gV,gV,ba 0]])]
abbrev dA:Ss:=
 #v[.ite (.cmp .ne (.v 1) (.c (.str ""))) #v[.ret (.op .add (.v 1) (.own "_law_letters" 2 #v[.v 0,.op .add (.c (.int 1)) (.own "_law_pick" 2 #v[.v 0,.c (.int 2)])]))] .nil,.ite (.cmp .eq (.own "_law_pick" 2 #v[.v 0,.c (.int 6)]) (.c (.int 0))) #v[.set 2 (.lst #v[.c (.str "markss"),.c (.str "mark"),.c (.str "way"),.c (.str "wayss"),.c (.str "bars"),.c (.str "ba"),.c (.str "somex")]),.set 2 (.op .add (.v 2) (.lst #v[.c (.str "eachx"),.c (.str "note"),.c (.str "no"),.c (.str "ands"),.c (.str "ors"),.c (.str "o"),.c (.str "iss")])),.ret (.ix (.v 2) (.own "_law_pick" 2 #v[.v 0,.c (.int 14)]))] .nil,.ret (.own "_law_letters" 2 #v[.v 0,.op .add (.c (.int 1)) (.own "_law_pick" 2 #v[.v 0,.c (.int 8)])])]
abbrev bG:Ss:=
 #v[.set 2 (.c (.str "")),.ite (.cmp .eq (.own "_law_pick" 2 #v[.v 0,.c (.int 3)]) (.c (.int 0))) #v[.set 2 (.own "_law_letters" 2 #v[.v 0,.op .add (.c (.int 1)) (.own "_law_pick" 2 #v[.v 0,.c (.int 6)])])] .nil,.set 3 (.lst #v[.c (.str "marks"),.c (.str "ways"),.c (.str "bar"),.c (.str "some"),.c (.str "each"),.c (.str "not"),.c (.str "and"),.c (.str "or"),.c (.str "is")]),.loop (.nm 4) (.rng #v[.v 1]) #v[.set 5 (.own "_law_name" 2 #v[.v 0,.v 2]),.set 6 (.c (.int 0)),.whl (.cmp .isin (.v 5) (.v 3)) #v[.set 5 (.op .mul (.ix (.c (.str "abcdefghijklmnopqrstuvwxyz")) (.op .mod (.v 6) (.c (.int 26)))) (.op .add (.c (.int 1)) (.op .fdiv (.v 6) (.c (.int 26))))),.set 6 (.op .add (.v 6) (.c (.int 1)))],.ex (.me .append (.v 3) #v[.v 5])],.ret (.bi .tuple #v[.sl (.v 3) (.yes (.c (.int 9))) .no])]
abbrev bR:Ss:=
 #v[.ite (.cmp .lt (.v 3) (.v 2)) #v[.ret (.ix (.ix (.ix (.v 1) (.v 2)) (.c (.int 1))) (.v 3))] .nil,.ret (.ix (.ix (.ix (.v 0) (.c (.int 1))) (.ix (.ix (.ix (.v 1) (.v 3)) (.c (.int 1))) (.v 2))) (.c (.int 1)))]
abbrev dB:Ss:=
 #v[.set 3 (.lst .nil),.loop (.nm 4) (.rng #v[.bi .len #v[.v 2]]) #v[.set 5 (.ix (.v 2) (.v 4)),.ex (.me .append (.v 3) #v[.tup #v[.ix (.ix (.v 1) (.v 5)) (.c (.int 0)),.bi .tuple #v[.comp (.own "_law_between" 4 #v[.v 3,.v 4,.v 2,.v 1]) (.nm 1) (.seq (.sl (.v 2) .no (.yes (.v 4)))) .nil [gV,gV,ba 5,ba 0,ba 1]]]])],.ret (.bi .tuple #v[.v 3])]
abbrev eC:Ss:=
 #v[.ret (.lst #v[.tup #v[.c (.int 0),.c (.int 1),.c (.int 2)],.tup #v[.c (.int 0),.c (.int 2),.c (.int 1)],.tup #v[.c (.int 1),.c (.int 0),.c (.int 2)],.tup #v[.c (.int 1),.c (.int 2),.c (.int 0)],.tup #v[.c (.int 2),.c (.int 0),.c (.int 1)],.tup #v[.c (.int 2),.c (.int 1),.c (.int 0)]])]
abbrev cb:Ss:=
 #v[.ret (.bi .min #v[.comp (.own "_law_part" 3 #v[.v 2,.v 3,.v 1]) (.nm 1) (.seq (.own "_law_turns" 0 .nil)) .nil [gV,gV,ba 0,ba 1]])]
abbrev cD:Ss:=
 #v[.set 2 (.ix (.lst #v[.lst #v[.tup #v[.c (.int 0)]],.lst #v[.tup #v[.c (.int 0),.c (.int 1)],.tup #v[.c (.int 1),.c (.int 0)]],.lst #v[.tup #v[.c (.int 0),.c (.int 1),.c (.int 2)],.tup #v[.c (.int 1),.c (.int 0),.c (.int 2)],.tup #v[.c (.int 0),.c (.int 2),.c (.int 1)]]]) (.op .sub (.v 1) (.c (.int 1)))),.ret (.ix (.v 2) (.own "_law_pick" 2 #v[.v 0,.bi .len #v[.v 2]]))]
abbrev bS:Ss:=
 #v[.set 4 (.own "_law_names" 2 #v[.v 0,.op .add (.v 1) (.bi .len #v[.v 2])]),.set 5 (.bi .tuple #v[.comp (.tup #v[.ix (.v 4) (.op .add (.v 3) (.v 1)),.ix (.v 2) (.v 1)]) (.nm 1) (.rng #v[.bi .len #v[.v 2]]) .nil [gV,gV,ba 2,ba 1,ba 4]]),.ret (.tup #v[.sl (.v 4) .no (.yes (.v 1)),.v 5,.bi .tuple #v[.bi .sorted #v[.v 3]]])]
abbrev bj:Ss:=
 #v[.set 3 (.lst .nil),.loop (.nm 4) (.rng #v[.c (.int 3)]) #v[.ex (.me .append (.v 3) #v[.tup #v[.own "_law_pick" 2 #v[.v 0,.v 1],.bi .tuple #v[.comp (.own "_law_pick" 2 #v[.v 2,.v 3]) (.nm 1) (.rng #v[.v 4]) .nil [gV,gV,ba 0,ba 2]]]])],.ret (.bi .tuple #v[.v 3])]
abbrev cF:Ss:=
 #v[.set 1 (.lst #v[.tup #v[.c (.int 1),.c (.int 1)],.tup #v[.c (.int 2),.c (.int 1)],.tup #v[.c (.int 3),.c (.int 1)],.tup #v[.c (.int 1),.c (.int 2)],.tup #v[.c (.int 1),.c (.int 2)],.tup #v[.c (.int 2),.c (.int 2)],.tup #v[.c (.int 2),.c (.int 2)],.tup #v[.c (.int 3),.c (.int 2)],.tup #v[.c (.int 1),.c (.int 3)],.tup #v[.c (.int 1),.c (.int 3)],.tup #v[.c (.int 2),.c (.int 3)]]),.ret (.ix (.v 1) (.own "_law_pick" 2 #v[.v 0,.c (.int 11)]))]
abbrev aZ:Ss:=
 #v[.set 3 (.lst .nil),.loop (.nm 4) (.rng #v[.v 2]) #v[.set 5 (.own "_law_pick" 2 #v[.v 0,.bi .len #v[.ix (.v 1) (.c (.int 0))]]),.ex (.me .append (.v 3) #v[.tup #v[.v 5,.bi .tuple #v[.comp (.own "_law_pick" 2 #v[.v 2,.bi .len #v[.ix (.v 3) (.c (.int 1))]]) (.nm 1) (.rng #v[.v 4]) .nil [gV,gV,ba 0,ba 1]]]])],.ret (.bi .tuple #v[.v 3])]
abbrev bg:Ss:=
 #v[.ite (.cmp .is (.v 1) (.c .non)) #v[.ret (.cmp .is (.v 0) (.c .non))] .nil,.ite (.or (.isi "bool" (.v 1)) (.isi "bool" (.v 0))) #v[.ret (.and (.isi "bool" (.v 1)) (.and (.isi "bool" (.v 0)) (.cmp .eq (.v 0) (.v 1))))] .nil,.ite (.isi "int" (.v 1)) #v[.ret (.and (.isi "int" (.v 0)) (.cmp .eq (.v 0) (.v 1)))] .nil,.ite (.isi "str" (.v 1)) #v[.ret (.and (.isi "str" (.v 0)) (.cmp .eq (.v 0) (.v 1)))] .nil,.ite (.or (.cmp .ne (.isi "tuple" (.v 1)) (.isi "tuple" (.v 0))) (.cmp .ne (.isi "list" (.v 1)) (.isi "list" (.v 0)))) #v[.ret (.c (.bl false))] .nil,.ret (.and (.cmp .eq (.bi .len #v[.v 0]) (.bi .len #v[.v 1])) (.bi .all #v[.comp (.own "_law_alike" 2 #v[.ix (.v 3) (.v 1),.ix (.v 2) (.v 1)]) (.nm 1) (.rng #v[.bi .len #v[.v 1]]) .nil [gV,gV,ba 1,ba 0]]))]
abbrev Is (defs:Ho (HC×Df))(f:HC)(np nn:Hz)(b:Ss):Prop:=∃df:Df,defs.lookup f=ba df/\df.ps.length=np/\df.N.length=nn/\df.body=b
def az {defs:Ho (HC×Df)}{fuel d:Hz}{f:HC}{np nn:Hz}{b:Ss}{ws:Ho W}{S:aa}{Q:QW}(h:Is defs f np nn b)(hl:ws.length=np)(ok:fU b=true)
  (hb:∀Q':QO,(∀w S',Q (w,S')->Q' (.rt w,S'))->wZ (ah defs fuel d) fuel b (ws.map ba++Iq (nn - np) gV) S Q'):wO (aU (ah defs fuel (d+1)) f np ws S) Q:=by
 obtain⟨df,h1,h2,h3,h4⟩:=h;subst h4;show BG h1 hl (hl.trans h2.symm) ok λQ' hR=>?_
 have:=hb Q' hR;unfold aY;rw[h3,hl];exact this
structure Gen (defs:Ho (HC×Df)):Prop where
 pick:Is defs ("_law_pick" : HC) 2 4 bE
 letters:Is defs ("_law_letters" : HC) 2 2 bQ
 name:Is defs ("_law_name" : HC) 2 3 dA
 names:Is defs ("_law_names" : HC) 2 7 bG
 between:Is defs ("_law_between" : HC) 4 4 bR
 part:Is defs ("_law_part" : HC) 3 6 dB
 turns:Is defs ("_law_turns" : HC) 0 0 eC
 figure:Is defs ("_law_figure" : HC) 2 2 cb
 backs:Is defs ("_law_backs" : HC) 2 3 cD
 rule_of:Is defs ("_law_rule_of" : HC) 4 6 bS
 free_three:Is defs ("_law_free_three" : HC) 3 5 bj
 sizes:Is defs ("_law_sizes" : HC) 1 2 cF
structure FlA (S:aa)(r q:Hz)(ns:Ho HR)(i c x n:HR):Prop where
 at_r:S[r]?=ba (.lst [.ref q,.int i,.int c,.int x,.int n])
 at_q:S[q]?=ba (.lst (ns.map W.int))
 lt:q < r
 i0:0<=i
 c0:0<=c
 x0:0<=x
 x1:x < 2147483647
def FlA.ne {S:aa}{r q:Hz}{ns:Ho HR}{i c x n:HR}(h:FlA S r q ns i c x n):q≠r:=HU h.lt
abbrev Fl (S:aa)(r:Hz):Prop:=∃(q:Hz) (ns:Ho HR) (i c x n:HR),FlA S r q ns i c x n
def FlA.put {S:aa}{r q:Hz}{ns:Ho HR}{i c x n i' c' x' n':HR}(h:FlA S r q ns i c x n)(h1:0<=i')(h2:0<=c')(h3:0<=x')(h4:x' < 2147483647):FlA (S.set r (.lst [.ref q,.int i',.int c',.int x',.int n'])) r q ns i' c' x' n':=
 #[eu h.at_r,by rw[gZ (Ne.symm h.ne)]; exact h.at_q,h.lt,h1,h2,h3,h4]
def Fl.keep {S S':aa}{r:Hz}(h:Fl S r)(h1:S'[r]?=S[r]?)(k:Kp r S S'):Fl S' r:=
 let ⟨q,ns,i,c,x,n,f⟩:=h; #[q,ns,i,c,x,n,by rw[h1]; exact f.at_r,k.get _ _ f.ne f.at_q,f.lt,f.i0,f.c0,f.x0,f.x1]
def Fl.lt {S:aa}{r:Hz}(h:Fl S r):r < S.length:=let ⟨_,_,_,_,_,_,f⟩:=h; qe f.at_r
structure Ka (S S':aa):Prop where
 get:∀(j:Hz) (o:O),S[j]?=ba o->S'[j]?=ba o
 len:S.length<=S'.length
def Ka.refl {S:aa}:Ka S S:=#[λ_ _ h=>h,HJ _]
def Ka.trans {S S' S'':aa}(a:Ka S S')(b:Ka S' S''):Ka S S'':=#[λj o h=>b.get j o (a.get j o h),Ix a.len b.len]
def Ka.push {S:aa}{o:O}:Ka S (S++[o]):=#[λj u h=>aK h,by simp]
def Ka.late {t:Hz}{S0 S:aa}{o:O}(a:Ka S0 S)(h:S0.length<=t):Ka S0 (S.set t o):=
 #[λj u e=>by have:=qe e; rw[gZ ∅]; exact a.get j u e,by simpa using a.len]
def Ka.kp {S S':aa}(a:Ka S S')(r:Hz):Kp r S S':=#[λj o _ h=>a.get j o h,a.len]
def Fl.ka {S S':aa}{r:Hz}(h:Fl S r)(k:Ka S S'):Fl S' r:=h.keep (by obtain⟨q,ns,i,c,x,n,f⟩:=h; rw[k.get _ _ f.at_r,f.at_r]) (k.kp r)
def Fl.own {S:aa}{r t:Hz}{o:O}(h:Fl S r)(ht:r < t):Fl (S.set t o) r:=by
 obtain⟨q,ns,i,c,x,n,f⟩:=h;have:=f.lt;exact#[q,ns,i,c,x,n,by rw[gZ ∅]; exact f.at_r,by rw[gZ ∅]; exact f.at_q,f.lt,f.i0,f.c0,f.x0,f.x1]
def dM {S:aa}{r:Hz}{xs:Ho W}{i:Hz}{w:W}{Q:QW}(h:S[r]?=ba (.lst xs))(hw:xs[i]?=ba w)(q:Q (w,S)):wO (iP (.ref r) (.int (i:HR)) S) Q:=af (u4 h (IR i) (by rw[Ir]; exact hw)) q
def km {S:aa}{r:Hz}{xs:Ho W}{i:Hz}{w:W}{Q:aa->Prop}(h:S[r]?=ba (.lst xs))(hi:Qv (i+1) xs.length=true)(q:Q (S.set r (.lst (xs.set i w)))):wO (g8 (.ref r) (.int (i:HR)) w S) Q:=af (Ee h (IR i) (by rw[Ir]; exact II hi)) (by rw[Ir]; exact q)
section
variable{defs:Ho (HC×Df)}{fuel d:Hz}{S:aa}{r:Hz}{Q:QW}
def aL (hd:Is defs ("_law_pick" : HC) 2 4 bE){m:HR}(hf:Fl S r)(h0:0 < m)(h1:m < 1073741824)(k:∀v S',0<=v->v < m->Fl S' r->Kp r S S'->Q (.int v,S')) :
  wO (aU (ah defs fuel (d+1)) "_law_pick" 2 [.ref r,.int m] S) Q:=by
 obtain⟨q,ns,i,c,x,n,f⟩:=hf;show az hd rfl rfl λQ' hR=>?_
 replace k:∀v S',0<=v->v < m->Fl S' r->Kp r S S'->Q' (.rt (.int v),S'):=λv S' a b c e=>hR _ _ (k v S' a b c e)
 clear hR;change wZ _ _ bE [ba (.ref r),ba (.int m),gV,gV] S Q';have au:∀(S1:aa) (w2:Hs W) (i1 c1 x1 n1:HR),FlA S1 r q ns i1 c1 x1 n1->Kp r S S1->wZ (ah defs fuel d) fuel (match bE with|.cons _ ss=>ss|.nil=>.nil) [ba (.ref r),ba (.int m),w2,gV] S1 Q':=by
  intro S1 w2 i1 c1 x1 n1 f1 k1;dsimp only[bE];show st ?_;dsimp only[wS,wT,wE,wV,wG];show dM (i:=2) f1.at_r rfl ?_;dsimp only[Eb,wO,wB];show aw (Q0:=Q') (λhg Q2 hn hr=>?_) (λhg Q2 hn hr=>?_)
  ·clear hn;show st ?_;dsimp only[wS,wE,wV,wG];show dM (i:=2) f1.at_r rfl (af (mS h0) ?_);show st ?_;dsimp only[wS,wE,wV,wG,HZ];show dM (i:=2) f1.at_r rfl (af (uY h0 h1) (km (i:=2) f1.at_r rfl ?_));show st ?_;dsimp only[wS,wE,wV,wG,HZ];exact hr _ _ (k _ _ (LC _ ∅) (K6 _ h0) #[q,ns,i1,c1 / m,x1,n1,f1.put f1.i0 (OI f1.c0 ∅) f1.x0 f1.x1] (k1.trans .set))
  ·show dh (hn _ _ ?_);clear hn hr;have f2:FlA (S1.set r (.lst [.ref q,.int i1,.int c1,.int x1,.int (n1+1)])) r q ns i1 c1 x1 (n1+1):=f1.put f1.i0 f1.c0 f1.x0 f1.x1;show st ?_;dsimp only[wS,wE,wV,wG];show dM (i:=4) f1.at_r rfl ?_;dsimp only[bW,wO];show km (i:=4) f1.at_r rfl ?_;show st ?_;dsimp only[wS,wE,wV,wG,HZ];show dM (i:=3) f2.at_r rfl (af (qa #v[] #v[]) ?_)
   dsimp only[bW,wO];show dM (i:=4) f2.at_r rfl ?_;dsimp only[bW,wO];show(km (i:=3) f2.at_r rfl ?_);have f3:FlA ((S1.set r (.lst [.ref q,.int i1,.int c1,.int x1,.int (n1+1)])).set r (.lst [.ref q,.int i1,.int c1,.int ((x1*48271+12820163+(n1+1)) % 2147483647),.int (n1+1)])) r q ns i1 c1 ((x1*48271+12820163+(n1+1)) % 2147483647) (n1+1):=f2.put f1.i0 f1.c0 (LC _ #v[]) (K6 _ #v[])
   dsimp only[HZ];generalize(x1*48271+12820163+(n1+1)) % 2147483647=y at f3 ⊢;have b1:y / 65521+7919 < 2 ^ 64:=by
    have:=f3.x1;have:=Int.ediv_le_self 65521 f3.x0;omega
   have b2 : -(2 ^ 64) < y / 65521+7919:=by
    have:=OI f3.x0 (show(0:HR)<=65521 by decide)
    omega
   show st ?_;dsimp only[wS,wE,wV,wG,HZ];show dM (i:=3) f3.at_r rfl (af (mS #v[]) ?_)
   dsimp only[bW,wO];show dM (i:=3) f3.at_r rfl ?_;dsimp only[bW,wO];show af (qa b2 b1) ?_;show af (mS h0) ?_;exact k _ _ (LC _ ∅) (K6 _ h0) #[q,ns,_,_,_,_,f3] (k1.trans (Kp.set.trans .set))
 dsimp only[bE]at au ⊢;show st ?_;dsimp only[wS,wT,wE,wV,wG,wA];show dM (i:=2) f.at_r rfl ?_;dsimp only[mT,wO,wB];have skip:∀Q2:QO,(∀Z' S',wZ (ah defs fuel d) fuel _ Z' S' Q'->Q2 (.nx Z',S'))->Q2 (.nx [ba (.ref r),ba (.int m),gV,gV],S):=λQ2 hn=>hn _ _ (au S gV i c x n f .refl)
 show#[λ_=>?_,λ_ Q2 hn hr=>#[λz=>(by cases z),λ_=>(dh (skip Q2 hn)).out]]
 show dM (i:=1) f.at_r rfl (dM (i:=0) f.at_r rfl (af (zK f.at_q) ?_));dsimp only[Ea,wO,wB];show aw (Q0:=Q') (λhl Q2 hn _=>?_) (λhg Q2 hn hr=>dh (skip Q2 hn))
 clear skip;have hl':i.toNat < ns.length:=by
  have:=IX hl;rw[HB]at this;have:=f.i0;omega
 have hcell:(ns.map W.int)[i.toNat]?=ba (.int ns[i.toNat]):=by simp[hl']
 generalize ns[i.toNat]=cell at hcell;have f1:FlA (S.set r (.lst [.ref q,.int (i+1),.int c,.int x,.int n])) r q ns (i+1) c x n:=f.put (by have:=f.i0; omega) f.c0 f.x0 f.x1
 show st ?_;dsimp only[wS,wE,wV,wG];show dM (i:=0) f.at_r rfl (dM (i:=1) f.at_r rfl (af (u4 f.at_q f.i0 hcell) ?_));show st ?_;dsimp only[wS,wE,wV,wG,HZ];show dM (i:=1) f.at_r rfl ?_;dsimp only[bW,wO];show km (i:=1) f.at_r rfl ?_;show st ?_;dsimp only[wS,wT,wE,wV,wG,BE,Go,wO,wB];show aw (Q0:=Q') (λhg Q3 hn3 _=>?_) (λhg Q3 hn3 _=>?_)
 ·show st ?_;dsimp only[wS,wE,wV,wG];show km (i:=2) f1.at_r rfl (dh (hn3 _ _ (dh (hn _ _ ?_))));exact au _ _ (i+1) cell x n (f1.put f1.i0 (by have:=IX hg; omega) f.x0 f.x1) (Kp.set.trans .set)
 ·show st ?_;dsimp only[wS,wE,wV,wG];show dM (i:=3) f1.at_r rfl (af (qa #v[] #v[]) (af (mS #v[]) ?_))
  dsimp only[bW,wO];show km (i:=3) f1.at_r rfl (dh (hn3 _ _ (dh (hn _ _ ?_))));exact au _ _ (i+1) c _ n (f1.put f1.i0 f.c0 (LC _ #v[]) (K6 _ #v[])) (Kp.set.trans .set)
end
abbrev dr:Hz->Ss->Ss
 | 0,ss=>ss
 | n+1,.cons _ ss=>dr n ss
 | _,.nil=>.nil
def bT {α:Type}{a:α}{Q:α->Prop}:wO (ba a) Q=Q a:=rfl
def bn {M:HC->FF}{fuel:Hz}{Z:Fm}{S:aa}{Q:QO}{s:Sm}{ss:Ss}(h:∀K:Fm->aa->Prop,(∀Z' S',wZ M fuel ss Z' S' Q->K Z' S')->wS M fuel s Z S K Q):wZ M fuel (.cons s ss) Z S Q:=st (h _ λ_ _ h=>h)
def EG {M:HC->FF}{fuel:Hz}{Z:Fm}{S:aa}{i:Hz}{e:E}{K:Fm->aa->Prop}{Q:QO}(h:wE M e Z S λp=>K (Z.set i (ba p.1)) p.2):wS M fuel (.set i e) Z S K Q:=h
def jm {n:Hz}(h:Qv n 1000=true):n<=sizeLine:=Ix (II h) (by rw[IN]; decide)
def vo {n:Hz}(h:n<=1000):n<=sizeLine:=Ix h (by rw[IN]; decide)
def jn {S:aa}{r:Hz}{xs:Ho W}{i:HR}{w:W}{Q:QW}(h:S[r]?=ba (.lst xs))(h0:0<=i)(hw:xs[i.toNat]?=ba w)(q:Q (w,S)):wO (iP (.ref r) (.int i) S) Q:=af (u4 h h0 hw) q
def aM {S:aa}{xs:Ho W}{i:HR}{w:W}{Q:QW}(h0:0<=i)(hw:xs[i.toNat]?=ba w)(q:Q (w,S)):wO (iP (.tup xs) (.int i) S) Q:=af (Ed h0 hw) q
def m8 {S:aa}{r:Hz}{xs:Ho W}{y:W}{Q:QW}(h:S[r]?=ba (.lst xs))(hl:xs.length < 1000)(q:Q (.non,S.set r (.lst (xs++[y])))):wO (Me.append.fn (.ref r) [y] S) Q:=af (Ef h (HV hl (jm rfl))) q
def zQ {S:aa}{r:Hz}{xs:Ho W}{Q:QW}(h:S[r]?=ba (.lst xs))(q:Q (.int xs.length,S)):wO (Bi.len.fn [.ref r] S) Q:=af (zK h) q
def br {S:aa}{xs:Ho W}{Q:QW}(q:Q (.int xs.length,S)):wO (Bi.len.fn [.tup xs] S) Q:=q
def eY {S:aa}{r:Hz}{xs:Ho W}{Q:QW}(h:S[r]?=ba (.lst xs))(q:Q (.tup xs,S)):wO (Bi.tuple.fn [.ref r] S) Q:=af (Eg h) q
section
variable{M:HC->FF}{fuel:Hz}{Z:Fm}{S S1:aa}{K:Fm->aa->Prop}
def cx {t:E}{a:Ss}{Q:QO}(ht:∀Q:QB,Q (false,S1)->wT M t Z S Q)(h:K Z S1):wS M fuel (.ite t a .nil) Z S K Q:=by
 dsimp only[wS];exact ht _ λQ' h1 h2=>#[λz=>(by cases z),λ_=>(dh (h1 _ _ h)).out]
def kn {t:E}{a b:Ss}{Q:QO}(ht:∀Q:QB,Q (true,S1)->wT M t Z S Q)(h:∀Q':QO,(∀Z' S',K Z' S'->Q' (.nx Z',S'))->(∀w S',Q (.rt w,S')->Q' (.rt w,S'))->wZ M fuel a Z S1 Q'):wS M fuel (.ite t a b) Z S K Q:=by
 dsimp only[wS];exact ht _ λQ' h1 h2=>#[λ_=>(h Q' h1 λw S' q=>h2 (.rt w) S' (λ_ z=>nomatch z) q).out,λz=>(by cases z)]
end
def vp:∀k:Fin 26,("abcdefghijklmnopqrstuvwxyz" : HC).cps.toList[k.val]?=ba (97+k.val):=by decide
def qj:("abcdefghijklmnopqrstuvwxyz" : HC).length<=sizeLine:=by decide
def jo:∀cs:Ho Hz,gC (cs.map λc=>W.str #[[c].toArray])=ba (cs.map λc=>(#[[c].toArray] : HC))
 | []=>rfl
 | c::cs=>by simp[gC,jo cs]
def ko:∀cs:Ho Hz,((cs.map λc=>(#[[c].toArray] : HC)).map (·.length)).sum=cs.length
 | []=>rfl
 | c::cs=>by
  have:=ko cs;simp only[IT,List.sum_cons,IU];rw[this];change 1+cs.length=_;omega
def dC (a b:HC):(a++b).cps.toList=a.cps.toList++b.cps.toList:=Array.toList_append
def jp:∀cs:Ho Hz,(Qr "" (cs.map λc=>(#[[c].toArray] : HC))).cps.toList=cs
 | []=>rfl
 | [c]=>rfl
 | c::d::cs=>by
  have ih:=jp (d::cs);show(((#[[c].toArray] : HC)++("" : HC)++Qr "" ((d::cs).map λc=>(#[[c].toArray] : HC))).cps).toList=_
  rw[dC,dC,ih];rfl
def m9 (cs:Ho Hz):(PN "" (cs.map λc=>(#[[c].toArray] : HC))).cps.toList=cs:=by
 show(Qi "" _).cps.toList=_;rw[StrLaws.glued_eq_join];exact jp cs
abbrev qk (y:HC):Prop:=∀c∈y.cps.toList,97<=c/\c<=122
abbrev Name (y:HC):Prop:=1<=y.cps.toList.length/\y.cps.toList.length<=8/\qk y
def ql (y:HC):y.length=y.cps.toList.length:=by simp[P4]
abbrev vt:Ho HC:=["markss","mark","way","wayss","bars","ba","somex","eachx","note","no","ands","ors","o","iss"]
def rR:∀y∈vt,Name y:=by
 have h:vt.all (λy=>decide (1<=y.cps.toList.length/\y.cps.toList.length<=8)&&y.cps.toList.all λc=>decide (97<=c/\c<=122))=true:=by decide
 intro y hy;have:=Ih.mp h y hy;rw[Hu]at this;obtain⟨a,b⟩:=this;exact#[(IX a).1,(IX a).2,λc hc=>IX (Ih.mp b c hc)]
def oJ {α:Type}{f:α->W}{xs:Ho α}{i:Hz}(h:i < xs.length):∃x∈xs,(xs.map f)[i]?=ba (f x):=#[xs[i],Jl _,by rw[HQ,HI h]; rfl]
section
variable{defs:Ho (HC×Df)}{fuel d:Hz}{S:aa}{r:Hz}{Q:QW}
def gN (G:Gen defs){m:HR}(hf:Fl S r)(h0:0<=m)(h1:m<=1000)(k:∀y S',y.cps.toList.length=m.toNat->qk y->Fl S' r->Kp r S S'->Q (.str y,S')) :
  wO (aU (ah defs fuel (d+2)) "_law_letters" 2 [.ref r,.int m] S) Q:=by
 show az G.letters rfl rfl λQ' hR=>?_
 change wZ _ _ bQ [ba (.ref r),ba (.int m)] S Q';dsimp only[bQ];show st ?_;dsimp only[wS,wE,wA];show#[rfl,ir m (λi ys Z S'=>(∃a,Z=[gV,a,ba (.ref r)])/\Fl S' r/\Kp r S S'/\∃cs:Ho Hz,ys=cs.map (λc=>W.str #[[c].toArray])/\cs.length=i/\∀c∈cs,97<=c/\c<=122) rfl rfl rfl #[∅,∅] #[rfl,#[gV,rfl],hf,.refl,[],rfl,rfl,λ_ h=>nomatch h] ?_ ?_]
 ·rintro i ys Z S1 hi ⟨⟨a,rfl⟩,f1,k1,cs,rfl,hl,hc⟩;dsimp only[m6,wC,wE,wA,wV,wG,HZ];show#[λ_=>aL (d:=d) G.pick f1 #v[] #v[] λv S2 h2 h3 f2 k2=>?_,λz=>by cases z]
  have ha:=vp #[v.toNat,∅]
  show af (zJ qj h2 ha) #[#[_,rfl],f2,k1.trans k2,cs++[97+v.toNat],by simp,by simp[hl],λc hx=>?_]
  rcases IV.mp hx with h|h
  ·exact hc c h
  ·rw[Iv.mp h]; omega
 ·rintro ys Z S1 ⟨_,f1,k1,cs,rfl,hl,hc⟩;show#[by rw[HB,hl,IN]; omega,?_]
  have hz:((cs.map λc=>(#[[c].toArray] : HC)).map (·.length)).sum+(cs.map λc=>(#[[c].toArray] : HC)).length*("" : HC).length<=16777216:=by
   rw[ko,show("" : HC).length=0 from rfl,Nat.mul_zero]
   omega
  show af (a:=(.str (PN "" (cs.map λc=>(#[[c].toArray] : HC))),S1++[.lst (cs.map λc=>W.str #[[c].toArray])])) ?_ (hR _ _ (k _ _ (by rw[m9,hl]) (λc h=>hc c (by rw[m9]at h; exact h)) (f1.ka .push) (k1.trans .push)))
  simp only[Me.fn,pk,eT,aT aq,jo];rw[HN hz]
def B6 (G:Gen defs){y:HC}(hf:Fl S r)(h0:y.cps.toList.length<=6)(h1:qk y)(k:∀z S',Name z->Fl S' r->Kp r S S'->Q (.str z,S')) :
  wO (aU (ah defs fuel (d+3)) "_law_name" 2 [.ref r,.str y] S) Q:=by
 show az G.name rfl rfl λQ' hR=>?_
 replace k:∀z S',Name z->Fl S' r->Kp r S S'->Q' (.rt (.str z),S'):=λz S' a b c=>hR _ _ (k z S' a b c)
 clear hR;change wZ _ _ dA [ba (.ref r),ba (.str y),gV] S Q';dsimp only[dA];nofun
 dsimp only[wS,wT,wE,wV,wG,Ec,wO,wB];show aw (Q0:=Q') (λ_ Q2 _ hr=>?_) (λ_ Q2 hn _=>?_)
 ·show st ?_;left;show aL (d:=d+1) G.pick hf #v[] #v[] λv S1 v0 v1 f1 k1=>?_
  dsimp only[bW,wO];show gN (d:=d) G f1 ∅ ∅ λz S2 hz hs f2 k2=>?_
  have hl:(y++z).cps.toList.length=y.cps.toList.length+z.cps.toList.length:=by rw[dC,HK]
  show af (BF (by rw[ql,ql,IN]; omega)) (hr _ _ (k _ _ #[∅,∅,λc hc=>?_] f2 (k1.trans k2)))
  rw[dC]at hc;exact(IV.mp hc).elim (h1 c) (hs c)
 ·show dh (hn _ _ (hK _ _ ?_));clear hn hK;nofun
  dsimp only[wS,wT,wE,wA,wV,wG];show aL (d:=d+1) G.pick hf #v[] #v[] λv S1 v0 v1 f1 k1=>?_
  dsimp only[mT,wO,wB];show aw (Q0:=Q') (λ_ Q2 _ hr=>?_) (λ_ Q2 hn _=>?_)
  ·show st ?_;left;show st ?_;left;show af (uZ (i:=S1.length) (j:=(S1++[_]).length) (aK aq) aq (jm rfl)) ?_;dsimp only;show st ?_;left;show aL (d:=d+1) G.pick (((f1.ka .push).ka .push).ka .push) #v[] #v[] λv S2 v0 v1 f2 k2=>?_
   have e:=k2.get _ _ (by have:=f1.lt; simp only[HK]; omega) aq
   obtain⟨z,hz,ez⟩:=oJ (f:=W.str) (xs:=vt) (i:=v.toNat) (by change v.toNat < 14; omega)
   exact jn e v0 ez (hr _ _ (k _ _ (rR z hz) f2 (k1.trans (Kp.push.trans (Kp.push.trans (Kp.push.trans k2))))))
  ·show dh (hn _ _ (hK _ _ ?_));clear hn hK;show st ?_;left;show aL (d:=d+1) G.pick f1 #v[] #v[] λv S2 v0 v1 f2 k2=>?_
   dsimp only[bW,wO];exact gN (d:=d) G f2 ∅ ∅ λz S3 hz hs f3 k3=>k _ _ #[∅,∅,hs] f3 (k1.trans (k2.trans k3))
end
def oK {α:Type}[KH α]:∀(l m:Ho α),l.Nodup->(∀x∈l,x∈m)->l.length<=m.length
 | [],_,_,_=>JJ _
 | x::l,m,hn,hs=>by
  rw[K1]at hn;have hx:x∈m:=hs x (.head _);have h1:=oK l (m.erase x) hn.2 λy hy=>(List.mem_erase_of_ne (λ(e:y=x)=>hn.1 (by rw[<- e]; exact hy))).mpr (hs y (.tail _ hy))
  rw[List.length_erase_of_mem hx]at h1;have:=List.length_pos_of_mem hx;rw[IU]; omega
abbrev jF (k:Hz):HC:=#[[97+k].toArray]
def vw {a b:Hz}(h:jF a=jF b):a=b:=by
 unfold jF at h;injection h with h
 injection h with h
 injection h with h
 omega
def nb (s:Hz):((IJ s).map jF).Nodup:=by
 unfold List.Nodup;rw[List.pairwise_map];exact List.nodup_range.imp λh e=>h (vw e)
def rS {k:Hz}(h:k < 26):Name (jF k):=#[HJ 1,(by decide:1<=8),λc hc=>by
 cases Iv.mp (show c∈[97+k]from hc)
 omega]
abbrev fD:Ho HC:=["marks","ways","bar","some","each","not","and","or","is"]
def vx (zs:Ho HC):(zs.map W.str).all cR=true:=by
 rw[Ih];intro x hx;obtain⟨z,_,rfl⟩:=IS.mp hx;rfl
def yF (zs:Ho HC)(y:HC):((zs.map W.str).any λz=>AN z (.str y))=decide (y∈zs):=by
 induction zs with
 | nil=>rfl
 | cons z zs ih=>
  rw[IT,JB,ih];show((z==y)||_)=_
  by_cases h:z=y
  ·subst h; simp
  ·have:(z==y)=false:=by simpa using h
   rw[this,Mo];have h2:(y∈z::zs)=(y∈zs):=by simp[Ne.symm h]
   simp only[h2]
def rT {S:aa}{t:Hz}{zs:Ho HC}{y:HC}(h:S[t]?=ba (.lst (zs.map W.str))):cV .isin (.str y) (.ref t) S=ba (.bl (decide (y∈zs)),S):=by
 (dsimp only[cV,cU,v4,Dk,eT]; simp only[qb h,aT h])
 rw[HN (by rw[vx]; rfl),yF]
 rfl
def B7 {S:aa}{k:Hz}:eF .mul (.str #[[k].toArray]) (.int 1) S=ba (.str #[[k].toArray],S):=by
 dsimp only[eF,wY];rw[HN #[#v[],#v[],by change 1*1<=sizeLine; rw[IN]; decide]]
 rfl
def jq {xs:Ho W}{k:Hz}:fq xs gV (ba (k:HR))=xs.take k:=by
 unfold fq;rw[HT.iD,HT.hZ,O1,Px]
 by_cases h:k<=xs.length
 ·rw[LD h]
 ·rw[Ou ∅,J8 (HJ _),J8 ∅]
def jr {xs:Ho W}{k:Hz}:fq xs (ba (k:HR)) gV=xs.drop k:=by
 unfold fq;rw[HT.iD,HT.hZ]
 by_cases h:k<=xs.length
 ·rw[LD h,J8 (by rw[JK]; exact HJ _)]
 ·rw[Ou ∅,MD (HJ _),MD ∅]; exact List.take_nil
section
variable{defs:Ho (HC×Df)}{fuel d:Hz}{S:aa}{r:Hz}{Q:QW}
def yG {M:HC->FF}{m z w:W}{t:Hz}{y:HC}{zs:Ho HC}{K:Fm->aa->Prop}{Q:QO}(hfu:20 < fuel)(hy:Name y)(e:S[t]?=ba (.lst (zs.map W.str)))(hl:zs.length<=15)
  (k:∀y s,Name y->y∉zs->K [ba (.ref r),ba m,ba z,ba (.ref t),ba w,ba (.str y),ba s] S) :
  wS M fuel (.whl (.cmp .isin (.v 5) (.v 3)) #v[.set 5 (.op .mul (.ix (.c (.str "abcdefghijklmnopqrstuvwxyz")) (.op .mod (.v 6) (.c (.int 26)))) (.op .add (.c (.int 1)) (.op .fdiv (.v 6) (.c (.int 26))))),.set 6 (.op .add (.v 6) (.c (.int 1)))])
   [ba (.ref r),ba m,ba z,ba (.ref t),ba w,ba (.str y),ba (.int 0)] S K Q:=by
 dsimp only[wS];show Ez (λmm Z S'=>∃(s:Hz) (y:HC),Z=[ba (.ref r),ba m,ba z,ba (.ref t),ba w,ba (.str y),ba (.int s)]/\S'=S/\mm+s=18/\s<=16/\Name y/\(0 < s->y=jF (s - 1))/\∀k,k+1 < s->jF k∈zs) 18 rfl rfl ∅ #[0,y,rfl,rfl,rfl,∅,hy,λh=>absurd h ∅,λk h=>absurd h ∅] ?_
 rintro mm Z S' ⟨s,y',rfl,rfl,hm,hs,hy',hc1,hc2⟩;dsimp only[wT,wE,wV,wG];show af (rT e) #[λhin=>?_,λhout=>k _ _ hy' (K7 hout)]
 have all:∀k,k < s->jF k∈zs:=λk hk=>by
  by_cases h:k+1 < s
  ·exact hc2 k h
  ·have e:k=s - 1:=∅
   rw[e,<- hc1 ∅]; exact IX hin
 have hs15:s<=15:=by
  have h7:=oK ((IJ s).map jF) zs (nb s) λx hx=>by
   obtain⟨k,hk,rfl⟩:=IS.mp hx;exact all k (Jp.mp hk)
  rw[HB,Kk]at h7;omega
 show#[mm - 1,∅,λQ2 hn _=>?_]
 have em:((s:HR) % 26)=s:=Int.emod_eq_of_lt ∅ ∅
 have ed:((s:HR) / 26)=0:=Int.ediv_eq_zero_of_lt ∅ ∅
 show st ?_;dsimp only[wS,wE,wV,wG,HZ];show af (mS #v[]) ?_
 rw[em];show af (zJ (i:=(s:HR)) qj (IR s) (vp #[s,∅])) ?_
 have e2:eF .fdiv (.int s) (.int 26) S'=ba (.int 0,S'):=by rw[uY ∅ ∅,ed]
 dsimp only;rw[e2];dsimp only[bW,bT];rw[show(1:HR)+0=1 from rfl]
 show af B7 ?_;show st ?_;dsimp only[wS,wE,wV,wG,HZ,bW,bT];exact dh (hn _ _ #[s+1,jF s,rfl,rfl,∅,∅,rS ∅,λ_=>rfl,λk hk=>all k ∅])
def yH (hfu:20 < fuel)(G:Gen defs){m:Hz}(hf:Fl S r)(h1:m<=6)(k:∀(ys:Ho HC) S',ys.length=m->(∀y∈ys,Name y)->(fD++ys).Nodup->Fl S' r->Kp r S S'->Q (.tup (ys.map W.str),S')) :
  wO (aU (ah defs fuel (d+4)) "_law_names" 2 [.ref r,.int m] S) Q:=by
 show az G.names rfl rfl λQ' hR=>?_
 replace k:∀(ys:Ho HC) S',ys.length=m->(∀y∈ys,Name y)->(fD++ys).Nodup->Fl S' r->Kp r S S'->Q' (.rt (.tup (ys.map W.str)),S'):=λz S' a b c e f=>hR _ _ (k z S' a b c e f)
 clear hR;change wZ _ _ bG [ba (.ref r),ba (.int m),gV,gV,gV,gV,gV] S Q';have au:∀(z:HC) (S2:aa),z.cps.toList.length<=6->qk z->Fl S2 r->Kp r S S2->wZ (ah defs fuel (d+3)) fuel (dr 2 bG) [ba (.ref r),ba (.int m),ba (.str z),gV,gV,gV,gV] S2 Q':=by
  intro z S2 hz1 hz2 f2 k2;dsimp only[dr,bG];have hrt:=f2.lt;have hSt:=k2.len;show st ?_;left;nofun
  show iq (m:HR) (λi Z S'=>∃a4 a5 a6 ys,Z=[ba (.ref r),ba (.int m),ba (.str z),ba (.ref S2.length),a4,a5,a6]/\S'[S2.length]?=ba (.lst ((fD++ys).map W.str))/\ys.length=i/\(∀y∈ys,Name y)/\(fD++ys).Nodup/\Fl S' r/\Kp r S S') rfl rfl ∅ ?_ ?_ ?_
  ·dsimp only[wE,wV,wG];exact#[rfl,gV,gV,gV,[],rfl,aq,rfl,λ_ h=>(nomatch h),#v[],f2.ka .push,k2.trans .push]
  ·rintro i Z S3 hi ⟨a4,a5,a6,ys,rfl,e3,hy1,hy2,hy3,f3,k3⟩ Q2 hn _;clear hK;show st ?_;left;show B6 (d:=d) G f3 hz1 hz2 λy S4 hy f4 k4=>?_
   have e4:=k4.get _ _ ∅ e3
   show st ?_;left;show st (yG hfu hy e4 (by rw[HK,hy1]; show 9+i<=15; omega) λy' s hy' hnot=>?_)
   show st ?_;left;show#[jj e4,m8 e4 (by rw[HB,HK,hy1]; show 9+i < 1000; omega) ?_]
   show dh (hn _ _ #[_,_,_,ys++[y'],rfl,?_,by rw[HK,hy1]; rfl,λx hx=>?_,?_,f4.own hrt,(k3.trans k4).late hSt])
   ·rw[eu e4,<- KD,J2 (l₁:=fD++ys)]; rfl
   ·rcases IV.mp hx with h|h
    ·exact hy2 x h
    ·rw[Iv.mp h]; exact hy'
   ·rw[<- KD,N8];show#[hy3,by simp,λa ha b hb e=>?_]
    rw[Iv.mp hb]at e;exact hnot (e ▸ ha)
  ·rintro Z S3 ⟨a4,a5,a6,ys,rfl,e3,hy1,hy2,hy3,f3,k3⟩;show hK _ _ (st ?_);dsimp only[wS,wE,wA,wV,wG,wP,wN];have hs:jV (.ref S2.length) (ba 9) gV S3=ba (.ref S3.length,S3++[.lst (ys.map W.str)]):=by
    have:fq ((fD++ys).map W.str) (ba ((9:Hz):HR)) gV=ys.map W.str:=by
     rw[jr,J2];exact List.drop_left' rfl
    simp only[jV,aT e3];rw[show(ba 9:Hs HR)=ba ((9:Hz):HR)from rfl,this]
   show af hs (eY aq (k _ _ ?_ hy2 hy3 (f3.ka .push) (k3.trans .push)));rw[hy1]; exact Ir m
 dsimp only[bG];show st ?_;dsimp only[wS,wE,HZ];nofun
 dsimp only[wS,wT,wE,wA,wV,wG];show aL (d:=d+2) G.pick hf #v[] #v[] λv S1 v0 v1 f1 k1=>?_
 dsimp only[mT,wO,wB];show aw (Q0:=Q') (λ_ Q2 hn _=>?_) (λ_ Q2 hn _=>?_)
 ·show st ?_;left;show aL (d:=d+2) G.pick f1 #v[] #v[] λv S2 v0 v1 f2 k2=>?_
  dsimp only[bW,wO];exact gN (d:=d+1) G f2 ∅ ∅ λz S3 hz hs f3 k3=>dh (hn _ _ (hK _ _ (au z S3 ∅ hs f3 (k1.trans (k2.trans k3)))))
 ·exact dh (hn _ _ (hK _ _ (au "" S1 #v[] (λc hc=>nomatch hc) f1 k1)))
end
noncomputable abbrev Pt:=HR×Ho HR
noncomputable abbrev Wd:=Ho Pt
abbrev dJ (p:Pt):W:=.tup [.int p.1,.tup (p.2.map W.int)]
abbrev bL (u:Wd):W:=.tup (u.map dJ)
abbrev nh (p:Pt):T:=.tup [.int p.1,.tup (p.2.map T.int)]
abbrev eZ (u:Wd):T:=.tup (u.map nh)
def qm:∀xs:Ho HR,T.ws (xs.map T.int)=xs.map W.int
 | []=>rfl
 | x::xs=>by simp[T.ws,T.w,qm xs]
def EH (p:Pt):(nh p).w=dJ p:=by simp[nh,dJ,T.w,T.ws,qm]
def vy:∀u:Wd,T.ws (u.map nh)=u.map dJ
 | []=>rfl
 | p::u=>by simp[T.ws,EH,vy u]
def vz (u:Wd):(eZ u).w=bL u:=by simp[eZ,bL,T.w,vy]
def EI (u:Wd):W.t (bL u)=ba (eZ u):=by rw[<- vz]; exact T.w_t _
def vA:∀us:Ho Wd,T.ws (us.map eZ)=us.map bL
 | []=>rfl
 | u::us=>by simp[T.ws,vz,vA us]
def zR (us:Ho Wd):W.ts (us.map bL)=ba (us.map eZ):=by rw[<- vA]; exact T.ws_ts _
def jt:∀xs:Ho HR,T.depths (xs.map T.int)=0
 | []=>rfl
 | x::xs=>by simp[T.depths,T.depth,jt xs]
def vB (p:Pt):(nh p).depth=2:=by simp[nh,T.depth,T.depths,jt]
def kq:∀u:Wd,T.depths (u.map nh)<=2
 | []=>by simp[T.depths]
 | p::u=>by
  have:=kq u;simp only[IT,T.depths,vB]; omega
def ni (u:Wd):(eZ u).depth<=3:=by
 have:=kq u;simp only[eZ,T.depth]; omega
def gO:∀us:Ho Wd,T.depths (us.map eZ)<=3
 | []=>by simp[T.depths]
 | u::us=>by
  have:=gO us;have:=ni u;simp only[IT,T.depths]; omega
def B8 (u:Wd):g7 (bL u)=ba (eZ u):=by
 unfold g7;rw[EI];show(if (eZ u).isTup=true/\(eZ u).depth<=aI then _ else _)=_
 rw[HN #[rfl,by have:=ni u; unfold aI; omega]]
mutual
def nj:T->T->HP
 | .int _,.int _=>true
 | .str _,.str _=>true
 | .tup xs,.tup ys=>gk xs ys
 | _,_=>false
def gk:Ho T->Ho T->HP
 | [],_=>true
 | _,[]=>true
 | x::xs,y::ys=>nj x y&&gk xs ys
end
mutual
theorem vC:∀x y:T,nj x y=true->(xy x y).isSome=true
 | .int _,.int _,_=>rfl
 | .str _,.str _,_=>rfl
 | .tup xs,.tup ys,h=>by
  dsimp only[nj]at h;dsimp only[xy];exact qo xs ys h
 | .int _,.str _,h|.int _,.tup _,h|.str _,.int _,h|.str _,.tup _,h|.tup _,.int _,h|.tup _,.str _,h=>by cases h
theorem qo:∀xs ys:Ho T,gk xs ys=true->(md xs ys).isSome=true
 | [],[],_=>rfl
 | [],_::_,_=>rfl
 | _::_,[],_=>rfl
 | x::xs,y::ys,h=>by
  dsimp only[gk]at h; simp only[Hu]at h
  dsimp only[md];split
  ·exact qo xs ys h.2
  ·exact vC x y h.1
end
def nk:∀xs ys:Ho HR,gk (xs.map T.int) (ys.map T.int)=true
 | [],_=>rfl
 | _::_,[]=>rfl
 | x::xs,y::ys=>by dsimp only[Qs,gk,nj]; simp[nk xs ys]
def B9 (p q:Pt):nj (nh p) (nh q)=true:=by dsimp only[nh,nj,gk]; simp[nk]
def qp:∀u v:Wd,gk (u.map nh) (v.map nh)=true
 | [],_=>rfl
 | _::_,[]=>rfl
 | p::u,q::v=>by dsimp only[Qs,gk]; simp[B9,qp u v]
def Cb (u v:Wd):nj (eZ u) (eZ v)=true:=by dsimp only[eZ,nj]; exact qp _ _
def kv (us:Ho Wd):iT (us.map eZ)=true:=by
 unfold iT;rw[Ih];intro x hx;obtain⟨u,_,rfl⟩:=IS.mp hx;rw[Ih];intro y hy;obtain⟨v,_,rfl⟩:=IS.mp hy;exact vC _ _ (Cb u v)
def Cc (us:Ho Wd)(h:∀u∈us,u≠[]):(xz (us.map eZ)).isSome=true:=by
 unfold xz;split
 ·rfl
 ·split
  ·rfl
  ·split
   ·rfl
   ·split
    ·rfl
    ·split
     ·rfl
     ·rename_i h5;exfalso;apply h5;rw[Ih];intro x hx;obtain⟨u,hu,rfl⟩:=IS.mp hx;cases u with
      | nil=>exact absurd rfl (h [] hu)
      | cons p u=>rfl
abbrev oM (bs:Ho HR)(u:Wd)(i j:Hz):HR:=if j < i then((u.getD i (0,[])).2).getD j 0 else bs.getD (((u.getD j (0,[])).2).getD i 0).toNat 0
abbrev bc (bs:Ho HR)(u:Wd)(ps:Ho Hz):Wd:=(IJ ps.length).map λk=>((u.getD (ps.getD k 0) (0,[])).1,(ps.take k).map λj=>oM bs u (ps.getD k 0) j)
abbrev aQ:Ho (Ho Hz):=[[0,1,2],[0,2,1],[1,0,2],[1,2,0],[2,0,1],[2,1,0]]
abbrev jG (bs:Ho HR)(u:Wd):Wd:=(aQ.map (bc bs u)).getD (n4 ((aQ.map (bc bs u)).map eZ)) []
abbrev b7 (n:HC)(b:HR):W:=.tup [.str n,.int b]
structure GoodW (a n:Hz)(u:Wd):Prop where
 mark:∀(k:Hz) (p:Pt),u[k]?=ba p->0<=p.1/\p.1 < a
 len:∀(k:Hz) (p:Pt),u[k]?=ba p->p.2.length=k
 way:∀(k:Hz) (p:Pt),u[k]?=ba p->∀w∈p.2,0<=w/\w < n
abbrev GoodB (bs:Ho HR):Prop:=bs=[0]\/bs=[0,1]\/bs=[1,0]\/bs=[0,1,2]\/bs=[1,0,2]\/bs=[0,2,1]
def GoodB.rng {bs:Ho HR}(h:GoodB bs):∀k:Hz,k < bs.length->∃b:HR,bs[k]?=ba b/\0<=b/\b < bs.length:=by
 rcases h with rfl|rfl|rfl|rfl|rfl|rfl <;> intro k hk
 ·match k,hk with
  | 0,_=>exact#[0,rfl,#v[],#v[]]
 ·match k,hk with
  | 0,_=>exact#[0,rfl,#v[],#v[]]
  | 1,_=>exact#[1,rfl,#v[],#v[]]
 ·match k,hk with
  | 0,_=>exact#[1,rfl,#v[],#v[]]
  | 1,_=>exact#[0,rfl,#v[],#v[]]
 ·match k,hk with
  | 0,_=>exact#[0,rfl,#v[],#v[]]
  | 1,_=>exact#[1,rfl,#v[],#v[]]
  | 2,_=>exact#[2,rfl,#v[],#v[]]
 ·match k,hk with
  | 0,_=>exact#[1,rfl,#v[],#v[]]
  | 1,_=>exact#[0,rfl,#v[],#v[]]
  | 2,_=>exact#[2,rfl,#v[],#v[]]
 ·match k,hk with
  | 0,_=>exact#[0,rfl,#v[],#v[]]
  | 1,_=>exact#[2,rfl,#v[],#v[]]
  | 2,_=>exact#[1,rfl,#v[],#v[]]
def getD_some {α:Type}{xs:Ho α}{i:Hz}{x d:α}(h:xs[i]?=ba x):xs.getD i d=x:=by simp[h]
def bU {α:Type}{xs:Ho α}{i:Hz}{d:α}(h:i < xs.length):xs[i]?=ba (xs.getD i d):=by simp[h]
def vD {ns:Ho HC}{bs:Ho HR}{k:Hz}{n:HC}{b:HR}(h1:ns[k]?=ba n)(h2:bs[k]?=ba b):(IH b7 ns bs)[k]?=ba (b7 n b):=by
 rw[List.getElem?_zipWith,h1,h2]
abbrev bX (ps:Ho Hz):Ho W:=ps.map λ(p:Hz)=>W.int (p:HR)
def qr {ps:Ho Hz}{k p:Hz}(h:ps[k]?=ba p):(bX ps)[k]?=ba (.int p):=by simp[bX,h]
def rV (bs:Ho HR)(u:Wd)(ps:Ho Hz):(bc bs u ps).length=ps.length:=by unfold bc; rw[HB,Kk]
def qt {u:Wd}{i:Hz}(hi:i < u.length):(u.map dJ)[((i:Hz):HR).toNat]?=ba (dJ (u.getD i (0,[]))):=by
 rw[Ir,HQ,bU hi]; rfl
section
variable{defs:Ho (HC×Df)}{fuel d:Hz}{S:aa}{r:Hz}{Q:QW}
def vE {M:HC->FF}{m0 b0:W}{ns:Ho HC}{bs:Ho HR}{a:Hz}{u:Wd}{i j:Hz}{Q:QO}(hb:GoodB bs)(hl:ns.length=bs.length)(hu:GoodW a bs.length u)(hi:i < u.length)(hj:j < u.length)(hij:i≠j)(k:Q (.rt (.int (oM bs u i j)),S)) :
  wZ M fuel bR [ba (.tup [m0,.tup (IH b7 ns bs),b0]),ba (bL u),ba (.int i),ba (.int j)] S Q:=by
 have hpi:=bU (d:=(0,[])) hi;have hpj:=bU (d:=(0,[])) hj;unfold oM at k;dsimp only[bR];nofun
 dsimp only[wS,wT,wE,wV,wG,Ea,wO,wB,bL];show aw (Q0:=Q) (λh Q2 _ hr=>?_) (λh Q2 hn _=>?_)
 ·have hji:j < i:=by have:=IX h; omega
  rw[HN hji]at k;have hw:j < (u.getD i (0,[])).2.length:=by rw[hu.len i _ hpi]; exact hji
  show st ?_;dsimp only[wS,wE,wV,wG];show aM (IR i) (qt hi) (aM #v[] rfl (aM (IR j) ?_ (hr _ _ k)))
  rw[Ir,HQ,bU (d:=0) hw]; rfl
 ·have hji:¬ j < i:=by have:=K7 h; omega
  rw[HY hji]at k;show dh (hn _ _ (hK _ _ ?_));clear hn hK;have hw:i < (u.getD j (0,[])).2.length:=by rw[hu.len j _ hpj]; omega
  have hg:=bU (d:=0) hw;obtain⟨g1,g2⟩:=hu.way j _ hpj _ (Jq hg);obtain⟨b,hb1,hb2,hb3⟩:=hb.rng ((u.getD j (0,[])).2.getD i 0).toNat ∅
  have hn:((u.getD j (0,[])).2.getD i 0).toNat < ns.length:=∅
  rw[getD_some hb1]at k;show st ?_;dsimp only[wS,wE,wV,wG];show aM #v[] rfl (aM (IR j) (qt hj) (aM #v[] rfl (aM (IR i) ?_ (aM g1 (vD (HI hn) hb1) (aM #v[] rfl k)))))
  rw[Ir,HQ,hg]; rfl
def rW (G:Gen defs){m0 b0:W}{ns:Ho HC}{bs:Ho HR}{a:Hz}{u:Wd}{i j:Hz}(hb:GoodB bs)(hl:ns.length=bs.length)(hu:GoodW a bs.length u)(hi:i < u.length)(hj:j < u.length)(hij:i≠j)(k:Q (.int (oM bs u i j),S)) :
  wO (aU (ah defs fuel (d+1)) "_law_between" 4 [.tup [m0,.tup (IH b7 ns bs),b0],bL u,.int i,.int j] S) Q:=
 az G.between rfl rfl λQ' hR=>vE hb hl hu hi hj hij (hR _ _ k)
def Cd (G:Gen defs){m0 b0:W}{ns:Ho HC}{bs:Ho HR}{a:Hz}{u:Wd}{ps:Ho Hz}(hb:GoodB bs)(hl:ns.length=bs.length)(hu:GoodW a bs.length u)(hps:∀p∈ps,p < u.length)(hnd:ps.Nodup)(hsz:ps.length < 1000)(k:∀S',Ka S S'->Q (bL (bc bs u ps),S')) :
  wO (aU (ah defs fuel (d+2)) "_law_part" 3 [.tup [m0,.tup (IH b7 ns bs),b0],bL u,.tup (bX ps)] S) Q:=by
 show az G.part rfl rfl λQ' hR=>?_
 replace k:∀S',Ka S S'->Q' (.rt (bL (bc bs u ps)),S'):=λS' a=>hR _ _ (k S' a)
 clear hR;change wZ _ _ dB [ba (.tup [m0,.tup (IH b7 ns bs),b0]),ba (bL u),ba (.tup (bX ps)),gV,gV,gV] S Q';generalize hR0:W.tup [m0,.tup (IH b7 ns bs),b0]=R;dsimp only[dB];show st ?_;dsimp only[wS,wE,wA,HZ];nofun
 have nl:(bX ps).length=ps.length:=HB ..;show iq (ps.length:HR) (λk Z S'=>∃a4 a5,Z=[ba R,ba (bL u),ba (.tup (bX ps)),ba (.ref S.length),a4,a5]/\S'[S.length]?=ba (.lst (((bc bs u ps).take k).map dJ))/\Ka S S') rfl rfl ∅ ?_ ?_ ?_
 ·dsimp only[wE,wA,wV,wG];show br ?_;rw[nl];exact#[rfl,gV,gV,rfl,aq,.push]
 ·rintro i Z S1 hi ⟨a4,a5,rfl,e1,k1⟩ Q2 hn _;clear hK;have hi':i < ps.length:=∅
  have hp:ps[i]?=ba ps[i]:=HI hi';have hpu:ps[i] < u.length:=hps _ (Jl hi');show st ?_;dsimp only[wS,wE,wV,wG,HZ];show aM (IR i) (by rw[Ir]; exact qr hp) ?_
  show st ?_;left;show#[jj e1,aM (IR _) (qt hpu) (aM #v[] rfl ?_)]
  show yD (bX (ps.take i)) (λj ys Z2 S2=>(∃a1,Z2=[gV,a1,ba (.int ps[i]),ba R,ba (bL u)])/\ys=((ps.take i).take j).map (λq=>W.int (oM bs u ps[i] q))/\Ka S1 S2) rfl rfl rfl ?_ ?_ ?_
  ·dsimp only[wE,wP,wV,wG,wN];show af (a:=(.tup (bX (ps.take i)),S1)) ?_ #[rfl,#[gV,rfl],rfl,.refl];simp only[jV,jq];unfold bX;rw[Pi]
  ·rintro j w ys Z2 S2 hw ⟨⟨a1,rfl⟩,rfl,k2⟩;have hjl:j < (ps.take i).length:=by
    have:=(HD.mp hw).1;unfold bX at this
    rwa [HB]at this
   have hq:(ps.take i)[j]?=ba (ps.take i)[j]:=HI hjl;cases(qr hq).symm.trans hw;have hj:j < i:=by rw[Ju]at hjl; omega
   have eq:(ps.take i)[j]=ps[j]'∅:=List.getElem_take
   generalize(ps.take i)[j]=q at hq eq ⊢;show af (show lK (.nm 1) (.int (q:HR)) [gV,a1,ba (.int ps[i]),ba R,ba (bL u)] S2=ba ([gV,ba (.int (q:HR)),ba (.int ps[i]),ba R,ba (bL u)],S2)from rfl) ?_
   dsimp only[m6,wC,wE,wA,wV,wG];subst hR0;show#[λ_=>rW (d:=d) G hb hl hu hpu (by rw[eq]; exact hps _ (Jl _)) ?_ #[#[_,rfl],?_,k2],λz=>by cases z]
   ·rw[eq];intro h;have:=(Oc hnd).mp h;omega
   ·rw[Kl,hq];simp
  ·rintro ys Z2 S2 ⟨_,rfl,k2⟩;rw[show(bX (ps.take i)).length=(ps.take i).length from HB ..,KQ]
   show#[vo (by rw[HB,Ju]; omega),eY aq ?_]
   have e2:=aK (u:=O.lst ((ps.take i).map λq=>W.int (oM bs u ps[i] q))) (k2.get _ _ e1)
   show m8 e2 (by rw[HB,Ju]; omega) (dh (hn _ _ #[_,_,rfl,?_,((k1.trans k2).trans .push).late (HJ _)]))
   rw[eu e2];have ep:(bc bs u ps)[i]?=ba ((u.getD ps[i] (0,[])).1,(ps.take i).map λq=>oM bs u ps[i] q):=by
    unfold bc;rw[HQ,Nl hi',IW,getD_some hp]
   rw[Kl,ep];simp[dJ,N5]
 ·rintro Z S1 ⟨a4,a5,rfl,e1,k1⟩;rw[Ir,<- rV bs u ps,KQ]at e1;show hK _ _ (st ?_);left;exact eY e1 (k _ k1)
def yI (G:Gen defs)(k:Q (.ref S.length,S++[.lst (aQ.map λt=>W.tup (bX t))])):wO (aU (ah defs fuel (d+1)) "_law_turns" 0 [] S) Q:=by
 show az G.turns rfl rfl λQ' hR=>?_
 dsimp only[eC];show st ?_;dsimp only[wS,wE,wA];exact hR _ _ k
def fE (bt:Hz->Hz->HP):∀n:Hz,argBest bt n<=n
 | 0=>HJ _
 | n+1=>by have:=fE bt n; simp only[argBest]; split <;> omega
def vF (G:Gen defs){m0 b0:W}{ns:Ho HC}{bs:Ho HR}{a:Hz}{u:Wd}(hb:GoodB bs)(hl:ns.length=bs.length)(hu:GoodW a bs.length u)(h3:u.length=3)(k:∀S',Ka S S'->Q (bL (jG bs u),S')) :
  wO (aU (ah defs fuel (d+3)) "_law_figure" 2 [.tup [m0,.tup (IH b7 ns bs),b0],bL u] S) Q:=by
 show az G.figure rfl rfl λQ' hR=>?_
 replace k:∀S',Ka S S'->Q' (.rt (bL (jG bs u)),S'):=λS' a=>hR _ _ (k S' a)
 clear hR;change wZ _ _ cb [ba (.tup [m0,.tup (IH b7 ns bs),b0]),ba (bL u)] S Q';generalize hR0:W.tup [m0,.tup (IH b7 ns bs),b0]=R;dsimp only[cb];show st ?_;dsimp only[wS,wE,wA];show yE S.length (aQ.map λt=>W.tup (bX t)) (λi ys Z2 S2=>(∃a1,Z2=[gV,a1,ba R,ba (bL u)])/\ys=((aQ.take i).map λt=>bL (bc bs u t))/\Ka (S++[.lst (aQ.map λt=>W.tup (bX t))]) S2) rfl rfl rfl ?_ ?_ ?_ ?_
 ·dsimp only[wE,wA];exact yI (d:=d+1) G #[rfl,#[gV,rfl],rfl,.refl]
 ·rintro i ys Z2 S2 ⟨_,_,k2⟩;exact k2.get _ _ aq
 ·rintro i w ys Z2 S2 hw ⟨⟨a1,rfl⟩,rfl,k2⟩;rw[HQ,Hx]at hw;obtain⟨t,ht,rfl⟩:=hw;have ht3:(∀p∈t,p < 3)/\t.Nodup/\t.length < 1000:=by
   have:∀t∈aQ,(∀p∈t,p < 3)/\t.Nodup/\t.length < 1000:=by decide
   exact this t (Jq ht)
  show af (show lK (.nm 1) (.tup (bX t)) [gV,a1,ba R,ba (bL u)] S2=ba ([gV,ba (.tup (bX t)),ba R,ba (bL u)],S2)from rfl) ?_
  dsimp only[m6,wC,wE,wA,wV,wG];subst hR0;show#[λ_=>Cd (d:=d) G hb hl hu (λp hp=>by rw[h3]; exact ht3.1 p hp) ht3.2.1 ht3.2.2 λS3 k3=>#[#[_,rfl],?_,k2.trans k3],λz=>by cases z]
  rw[Kl,ht];simp
 ·rintro ys Z2 S2 ⟨_,rfl,k2⟩;have e:((aQ.take (aQ.map λt=>W.tup (bX t)).length).map λt=>bL (bc bs u t))=(aQ.map (bc bs u)).map bL:=by
   rw[HB,KQ,Ky]; rfl
  rw[e];show#[jm rfl,af (a:=(bL (jG bs u),S2++[.lst ((aQ.map (bc bs u)).map bL)])) ?_ (k _ ((Ka.push.trans k2).trans .push))]
  (dsimp only[Bi.fn,Bl,xC]; simp only[aT aq,zR])
  rw[HN #[by have:=gO (aQ.map (bc bs u)); unfold cC; omega,kv _]]
  unfold jG;have hlt:n4 ((aQ.map (bc bs u)).map eZ) < (aQ.map (bc bs u)).length:=LY (fE _ _) (by decide:5 < 6)
  rw[HQ,bU (d:=[]) hlt];rfl
end
abbrev cy (xs:Ho HR):Ho W:=xs.map W.int
abbrev ju (us:Ho Wd):Ho Wd:=dL (zo (us.map eZ)) [] us
def vG {α β:Type}{lt:Hz->Hz->HP}{d:α}{d':β}{f:α->β}{us:Ho α}:dL lt d' (us.map f)=(dL lt d us).map f:=by
 unfold dL;rw[HB];split
 ·rfl
 ·rw[Ky];show Ks λi hi=>?_
  have hl:i < us.length:=li ∅ i hi
  simp[hl]
def oN {S:aa}{x:W}{us:Ho Wd}(h:dY S x=ba (us.map bL))(h64:us.length < 64)(hne:∀u∈us,u≠[]):fO [x] S=ba (.ref S.length,S++[.lst ((ju us).map bL)]):=by
 have ok:lh (us.map eZ)=true:=by
  unfold lh;simp only[Hu,Jj,Im,HB];exact#[#[h64,by have:=gO us; unfold cC; omega],.inr #[Cc us hne,kv us]]
 simp only[fO,h,zR];rw[HN ok,vG (d:=[])];rfl
abbrev gl (ms ns:Ho HC)(bs:Ho HR)(us:Ho Wd):W:=.tup [.tup (ms.map W.str),.tup (IH b7 ns bs),.tup (us.map bL)]
structure GoodN (ms ns:Ho HC):Prop where
 name:∀y∈ms++ns,Name y
 nd:(fD++(ms++ns)).Nodup
def GoodW.nil {a n:Hz}:GoodW a n []:=#[λk p h=>(by simp at h),λk p h=>(by simp at h),λk p h=>(by simp at h)]
def GoodW.snoc {a n:Hz}{u:Wd}{m:HR}{ws:Ho HR}(h:GoodW a n u)(h1:0<=m/\m < a)(h2:ws.length=u.length)(h3:∀w∈ws,0<=w/\w < (n:HR)):GoodW a n (u++[(m,ws)]):=by
 have key:∀(k:Hz) (p:Pt),(u++[(m,ws)])[k]?=ba p->u[k]?=ba p\/(k=u.length/\p=(m,ws)):=λk p e=>by
  rcases Nat.lt_or_ge k u.length with hk|hk
  ·rw[IB hk]at e; exact .inl e
  ·rw[KM hk]at e;have:k - u.length=0:=by
    have:=(HD.mp e).1;simp at this; omega
   rw[this]at e;cases e;exact .inr #[∅,rfl]
 show#[λk p e=>?_,λk p e=>?_,λk p e=>?_] <;> rcases key k p e with e|⟨rfl,rfl⟩
 ·exact h.mark k p e
 ·exact h1
 ·exact h.len k p e
 ·exact h2
 ·exact h.way k p e
 ·exact h3
def vH {S:aa}{x:W}{us:Ho Wd}{Q:QW}(h:dY S x=ba (us.map bL))(h64:us.length < 64)(hne:∀u∈us,u≠[])(q:Q (.ref S.length,S++[.lst ((ju us).map bL)])):wO (Bi.sorted.fn [x] S) Q:=by
 show af ?_ q;exact oN h h64 hne
abbrev vI:Ho (Hz×Hz):=[(1,1),(2,1),(3,1),(1,2),(1,2),(2,2),(2,2),(3,2),(1,3),(1,3),(2,3)]
def vJ:∀p∈vI,1<=p.1/\p.1<=3/\1<=p.2/\p.2<=3/\p.1*p.2<=6:=by decide
abbrev jv:Hz->Ho (Ho HR)
 | 1=>[[0]]
 | 2=>[[0,1],[1,0]]
 | _=>[[0,1,2],[1,0,2],[0,2,1]]
def vK:∀n:Hz,1<=n->n<=3->(∀b∈jv n,GoodB b/\b.length=n)/\0 < (jv n).length/\(jv n).length<=3
 | 1,_,_=>#[λb h=>by cases Iv.mp h; exact#[.inl rfl,rfl],#v[],#v[]]
 | 2,_,_=>#[λb h=>by
   rcases Ij.mp h with rfl|h
   ·exact#[.inr (.inl rfl),rfl]
   ·cases Iv.mp h; exact#[.inr (.inr (.inl rfl)),rfl],#v[],#v[]]
 | 3,_,_=>#[λb h=>by
   rcases Ij.mp h with rfl|h
   ·exact#[.inr (.inr (.inr (.inl rfl))),rfl]
   ·rcases Ij.mp h with rfl|h
    ·exact#[.inr (.inr (.inr (.inr (.inl rfl)))),rfl]
    ·cases Iv.mp h; exact#[.inr (.inr (.inr (.inr (.inr rfl)))),rfl],#v[],#v[]]
 | 0,h,_=>absurd h #v[]
 | n+4,_,h=>absurd h ∅
section
variable{defs:Ho (HC×Df)}{fuel d:Hz}{S:aa}{r:Hz}{Q:QW}
def yJ (G:Gen defs)(hf:Fl S r)(k:∀(a n:Hz) S',1<=a->a<=3->1<=n->n<=3->a*n<=6->Fl S' r->Kp r S S'->Q (.tup [.int a,.int n],S')) :
  wO (aU (ah defs fuel (d+2)) "_law_sizes" 1 [.ref r] S) Q:=by
 show az G.sizes rfl rfl λQ' hR=>?_
 change wZ _ _ cF [ba (.ref r),gV] S Q';dsimp only[cF];show st ?_;dsimp only[wS,wE,wA,HZ];show st ?_;left;show aL (d:=d) G.pick (hf.ka .push) #v[] #v[] λv S1 v0 v1 f1 k1=>?_
 have e:=k1.get _ _ (JC hf.lt) aq;obtain⟨p,hp,ep⟩:=oJ (f:=λp:Hz×Hz=>W.tup [.int p.1,.int p.2]) (xs:=vI) (i:=v.toNat) (by change v.toNat < 11; omega)
 obtain⟨a1,a3,n1,n3,an⟩:=vJ p hp;exact jn e v0 ep (hR _ _ (k _ _ _ a1 a3 n1 n3 an f1 (Kp.push.trans k1)))
def yK (G:Gen defs){n:Hz}(hf:Fl S r)(h1:1<=n)(h3:n<=3)(k:∀(bs:Ho HR) S',GoodB bs->bs.length=n->Fl S' r->Kp r S S'->Q (.tup (cy bs),S')) :
  wO (aU (ah defs fuel (d+2)) "_law_backs" 2 [.ref r,.int n] S) Q:=by
 show az G.backs rfl rfl λQ' hR=>?_
 replace k:∀(bs:Ho HR) S',GoodB bs->bs.length=n->Fl S' r->Kp r S S'->Q' (.rt (.tup (cy bs)),S'):=λz S' a b c e=>hR _ _ (k z S' a b c e)
 clear hR;change wZ _ _ cD [ba (.ref r),ba (.int n),gV] S Q';dsimp only[cD];nofun
 left;dsimp only[D9,bT];obtain⟨hg,g0,g3⟩:=vK n h1 h3;have fin:∀(t:Hz) (S1:aa),S.length<=t->S1[t]?=ba (.lst ((jv n).map λb=>.tup (cy b)))->Ka S S1->K [ba (.ref r),ba (.int n),ba (.ref t)] S1:=by
  intro t S1 ht et ka;show hK _ _ (st ?_);left;show zQ et ?_;rw[HB];show aL (d:=d) G.pick (hf.ka ka) ∅ ∅ λv S2 v0 v1 f2 k2=>?_
  have e2:=k2.get _ _ (by have:=hf.lt; omega) et
  obtain⟨b,hb,eb⟩:=oJ (f:=λb:Ho HR=>W.tup (cy b)) (xs:=jv n) (i:=v.toNat) ∅
  exact jn e2 v0 eb (k b S2 (hg b hb).1 (hg b hb).2 f2 ((ka.kp r).trans k2))
 clear hK g0 g3 hg;rcases(show n=1\/n=2\/n=3 by omega)with rfl|rfl|rfl
 ·exact dM (i:=0) aq rfl (fin _ _ (HJ _) (aK (aK (aK aq))) (Ka.push.trans (Ka.push.trans (Ka.push.trans .push))))
 ·exact dM (i:=1) aq rfl (fin _ _ (by simp) (aK (aK aq)) (Ka.push.trans (Ka.push.trans (Ka.push.trans .push))))
 ·exact dM (i:=2) aq rfl (fin _ _ (by simp only[HK]; omega) (aK aq) (Ka.push.trans (Ka.push.trans (Ka.push.trans .push))))
def rX (hfu:20 < fuel)(G:Gen defs){a:Hz}{bs:Ho HR}{x:W}{us:Ho Wd}(hf:Fl S r)(ha:a<=3)(hb:bs.length<=3)(hx:∀S',Kp r S S'->dY S' x=ba (us.map bL))(h64:us.length < 64)(hne:∀u∈us,u≠[])
  (k:∀(ms ns:Ho HC) S',ms.length=a->ns.length=bs.length->GoodN ms ns->Fl S' r->Kp r S S'->Q (gl ms ns bs (ju us),S')) :
  wO (aU (ah defs fuel (d+5)) "_law_rule_of" 4 [.ref r,.int a,.tup (cy bs),x] S) Q:=by
 show az G.rule_of rfl rfl λQ' hR=>?_
 replace k:∀(ms ns:Ho HC) S',ms.length=a->ns.length=bs.length->GoodN ms ns->Fl S' r->Kp r S S'->Q' (.rt (gl ms ns bs (ju us)),S'):=λz y S' a b c e f=>hR _ _ (k z y S' a b c e f)
 clear hR;change wZ _ _ bS [ba (.ref r),ba (.int a),ba (.tup (cy bs)),ba x,gV,gV] S Q';have hbl:(cy bs).length=bs.length:=HB ..;dsimp only[bS];nofun
 left;show br ?_;rw[hbl];dsimp only[bW,bT];show yH (d:=d) (m:=a+bs.length) hfu G hf ∅ λys S1 q2 q3 q4 f1 k1=>hK _ _ ?_
 clear hK K;have hzl:(IH b7 (ys.drop a) bs).length=bs.length:=by
  rw[KU,JK]; omega
 nofun
 dsimp only[wS,wE,wA,HZ];show ir (bs.length:HR) (λk zs Z2 S2=>(∃a1,Z2=[gV,a1,ba (.tup (cy bs)),ba (.int a),ba (.tup (ys.map W.str))])/\zs=((IH b7 (ys.drop a) bs).take k)/\S2=S1) rfl rfl rfl ∅ ?_ ?_ ?_
 ·dsimp only[wE,wA,wV,wG];show br ?_;rw[hbl];exact#[rfl,#[gV,rfl],rfl,rfl]
 ·rintro i zs Z2 S2 hi ⟨⟨a1,rfl⟩,rfl,rfl⟩;clear hK;have hi':i < bs.length:=∅
  have h1:a+i < ys.length:=∅
  dsimp only[m6,wC,wE,wA,wV,wG,HZ,bW,bT];show#[λ_=>aM ∅ (w:=.str ys[a+i]) ?_ (aM ∅ (w:=.int bs[i]) ?_ #[#[_,rfl],?_,rfl]),λz=>by cases z]
  ·rw[show((a:HR)+(i:HR)).toNat=a+i by omega,HQ,HI h1]; rfl
  ·unfold cy;rw[Ir,HQ,HI hi']; rfl
  ·have ez:(IH b7 (ys.drop a) bs)[i]?=ba (b7 ys[a+i] bs[i]):=vD (by rw[List.getElem?_drop]; exact HI h1) (HI hi')
   rw[Kl,ez];rfl
 ·rintro zs Z2 S2 ⟨_,rfl,rfl⟩;rw[Ir,<- hzl,KQ];show#[vo ∅,eY aq (hK _ _ ?_)]
  clear hK K;show st ?_;dsimp only[wS,wE,wA,wP,wV,wG,wN];have hs:jV (.tup (ys.map W.str)) gV (ba (a:HR)) (S2++[O.lst (IH b7 (ys.drop a) bs)])=ba (.tup ((ys.take a).map W.str),S2++[O.lst (IH b7 (ys.drop a) bs)]):=by
   simp only[jV,jq];rw[Pi]
  show af hs (vH (hx _ (k1.trans .push)) h64 hne (eY aq ?_));show k (ys.take a) (ys.drop a) _ ?_ ?_ #[?_,?_] ((f1.ka .push).ka .push) (k1.trans (Kp.push.trans .push))
  ·rw[Ju]; omega
  ·rw[JK]; omega
  ·rw[MV]; exact q3
  ·rw[MV]; exact q4
def oO (hfu:20 < fuel)(G:Gen defs){a:Hz}{bs:Ho HR}(hf:Fl S r)(ha:a<=3)(hb:bs.length<=3)
  (k:∀(ms ns:Ho HC) S',ms.length=a->ns.length=bs.length->GoodN ms ns->Fl S' r->Kp r S S'->Q (gl ms ns bs [],S')) :
  wO (aU (ah defs fuel (d+5)) "_law_rule_of" 4 [.ref r,.int a,.tup (cy bs),.tup []] S) Q:=
 rX hfu G hf ha hb (us:=[]) (λ_ _=>rfl) #v[] (λ_ h=>nomatch h) k
def draws {M:HC->FF}{Z:Fm}{elt e:E}{cap:Ho (Hs Hz)}{n i:Hz}{R:Fm}(oe:dz elt=true)(oi:dz e=true)(h1:i<=1000)(hc:ee cap Z=gV::gV::R)(hf:Fl S r)(he:∀Q:QW,Q (.int i,S)->wE M e Z S Q)
  (hp:∀(a:Hs W) (S1:aa) (Q:QW),Fl S1 r->(∀v S',0<=v->v < (n:HR)->Fl S' r->Kp r S1 S'->Q (.int v,S'))->wE M elt (gV::a::R) S1 Q)
  (k:∀(vs:Ho HR) S',vs.length=i->(∀w∈vs,0<=w/\w < (n:HR))->Fl S' r->Kp r S S'->Q (.ref S'.length,S'++[.lst (cy vs)])) :
  Wp (ar M (.comp elt (.nm 1) (.rng #v[e]) .nil cap) Z S) Q:=by
 show ir (i:HR) (λj ys Z2 S3=>(∃a1,Z2=gV::a1::R)/\(∃vs:Ho HR,ys=cy vs/\vs.length=j/\∀w∈vs,0<=w/\w < (n:HR))/\Fl S3 r/\Kp r S S3) oi oe rfl ∅ (he _ #[rfl,#[gV,hc],#[[],rfl,rfl,λ_ h=>nomatch h],hf,.refl]) ?_ ?_
 ·rintro j ys Z2 S3 hj ⟨⟨a1,rfl⟩,⟨vs,rfl,hvl,hv⟩,f3,k3⟩;show#[λ_=>hp _ _ _ f3 λv S4 v0 v1 f4 k4=>#[#[_,rfl],#[vs++[v],(J2 (l₁:=vs) (l₂:=[v])).symm,by rw[HK,hvl]; rfl,λw hw=>?_],f4,k3.trans k4],λz=>by cases z]
  rcases IV.mp hw with h|h
  ·exact hv w h
  ·rw[Iv.mp h]; exact#[v0,v1]
 ·rintro ys Z2 S3 ⟨_,⟨vs,rfl,hvl,hv⟩,f3,k3⟩;rw[Ir]at hvl;exact#[vo (by rw[show(cy vs).length=vs.length from HB ..]; omega),k vs S3 hvl hv f3 k3]
def lE (G:Gen defs){a n:Hz}(hf:Fl S r)(ha:0 < a)(ha3:a<=3)(hn:0 < n)(hn3:n<=3)(k:∀(u:Wd) S',u.length=3->GoodW a n u->Fl S' r->Kp r S S'->Q (bL u,S')) :
  wO (aU (ah defs fuel (d+2)) "_law_free_three" 3 [.ref r,.int a,.int n] S) Q:=by
 show az G.free_three rfl rfl λQ' hR=>?_
 replace k:∀(u:Wd) S',u.length=3->GoodW a n u->Fl S' r->Kp r S S'->Q' (.rt (bL u),S'):=λz S' a b c e=>hR _ _ (k z S' a b c e)
 clear hR;change wZ _ _ bj [ba (.ref r),ba (.int a),ba (.int n),gV,gV] S Q';dsimp only[bj];have hrt:=hf.lt;show st ?_;dsimp only[wS,wE,wA,HZ];nofun
 show iq 3 (λk Z S'=>∃a4 u,Z=[ba (.ref r),ba (.int a),ba (.int n),ba (.ref S.length),a4]/\S'[S.length]?=ba (.lst (u.map dJ))/\u.length=k/\GoodW a n u/\Fl S' r/\Kp r S S') rfl rfl #v[] #[rfl,gV,[],rfl,aq,rfl,.nil,hf.ka .push,.push] ?_ ?_
 ·rintro i Z S1 hi ⟨a4,u,rfl,e1,hul,hu,f1,k1⟩ Q2 hn' _;clear hK;show st ?_;left;show#[jj e1,aL (d:=d) G.pick f1 ∅ ∅ λv S2 v0 v1 f2 k2=>?_]
  have e2:=k2.get _ _ ∅ e1
  show draws (n:=n) (i:=i) (R:=[ba (.ref r),ba (.int n)]) rfl rfl ∅ rfl f2 (λQ q=>q) (λa S1 Q f q=>aL (d:=d) G.pick f ∅ ∅ q) λvs S3 hvl hv f3 k3=>?_
  have e3:=aK (u:=O.lst (cy vs)) (k3.get _ _ ∅ e2)
  show eY aq (m8 e3 (by rw[HB]; omega) (dh (hn' _ _ #[_,u++[(v,vs)],rfl,?_,by rw[HK,hul]; rfl,hu.snoc #[v0,v1] (hvl.trans hul.symm) hv,(f3.ka .push).own hrt,(k1.trans (k2.trans (k3.trans .push))).late (HJ _)])))
  rw[eu e3,J2]; rfl
 ·rintro Z S1 ⟨a4,u,rfl,e1,hul,hu,f1,k1⟩;show hK _ _ (st ?_);left;exact eY e1 (k u _ hul hu f1 k1)
def nq (G:Gen defs)(hg:Is defs ("_law_any_world" : HC) 3 6 aZ){a:Hz}{bs:Ho HR}{ms ns:Ho HC}{b0:W}{many:Hz}(hf:Fl S r)(ha:0 < a)(ha3:a<=3)(hb:GoodB bs)(hml:ms.length=a)(hnl:ns.length=bs.length)(hm:many<=999)(k:∀(u:Wd) S',u.length=many->GoodW a bs.length u->Fl S' r->Kp r S S'->Q (bL u,S')) :
  wO (aU (ah defs fuel (d+2)) "_law_any_world" 3 [.ref r,.tup [.tup (ms.map W.str),.tup (IH b7 ns bs),b0],.int many] S) Q:=by
 show az hg rfl rfl λQ' hR=>?_
 replace k:∀(u:Wd) S',u.length=many->GoodW a bs.length u->Fl S' r->Kp r S S'->Q' (.rt (bL u),S'):=λz S' a b c e=>hR _ _ (k z S' a b c e)
 clear hR;have hb1:1<=bs.length/\bs.length<=3:=by rcases hb with rfl|rfl|rfl|rfl|rfl|rfl <;> decide
 have hzl:(IH b7 ns bs).length=bs.length:=by rw[KU]; omega
 have hmm:(ms.map W.str).length=a:=by rw[HB,hml]
 generalize ms.map W.str=Mqa at hmm;generalize IH b7 ns bs=N at hzl;change wZ _ _ aZ [ba (.ref r),ba (.tup [.tup Mqa,.tup N,b0]),ba (.int many),gV,gV,gV] S Q';dsimp only[aZ];have hrt:=hf.lt;show st ?_;dsimp only[wS,wE,wA,HZ];nofun
 show iq (many:HR) (λk Z S'=>∃a4 a5 u,Z=[ba (.ref r),ba (.tup [.tup Mqa,.tup N,b0]),ba (.int many),ba (.ref S.length),a4,a5]/\S'[S.length]?=ba (.lst (u.map dJ))/\u.length=k/\GoodW a bs.length u/\Fl S' r/\Kp r S S') rfl rfl ∅ #[rfl,gV,gV,[],rfl,aq,rfl,.nil,hf.ka .push,.push] ?_ ?_
 ·rintro i Z S1 hi ⟨a4,a5,u,rfl,e1,hul,hu,f1,k1⟩ Q2 hn' _;clear hK;show st ?_;left;show aM #v[] rfl (br ?_)
  rw[hmm];show aL (d:=d) G.pick f1 ∅ ∅ λv S2 v0 v1 f2 k2=>?_
  have e2:=k2.get _ _ ∅ e1
  show st ?_;left;show#[jj e2,draws (n:=bs.length) (i:=i) (R:=[ba (.ref r),ba (.tup [.tup Mqa,.tup N,b0])]) rfl rfl ∅ rfl f2 (λQ q=>q) (λa S1 Q f q=>?_) λvs S3 hvl hv f3 k3=>?_]
  ·dsimp only[wE,wA,wV,wG];show aM #v[] rfl (br ?_)
   rw[hzl];exact aL (d:=d) G.pick f ∅ ∅ q
  have e3:=aK (u:=O.lst (cy vs)) (k3.get _ _ ∅ e2)
  show eY aq (m8 e3 (by rw[HB]; omega) (dh (hn' _ _ #[_,_,u++[(v,vs)],rfl,?_,by rw[HK,hul]; rfl,hu.snoc #[v0,v1] (hvl.trans hul.symm) hv,(f3.ka .push).own hrt,(k1.trans (k2.trans (k3.trans .push))).late (HJ _)])))
  rw[eu e3,J2]; rfl
 ·rintro Z S1 ⟨a4,a5,u,rfl,e1,hul,hu,f1,k1⟩;show hK _ _ (st ?_);left;exact eY e1 (k u _ ∅ hu f1 k1)
end
abbrev oP (n:Hz):Ho HR:=(IJ n).map λ(k:Hz)=>(k:HR)
abbrev vL (a n:Hz):Ho Wd:=(oP a).flatMap λm0=>(oP a).flatMap λm1=>(oP a).flatMap λm2=>(oP n).flatMap λw1=>(oP n).flatMap λw2=>(oP n).map λw3=>[(m0,[]),(m1,[w1]),(m2,[w2,w3])]
abbrev bd (a:Hz)(bs:Ho HR):Ho Wd:=((vL a bs.length).map (jG bs)).eraseDups
def de {n:Hz}{x:HR}(h0:0<=x)(h1:x < n):x∈oP n:=IS.mpr #[x.toNat,Jp.mpr ∅,∅]
def rY {a n:Hz}{u:Wd}(h:GoodW a n u)(h3:u.length=3):u∈vL a n:=by
 match u,h3 with
 | [(m0,w0),(m1,w1),(m2,w2)],_=>
  have l0:=h.len 0 _ rfl;have l1:=h.len 1 _ rfl;have l2:=h.len 2 _ rfl;simp only at l0 l1 l2
  match w0,l0 with
  | [],_=>
   match w1,l1 with
   | [x],_=>
    match w2,l2 with
    | [y,z],_=>
     have a0:=h.mark 0 _ rfl;have a1:=h.mark 1 _ rfl;have a2:=h.mark 2 _ rfl;have b1:=h.way 1 _ rfl x (by simp)
     have b2:=h.way 2 _ rfl y (by simp)
     have b3:=h.way 2 _ rfl z (by simp)
     unfold vL;simp only[List.mem_flatMap,IS];exact#[m0,de a0.1 a0.2,m1,de a1.1 a1.2,m2,de a2.1 a2.2,x,de b1.1 b1.2,y,de b2.1 b2.2,z,de b3.1 b3.2,rfl]
def yL {a:Hz}{bs:Ho HR}{u:Wd}(h:GoodW a bs.length u)(h3:u.length=3):jG bs u∈bd a bs:=by
 unfold bd;rw[NH];exact IS.mpr #[u,rY h h3,rfl]
structure SizeOk (a:Hz)(bs:Ho HR):Prop where
 pos:0 < a
 good:GoodB bs
 most:a*bs.length<=6
 a3:a<=3
def SizeOk.n3 {a:Hz}{bs:Ho HR}(h:SizeOk a bs):0 < bs.length/\bs.length<=3:=by
 rcases h.good with rfl|rfl|rfl|rfl|rfl|rfl <;> decide
def CB:(bd 1 [0]).length < 64/\(bd 2 [0]).length < 64/\(bd 3 [0]).length < 64:=by decide +kernel
def E9:(bd 1 [0,1]).length < 64/\(bd 2 [0,1]).length < 64/\(bd 1 [1,0]).length < 64/\(bd 2 [1,0]).length < 64:=by decide +kernel
def EJ:(bd 1 [0,1,2]).length < 64/\(bd 1 [1,0,2]).length < 64/\(bd 1 [0,2,1]).length < 64:=by decide +kernel
def Gv:(bd 3 [0,1]).length < 64:=by decide +kernel
def Gw:(bd 3 [1,0]).length < 64:=by decide +kernel
def Gx:(bd 2 [0,1,2]).length < 64:=by decide +kernel
def Gy:(bd 2 [1,0,2]).length < 64:=by decide +kernel
def Gz:(bd 2 [0,2,1]).length < 64:=by decide +kernel
def qu {a:Hz}{bs:Ho HR}(h:SizeOk a bs):(bd a bs).length < 64:=by
 obtain⟨h0,hb,hm,h3⟩:=h;have ha:a=1\/a=2\/a=3:=∅
 rcases hb with rfl|rfl|rfl|rfl|rfl|rfl <;> rcases ha with rfl|rfl|rfl
 ·exact CB.1
 ·exact CB.2.1
 ·exact CB.2.2
 ·exact E9.1
 ·exact E9.2.1
 ·exact Gv
 ·exact E9.2.2.1
 ·exact E9.2.2.2
 ·exact Gw
 ·exact EJ.1
 ·exact Gx
 ·simp at hm
 ·exact EJ.2.1
 ·exact Gy
 ·simp at hm
 ·exact EJ.2.2
 ·exact Gz
 ·simp at hm
def vM (bs:Ho HR)(u:Wd):∃t∈aQ,jG bs u=bc bs u t:=by
 have h7:(aQ.map (bc bs u)).length=6:=by rw[HB]; rfl
 have h8:((aQ.map (bc bs u)).map eZ).length=6:=by rw[HB,h7]
 have hlt:n4 ((aQ.map (bc bs u)).map eZ) < (aQ.map (bc bs u)).length:=by
  unfold n4;have h6:=fE (zo ((aQ.map (bc bs u)).map eZ)) (((aQ.map (bc bs u)).map eZ).length - 1);rw[h7]; omega
 unfold jG;rw[getD_some (HI hlt)];obtain⟨t,ht,e⟩:=IS.mp (Jl hlt);exact#[t,ht,e.symm]
def yM (bs:Ho HR)(u:Wd):jG bs u≠[]:=by
 obtain⟨t,ht,e⟩:=vM bs u;rw[e];have:∀t∈aQ,t≠[]:=by decide
 have h:=this t ht;intro z;have hl:(bc bs u t).length=t.length:=by simp[bc]
 rw[z]at hl;exact h (J0.mp hl.symm)
def nr:∀ {xs ys:Ho HR},xs.map T.int=ys.map T.int->xs=ys
 | [],[],_=>rfl
 | [],_::_,h=>by cases h
 | _::_,[],h=>by cases h
 | x::xs,y::ys,h=>by
  rw[IT,IT]at h;injection h with h1 h2
  injection h1 with h1
  rw[h1,nr h2]
def yN {p q:Pt}(h:nh p=nh q):p=q:=by
 unfold nh at h;injection h with h
 injection h with h1 h2
 injection h1 with h1
 injection h2 with h2 _
 injection h2 with h2
 exact PD h1 (nr h2)
def yO {u v:Wd}(h:eZ u=eZ v):u=v:=by
 unfold eZ at h;injection h with h
 have inj:∀ {u v:Wd},u.map nh=v.map nh->u=v:=by
  intro u
  induction u with
  | nil=>intro v h; cases v with
   | nil=>rfl
   | cons _ _=>cases h
  | cons p u ih=>intro v h; cases v with
   | nil=>cases h
   | cons q v=>
    rw[IT,IT]at h;injection h with h1 h2
    rw[yN h1,ih h2]
 exact inj h
def kz {U:Ho (T×W)}{k:T}{v:W}:(fu U k v).map (·.1)=if k∈U.map (·.1)then U.map (·.1)else U.map (·.1)++[k]:=by
 have hany:(U.any λp=>decide (p.1=k))=decide (k∈U.map (·.1)):=by
  induction U with
  | nil=>rfl
  | cons p U ih=>
   rw[JB,ih,IT]
   by_cases e:p.1=k
   ·subst e; simp
   ·rw[Ik e,Mo];have:(k∈p.1::U.map (·.1))=(k∈U.map (·.1)):=by simp[Ne.symm e]
    simp only[this]
 unfold fu;rw[hany]
 by_cases h:k∈U.map (·.1)
 ·rw[HN h,HN (Ji h),Ky];show Ks λp _=>?_
  show(if p.1=k then(p.1,v)else p).1=p.1
  split <;> rfl
 ·rw[HY h,HY (by simpa using h),J2]
  rfl
structure FigD (L:Ho Wd)(U:Ho (T×W))(fs:Ho Wd):Prop where
 keys:U.map (·.1)=fs.map eZ
 nd:fs.Nodup
 mem:∀f∈fs,f∈L
def FigD.nil {L:Ho Wd}:FigD L [] []:=#[rfl,M6,λ_ h=>nomatch h]
def FigD.len {L:Ho Wd}{U:Ho (T×W)}{fs:Ho Wd}(h:FigD L U fs):U.length=fs.length/\fs.length<=L.length:=by
 have:=congrArg PC h.keys;rw[HB,HB]at this;exact#[this,oK fs L h.nd h.mem]
def FigD.put {L:Ho Wd}{U:Ho (T×W)}{fs:Ho Wd}{f:Wd}{v:W}(h:FigD L U fs)(hf:f∈L):∃fs',FigD L (fu U (eZ f) v) fs':=by
 by_cases hm:f∈fs
 ·show#[fs,?_,h.nd,h.mem];rw[kz,HN (by rw[h.keys]; exact IS.mpr #[f,hm,rfl]),h.keys]
 ·show#[fs++[f],?_,?_,λg hg=>?_]
  ·rw[kz,HY,h.keys,J2]
   ·rfl
   ·rw[h.keys];intro z;obtain⟨g,hg,e⟩:=IS.mp z;exact hm (yO e ▸ hg)
  ·rw[N8];show#[h.nd,by simp,λa ha b hb e=>?_]
   rw[Iv.mp hb]at e;exact hm (e ▸ ha)
  ·rcases IV.mp hg with h'|h'
   ·exact h.mem g h'
   ·rw[Iv.mp h']; exact hf
def FigD.items {S:aa}{t:Hz}{L:Ho Wd}{U:Ho (T×W)}{fs:Ho Wd}(h:FigD L U fs)(e:S[t]?=ba (.dic U)):dY S (.ref t)=ba (fs.map bL):=by
 simp only[dY,yq e,yp e,IW];congr 1;have:(U.map (·.1)).map T.w=(fs.map eZ).map T.w:=by rw[h.keys]
 rw[Ky,Ky]at this
 calc U.map (λp=>p.1.w)=U.map (T.w∘λx=>x.1):=rfl
  _=fs.map (T.w∘eZ):=this
  _=fs.map bL:=by
   show Ks λf _=>?_
   exact vz f
def vN {a:Hz}{bs:Ho HR}{f:Wd}(h:f∈bd a bs):f≠[]:=by
 unfold bd at h;rw[NH]at h;obtain⟨u,_,rfl⟩:=IS.mp h;exact yM bs u
def EK {S:aa}{t:Hz}{U:Ho (T×W)}{u:Wd}{v:W}(h:S[t]?=ba (.dic U))(hl:U.length < sizeLine):g8 (.ref t) (bL u) v S=ba (S.set t (.dic (fu U (eZ u) v))):=by
 have hk:=B8 u;unfold bL at hk ⊢
 (dsimp only[g8,l5]; simp only[h,hk])
 rw[HN hl]
structure RuleAt (a:Hz)(bs:Ho HR)(ms ns:Ho HC)(gs:Ho Wd):Prop where
 size:SizeOk a bs
 ml:ms.length=a
 nl:ns.length=bs.length
 nm:GoodN ms ns
 nd:gs.Nodup
 mem:∀g∈gs,g∈bd a bs
abbrev oQ (w:W):Prop:=∃a bs ms ns gs,w=gl ms ns bs (ju gs)/\RuleAt a bs ms ns gs
section
variable{M:HC->FF}{fuel:Hz}{Z:Fm}{S:aa}{K:Fm->aa->Prop}{Q:QO}
def jw {i0:Hz}{e:E}{b:Ss}(oe:dz e=true)(ok:fU b=true)(he:wE M e Z S λp=>∃(j:HR) (I:Hz->Fm->aa->Prop),p.1=.int j/\(-(2 ^ 62)<=j/\j < 2 ^ 62)/\I 0 Z p.2/\
  (∀(i:Hz) (Z:Fm) (S:aa),(i:HR) < j->I i Z S->B3 M fuel b (Z.set i0 (ba (.int i))) S (I (i+1)) Q)/\∀Z S,I j.toNat Z S->K Z S):Wp (bv M fuel (.loop (.nm i0) (.rng #v[e]) b) Z S) (mV K Q):=by
 obtain⟨w,S1,e1,j,I,rfl,hj,h0,hs,hend⟩:=cN oe he;have hl:(cZ 0 j.toNat).length=j.toNat:=by simp[cZ]
 show jl (mi:=.its (cZ 0 j.toNat)) (S1:=S1) (xs:=cZ 0 j.toNat) I ok ?_ (λ_ _ _ _=>rfl) rfl h0 (λi w Z S hw hI=>?_) λZ S hI=>hend Z S (hl ▸ hI)
 ·(dsimp only[j9,aX,cr,g9,ol]; simp only[e1])
  rw[HN hj]
 ·rw[d8]at hw;split at hw
  ·rename_i hk;cases hw;rw[MC];exact hs i Z S ∅ hI
  ·cases hw
def vO {tg:Tg}{e:E}{b:Ss}(oe:dz e=true)(ok:fU b=true)(he:wE M e Z S λp=>∃(t:Hz) (xs:Ho W) (I:Hz->Fm->aa->Prop),p.1=.ref t/\I 0 Z p.2/\(∀i Z S,I i Z S->S[t]?=ba (.lst xs))/\
  (∀(i:Hz) (w:W) (Z:Fm) (S:aa),xs[i]?=ba w->I i Z S->wO (lK tg w Z S) λq=>B3 M fuel b q.1 q.2 (I (i+1)) Q)/\∀Z S,I xs.length Z S->K Z S):Wp (bv M fuel (.loop tg (.seq e) b) Z S) (mV K Q):=by
 obtain⟨w,S1,e1,t,xs,I,rfl,h0,hat,hs,hend⟩:=cN oe he;exact jl (mi:=.live t) (S1:=S1) I ok (by simp only[j9,eU,e1,aT (hat _ _ _ h0)]) (λi Z S h=>by simp only[MI.at,aT (hat _ _ _ h)]) (by simp only[MI.len,aT (hat _ _ _ h0),IW]) h0 hs hend
end
section
variable{defs:Ho (HC×Df)}{fuel d:Hz}{S:aa}{r:Hz}{Q:QW}
def EM {q:Hz}{a:Hz}{bs:Ho HR}{ms ns:Ho HC}{fs0:Ho Wd}{U:Ho (T×W)}{fs:Ho Wd}(h3:S[q]?=ba (.dic U))(h4:FigD (bd a bs) U fs)(hs:SizeOk a bs)(hml:ms.length=a)(hnl:ns.length=bs.length)(hnm:GoodN ms ns)(k:∀w S',oQ w->Ka S S'->Q (w,S')) :
  wO (iP (gl ms ns bs fs0) (.int 0) S) λp=>wO (iP (gl ms ns bs fs0) (.int 1) p.2) λq'=>wO (Bi.sorted.fn [.ref q] q'.2) λs=>wO (Bi.tuple.fn [s.1] s.2) λz=>Q (.tup [p.1,q'.1,z.1],z.2):=by
 show aM #v[] rfl (aM #v[] rfl ?_)
 have hl:=h4.len;exact vH (h4.items h3) (by have:=qu hs; omega) (λf hf=>vN (h4.mem f hf)) (eY aq (k _ _ #[a,bs,ms,ns,fs,rfl,hs,hml,hnl,hnm,h4.nd,h4.mem] .push))
def EN {q:Hz}{a:Hz}{bs:Ho HR}{u:Wd}{U:Ho (T×W)}{fs:Ho Wd}{Q:aa->Prop}(h3:S[q]?=ba (.dic U))(h4:FigD (bd a bs) U fs)(hs:SizeOk a bs)(hu:GoodW a bs.length u)(hu3:u.length=3)
  (k:∀o,(∃U fs,(S.set q o)[q]?=ba (.dic U)/\FigD (bd a bs) U fs)->Q (S.set q o)):wO (g8 (.ref q) (bL (jG bs u)) (.bl true) S) Q:=by
 have hl:=h4.len;have:=qu hs;obtain⟨fs',h5⟩:=h4.put (v:=.bl true) (yL hu hu3);exact af (EK h3 (by rw[IN]; omega)) (k _ #[_,fs',eu h3,h5])
end
abbrev Tr:Hz->W->Prop
 | _,.int _=>NK
 | _,.str _=>NK
 | _,.non=>NK
 | n+1,.tup xs=>xs.length<=1000/\∀x∈xs,Tr n x
 | _,_=>ID
def kA:∀n:Hz,dq (Iq n (.bl true))=ba (Iq n true)
 | 0=>rfl
 | n+1=>by rw[Jx,dq,kA n]; rfl
def yP (n:Hz):(Iq n true).all id=true:=by
 rw[Ih];intro x hx;rw[(List.mem_replicate.mp hx).2]; rfl
section
variable{defs:Ho (HC×Df)}{fuel:Hz}
def yQ (hg:Is defs ("_law_alike" : HC) 2 2 bg):∀(n d:Hz) (w:W) (S:aa) (Q:QW),Tr n w->(∀S',Ka S S'->Q (.bl true,S'))->wO (aU (ah defs fuel (d+n+1)) "_law_alike" 2 [w,w] S) Q:=by
 intro n
 induction n with
 | zero=>
  intro d w S Q hw k;show az hg rfl rfl λQ' hR=>?_
  replace k:=hR _ _ (k S .refl);clear hR;change wZ _ _ bg [ba w,ba w] S Q';dsimp only[bg];cases w with
  | int x=>
   show bn λK hK=>cx (λQ q=>q) (hK _ _ ?_)
   show bn λK hK=>cx (λQ q=>#[λz=>(by cases z),λ_=>q]) (hK _ _ ?_)
   show bn λK hK=>kn (λQ q=>q) λQ2 _ hr=>st ?_
   dsimp only[wS,wE,wV,wG];show af (show nA S (.int x) "int" = ba true from rfl) #[λ_=>?_,λz=>by cases z]
   dsimp only[mT,bT];rw[IP];exact hr _ _ k
  | str x=>
   show bn λK hK=>cx (λQ q=>q) (hK _ _ ?_)
   show bn λK hK=>cx (λQ q=>#[λz=>(by cases z),λ_=>q]) (hK _ _ ?_)
   show bn λK hK=>cx (λQ q=>q) (hK _ _ ?_)
   show bn λK hK=>kn (λQ q=>q) λQ2 _ hr=>st ?_
   dsimp only[wS,wE,wV,wG];show af (show nA S (.str x) "str" = ba true from rfl) #[λ_=>?_,λz=>by cases z]
   dsimp only[zI,bT];rw[IP];exact hr _ _ k
  | non=>
   show bn λK hK=>kn (λQ q=>q) λQ2 _ hr=>st ?_
   dsimp only[wS,wE,wV,wG];exact af (show cV .is .non .non S=ba (.bl true,S)from rfl) (hr _ _ k)
  | _=>exact hw.elim
 | succ n ih=>
  intro d w S Q hw k;show az hg rfl rfl λQ' hR=>?_
  replace k:∀S',Ka S S'->Q' (.rt (.bl true),S'):=λS' a=>hR _ _ (k S' a)
  clear hR;change wZ _ _ bg [ba w,ba w] S Q';dsimp only[bg];cases w with
  | int x=>
   show bn λK hK=>cx (λQ q=>q) (hK _ _ ?_)
   show bn λK hK=>cx (λQ q=>#[λz=>(by cases z),λ_=>q]) (hK _ _ ?_)
   show bn λK hK=>kn (λQ q=>q) λQ2 _ hr=>st ?_
   dsimp only[wS,wE,wV,wG];show af (show nA S (.int x) "int" = ba true from rfl) #[λ_=>?_,λz=>by cases z]
   dsimp only[mT,bT];rw[IP];exact hr _ _ (k _ .refl)
  | str x=>
   show bn λK hK=>cx (λQ q=>q) (hK _ _ ?_)
   show bn λK hK=>cx (λQ q=>#[λz=>(by cases z),λ_=>q]) (hK _ _ ?_)
   show bn λK hK=>cx (λQ q=>q) (hK _ _ ?_)
   show bn λK hK=>kn (λQ q=>q) λQ2 _ hr=>st ?_
   dsimp only[wS,wE,wV,wG];show af (show nA S (.str x) "str" = ba true from rfl) #[λ_=>?_,λz=>by cases z]
   dsimp only[zI,bT];rw[IP];exact hr _ _ (k _ .refl)
  | tup xs=>
   obtain⟨hl,hx⟩:=hw;show bn λK hK=>cx (λQ q=>q) (hK _ _ ?_)
   show bn λK hK=>cx (λQ q=>#[λz=>(by cases z),λ_=>q]) (hK _ _ ?_)
   show bn λK hK=>cx (λQ q=>q) (hK _ _ ?_)
   show bn λK hK=>cx (λQ q=>q) (hK _ _ ?_)
   show bn λK hK=>cx (λQ q=>#[λz=>(by cases z),λ_=>q]) (hK _ _ ?_)
   show st ?_;left;show br (br ?_);dsimp only[mT,bT,wB];rw[IP];show#[λ_=>?_,λz=>by cases z]
   show ir (xs.length:HR) (λi ys Z2 S2=>(∃a1,Z2=[gV,a1,ba (.tup xs),ba (.tup xs)])/\ys=Iq i (.bl true)/\Ka S S2) rfl rfl rfl ∅ ?_ ?_ ?_
   ·dsimp only[wE,wA,wV,wG];exact br #[rfl,#[gV,rfl],rfl,.refl]
   ·rintro i ys Z2 S2 hi ⟨⟨a1,rfl⟩,rfl,k2⟩;have hi':i < xs.length:=∅
    dsimp only[m6,wC,wE,wA,wV,wG,HZ];show#[λ_=>aM (IR i) (by rw[Ir]; exact HI hi') (aM (IR i) (by rw[Ir]; exact HI hi') (ih d _ _ _ (hx _ (Jl hi')) λS3 k3=>#[#[_,rfl],?_,k2.trans k3])),λz=>by cases z]
    rw[List.replicate_succ']
   ·rintro ys Z2 S2 ⟨_,rfl,k2⟩;rw[Ir];show#[vo (by rw[MP]; exact hl),af (a:=(.bl true,S2++[.lst (Iq xs.length (.bl true))])) ?_ (k _ (k2.trans .push))]
    (dsimp only[Bi.fn,xD]; simp only[aT aq,kA,IW,yP])
  | non=>
   show bn λK hK=>kn (λQ q=>q) λQ2 _ hr=>st ?_
   dsimp only[wS,wE,wV,wG];exact af (show cV .is .non .non S=ba (.bl true,S)from rfl) (hr _ _ (k _ .refl))
  | _=>exact hw.elim
end
def vP {xs:Ho W}:fq xs gV (ba (-1))=xs.dropLast:=by
 unfold fq;rw[HT.iD,O1,Px,List.dropLast_eq_take];congr 1;show(if (-1:HR) < 0 then((-1:HR)+(xs.length:HR)).toNat else min (-1:HR).toNat xs.length)=_
 rw[HN #v[]]; omega
section
variable{defs:Ho (HC×Df)}{fuel d:Hz}{S:aa}{Q:QW}
def vQ {n:Hz}(h:n<=1000000):n<=sizeLine:=by rw[IN]; omega
end
section
variable{M:HC->FF}{Z:Fm}{S:aa}
def Ce {α:Type}{elt:E}{tg:Tg}{it:Ie}{cs:Es}{cap:Ho (Hs Hz)}{mi:MI}{S1:aa}{Q:QW}(L:Ho α)(f:α->W)(p:α->HP)(g:α->W)(Jqa:Fm->Prop)(fr:α->Fm)(hJ:∀x Z S,Jqa Z->lK tg (f x) Z S=ba (fr x,S)/\Jqa (fr x))(oe:dz elt=true)(oc:mW cs=true)(hc:Jqa (ee cap Z))(hl:L.length<=1000000)(hi:j9 M it Z S=ba (mi,S1))(k1:Ka S S1)(hat:∀i S',Ka S1 S'->mi.at S' i=ba (L.map f)[i]?)(hn:mi.len S1=ba (L.map f).length)
  (hstep:∀x∈L,∀S',Ka S S'->m6 M elt cs (fr x) S' (λy _ S2=>p x=true/\y=g x/\Ka S' S2) (λ_ S2=>p x=false/\Ka S' S2))
  (k:∀S',Ka S S'->Q (.ref S'.length,S'++[.lst ((L.filter p).map g)])):Wp (ar M (.comp elt tg it cs cap) Z S) Q:=by
 rw[uX];show#[_,hi,_,hn,?_];show(b9 (xs:=L.map f) (Q:=λq=>q.1.length<=sizeLine/\Q (.ref q.2.length,q.2++[.lst q.1])) (λi ys Z' S'=>Jqa Z'/\ys=((L.take i).filter p).map g/\Ka S1 S') (λi ys Z' S' h=>hat i S' h.2.2) (λi w ys Z' S' hw h=>?_) (λys Z' S' h=>?_) (L.map f).length 0 [] _ S1 ∅ #[hc,rfl,.refl]).mono λq hq=>by simpa using hq
 ·obtain⟨hj,rfl,k2⟩:=h;rw[HQ,Hx]at hw;obtain⟨x,hx,rfl⟩:=hw;obtain⟨h1,h2⟩:=hJ x Z' S' hj;show#[_,h1,?_];show(zP oc (hstep x (Jq hx) S' (k1.trans k2))).mono λc hc=>#[λz=>(aB elt oe (hc.1 z)).mono λy hy=>#[h2,?_,k2.trans hy.2.2],λz=>#[h2,?_,k2.trans (hc.2 z).2]]
  ·rw[Kl,hx,NI,show(Pj (ba x)).filter p=[x]from List.filter_cons_of_pos hy.1,J2,hy.2.1]; rfl
  ·rw[Kl,hx,NI,show(Pj (ba x)).filter p=[]from List.filter_cons_of_neg (by rw[(hc.2 z).1]; exact HS),JD]
 ·obtain⟨_,rfl,k2⟩:=h;dsimp only;rw[show(L.map f).length=L.length from HB ..,KQ]
  show#[vQ ?_,k S' (k1.trans k2)];rw[HB];exact Ix (List.length_filter_le _ _) hl
def vR {α:Type}{elt:E}{it:Ie}{cs:Es}{cap:Ho (Hs Hz)}{mi:MI}{S1:aa}{Q:QW}(L:Ho α)(f:α->W)(p:α->HP)(g:α->W)(R:Fm)(oe:dz elt=true)(oc:mW cs=true)(hc:ee cap Z=gV::gV::R)(hl:L.length<=1000000)(hi:j9 M it Z S=ba (mi,S1))(k1:Ka S S1)(hat:∀i S',Ka S1 S'->mi.at S' i=ba (L.map f)[i]?)(hn:mi.len S1=ba (L.map f).length)
  (hstep:∀x∈L,∀S',Ka S S'->m6 M elt cs (gV::ba (f x)::R) S' (λy _ S2=>p x=true/\y=g x/\Ka S' S2) (λ_ S2=>p x=false/\Ka S' S2))
  (k:∀S',Ka S S'->Q (.ref S'.length,S'++[.lst ((L.filter p).map g)])):Wp (ar M (.comp elt (.nm 1) it cs cap) Z S) Q:=
 Ce L f p g (λZ=>∃a,Z=gV::a::R) (λx=>gV::ba (f x)::R) (λ_ _ _ h=>let ⟨_,e⟩:=h; e ▸ #[rfl,_,rfl]) oe oc #[_,hc] hl hi k1 hat hn hstep k
def oR {α:Type}{elt e:E}{cs:Es}{cap:Ho (Hs Hz)}{Q:QW}(L:Ho α)(f:α->W)(p:α->HP)(g:α->W)(R:Fm)(oi:dz e=true)(oe:dz elt=true)(oc:mW cs=true)(hc:ee cap Z=gV::gV::R)(hl:L.length<=1000000)
  (he:wE M e Z S λq=>q.1=.tup (L.map f)/\Ka S q.2)
  (hstep:∀x∈L,∀S',Ka S S'->m6 M elt cs (gV::ba (f x)::R) S' (λy _ S2=>p x=true/\y=g x/\Ka S' S2) (λ_ S2=>p x=false/\Ka S' S2))
  (k:∀S',Ka S S'->Q (.ref S'.length,S'++[.lst ((L.filter p).map g)])):Wp (ar M (.comp elt (.nm 1) (.seq e) cs cap) Z S) Q:=by
 obtain⟨w,S1,e1,rfl,k1⟩:=cN oi he;exact vR (mi:=.its (L.map f)) L f p g R oe oc hc hl (by simp only[j9,eU,e1]) k1 (λ_ _ _=>rfl) rfl hstep k
def nu (n:Hz):cZ 0 n=(IJ n).map λi=>W.int (i:Hz):=by
 unfold cZ;show Ks λi _=>?_
 rw[MC]
def Cf {elt e:E}{cs:Es}{cap:Ho (Hs Hz)}{Q:QW}(n:Hz)(p:Hz->HP)(g:Hz->W)(R:Fm)(oi:dz e=true)(oe:dz elt=true)(oc:mW cs=true)(hc:ee cap Z=gV::gV::R)(hl:n<=1000000)
  (he:wE M e Z S λq=>q.1=.int n/\Ka S q.2)
  (hstep:∀x < n,∀S',Ka S S'->m6 M elt cs (gV::ba (.int (x:Hz))::R) S' (λy _ S2=>p x=true/\y=g x/\Ka S' S2) (λ_ S2=>p x=false/\Ka S' S2))
  (k:∀S',Ka S S'->Q (.ref S'.length,S'++[.lst (((IJ n).filter p).map g)])):Wp (ar M (.comp elt (.nm 1) (.rng #v[e]) cs cap) Z S) Q:=by
 obtain⟨w,S1,e1,rfl,k1⟩:=cN oi he;show vR (mi:=.its (cZ 0 n)) (IJ n) (λi=>W.int (i:Hz)) p g R oe oc hc (by rw[Kk]; exact hl) ?_ k1 (λi S' _=>by rw[<- nu]; rfl) (by rw[<- nu]; rfl) (λx hx=>hstep x (Jp.mp hx)) k
 simp only[j9,aX,cr,g9,ol,e1];rw[HN #[∅,∅]]; rfl
def jx {α:Type}(L:Ho α):L.filter (λ_=>true)=L:=List.filter_eq_self.mpr λ_ _=>rfl
end
abbrev dE:Ss:=
 #v[.ret (.and (.isi "int" (.v 0)) (.not (.isi "bool" (.v 0))))]
abbrev bV:Ss:=
 #v[.ret (.and (.isi "tuple" (.v 0)) (.cmp .eq (.bi .len #v[.v 0]) (.v 1)))]
abbrev ce:Ss:=
 #v[.ret (.and (.own "is_tuple_of" 2 #v[.v 0,.v 1]) (.bi .all #v[.comp (.own "is_whole" 1 #v[.v 1]) (.nm 1) (.seq (.v 0)) .nil [gV,gV]]))]
abbrev dF:Ss:=
 #v[.ite (.not (.own "has_point_form" 2 #v[.v 1,.v 2])) #v[.ret (.c (.bl false))] .nil,.set 3 (.chn .le .lt (.c (.int 0)) (.ix (.v 1) (.c (.int 0))) (.bi .len #v[.ix (.v 0) (.c (.int 0))])),.ret (.and (.v 3) (.bi .all #v[.comp (.chn .le .lt (.c (.int 0)) (.v 1) (.bi .len #v[.ix (.v 2) (.c (.int 1))])) (.nm 1) (.seq (.ix (.v 1) (.c (.int 1)))) .nil [gV,gV,ba 0]]))]
abbrev bo:Ss:=
 #v[.ret (.and (.own "is_tuple_of" 2 #v[.v 0,.c (.int 2)]) (.and (.own "is_whole" 1 #v[.ix (.v 0) (.c (.int 0))]) (.own "is_numbers" 2 #v[.ix (.v 0) (.c (.int 1)),.v 1])))]
structure GoodP (a n k:Hz)(p:Pt):Prop where
 mark:0<=p.1/\p.1 < a
 len:p.2.length=k
 way:∀w∈p.2,0<=w/\w < (n:HR)
structure Knd (defs:Ho (HC×Df)):Prop where
 whole:Is defs ("is_whole" : HC) 1 1 dE
 tup:Is defs ("is_tuple_of" : HC) 2 2 bV
 nums:Is defs ("is_numbers" : HC) 2 2 ce
 point:Is defs ("is_point" : HC) 3 4 dF
 form:Is defs ("has_point_form" : HC) 2 2 bo
inductive Thg (S:aa):W->Prop
 | non:Thg S .non
 | bl {b:HP}:Thg S (.bl b)
 | int {i:HR}:Thg S (.int i)
 | str {x:HC}:Thg S (.str x)
 | tup {xs:Ho W} (h:∀x∈xs,Thg S x) (hl:xs.length<=100):Thg S (.tup xs)
 | lst {l:Hz} (h:∃xs,S[l]?=ba (O.lst xs)):Thg S (.ref l)
def Thg.mono {S S':aa}{w:W}(h:Thg S w)(k:∀l:Hz,(∃xs,S[l]?=ba (O.lst xs))->∃xs,S'[l]?=ba (O.lst xs)):Thg S' w:=by
 induction h with
 | non=>exact .non
 | bl=>exact .bl
 | int=>exact .int
 | str=>exact .str
 | tup h hl ih=>exact .tup ih hl
 | lst h=>exact .lst (k _ h)
def Thg.ka {S S':aa}{w:W}(h:Thg S w)(k:Ka S S'):Thg S' w:=h.mono λ_ #[xs,e]=>#[xs,k.get _ _ e]
def Thg.kp {S S':aa}{w:W}{r:Hz}(h:Thg S w)(k:Kp r S S')(f:Fl S' r):Thg S' w:=h.mono λl #[xs,e]=>by
 by_cases z:l=r
 ·subst z;obtain⟨_,_,_,_,_,_,f⟩:=f;exact#[_,f.at_r]
 ·exact#[xs,k.get _ _ z e]
def Thg.pt {S:aa}{p:Pt}(h:p.2.length<=100):Thg S (dJ p):=.tup (λx hx=>by
 rcases Ij.mp hx with rfl|hx
 ·exact .int
 ·cases Iv.mp hx;show .tup (λy hy=>?_) (by rw[HB]; exact h)
  obtain⟨i,_,rfl⟩:=IS.mp hy;exact .int) (II rfl)
abbrev Cg:W->HP|.tup _=>true|_=>false
abbrev rZ:W->HP|.int _=>true|_=>false
abbrev EO:W->HP|.bl _=>true|_=>false
def lF {S:aa}{l:Hz}{c:Jb}(h:∃xs,S[l]?=ba (.lst xs))(hc:mG.contains c=true):nA S (.ref l) c=ba ("list" == c||("list" == "bool" && c == "int")):=by
 obtain⟨xs,e⟩:=h;have e2:E7 S (.ref l)=ba "list":=by simp only[E7,aT e]
 unfold nA;rw[e2];exact HN hc
def Thg.t {S:aa}{w:W}(h:Thg S w):nA S w "tuple" = ba (Cg w):=by
 cases h with
 | lst h=>exact lF h rfl
 | _=>rfl
def Thg.n {S:aa}{w:W}(h:Thg S w):nA S w "int" = ba (rZ w||EO w):=by
 cases h with
 | lst h=>exact lF h rfl
 | _=>rfl
def Thg.b {S:aa}{w:W}(h:Thg S w):nA S w "bool" = ba (EO w):=by
 cases h with
 | lst h=>exact lF h rfl
 | _=>rfl
abbrev jH (p:Prop):HP:=@decide p (K9 p)
def dG {p:Prop}:jH p=true↔p:=@decide_eq_true_iff p (K9 p)
def qv {p:Prop}(h:p):jH p=true:=dG.mpr h
def EQ {p:Prop}(h:¬ p):jH p=false:=Mj.mpr λz=>h (dG.mp z)
def lG {p:Prop}{b:HP}(h:b=true↔p):jH p=b:=by
 cases b
 ·exact EQ λz=>HS (h.mpr z)
 ·exact qv (h.mp rfl)
def oS (L:Ho HP):dq (L.map W.bl)=ba L:=by
 induction L with
 | nil=>rfl
 | cons b L ih=>rw[IT]; dsimp only[dq]; rw[ih]; rfl
def oU {S:aa}{l:Hz}{L:Ho HP}{Q:QW}(h:S[l]?=ba (.lst (L.map W.bl)))(q:Q (.bl (L.all id),S)):wO (Bi.all.fn [.ref l] S) Q:=by
 show af ?_ q;simp only[Bi.fn,xD,aT h,oS,IW]
abbrev Ch (n:Hz):W->HP|.tup xs=>xs.length==n|_=>false
def qw:∀ {ws:Ho W},ws.all rZ=true->∃zs:Ho HR,ws=zs.map W.int
 | [],_=>#[[],rfl]
 | w::ws,h=>by
  rw[Io,Hu]at h;obtain⟨zs,rfl⟩:=qw h.2;cases w with
  | int i=>exact#[i::zs,rfl]
  | _=>cases h.1
def vS {zs:Ho HR}:(zs.map W.int).all rZ=true:=Ih.mpr λx hx=>by
 obtain⟨i,_,rfl⟩:=IS.mp hx; rfl
def oV {p q:Pt}(h:dJ p=dJ q):p=q:=by
 unfold dJ at h;injection h with h
 injection h with h1 h2
 injection h1 with h1
 injection h2 with h2 _
 injection h2 with h2
 have:p.2=q.2:=(List.map_inj_right λx y z=>by injection z).mp h2
 exact PD h1 this
def vT {S:aa}{x:HR}{n:Hz}{Q:QW}{F:QW->Prop}(hF:∀Q:QW,Q (.int (n:HR),S)->F Q)(k:Q (.bl (decide (0<=x)&&decide (x < (n:HR))),S)):wO (v4 .le (.int 0) (.int x) S) λb=>(b=true->F λr=>wO (cU .lt (.int x) r.1 r.2) Q)/\(b=false->Q (.bl false,S)):=by
 show af (show v4 .le (.int 0) (.int x) S=ba (decide (0<=x))from rfl) #[λz=>hF _ (af (show cU .lt (.int x) (.int (n:HR)) S=ba (.bl (decide (x < (n:HR))),S)from rfl) ?_),λz=>?_]
 ·rw[z,Nr]at k; exact k
 ·rw[z,OM]at k; exact k
section
variable{defs:Ho (HC×Df)}{fuel d:Hz}{S:aa}{Q:QW}
def qx (X:Knd defs){w:W}(h:Thg S w)(k:Q (.bl (rZ w),S)):wO (aU (ah defs fuel (d+1)) "is_whole" 1 [w] S) Q:=by
 show az X.whole rfl rfl λQ' hR=>?_
 replace k:=hR _ _ k;change wZ _ _ dE [ba w] S Q';dsimp only[dE];show st ?_;dsimp only[wS,wE,wV,wG];show af h.n #[λz=>af h.b ?_,λz=>?_]
 ·cases w <;> first|exact k|cases z
 ·cases w <;> first|exact k|cases z
def zS (X:Knd defs){w:W}{n:Hz}(h:Thg S w)(k:Q (.bl (Ch n w),S)):wO (aU (ah defs fuel (d+1)) "is_tuple_of" 2 [w,.int (n:HR)] S) Q:=by
 show az X.tup rfl rfl λQ' hR=>?_
 replace k:=hR _ _ k;change wZ _ _ bV [ba w,ba (.int (n:HR))] S Q';dsimp only[bV];show st ?_;left;show af h.t #[λz=>?_,λz=>?_]
 ·cases w with
  | tup xs=>
   show br (af mT ?_);have e:((xs.length:HR)==(n:HR))=(xs.length==n):=by rw[Bool.eq_iff_iff,KL,KL]; omega
   rw[e]; exact k
  | _=>cases z
 ·cases w <;> first|exact k|cases z
def Ci (X:Knd defs){w:W}{n:Hz}(h:Thg S w)(k:∀S',Ka S S'->Q (.bl (jH (∃zs:Ho HR,w=.tup (zs.map W.int)/\zs.length=n)),S')):wO (aU (ah defs fuel (d+2)) "is_numbers" 2 [w,.int (n:HR)] S) Q:=by
 show az X.nums rfl rfl λQ' hR=>?_
 replace k:∀(b:HP) S',(b=true↔∃zs:Ho HR,w=.tup (zs.map W.int)/\zs.length=n)->Ka S S'->Q' (.rt (.bl b),S'):=λb S' e a=>by rw[<- lG e]; exact hR _ _ (k S' a)
 clear hR;change wZ _ _ ce [ba w,ba (.int (n:HR))] S Q';dsimp only[ce];show st ?_;left;show zS (d:=d) X h #[λz=>?_,λz=>?_]
 ·cases h with
  | tup hx hl=>
   rename_i xs;show oR xs id (λ_=>true) (λx=>.bl (rZ x)) [] rfl rfl rfl rfl ∅ #[by rw[List.map_id],.refl] (λx hx' S2 k2=>?_) λS2 k2=>?_
   ·dsimp only[m6,wC,wE,wA,wV,wG];exact#[λ_=>qx (d:=d) X ((hx x hx').ka k2) #[rfl,rfl,.refl],λz=>by cases z]
   ·rw[jx];show oU (L:=xs.map rZ) (by rw[Ky]; exact aq) (k _ _ ?_ (k2.trans .push))
    rw[Le];constructor
    ·intro a;obtain⟨zs,rfl⟩:=qw a;exact#[zs,rfl,by simpa [Ch]using z]
    ·rintro⟨zs,e,_⟩;cases e;exact vS
  | _=>cases z
 ·show k _ S #[λy=>(by cases y),?_] .refl
  rintro⟨zs,rfl,e⟩;simp[Ch,e]at z
def Cj (X:Knd defs){w:W}{n:Hz}(h:Thg S w)(k:∀S',Ka S S'->Q (.bl (jH (∃p:Pt,w=dJ p/\p.2.length=n)),S')):wO (aU (ah defs fuel (d+3)) "has_point_form" 2 [w,.int (n:HR)] S) Q:=by
 show az X.form rfl rfl λQ' hR=>?_
 replace k:∀(b:HP) S',(b=true↔∃p:Pt,w=dJ p/\p.2.length=n)->Ka S S'->Q' (.rt (.bl b),S'):=λb S' e a=>by rw[<- lG e]; exact hR _ _ (k S' a)
 clear hR;change wZ _ _ bo [ba w,ba (.int (n:HR))] S Q';dsimp only[bo];show st ?_;left;show zS (d:=d+1) (n:=2) X h #[λz=>?_,λz=>?_]
 ·cases h with
  | tup hx hl=>
   rename_i xs
   match xs,z with
   | [m,t],_=>
    show aM #v[] rfl (qx (d:=d+1) X (hx m Iw) #[λz=>?_,λz=>?_])
    ·show aM #v[] rfl (Ci (d:=d) X (hx t (Ig _ Iw)) λS' a=>k _ S' ?_ a)
     rw[dG];cases m with
     | int i=>
      constructor
      ·rintro⟨zs,rfl,e⟩;exact#[(i,zs),rfl,e]
      ·rintro⟨p,e,e2⟩;cases e;exact#[p.2,rfl,e2]
     | _=>cases z
    ·show k _ S #[λy=>(by cases y),λ#[p,e,_]=>?_] .refl
     cases e;cases z
  | _=>cases z
 ·show k _ S #[λy=>(by cases y),λ#[p,e,_]=>?_] .refl
  subst e;cases z
def yR (X:Knd defs){Mqa N:Ho W}{b0 w:W}{a n s:Hz}(hM:Mqa.length=a)(hN:N.length=n)(h:Thg S w)(k:∀S',Ka S S'->Q (.bl (jH (∃p,w=dJ p/\GoodP a n s p)),S')):wO (aU (ah defs fuel (d+4)) "is_point" 3 [.tup [.tup Mqa,.tup N,b0],w,.int (s:HR)] S) Q:=by
 show az X.point rfl rfl λQ' hR=>?_
 replace k:∀(b:HP) S',(b=true↔∃p,w=dJ p/\GoodP a n s p)->Ka S S'->Q' (.rt (.bl b),S'):=λb S' e a=>by rw[<- lG e]; exact hR _ _ (k S' a)
 clear hR;change wZ _ _ dF [ba (.tup [.tup Mqa,.tup N,b0]),ba w,ba (.int (s:HR)),gV] S Q';dsimp only[dF];nofun
 dsimp only[wS,wT,wE,wA,wV,wG];show Cj (d:=d) X h λS1 k1=>?_
 show af (show b6 S1 (.bl (jH _))=ba (jH _)from rfl) ?_
 show aw (Q0:=Q') (λz Q2 _ hr=>st ?_) (λz Q2 hn _=>dh (hn _ _ (hK _ _ ?_)))
 ·dsimp only[wS,wE];show hr _ _ (k _ S1 #[λy=>(by cases y),λ#[p,e,g]=>?_] k1)
  rw[qv #[p,e,g.len]]at z;cases z
 clear hn hK K;obtain⟨p,hl⟩:=dG.mp (show jH (∃p:Pt,w=dJ p/\p.2.length=s)=true by simpa using z)
 obtain⟨rfl,hl⟩:=hl;have hp1:p.2.length<=100:=by
  cases h with
  | tup hx _=>
   have:=hx (.tup (p.2.map W.int)) (Ig _ Iw);cases this with
   | tup _ hl=>rw[HB]at hl; exact hl
 clear z h;have l0:∀(S:aa) (Q:QW),Q (.int (a:HR),S)->wO (iP (.tup [.tup Mqa,.tup N,b0]) (.int 0) S) λp=>wO (Bi.len.fn [p.1] p.2) Q:=λS Q q=>by
  show aM #v[] rfl (br ?_)
  rw[hM]; exact q
 have l1:∀(S:aa) (Q:QW),Q (.int (n:HR),S)->wO (iP (.tup [.tup Mqa,.tup N,b0]) (.int 1) S) λp=>wO (Bi.len.fn [p.1] p.2) Q:=λS Q q=>by
  show aM #v[] rfl (br ?_)
  rw[hN]; exact q
 generalize W.tup [.tup Mqa,.tup N,b0]=R at l0 l1;show st ?_;dsimp only[wS,wE,wA,wV,wG,HZ,dJ];show aM #v[] rfl ?_
 show vT (F:=λQ=>wO (iP R (.int 0) S1) λp=>wO (Bi.len.fn [p.1] p.2) Q) (l0 S1) ?_
 show st ?_;left;show#[λz=>?_,λz=>k _ S1 #[λy=>(by cases y),λ#[p',e,g]=>?_] k1]
 ·show oR p.2 W.int (λ_=>true) (λx=>.bl (decide (0<=x)&&decide (x < (n:HR)))) [ba R] rfl rfl rfl rfl ∅ ?_ (λx hx S2 k2=>?_) λS2 k2=>?_
  ·dsimp only[wE,wV,wG];exact aM #v[] rfl #[rfl,.refl]
  ·dsimp only[m6,wC,wE,wA,wV,wG];exact#[λ_=>vT (F:=λQ=>wO (iP R (.int 1) S2) λp=>wO (Bi.len.fn [p.1] p.2) Q) (l1 S2) #[rfl,rfl,.refl],λz=>by cases z]
  ·rw[jx];show oU (L:=p.2.map λx=>decide (0<=x)&&decide (x < (n:HR))) (by rw[Ky]; exact aq) (k _ _ #[λy=>#[p,rfl,?_,hl,λx hx=>?_],λ#[p',e,g]=>?_] (k1.trans (k2.trans .push)))
   ·simpa using z
   ·rw[Le]at y;have:=Ih.mp y x hx
    simpa using this
   ·cases oV e;rw[Le,Ih];intro x hx
    simpa using g.way x hx
 ·cases oV e;have:=g.mark;rw[Lk]at z;rcases z with z|z
  ·exact absurd this.1 (K7 z)
  ·exact absurd this.2 (K7 z)
def Ck (hd:Is defs ("_law_flow" : HC) 1 1 cw){ns:Ho HR}{u:Hz}(hu:S[u]?=ba (.fro (ns.map W.int)))(k:∀r S',Ka S S'->Fl S' r->Q (.ref r,S')) :
  wO (aU (ah defs fuel (d+1)) "_law_flow" 1 [.ref u] S) Q:=by
 show az hd rfl rfl λQ' hR=>?_
 change wZ _ _ cw [ba (.ref u)] S Q';dsimp only[cw];show st ?_;left;have e:Bi.list.fn [.ref u] S=ba (.ref S.length,S++[.lst (ns.map W.int)]):=by
  have h1:AQ S u=gV:=by simp[AQ,hu]
  simp only[Bi.fn,Bl,lX,h1,fK,eT,yo hu]
 show af e (hR _ _ (k _ _ (Ka.push.trans .push) #[S.length,ns,0,0,1,0,?_,?_,?_,#v[],#v[],#v[],#v[]]))
 ·exact aq
 ·exact aK aq
 ·simp
end
abbrev bY:Ss:=
 #v[.asg [1,2] (.own "_law_sizes" 1 #v[.v 0]),.set 3 (.own "_law_rule_of" 4 #v[.v 0,.v 1,.own "_law_backs" 2 #v[.v 0,.v 2],.tup .nil]),.set 4 .dnew,.loop (.nm 5) (.rng #v[.own "_law_pick" 2 #v[.v 0,.ix (.lst #v[.c (.int 4),.c (.int 9),.c (.int 25)]) (.own "_law_pick" 2 #v[.v 0,.c (.int 3)])]]) #v[.put (.v 4) (.own "_law_figure" 2 #v[.v 3,.own "_law_free_three" 3 #v[.v 0,.v 1,.v 2]]) (.c (.bl true))],.ret (.tup #v[.ix (.v 3) (.c (.int 0)),.ix (.v 3) (.c (.int 1)),.bi .tuple #v[.bi .sorted #v[.v 4]]])]
abbrev bf:Ss:=
 #v[.ite (.not (.isi "tuple" (.v 1))) #v[.ret (.tup #v[.c (.str "NoWorld"),.c (.int 0)])] .nil,.loop (.tp [2,3]) (.enu #v[.v 1]) #v[.ite (.not (.own "is_point" 3 #v[.v 0,.v 3,.v 2])) #v[.ret (.tup #v[.c (.str "NoWorld"),.v 2])] .nil],.ret (.tup #v[.c .non,.c (.bl true)])]
abbrev cg:Ss:=
 #v[.ret (.op .add (.op .add (.sl (.v 0) .no (.yes (.v 1))) (.tup #v[.v 2])) (.sl (.v 0) (.yes (.op .add (.v 1) (.c (.int 1)))) .no))]
abbrev bz:Ss:=
 #v[.loop (.tp [2,3]) (.seq (.v 1)) #v[.ite (.or (.not (.chn .le .lt (.c (.int 0)) (.v 2) (.bi .len #v[.ix (.v 0) (.c (.int 0))]))) (.not (.bi .all #v[.comp (.chn .le .lt (.c (.int 0)) (.v 1) (.bi .len #v[.ix (.v 2) (.c (.int 1))])) (.nm 1) (.seq (.v 3)) .nil [gV,gV,ba 0]]))) #v[.ret (.c (.bl false))] .nil],.ret (.c (.bl true))]
abbrev nv (cl:Cl):Ss:=
 .cons (.set 4 (.and (.sem (gf cl (λcn=>eB cn "NoWorld") 3)) (.sem (gf cl (λ_=>true) 3))))
 #v[.ite (.and (.v 4) (.not (.sem (gf cl (λcn=>([("BadText" : HC),"NoLaying","NoRow","NoRule","NoSentence","NoShare","NoWish"]:Ho HC).any (eB cn)) 3)))) #v[.set 2 (.tup #v[.c (.str "refused"),.sem (rQ cl "point" 3)])] .nil]
abbrev jy:BK:=.test "look_world!" 2 #v[.v 0,.v 1] #v[.set 2 (.tup #v[.c (.str "let by"),.c (.int 0)])]
abbrev bZ (cl:Cl):Ss:=
 .cons (.set 2 (.tup #v[.c (.str "else"),.c (.int 0)]))
 #v[.sem (Cz cl "LayError" 3 jy (nv cl)),.ret (.v 2)]
section
variable{M:HC->FF}{fuel:Hz}{Z:Fm}{S:aa}{K:Fm->aa->Prop}{Q:QO}
def yS {a:E}{tg:Tg}{b:Ss}(xs:Ho W)(I:Hz->Fm->aa->Prop)(oa:dz a=true)(ok:fU b=true)(he:wE M a Z S λp=>Gb p.1=ba xs/\I 0 Z p.2)
  (hstep:∀(i:Hz) (x:W) (Z:Fm) (S:aa),xs[i]?=ba x->I i Z S->wO (lK tg (.tup [.int i,x]) Z S) λq=>B3 M fuel b q.1 q.2 (I (i+1)) Q) (hend:∀Z S,I xs.length Z S->K Z S):Wp (bv M fuel (.loop tg (.enu #v[a]) b) Z S) (mV K Q):=by
 obtain⟨x,S1,e1,h1,h0⟩:=cN oa he;have hl:(lr xs).length=xs.length:=by simp[lr]
 show jl (mi:=.its (lr xs)) (S1:=S1) (xs:=lr xs) I ok (by simp only[j9,aX,cr,g9,yf,e1,h1]) (λ_ _ _ _=>rfl) rfl h0 (λi w Z S hw hI=>?_) λZ S hI=>hend Z S (hl ▸ hI)
 obtain⟨y,hy,rfl⟩:=mL hw;exact hstep i y Z S hy hI
end
section
variable{defs:Ho (HC×Df)}{fuel d:Hz}{S:aa}{r:Hz}{Q:QW}
def qy (hfu:20 < fuel)(G:Gen defs)(hg:Is defs ("_law_rule" : HC) 1 6 bY)(hf:Fl S r)(k:∀w S',oQ w->Fl S' r->Kp r S S'->Q (w,S')):wO (aU (ah defs fuel (d+6)) "_law_rule" 1 [.ref r] S) Q:=by
 show az hg rfl rfl λQ' hR=>?_
 replace k:∀w S',oQ w->Fl S' r->Kp r S S'->Q' (.rt w,S'):=λz S' a b c=>hR _ _ (k z S' a b c)
 clear hR;change wZ _ _ bY [ba (.ref r),gV,gV,gV,gV,gV] S Q';dsimp only[bY];nofun
 left;show yJ (d:=d+3) G hf λa n S1 a1 a3 n1 n3 an f1 k1=>?_
 dsimp only[wU];show af (show d6 [1,2] [.int a,.int n] [ba (.ref r),gV,gV,gV,gV,gV]=ba [ba (.ref r),ba (.int a),ba (.int n),gV,gV,gV]from rfl) (hK _ _ ?_)
 clear hK K;nofun
 left;show yK (d:=d+3) G f1 n1 n3 λbs S2 hb hbl f2 k2=>?_
 have hsz:SizeOk a bs:=#[∅,hb,by rw[hbl]; exact an,a3]
 show oO (d:=d) hfu G f2 a3 ∅ λms ns S3 hml hnl hnm f3 k3=>hK _ _ ?_
 clear hK K;have hrt:=f3.lt;replace k3:Kp r S S3:=k1.trans (k2.trans k3);clear k1 k2 f1 f2;show st ?_;dsimp only[wS,wE,HZ];nofun
 show jw rfl rfl ?_;dsimp only[wE,wA,wV,wG];show aL (d:=d+4) G.pick ((f3.ka .push).ka .push) #v[] #v[] λv0 Sx w0 w3 fx kx=>?_
 have ex:=kx.get _ _ (by simp; omega) (aq (S:=S3++[.dic []]) (o:=.lst [.int 4,.int 9,.int 25]))
 have e9:=kx.get _ _ ∅ (aK (u:=.lst [.int 4,.int 9,.int 25]) (aq (S:=S3) (o:=.dic [])))
 have hv:∃m:HR,[W.int 4,.int 9,.int 25][v0.toNat]?=ba (.int m)/\0 < m/\m < 26:=by
  have h:v0=0\/v0=1\/v0=2:=∅
  rcases h with rfl|rfl|rfl
  ·exact#[4,rfl,#v[],#v[]]
  ·exact#[9,rfl,#v[],#v[]]
  ·exact#[25,rfl,#v[],#v[]]
 obtain⟨m,hm,m0,m1⟩:=hv;show jn ex w0 hm ?_;show aL (d:=d+4) G.pick fx m0 ∅ λv S4 v0 v9 f4 k4=>?_
 show#[v,λk Z S'=>(∃a5,Z=[ba (.ref r),ba (.int a),ba (.int n),ba (gl ms ns bs []),ba (.ref S3.length),a5])/\(∃U fs,S'[S3.length]?=ba (.dic U)/\FigD (bd a bs) U fs)/\Fl S' r/\Kp r S S',rfl,∅,#[#[gV,rfl],#[[],[],k4.get _ _ ∅ e9,.nil],f4,(((k3.trans .push).trans .push).trans kx).trans k4],?_,?_]
 ·rintro i Z S5 hi ⟨⟨a5,rfl⟩,⟨U,fs,e5,hd⟩,f5,k5⟩ Q2 hn _;clear hK;show st ?_;left;show lE (d:=d+3) G f5 ∅ a3 ∅ n3 λu S6 hu3 hu f6 k6=>?_
  have hu:GoodW a bs.length u:=hbl.symm ▸ hu;show vF (d:=d+2) G hb hnl hu hu3 λS7 k7=>?_
  have e7:=k7.get _ _ (k6.get _ _ ∅ e5)
  exact EN e7 hd hsz hu hu3 λo ho=>dh (hn _ _ #[#[_,rfl],ho,(f6.ka k7).own hrt,((k5.trans k6).trans (k7.kp r)).late k3.len])
 ·rintro Z S5 ⟨⟨a5,rfl⟩,⟨U,fs,e5,hd⟩,f5,k5⟩;show hK _ _ (st ?_);left;exact EM (Q:=λp=>Q' (.rt p.1,p.2)) e5 hd hsz hml hnl hnm λw S6 hw k6=>k w S6 hw (f5.ka k6) (k5.trans (k6.kp r))
abbrev gP (a n i:Hz)(w:W):Prop:=∃p,w=dJ p/\GoodP a n i p
abbrev gm (a n:Hz)(w:W):Prop:=∃xs,w=.tup xs/\∀(i:Hz) (x:W),xs[i]?=ba x->gP a n i x
abbrev BadT (a n:Hz)(w:W)(j:Hz):Prop:=(Cg w=false/\j=0)\/∃xs x,w=.tup xs/\xs[j]?=ba x/\¬ gP a n j x/\∀(i:Hz) (x:W),i < j->xs[i]?=ba x->gP a n i x
def BadT.uniq {a n:Hz}{w:W}{j j':Hz}(h:BadT a n w j)(h':BadT a n w j'):j=j':=by
 rcases h with⟨h1,h2⟩|⟨xs,x,rfl,e,hb,hg⟩
 ·rcases h' with⟨_,h4⟩|⟨_,_,rfl,_⟩
  ·rw[h2,h4]
  ·cases h1
 ·rcases h' with⟨h3,_⟩|⟨xs',x',e1,e',hb',hg'⟩
  ·cases h3
  ·cases e1;rcases Nat.lt_trichotomy j j' with z|z|z
   ·exact absurd (hg' j x z e) hb
   ·exact z
   ·exact absurd (hg j' x' z e') hb'
def BadT.not {a n:Hz}{w:W}{j:Hz}(h:BadT a n w j)(g:gm a n w):ID:=by
 obtain⟨xs,rfl,g⟩:=g;rcases h with⟨h1,_⟩|⟨xs',x,e1,e,hb,_⟩
 ·cases h1
 ·cases e1;exact hb (g j x e)
def vU (X:Knd defs)(hg:Is defs ("look_world!" : HC) 2 4 bf){Mqa N:Ho W}{b0 w:W}{a n:Hz}(hM:Mqa.length=a)(hN:N.length=n)(h:Thg S w)
  (k1:∀S',Ka S S'->gm a n w->Q (.tup [.non,.bl true],S')) (k2:∀j S',Ka S S'->BadT a n w j->Q (.tup [.str "NoWorld",.int (j:Hz)],S')) :
  wO (aU (ah defs fuel (d+5)) "look_world!" 2 [.tup [.tup Mqa,.tup N,b0],w] S) Q:=by
 show az hg rfl rfl λQ' hR=>?_
 replace k1:∀S',Ka S S'->gm a n w->Q' (.rt (.tup [.non,.bl true]),S'):=λS' a b=>hR _ _ (k1 S' a b)
 replace k2:∀j S',Ka S S'->BadT a n w j->Q' (.rt (.tup [.str "NoWorld",.int (j:Hz)]),S'):=λj S' a b=>hR _ _ (k2 j S' a b)
 clear hR;change wZ _ _ bf [ba (.tup [.tup Mqa,.tup N,b0]),ba w,gV,gV] S Q';have pg:=λ(S:aa) (Q:QW) (s:Hz) (x:W) (h:Thg S x)=>yR (defs:=defs) (fuel:=fuel) (d:=d) (S:=S) (Q:=Q) (b0:=b0) (s:=s) X hM hN h
 generalize W.tup [.tup Mqa,.tup N,b0]=R at pg;dsimp only[bf];nofun
 dsimp only[wS,wT,wE,wA,wV,wG];show af h.t ?_;show aw (Q0:=Q') (λz Q2 _ hr=>st ?_) (λz Q2 hn _=>dh (hn _ _ (hK _ _ ?_)))
 ·dsimp only[wS,wE,wA];exact hr _ _ (k2 0 S .refl (.inl #[by simpa using z,rfl]))
 clear hn hK K;cases h with
 | tup hx hl=>
  rename_i xs;nofun
  show yS xs (λi Z S'=>(∃a2 a3,Z=[ba R,ba (.tup xs),a2,a3])/\(∀(j:Hz) (x:W),j < i->xs[j]?=ba x->gP a n j x)/\Ka S S') rfl rfl ?_ ?_ ?_
  ·exact#[rfl,#[gV,gV,rfl],λj x hj=>absurd hj (Nat.not_lt_zero _),.refl]
  ·rintro i x Z S1 hi ⟨⟨a2,a3,rfl⟩,g1,kk⟩;clear hK;show af (show lK (.tp [2,3]) (.tup [.int (i:Hz),x]) [ba R,ba (.tup xs),a2,a3] S1=ba ([ba R,ba (.tup xs),ba (.int (i:Hz)),ba x],S1)from rfl) ?_
   intro Q2 hn hr;nofun
   dsimp only[wS,wT,wE,wA,wV,wG];show pg S1 _ i x ((hx x (Jq hi)).ka kk) λS2 k3=>?_
   show af (show b6 S2 (.bl (jH _))=ba (jH _)from rfl) ?_
   show aw (Q0:=Q2) (λz Q3 _ hr3=>st ?_) (λz Q3 hn3 _=>dh (hn3 _ _ (hK _ _ (dh (hn _ _ #[#[_,_,rfl],λj y hj e=>?_,kk.trans k3])))))
   ·left;show hr3 _ _ (hr _ _ (k2 i S2 (kk.trans k3) (.inr #[xs,x,rfl,hi,λy=>?_,g1])))
    have y':∃p,x=dJ p/\GoodP a n i p:=y;rw[qv y']at z;cases z
   ·by_cases hji:j=i
    ·subst hji;have e':x=y:=Jt (hi.symm.trans e);subst e';exact dG.mp (show jH (∃p,x=dJ p/\GoodP a n j p)=true by simpa using z)
    ·exact g1 j y ∅ e
  ·rintro Z S1 ⟨⟨a2,a3,rfl⟩,g1,kk⟩;show hK _ _ (st ?_);dsimp only[wS,wE,wA];exact k1 S1 kk #[xs,rfl,λi x e=>g1 i x (HD.mp e).1 e]
 | _=>cases z
def yT {f f':HC}{n nn:Hz}{ws:Ho W}(hg:Is defs f n nn (zN f' n))(hl:ws.length=n)(h:wO (aU (ah defs fuel d) f' n ws S) λp=>∃w,rN p.1=ba w/\Q (w,p.2)):wO (aU (ah defs fuel (d+1)) f n ws S) Q:=by
 show az hg hl rfl λQ' hR=>?_
 unfold zN;show st ?_;dsimp only[wS];have tk:((ws.map ba++Iq (nn - n) (gV:Hs W)).take n).filterMap id=ws:=by
  subst hl;rw[Lw (by simp),J8 (by simp),LR]
  clear hg h hR
  induction ws with
  | nil=>rfl
  | cons w ws ih=>simp[JM]
 rw[tk];unfold aU at h;rw[HN hl]at h;cases e:ah defs fuel d f' ws S with
 | none=>rw[e]at h; exact h.elim
 | some p=>
  rw[e]at h;obtain⟨w,h1,h2⟩:=h;dsimp only;rw[h1];exact hR _ _ h2
end
section
variable{M:HC->FF}{f:HC}{k:Hz}{es:Es}{a:Ss}{Z:Fm}{S S1 S2:aa}{ws:Ho W}{v:W}
def yU (h1:aX M es Z S=ba (ws,S1))(hl:ws.length=k)(h2:M f ws S1=ba (v,S2))(h3:rN v=ba (.bl true)):(BK.test f k es a).fs M Z S=bH M 0 a Z S2:=by
 have e1:cY k (mZ (M f)) (aX M es) Z S=ba (.bl true,S2):=by
  unfold cY;rw[h1];dsimp only;rw[HN hl];unfold mZ;rw[h2];dsimp only;rw[h3];rfl
 have e2:fP (lm .is (cY k (mZ (M f)) (aX M es)) (fC (.bl true))) Z S=ba (true,S2):=by
  unfold fP lm t8;rw[e1];rfl
 dsimp only[BK.fs];unfold eO;rw[e2]
def ER {cn:HC}{us:Ho W}(h1:aX M es Z S=ba (ws,S1))(hl:ws.length=k)(h2:M f ws S1=ba (v,S2))(h3:xV v=ba (cn,us)):cY k (mZ (M f)) (aX M es) Z S=gV/\fR k (xG (M f)) (aX M es) Z S=ba (cn,us,S2):=by
 have h4:rN v=gV:=by
  cases e:rN v with
  | none=>rfl
  | some w=>rw[Eo e]at h3; cases h3
 constructor
 ·unfold cY;rw[h1];dsimp only;rw[HN hl];unfold mZ;rw[h2];dsimp only;rw[h4];rfl
 ·unfold fR;rw[h1];dsimp only;rw[HN hl];unfold xG;rw[h2];dsimp only;rw[h3];rfl
def Cm {cn:HC}{us:Ho W}(h1:aX M es Z S=ba (ws,S1))(hl:ws.length=k)(h2:M f ws S1=ba (v,S2))(h3:xV v=ba (cn,us)):(BK.test f k es a).fs M Z S=gV/\(BK.test f k es a).fx M Z S=ba (cn,us,S2):=by
 obtain⟨e1,e2⟩:=ER h1 hl h2 h3;show#[?_,e2];dsimp only[BK.fs];unfold eO fP lm t8;rw[e1]
end
section
variable{cl:Cl}{cn:HC}{C:Hv}{gs:Ho HC}{ws:Ho W}{Z:Fm}{S:aa}{i j:Hz}
def oW {sb:HC->HP}(h1:Z[i]?=ba (ba (.ref j)))(h2:S[j]?=ba (.exc cn C gs ws))(h3:cl cn=ba (C,gs)):gf cl sb i Z S=ba (.bl (sb cn),S):=by
 unfold gf Cy;rw[h1];dsimp only;rw[h2];dsimp only;rw[HN h3];rfl
def Cn {g:HC}{w:W}(h1:Z[i]?=ba (ba (.ref j)))(h2:S[j]?=ba (.exc cn C gs ws))(h3:cl cn=ba (C,gs))(h4:(gs.zip ws).lookup g=ba w):rQ cl g i Z S=ba (w,S):=by
 unfold rQ Cy;rw[h1];dsimp only;rw[h2];dsimp only;rw[HN h3,h4];rfl
end
section
variable{defs:Ho (HC×Df)}{fuel d:Hz}{S:aa}{r:Hz}{Q:QW}
def Co {cl:Cl}{C:Hv}(hc:cl "NoWorld" = ba (C,[("point" : HC)]))(X:Knd defs)(hx:Is defs ("look_world!" : HC) 2 4 bf)(hg:Is defs ("_law_told" : HC) 2 5 (bZ cl)){Mqa N:Ho W}{b0 w:W}{a n:Hz}(hM:Mqa.length=a)(hN:N.length=n)(h:Thg S w)
  (k1:∀S',Ka S S'->gm a n w->Q (.tup [.str "let by",.int 0],S')) (k2:∀j S',Ka S S'->BadT a n w j->Q (.tup [.str "refused",.int (j:Hz)],S')) :
  wO (aU (ah defs fuel (d+6)) "_law_told" 2 [.tup [.tup Mqa,.tup N,b0],w] S) Q:=by
 show az hg rfl rfl λQ' hR=>?_
 replace k1:∀S',Ka S S'->gm a n w->Q' (.rt (.tup [.str "let by",.int 0]),S'):=λS' a b=>hR _ _ (k1 S' a b)
 replace k2:∀j S',Ka S S'->BadT a n w j->Q' (.rt (.tup [.str "refused",.int (j:Hz)]),S'):=λj S' a b=>hR _ _ (k2 j S' a b)
 clear hR;change wZ _ _ (bZ cl) [ba (.tup [.tup Mqa,.tup N,b0]),ba w,gV,gV,gV] S Q';have lk:=vU (fuel:=fuel) (d:=d) (S:=S) (Q:=λp=>(p.1=.tup [.non,.bl true]/\Ka S p.2/\gm a n w)\/∃j:Hz,p.1=.tup [.str "NoWorld",.int j]/\Ka S p.2/\BadT a n w j) (b0:=b0) X hx hM hN h (λS' a b=>.inl #[rfl,a,b]) λj S' a b=>.inr #[j,rfl,a,b]
 generalize W.tup [.tup Mqa,.tup N,b0]=R at lk;unfold aU at lk;rw[HN (show[R,w].length=2 from rfl)]at lk
 obtain⟨⟨v,S1⟩,e0,lk⟩:=aO lk;dsimp only at lk;dsimp only[bZ];show st ?_;dsimp only[wS,wE,wA,HZ];nofun
 dsimp only[wS];have eA:aX (ah defs fuel (d+5)) #v[.v 0,.v 1] [ba R,ba w,ba (.tup [.str "else",.int 0]),gV,gV] S=ba ([R,w],S):=rfl;rcases lk with⟨rfl,kk,g⟩|⟨j,rfl,kk,g⟩
 ·show ED (o:=.nx [ba R,ba w,ba (.tup [.str "let by",.int 0]),gV,gV]) (S1:=S1) ?_ (hK _ _ ?_)
  ·unfold jy;exact(yU (k:=2) eA rfl e0 rfl).trans rfl
  ·show st ?_;dsimp only[wS,wE,wV,wG];exact k1 S1 kk g
 ·obtain⟨x1,x2⟩:=Cm (k:=2) (a:=#v[.set 2 (.tup #v[.c (.str "let by"),.c (.int 0)])]) eA rfl e0 (show xV (.tup [.str "NoWorld",.int j])=ba (("NoWorld" : HC),[W.int j])from rfl)
  show EC (b:=jy) rfl x1 x2 hc #v[] ?_
  dsimp only[nv];have hs:(S1++[O.exc "NoWorld" C ["point"] [.int j]])[S1.length]?=ba (O.exc "NoWorld" C ["point"] [.int j]):=aq;have kS:Ka S (S1++[O.exc "NoWorld" C ["point"] [.int j]]):=kk.trans .push;generalize S1++[O.exc "NoWorld" C ["point"] [.int j]]=S2 at hs kS;show st ?_;dsimp only[wS,wE,HZ];show af (oW rfl hs hc) ?_;dsimp only[wB];show#[λ_=>af (oW rfl hs hc) ?_,λz=>absurd z #v[]]
  show bn λK2 hK2=>?_
  dsimp only[wS,wT,wE,wV,wG];show af (show b6 S2 (.bl true)=ba true from rfl) #[λ_=>af (oW rfl hs hc) (af (show b6 S2 (.bl _)=ba _ from rfl) ?_),λz=>by cases z]
  show aw (Q0:=EB 3 K Q') (λz Q3 hn _=>st ?_) (λz=>absurd z #v[])
  dsimp only[wS,wE,wA,HZ];show af (Cn (w:=.int j) rfl hs hc rfl) ?_;show dh (hn _ _ (hK2 _ _ (dh ?_)));show hK _ _ (st ?_);dsimp only[wS,wE,wV,wG,HZ];exact k2 j S2 kS g
def zT (hg:Is defs ("_law_put" : HC) 3 3 cg){xs:Ho W}{i:Hz}{w:W}(hl:xs.length<=1000)(k:Q (.tup (xs.take i++[w]++xs.drop (i+1)),S)):wO (aU (ah defs fuel (d+1)) "_law_put" 3 [.tup xs,.int (i:Hz),w] S) Q:=by
 show az hg rfl rfl λQ' hR=>?_
 replace k:=hR _ _ k;change wZ _ _ cg [ba (.tup xs),ba (.int (i:Hz)),ba w] S Q';dsimp only[cg];show st ?_;dsimp only[wS,wE,wA,wP,wV,wG,wN];show af (show jV (.tup xs) gV (ba ((i:Hz):HR)) S=ba (.tup (xs.take i),S) by simp only[jV,jq]) ?_
 dsimp only;show af (oz (vQ (by rw[HK,Ju]; show _+1<=_; omega))) ?_
 dsimp only;show af bW ?_;dsimp only;show af (show jV (.tup xs) (ba ((i:HR)+1)) gV S=ba (.tup (xs.drop (i+1)),S) by rw[show(i:HR)+1=((i+1:Hz):HR) by omega]; simp only[jV,jr]) ?_
 dsimp only;exact af (oz (vQ (by rw[HK,HK,Ju,JK]; show _+1+_<=_; omega))) k
def r0 (hg:Is defs ("_law_of_rule" : HC) 2 4 bz){Mqa N:Ho W}{b0:W}{a n s:Hz}{p:Pt}(hM:Mqa.length=a)(hN:N.length=n)(hl:p.2.length=s)(hs:s<=100)(k:∀S',Ka S S'->Q (.bl (jH (GoodP a n s p)),S')) :
  wO (aU (ah defs fuel (d+1)) "_law_of_rule" 2 [.tup [.tup Mqa,.tup N,b0],.tup [dJ p]] S) Q:=by
 show az hg rfl rfl λQ' hR=>?_
 replace k:∀(b:HP) S',(b=true↔GoodP a n s p)->Ka S S'->Q' (.rt (.bl b),S'):=λb S' e a=>by rw[<- lG e]; exact hR _ _ (k S' a)
 clear hR;obtain⟨m,to⟩:=p;change wZ _ _ bz [ba (.tup [.tup Mqa,.tup N,b0]),ba (.tup [.tup [.int m,.tup (to.map W.int)]]),gV,gV] S Q';have l0:∀(S:aa) (Q:QW),Q (.int (a:HR),S)->wO (iP (.tup [.tup Mqa,.tup N,b0]) (.int 0) S) λp=>wO (Bi.len.fn [p.1] p.2) Q:=λS Q q=>by
  show aM #v[] rfl (br ?_)
  rw[hM]; exact q
 have l1:∀(S:aa) (Q:QW),Q (.int (n:HR),S)->wO (iP (.tup [.tup Mqa,.tup N,b0]) (.int 1) S) λp=>wO (Bi.len.fn [p.1] p.2) Q:=λS Q q=>by
  show aM #v[] rfl (br ?_)
  rw[hN]; exact q
 generalize W.tup [.tup Mqa,.tup N,b0]=R at l0 l1;dsimp only at hl;dsimp only[bz];nofun
 show for_tup [.tup [.int m,.tup (to.map W.int)]] (λi Z S'=>(∃a2 a3,Z=[ba R,ba (.tup [.tup [.int m,.tup (to.map W.int)]]),a2,a3])/\(i=1->GoodP a n s (m,to))/\Ka S S') rfl rfl ?_ ?_ ?_
 ·exact#[rfl,#[gV,gV,rfl],λz=>(by cases z),.refl]
 ·rintro i x Z S1 hi ⟨⟨a2,a3,rfl⟩,_,kk⟩;clear hK;have h0:i=0:=by have:=(HD.mp hi).1; simp at this; omega
  subst h0;cases hi;show af (show lK (.tp [2,3]) (.tup [.int m,.tup (to.map W.int)]) [ba R,ba (.tup [.tup [.int m,.tup (to.map W.int)]]),a2,a3] S1=ba ([ba R,ba (.tup [.tup [.int m,.tup (to.map W.int)]]),ba (.int m),ba (.tup (to.map W.int))],S1)from rfl) ?_
  intro Q2 hn hr;nofun
  have fin:∀(c:HP) S2,(c=true↔¬ GoodP a n s (m,to))->Ka S1 S2->∀Q':QO,(∀Z' S',K Z' S'->Q' (.nx Z',S'))->(∀o S',(∀Z',o≠.nx Z')->Q2 (o,S')->Q' (o,S'))->(c=true->u6 (ah defs fuel d) fuel #v[.ret (.c (.bl false))] [ba R,ba (.tup [.tup [.int m,.tup (to.map W.int)]]),ba (.int m),ba (.tup (to.map W.int))] S2 Q')/\(c=false->u6 (ah defs fuel d) fuel .nil [ba R,ba (.tup [.tup [.int m,.tup (to.map W.int)]]),ba (.int m),ba (.tup (to.map W.int))] S2 Q'):=λc S2 hc k2=>
   aw (Q0:=Q2) (λz Q3 _ hr3=>st (by
    dsimp only[wS,wE];exact hr3 _ _ (hr _ _ (k false S2 #[λy=>(by cases y),λg=>absurd g (hc.mp z)] (kk.trans k2))))) (λz Q3 hn3 _=>dh (hn3 _ _ (hK _ _ (dh (hn _ _ #[#[_,_,rfl],λ_=>KS λg=>(by rw[hc.mpr g]at z; cases z),kk.trans k2])))))
  dsimp only[wS,wT,wE,wA,wV,wG];show af (show v4 .le (.int 0) (.int m) S1=ba (decide (0<=m))from rfl) ?_
  have bad:¬ (0<=m/\m < a)->¬ GoodP a n s (m,to):=λz g=>z g.mark
  show#[λz=>l0 _ _ (af (show cU .lt (.int m) (.int (a:HR)) S1=ba (.bl (decide (m < (a:HR))),S1)from rfl) ?_),λz=>#[λ_=>fin true S1 #[λ_=>bad λy=>(by rw[Ji y.1]at z; cases z),λ_=>rfl] .refl,λz=>by cases z]]
  dsimp only[wB];show#[λy=>fin true S1 #[λ_=>bad λq=>(by rw[Ji q.2]at y; cases y),λ_=>rfl] .refl,λy=>?_]
  have hm:0<=m/\m < a:=#[IX z,IX (by simpa using y)]
  show oR to W.int (λ_=>true) (λx=>.bl (decide (0<=x)&&decide (x < (n:HR)))) [ba R] rfl rfl rfl rfl ∅ ?_ (λx hx S2 k2=>?_) λS2 k2=>?_
  ·exact#[rfl,.refl]
  ·dsimp only[m6,wC,wE,wA,wV,wG];exact#[λ_=>vT (F:=λQ=>wO (iP R (.int 1) S2) λp=>wO (Bi.len.fn [p.1] p.2) Q) (l1 S2) #[rfl,rfl,.refl],λz=>by cases z]
  ·rw[jx];show oU (L:=to.map λx=>decide (0<=x)&&decide (x < (n:HR))) (by rw[Ky]; exact aq) ?_
   show af (show b6 _ (.bl _)=ba _ from rfl) ?_
   show fin _ _ ?_ (k2.trans .push);rw[Le,KG];constructor
   ·intro q g;have:(to.all (id∘λx=>decide (0<=x)&&decide (x < (n:HR))))=true:=Ih.mpr λx hx=>by simpa using g.way x hx
    rw[this]at q; cases q
   ·intro q;show Mj.mpr λy=>q #[hm,hl,λx hx=>?_]
    have:=Ih.mp y x hx
    simpa using this
 ·rintro Z S1 ⟨⟨a2,a3,rfl⟩,g,kk⟩;show hK _ _ (st ?_);dsimp only[wS,wE];exact k true S1 #[λ_=>g rfl,λ_=>rfl] kk
end
abbrev be:Ss:=
 #v[.asg [3,4] (.v 2),.set 5 (.lst #v[.lst #v[.v 3,.v 4],.tup #v[.v 3],.tup #v[.v 3,.v 4,.v 4],.tup #v[.v 3,.bi .list #v[.v 4]],.tup #v[.c (.bl true),.v 4],.tup #v[.c .non,.v 4],.tup #v[.bi .str #v[.v 3],.v 4]]),.set 5 (.op .add (.v 5) (.lst #v[.tup #v[.tup #v[.v 3],.v 4],.tup #v[.v 3,.op .add (.v 4) (.tup #v[.c (.int 0)])],.tup #v[.v 3,.c .non],.tup #v[.bi .len #v[.ix (.v 1) (.c (.int 0))],.v 4],.tup #v[.neg (.c (.int 1)),.v 4],.tup #v[.op .pow (.c (.int 10)) (.c (.int 20)),.v 4]])),.set 5 (.op .add (.v 5) (.lst #v[.v 3,.tup .nil,.c .non,.c (.int 0),.c (.str "a")])),.ite (.cmp .ne (.v 4) (.tup .nil)) #v[.set 6 (.own "_law_pick" 2 #v[.v 0,.bi .len #v[.v 4]]),.loop (.nm 7) (.seq (.lst #v[.bi .len #v[.ix (.v 1) (.c (.int 1))],.neg (.c (.int 1)),.op .pow (.c (.int 10)) (.c (.int 20)),.c (.bl true),.c .non,.c (.str "0"),.tup #v[.c (.int 0)],.lst #v[.c (.int 0)]])) #v[.ex (.me .append (.v 5) #v[.tup #v[.v 3,.own "_law_put" 3 #v[.v 4,.v 6,.v 7]]])],.set 5 (.op .add (.v 5) (.lst #v[.tup #v[.v 3,.sl (.v 4) .no (.yes (.neg (.c (.int 1))))],.tup #v[.v 3,.sl (.v 4) (.yes (.c (.int 1))) .no],.tup #v[.v 3,.tup .nil]]))] .nil,.ret (.ix (.v 5) (.own "_law_pick" 2 #v[.v 0,.bi .len #v[.v 5]]))]
def fc {α:Type}{P:α->Prop}{a:α}{l:Ho α}(h:P a)(t:∀x∈l,P x):∀x∈a::l,P x:=M7.mpr #[h,t]
def fn {α:Type}{P:α->Prop}:∀x∈([]:Ho α),P x:=λ_ h=>nomatch h
def fa {α:Type}{P:α->Prop}{l l':Ho α}(h:∀x∈l,P x)(t:∀x∈l',P x):∀x∈l++l',P x:=λx hx=>(IV.mp hx).elim (h x) (t x)
def qz {S:aa}{xs:Ho W}{Q:QW}(q:Q (.ref S.length,S++[.lst xs])):wO (Bi.list.fn [.tup xs] S) Q:=by
 show af ?_ q;simp only[Bi.fn,Bl,lX,jZ,fK,eT]
abbrev BP (a n s:Hz)(S:aa)(w:W):Prop:=Thg S w/\¬ gP a n s w
section
variable{a n s:Hz}{S S':aa}
def BP.ka {w:W}(h:BP a n s S w)(k:Ka S S'):BP a n s S' w:=#[h.1.ka k,h.2]
def eD {x:W}{T:Ho W}(h:∀z:HR,x=.int z->¬ (0<=z/\z < (a:HR))):¬ gP a n s (.tup [x,.tup T]):=λ#[p,e,g]=>by
 have e:W.tup [x,.tup T]=.tup [.int p.1,.tup (p.2.map W.int)]:=e;cases e;exact h _ rfl g.mark
def qA {x y:W}(h:∀T,y≠.tup T):¬ gP a n s (.tup [x,y]):=λ#[p,e,g]=>by
 have e:W.tup [x,y]=.tup [.int p.1,.tup (p.2.map W.int)]:=e;cases e;exact h _ rfl
def iu {x:W}{T:Ho W}(h:T.length≠s):¬ gP a n s (.tup [x,.tup T]):=λ#[p,e,g]=>by
 have e:W.tup [x,.tup T]=.tup [.int p.1,.tup (p.2.map W.int)]:=e;cases e;rw[HB]at h;exact h g.len
def yV {x o:W}{T:Ho W}(ho:o∈T)(h:∀z:HR,o=.int z->¬ (0<=z/\z < (n:HR))):¬ gP a n s (.tup [x,.tup T]):=λ#[p,e,g]=>by
 have e:W.tup [x,.tup T]=.tup [.int p.1,.tup (p.2.map W.int)]:=e;cases e;obtain⟨z,hz,rfl⟩:=IS.mp ho;exact h z rfl (g.way z hz)
end
section
variable{defs:Ho (HC×Df)}{fuel d:Hz}{S:aa}{r:Hz}{Q:QW}
def Cp (G:Gen defs)(hpt:Is defs ("_law_put" : HC) 3 3 cg)(hg:Is defs ("_law_bad_point" : HC) 3 8 be){Mqa N:Ho W}{b0:W}{a n s:Hz}{p:Pt}(hM:Mqa.length=a)(ha3:a<=3)(hN:N.length=n)(hn1:0 < n)(hn3:n<=3)(hp:GoodP a n s p)(hs:s<=50)(hf:Fl S r)
  (k:∀w S',BP a n s S' w->Fl S' r->Kp r S S'->Q (w,S')) :
  wO (aU (ah defs fuel (d+2)) "_law_bad_point" 3 [.ref r,.tup [.tup Mqa,.tup N,b0],dJ p] S) Q:=by
 show az hg rfl rfl λQ' hR=>?_
 replace k:∀w S',BP a n s S' w->Fl S' r->Kp r S S'->Q' (.rt w,S'):=λw S' x y z=>hR _ _ (k w S' x y z)
 clear hR;obtain⟨m,to⟩:=p;have hl:(to.map W.int).length=s:=by rw[HB]; exact hp.len
 have hm:=hp.mark;dsimp only at hm;change wZ _ _ be [ba (.ref r),ba (.tup [.tup Mqa,.tup N,b0]),ba (.tup [.int m,.tup (to.map W.int)]),gV,gV,gV,gV,gV] S Q';have hT:∀ {S:aa},∀x∈to.map W.int,Thg S x:=λx hx=>by
  obtain⟨i,_,rfl⟩:=IS.mp hx; exact .int
 have ne0:∀S:aa,cV .ne (.tup (to.map W.int)) (.tup []) S=ba (.bl (!(to.map W.int).isEmpty),S):=λS=>by cases to <;> rfl
 clear hp;generalize to.map W.int=T at hl hT ne0;have l0:∀(S:aa) (Q:QW),Q (.int (a:HR),S)->wO (iP (.tup [.tup Mqa,.tup N,b0]) (.int 0) S) λp=>wO (Bi.len.fn [p.1] p.2) Q:=λS Q q=>by
  show aM #v[] rfl (br ?_)
  rw[hM]; exact q
 have l1:∀(S:aa) (Q:QW),Q (.int (n:HR),S)->wO (iP (.tup [.tup Mqa,.tup N,b0]) (.int 1) S) λp=>wO (Bi.len.fn [p.1] p.2) Q:=λS Q q=>by
  show aM #v[] rfl (br ?_)
  rw[hN]; exact q
 generalize W.tup [.tup Mqa,.tup N,b0]=R at l0 l1;have big:∀S:aa,eF .pow (.int 10) (.int 20) S=ba (.int 100000000000000000000,S):=λS=>rfl
 have tT:∀ {S:aa},Thg S (.tup T):=.tup hT ∅
 have t2:∀ {S:aa} {x y:W},Thg S x->Thg S y->Thg S (.tup [x,y]):=λhx hy=>.tup (fc hx (fc hy fn)) (II rfl)
 have ml:∀ {S:aa} {z:HR},¬ (0<=z/\z < (a:HR))->BP a n s S (.tup [.int z,.tup T]):=λh=>#[t2 .int tT,eD λz e=>by cases e; exact h]
 have sd:∀S:aa,jV (.tup T) gV (ba (-1)) S=ba (.tup (T.dropLast),S):=λS=>by
  simp only[jV,vP]
 have s1:∀S:aa,jV (.tup T) (ba 1) gV S=ba (.tup (T.drop 1),S):=λS=>by rw[show(1:HR)=((1:Hz):HR)from rfl]; simp only[jV,jr]
 have no:∀ {w:W},(∀p:Pt,w≠dJ p)->¬ gP a n s w:=λh #[p,e,_]=>h p e
 dsimp only[be];show st ?_;dsimp only[wS,wE,wV,wG,wU];show af (show d6 [3,4] [.int m,.tup T] [ba (.ref r),ba R,ba (.tup [.int m,.tup T]),gV,gV,gV,gV,gV]=ba [ba (.ref r),ba R,ba (.tup [.int m,.tup T]),ba (.int m),ba (.tup T),gV,gV,gV]from rfl) ?_
 nofun
 left;show qz ?_;dsimp only;have sr:∀S1:aa,Bi.str.fn [.int m] S1=ba (.str (Je (toString m)),S1):=λS1=>by simp only[Bi.fn,xX]; rw[HN ∅]
 show af (sr _) (hK _ _ ?_);clear hK K;have M1:∃xs,(S++[O.lst [.int m,.tup T]]++[O.lst T]++[O.lst [.ref S.length,.tup [.int m],.tup [.int m,.tup T,.tup T],.tup [.int m,.ref (S++[O.lst [.int m,.tup T]]).length],.tup [.bl true,.tup T],.tup [.non,.tup T],.tup [.str (Je (toString m)),.tup T]]])[(S++[O.lst [.int m,.tup T]]++[O.lst T]).length]?=ba (O.lst xs)/\xs.length=7/\∀x∈xs,BP a n s (S++[O.lst [.int m,.tup T]]++[O.lst T]++[O.lst [.ref S.length,.tup [.int m],.tup [.int m,.tup T,.tup T],.tup [.int m,.ref (S++[O.lst [.int m,.tup T]]).length],.tup [.bl true,.tup T],.tup [.non,.tup T],.tup [.str (Je (toString m)),.tup T]]]) x:=by
  show#[_,aq,rfl,?_];show fc #[.lst #[_,aK (aK aq)],no (λp e=>nomatch e)] (fc #[.tup (fc .int fn) (II rfl),no (λp e=>nomatch e)] (fc #[.tup (fc .int (fc tT (fc tT fn))) (II rfl),no (λp e=>nomatch e)] (fc #[t2 .int (.lst #[_,aK aq]),qA (λ_ e=>nomatch e)] (fc #[t2 .bl tT,eD (λ_ e=>nomatch e)] (fc #[t2 .non tT,eD (λ_ e=>nomatch e)] (fc #[t2 .str tT,eD (λ_ e=>nomatch e)] fn))))))
 have k1:Ka S (S++[O.lst [.int m,.tup T]]++[O.lst T]++[O.lst [.ref S.length,.tup [.int m],.tup [.int m,.tup T,.tup T],.tup [.int m,.ref (S++[O.lst [.int m,.tup T]]).length],.tup [.bl true,.tup T],.tup [.non,.tup T],.tup [.str (Je (toString m)),.tup T]]]):=(Ka.push.trans .push).trans .push;have hL:S.length<=(S++[O.lst [.int m,.tup T]]++[O.lst T]).length:=by simp
 dsimp only;generalize S++[O.lst [.int m,.tup T]]++[O.lst T]++[O.lst [.ref S.length,.tup [.int m],.tup [.int m,.tup T,.tup T],.tup [.int m,.ref (S++[O.lst [.int m,.tup T]]).length],.tup [.bl true,.tup T],.tup [.non,.tup T],.tup [.str (Je (toString m)),.tup T]]]=S1 at M1 k1;generalize(S++[O.lst [.int m,.tup T]]++[O.lst T]).length=c1 at M1 hL;obtain⟨xs,e1,x1,h1⟩:=M1;have f1:=hf.ka k1;have hrl:=hf.lt;replace k1:=k1.kp r;have more:∀(S1:aa) (c1:Hz) (xs ys:Ho W),S1[c1]?=ba (.lst xs)->(∀x∈xs,BP a n s S1 x)->(∀x∈ys,BP a n s S1 x)->xs.length<=50->ys.length<=50->∀Q:QW,(∀c2 S2,S2[c2]?=ba (.lst (xs++ys))->S1.length<=c2->(∀x∈xs++ys,BP a n s S2 x)->Ka S1 S2->Q (.ref c2,S2))->wO (eF .add (.ref c1) (.ref S1.length) (S1++[.lst ys])) Q:=by
  intro S1 c1 xs ys e1 h1 h2 hx hy Q kk;show af (uZ (aK e1) aq (vQ (by rw[HK]; omega))) (kk _ _ aq (by simp) (λx hx=>?_) (Ka.push.trans .push))
  exact(fa h1 h2 x hx).ka (Ka.push.trans .push)
 nofun
 dsimp only[wS,wE,wA,wV,wG,wN,HZ];show af (oz (vQ (by rw[HK]; show _+1<=_; omega))) (l0 _ _ (af (big _) ?_))
 dsimp only;show more S1 c1 xs _ e1 h1 (fc #[t2 (.tup (fc .int fn) (II rfl)) tT,eD (λ_ e=>nomatch e)] (fc #[t2 .int (.tup (fa hT (fc .int fn)) (by rw[HK]; show _+1<=_; omega)),iu (by rw[HK]; show _+1≠_; omega)] (fc #[t2 .int .non,qA (λ_ e=>nomatch e)] (fc (ml ∅) (fc (ml ∅) (fc (ml ∅) fn)))))) ∅ (II rfl) _ λc2 S2 e2 hc2 h2 k2=>hK _ _ ?_
 clear hK K;have x2:(xs++[W.tup [.tup [.int m],.tup T],.tup [.int m,.tup (T++[.int 0])],.tup [.int m,.non],.tup [.int (a:HR),.tup T],.tup [.int (-1),.tup T],.tup [.int 100000000000000000000,.tup T]]).length=13:=by rw[HK,x1]; rfl
 generalize xs++[W.tup [.tup [.int m],.tup T],.tup [.int m,.tup (T++[.int 0])],.tup [.int m,.non],.tup [.int (a:HR),.tup T],.tup [.int (-1),.tup T],.tup [.int 100000000000000000000,.tup T]]=xs2 at e2 h2 x2;have f2:=f1.ka k2;replace k1:=k1.trans (k2.kp r);clear h1 e1 x1 k2 hL f1;nofun
 dsimp only[wS,wE,wA,wV,wG,wN,HZ];show more S2 c2 xs2 _ e2 h2 (fc #[.int,no (λp e=>nomatch e)] (fc #[.tup fn (JJ _),no (λp e=>nomatch e)] (fc #[.non,no (λp e=>nomatch e)] (fc #[.int,no (λp e=>nomatch e)] (fc #[.str,no (λp e=>nomatch e)] fn))))) ∅ (II rfl) _ λc3 S3 e3 hc3 h3 k3=>hK _ _ ?_
 clear hK K;have x3:(xs2++[W.int m,.tup [],.non,.int 0,.str "a"]).length=18:=by rw[HK,x2]; rfl
 generalize xs2++[W.int m,.tup [],.non,.int 0,.str "a"]=xs3 at e3 h3 x3;have f3:=f2.ka k3;have q3:r < c3:=by have:=f2.lt; omega
 have hS3:S.length<=c3:=by have:=k1.len; omega
 replace k1:=k1.trans (k3.kp r);clear h2 e2 x2 k3 hc2 hc3 f2;have fin:∀(S4:aa) (c4:Hz) (ys:Ho W) (a6 a7:Hs W),S4[c4]?=ba (.lst ys)->0 < ys.length->ys.length<=50->(∀x∈ys,BP a n s S4 x)->c4≠r->Fl S4 r->Kp r S S4->wZ (ah defs fuel (d+1)) fuel #v[.ret (.ix (.v 5) (.own "_law_pick" 2 #v[.v 0,.bi .len #v[.v 5]]))] [ba (.ref r),ba R,ba (.tup [.int m,.tup T]),ba (.int m),ba (.tup T),ba (.ref c4),a6,a7] S4 Q':=by
  intro S4 c4 ys a6 a7 e4 y0 y1 h4 q4 f4 k4;show st ?_;left;show zQ e4 ?_;show aL (d:=d) G.pick f4 ∅ ∅ λv S5 v0 v1 f5 k5=>?_
  have hv:v.toNat < ys.length:=∅
  have bp:=h4 _ (Jl hv);exact jn (k5.get _ _ q4 e4) v0 (HI hv) (k _ _ #[bp.1.kp k5 f5,bp.2] f5 (k4.trans k5))
 nofun
 dsimp only[wS,wT,wE,wA,wV,wG];show af (ne0 _) ?_;dsimp only[wB];show aw (Q0:=Q') (λz Q2 hn hr=>?_) (λz Q2 hn _=>dh (hn _ _ (hK _ _ (fin S3 c3 xs3 gV gV e3 ∅ ∅ h3 ∅ f3 k1))))
 have hs0:0 < T.length:=by
  cases T with
  | nil=>cases z
  | cons _ _=>exact Nat.succ_pos _
 show bn λK2 hK2=>?_
 left;show br ?_;show aL (d:=d) G.pick f3 ∅ ∅ λv S4 v0 v1 f4 k4=>hK2 _ _ ?_
 clear hK2 K2;obtain⟨i,rfl⟩ : ∃i:Hz,v=i:=#[v.toNat,∅]
 have hi:i < T.length:=∅
 have e4:=k4.get _ _ ∅ e3
 have h4:∀x∈xs3,BP a n s S4 x:=λx hx=>#[(h3 x hx).1.kp k4 f4,(h3 x hx).2]
 replace k1:=k1.trans k4;clear h3 e3 f3 k4;show bn λK2 hK2=>?_
 show vO rfl rfl ?_;dsimp only[wE,wA,wV,wG,wN];show l1 _ _ (af (big _) ?_);dsimp only;have hO:∀x∈[W.int (n:HR),.int (-1),.int 100000000000000000000,.bl true,.non,.str "0",.tup [.int 0],.ref S4.length],Thg (S4++[O.lst [.int 0]]) x/\∀z:HR,x=.int z->¬ (0<=z/\z < (n:HR)):=
  fc #[.int,λz e=>by cases e; omega] (fc #[.int,λz e=>by cases e; omega] (fc #[.int,λz e=>by cases e; omega] (fc #[.bl,(λ_ e=>nomatch e)] (fc #[.non,(λ_ e=>nomatch e)] (fc #[.str,(λ_ e=>nomatch e)] (fc #[.tup (fc .int fn) (II rfl),(λ_ e=>nomatch e)] (fc #[.lst #[_,aq],(λ_ e=>nomatch e)] fn)))))))
 have hol:[W.int (n:HR),.int (-1),.int 100000000000000000000,.bl true,.non,.str "0",.tup [.int 0],.ref S4.length].length=8:=rfl;generalize[W.int (n:HR),.int (-1),.int 100000000000000000000,.bl true,.non,.str "0",.tup [.int 0],.ref S4.length]=os at hO hol;have hcl:=qe e4;have hct:c3≠(S4++[O.lst [.int 0]]).length:=by simp; omega
 show#[_,os,λj Z S'=>(∃a7,Z=[ba (.ref r),ba R,ba (.tup [.int m,.tup T]),ba (.int m),ba (.tup T),ba (.ref c3),ba (.int (i:Hz)),a7])/\S'[(S4++[O.lst [.int 0]]).length]?=ba (.lst os)/\(∃zs,S'[c3]?=ba (.lst zs)/\zs.length=18+j/\∀x∈zs,BP a n s S' x)/\(∀x∈os,Thg S' x)/\Fl S' r/\Kp r S S',rfl,#[#[gV,rfl],aq,#[xs3,aK (aK e4),x3,λx hx=>(h4 x hx).ka (Ka.push.trans .push)],λx hx=>(hO x hx).1.ka .push,f4.ka (Ka.push.trans .push),k1.trans ((Ka.push.trans .push).kp r)],λ_ _ _ h=>h.2.1,?_,?_]
 ·rintro j x Z S5 hj ⟨⟨a7,rfl⟩,eo,⟨zs,ez,zl,hz⟩,to5,f5,k5⟩;show af (show lK (.nm 7) x [ba (.ref r),ba R,ba (.tup [.int m,.tup T]),ba (.int m),ba (.tup T),ba (.ref c3),ba (.int (i:Hz)),a7] S5=ba ([ba (.ref r),ba R,ba (.tup [.int m,.tup T]),ba (.int m),ba (.tup T),ba (.ref c3),ba (.int (i:Hz)),ba x],S5)from rfl) ?_
  intro Q3 hn3 _;have hxm:=Jq hj;have hj8:j < os.length:=(HD.mp hj).1;show st ?_;left;show#[jj ez,zT (d:=d) hpt ∅ (m8 ez ∅ (dh (hn3 _ _ ?_)))]
  have mono:∀l:Hz,(∃xs,S5[l]?=ba (O.lst xs))->∃xs,(S5.set c3 (.lst (zs++[.tup [.int m,.tup (T.take i++[x]++T.drop (i+1))]])))[l]?=ba (O.lst xs):=λl #[xs,e]=>by
   by_cases q:c3=l
   ·subst q; exact#[_,eu ez]
   ·exact#[xs,by rw[gZ q]; exact e]
  show#[#[_,rfl],by rw[gZ hct]; exact eo,#[_,eu ez,by rw[HK,zl]; rfl,fa (λy hy=>#[(hz y hy).1.mono mono,(hz y hy).2]) (fc #[?_,yV (o:=x) (by simp) (hO x hxm).2] fn)],λy hy=>(to5 y hy).mono mono,f5.own q3,k5.late hS3]
  show t2 .int (.tup (fa (fa (λy hy=>hT y (List.take_subset _ _ hy)) (fc ((to5 x hxm).mono mono) fn)) λy hy=>hT y (Ov _ _ hy)) ?_)
  rw[HK,HK,Ju,JK]; show _+1+_<=_; omega
 ·rintro Z S5 ⟨⟨a7,rfl⟩,eo,⟨zs,ez,zl,hz⟩,to5,f5,k5⟩;show hK2 _ _ ?_;clear hK2 K2;show bn λK2 hK2=>?_
  dsimp only[wS,wE,wA,wP,wV,wG,wN,HZ];show af (sd _) (af (s1 _) ?_);dsimp only;show more S5 c3 zs _ ez hz (fc #[t2 .int (.tup (λy hy=>hT y (List.dropLast_subset _ hy)) (by rw[M8]; omega)),iu (by rw[M8]; omega)] (fc #[t2 .int (.tup (λy hy=>hT y (Ov _ _ hy)) (by rw[JK]; omega)),iu (by rw[JK]; omega)] (fc #[t2 .int (.tup fn (JJ _)),iu (by change 0≠_; omega)] fn))) ∅ (II rfl) _ λc6 S6 e6 hc6 h6 k6=>hK2 _ _ (dh (hn _ _ (hK _ _ (fin S6 c6 _ _ _ e6 ?_ ?_ h6 ?_ (f5.ka k6) (k5.trans (k6.kp r))))))
  ·rw[HK]; omega
  ·rw[HK,zl,hol]; show _+3<=_; omega
  ·have:=f5.lt; omega
end
abbrev iw:Ss:=
 #v[.set 1 (.own "_law_flow" 1 #v[.v 0]),.set 2 (.own "_law_rule" 1 #v[.v 1]),.set 3 (.own "_law_pick" 2 #v[.v 1,.c (.int 13)]),.ite (.cmp .eq (.own "_law_pick" 2 #v[.v 1,.c (.int 8)]) (.c (.int 0))) #v[.set 3 (.own "_law_pick" 2 #v[.v 1,.c (.int 41)])] .nil,.set 4 (.own "_law_any_world" 3 #v[.v 1,.v 2,.v 3]),.loop (.nm 5) (.rng #v[.op .mul (.c (.int 4)) (.bi .int #v[.cmp .gt (.v 3) (.c (.int 0))])]) #v[.set 6 (.v 4),.set 7 (.v 3),.loop (.nm 8) (.rng #v[.op .add (.c (.int 1)) (.own "_law_pick" 2 #v[.v 1,.c (.int 3)])]) #v[.set 9 (.own "_law_pick" 2 #v[.v 1,.v 3]),.set 6 (.own "_law_put" 3 #v[.v 6,.v 9,.own "_law_bad_point" 3 #v[.v 1,.v 2,.ix (.v 4) (.v 9)]]),.set 7 (.bi .min #v[.v 7,.v 9])],.ite (.or (.not (.own "_law_alike" 2 #v[.own "_law_told" 2 #v[.v 2,.v 6],.tup #v[.c (.str "refused"),.v 7]])) (.cmp .isnot (.own "look_world" 2 #v[.v 2,.v 4]) (.c (.bl true)))) #v[.ret (.c (.bl false))] .nil,.ite (.not (.own "_law_alike" 2 #v[.own "_law_told" 2 #v[.v 2,.v 6],.tup #v[.c (.str "refused"),.v 7]])) #v[.ret (.c (.bl false))] .nil],.set 10 (.own "_law_rule" 1 #v[.v 1]),.set 11 (.comp (.v 1) (.nm 1) (.rng #v[.v 3]) #v[.not (.own "_law_of_rule" 2 #v[.v 2,.sl (.v 3) (.yes (.v 1)) (.yes (.op .add (.v 1) (.c (.int 1))))])] [gV,gV,ba 10,ba 4]),.set 12 (.tup #v[.c (.str "let by"),.c (.int 0)]),.ite (.cmp .ne (.v 11) (.lst .nil)) #v[.set 12 (.tup #v[.c (.str "refused"),.ix (.v 11) (.c (.int 0))])] .nil,.ite (.not (.own "_law_alike" 2 #v[.own "_law_told" 2 #v[.v 10,.v 4],.v 12])) #v[.ret (.c (.bl false))] .nil,.set 13 (.ix (.lst #v[.c .non,.c (.int 0),.c (.bl true),.c (.str ""),.c (.str "a"),.lst .nil,.bi .list #v[.v 4],.neg (.c (.int 1))]) (.own "_law_pick" 2 #v[.v 1,.c (.int 8)])),.ite (.or (.not (.own "_law_alike" 2 #v[.own "_law_told" 2 #v[.v 2,.v 13],.tup #v[.c (.str "refused"),.c (.int 0)]])) (.cmp .isnot (.own "look_world" 2 #v[.v 2,.tup .nil]) (.c (.bl true)))) #v[.ret (.c (.bl false))] .nil,.ret (.own "_law_alike" 2 #v[.own "_law_told" 2 #v[.v 2,.v 4],.tup #v[.c (.str "let by"),.c (.int 0)]])]
structure Lw04 (cl:Cl)(defs:Ho (HC×Df)):Prop where
 gen:Gen defs
 knd:Knd defs
 rule:Is defs ("_law_rule" : HC) 1 6 bY
 lookx:Is defs ("look_world!" : HC) 2 4 bf
 look:Is defs ("look_world" : HC) 2 4 (zN "look_world!" 2)
 put:Is defs ("_law_put" : HC) 3 3 cg
 bad:Is defs ("_law_bad_point" : HC) 3 8 be
 ofr:Is defs ("_law_of_rule" : HC) 2 4 bz
 told:Is defs ("_law_told" : HC) 2 5 (bZ cl)
 alike:Is defs ("_law_alike" : HC) 2 2 bg
 flow:Is defs ("_law_flow" : HC) 1 1 cw
 world:Is defs ("_law_any_world" : HC) 3 6 aZ
 law:Is defs ("law" : HC) 1 14 iw
def GB {M:HC->FF}{Z:Fm}{S:aa}{m:HR}{Q:QW}(h3:∀P:W->Prop,P (.int m)->wV Z 3 P)(k:∀z:HR,0<=z->z<=4->(0 < z->0 < m)->Q (.int z,S)):wE M (.op .mul (.c (.int 4)) (.bi .int #v[.cmp .gt (.v 3) (.c (.int 0))])) Z S Q:=by
 have hb:∀x:HR,0<=x->x<=1->eF .mul (.int 4) (.int x) S=ba (.int (4*x),S):=λx h0 h1=>qa ∅ ∅
 rw[wE];generalize eF .mul=f at hb ⊢;dsimp only[wE,wA];show h3 _ ?_;show af Eb ?_;show af (show Bi.int.fn [.bl (decide (m > 0))] S=ba (.int (if decide (m > 0)=true then 1 else 0),S)from rfl) ?_
 dsimp only
 by_cases h:m > 0
 ·rw[HN (Ji h)];exact af (hb 1 #v[] #v[]) (k _ #v[] #v[] λ_=>h)
 ·rw[HY (by rw[Im]; exact h)]
  exact af (hb 0 #v[] #v[]) (k _ #v[] #v[] λz=>∅)
def yW {xs:Ho W}{i:Hz}{w:W}(h:xs[i]?=ba w):fq xs (ba (i:HR)) (ba ((i:HR)+1))=[w]:=by
 have hl:=(HD.mp h).1;unfold fq;rw[show(i:HR)+1=((i+1:Hz):HR) by omega,HT.hZ,HT.hZ,LD ∅,LD ∅,show i+1 - i=1 by omega,List.take_one,List.head?_drop,h]
 rfl
def ES {S:aa}{i j:Hz}{xs:Ho W}(h1:S[i]?=ba (.lst xs))(h2:S[j]?=ba (.lst [])):cV .ne (.ref i) (.ref j) S=ba (.bl (!xs.isEmpty),S):=by
 show((lV S (19+1) (.ref i) (.ref j)).map (!·)).map (λk=>(W.bl k,S))=_
 (dsimp only[lV]; simp only[io h1,io h2])
 cases xs with
 | nil=>rfl
 | cons x xs=>rfl
def yX {xs:Ho W}{i:Hz}{w:W}(h:i < xs.length):xs.take i++[w]++xs.drop (i+1)=xs.set i w:=by
 rw[List.set_eq_take_append_cons_drop,HN h,KD]; rfl
def qB {a n i:Hz}{p:Pt}:gP a n i (dJ p)↔GoodP a n i p:=#[λ#[q,e,g]=>by rw[oV e]; exact g,λg=>#[p,rfl,g]]
def GoodW.gp {a n i:Hz}{u:Wd}{p:Pt}(h:GoodW a n u)(e:u[i]?=ba p):GoodP a n i p:=#[h.mark i p e,h.len i p e,h.way i p e]
def ET {S:aa}{u:Wd}{a n:Hz}(hu:GoodW a n u)(hl:u.length<=50):∀x∈u.map dJ,Thg S x:=λx hx=>by
 obtain⟨p,hp,rfl⟩:=IS.mp hx;obtain⟨i,hi,e⟩:=List.getElem_of_mem hp;exact .pt (by rw[hu.len i p (by rw[HI hi,e])]; omega)
def yY {a n:Hz}{u:Wd}(hu:GoodW a n u):gm a n (bL u):=#[_,rfl,λi x e=>by
 rw[HQ,Hx]at e;obtain⟨p,e1,rfl⟩:=e;exact qB.mpr (hu.gp e1)]
def nw {m j:Hz}{p:Hz->HP}{au:Ho Hz}(h:(IJ m).filter p=j::au):j < m/\p j=true/\∀i < j,p i=false:=by
 have e:((IJ m).filter p).head?=ba j:=by rw[h]; rfl
 rw[List.head?_filter,List.find?_range_eq_some]at e;obtain⟨e1,e2,e3⟩:=e;exact#[Jp.mp e2,e1,λi hi=>by simpa using e3 i hi]
section
variable{defs:Ho (HC×Df)}{fuel d:Hz}
def vV (hfu:50 < fuel){cl:Cl}{C:Hv}(hc:cl "NoWorld" = ba (C,[("point" : HC)]))(L:Lw04 cl defs){zs:Ho HR}:∃S',ah defs fuel (d+7) "law" [.ref 0] [.fro (zs.map W.int)]=ba (.bl true,S'):=by
 suffices h:wO (aU (ah defs fuel (d+7)) "law" 1 [.ref 0] [.fro (zs.map W.int)]) (λp=>p.1=.bl true) by
  obtain⟨⟨v,S'⟩,e,q⟩:=aO h;cases(show v=.bl true from q)
  exact#[S',e]
 have G:=L.gen;show az L.law rfl rfl λQ' hR=>?_
 change wZ _ _ iw [ba (.ref 0),gV,gV,gV,gV,gV,gV,gV,gV,gV,gV,gV,gV,gV] [.fro (zs.map W.int)] Q';have told:=λ(Mqa N:Ho W) (b0 w:W) (a n:Hz) (hM:Mqa.length=a) (hN:N.length=n) (S:aa) (Q:QW) (h:Thg S w)=>Co (defs:=defs) (fuel:=fuel) (d:=d) (S:=S) (Q:=Q) (b0:=b0) hc L.knd L.lookx L.told hM hN h
 have look:∀(Mqa N:Ho W) (b0 w:W) (a n:Hz) (hM:Mqa.length=a) (hN:N.length=n) (S:aa) (Q:QW) (h:Thg S w) (g:gm a n w) (k:∀S',Ka S S'->Q (.bl true,S')),wO (aU (ah defs fuel (d+6)) "look_world" 2 [.tup [.tup Mqa,.tup N,b0],w] S) Q:=λMqa N b0 w a n hM hN S Q h g k=>
  yT (d:=d+5) L.look rfl (vU (d:=d) L.knd L.lookx hM hN h (λS' a _=>#[_,rfl,k S' a]) λj S' _ b=>(b.not g).elim)
 have al:∀(x:HC) (j:HR) (S:aa) (Q:QW),(∀S',Ka S S'->Q (.bl true,S'))->wO (aU (ah defs fuel (d+6)) "_law_alike" 2 [.tup [.str x,.int j],.tup [.str x,.int j]] S) Q:=λx j S Q k=>yQ L.alike 1 (d+4) _ _ _ #[II rfl,fc trivial (fc trivial fn)] k
 unfold iw;nofun
 left;show Ck (d:=d+5) L.flow (ns:=zs) rfl λr S1 _ f1=>hK _ _ ?_
 clear hK K;nofun
 left;show qy (d:=d) ∅ G L.rule f1 λw S2 hw f2 _=>hK _ _ ?_
 clear hK K f1;obtain⟨a,bs,ms,ns,gs,rfl,hr⟩:=hw;have hb:=hr.size.good;have hnl:=hr.nl;have hml:=hr.ml;have hpos:=hr.size.pos;have ha3:=hr.size.a3;obtain⟨hn1,hn3⟩:=hr.size.n3;clear hr;unfold gl;generalize W.tup ((ju gs).map bL)=b0;clear gs;nofun
 left;show aL (d:=d+5) G.pick f2 #v[] #v[] λv S3 v0 v1 f3 _=>hK _ _ ?_
 clear hK K f2;nofun
 have tl:∀(n:Hz) (S4:aa),n<=40->Fl S4 r->K [ba (.ref 0),ba (.ref r),ba (.tup [.tup (ms.map W.str),.tup (IH b7 ns bs),b0]),ba (.int (n:HR)),gV,gV,gV,gV,gV,gV,gV,gV,gV,gV] S4:=by
  intro many S4 hmany f4;show hK _ _ ?_;clear hK K f3 v0 v1;nofun
  left;show nq (d:=d+4) G L.world f4 hpos ha3 hb hml hnl ∅ λu S5 hul hu f5 _=>hK _ _ ?_
  clear hK K f4;have hM:(ms.map W.str).length=a:=by rw[HB,hml]
  have hN:(IH b7 ns bs).length=bs.length:=by rw[KU]; omega
  generalize hn:bs.length=n at hN hu hn1 hn3;clear hml hnl hb;have told1:=λ(w:W)=>told _ _ b0 w a n hM hN
  have look1:=λ(w:W)=>look _ _ b0 w a n hM hN
  have badp:=λ(S:aa) (Q:QW) (s:Hz) (p:Pt) (hp:GoodP a n s p) (hs:s<=50) (hf:Fl S r)=>Cp (defs:=defs) (fuel:=fuel) (d:=d+4) (S:=S) (Q:=Q) (b0:=b0) G L.put L.bad hM ha3 hN hn1 hn3 hp hs hf
  generalize W.tup [.tup (ms.map W.str),.tup (IH b7 ns bs),b0]=R at told1 look1 badp;clear hM hN;have tU:∀ {S:aa},∀x∈u.map dJ,Thg S x:=ET hu ∅
  have ul:(u.map dJ).length=many:=by rw[HB,hul]
  have tu:∀ {S:aa},Thg S (bL u):=.tup tU ∅
  have gu:gm a n (bL u):=yY hu;nofun
  show jw rfl rfl (GB (m:=(many:HR)) (λP h=>h) λz z0 z4 zm=>#[z,λ_ Z S'=>(∃a5 a6 a7 a8 a9,Z=[ba (.ref 0),ba (.ref r),ba R,ba (.int (many:HR)),ba (bL u),a5,a6,a7,a8,a9,gV,gV,gV,gV])/\Fl S' r,rfl,∅,#[#[gV,gV,gV,gV,gV,rfl],f5],?_,?_])
  ·rintro k Z S6 hk ⟨⟨a5,a6,a7,a8,a9,rfl⟩,f6⟩ Q2 hn2 hr2;clear hK;have hmp:0 < many:=by have:=zm ∅; omega
   show st ?_;dsimp only[wS,wE,wV,wG,HZ];show st ?_;dsimp only[wS,wE,wV,wG,HZ];nofun
   show jw rfl rfl ?_;dsimp only[wE,wA,wV,wG];show aL (d:=d+5) G.pick f6 #v[] #v[] λv S7 v0 v1 f7 _=>?_
   show af bW ?_;show#[1+v,λj Z S'=>∃xs first a8 a9,Z=[ba (.ref 0),ba (.ref r),ba R,ba (.int (many:HR)),ba (bL u),ba (.int (k:Hz)),ba (.tup xs),ba (.int (first:Hz)),a8,a9,gV,gV,gV,gV]/\xs.length=many/\first<=many/\(0 < j->first < many)/\(∀x∈xs,Thg S' x)/\(∀(i:Hz) (x:W),xs[i]?=ba x->(i < first->gP a n i x)/\(i=first->¬ gP a n i x))/\Fl S' r,rfl,∅,?_,?_,?_]
   ·show#[u.map dJ,many,a8,a9,rfl,ul,HJ _,λh=>absurd h #v[],tU,λi x e=>#[λ_=>?_,λh=>?_],f7]
    ·obtain⟨xs,e1,g⟩:=gu;cases e1;exact g i x e
    ·have:=(HD.mp e).1;omega
   ·rintro j Z S8 hj ⟨xs,first,a8,a9,rfl,xl,hfm,_,hx,hpt,f8⟩ Q3 hn3' _
    clear hK;nofun
    left;show aL (d:=d+5) G.pick f8 ∅ ∅ λv2 S9 w0 w1 f9 k9=>hK _ _ ?_
    clear hK K;obtain⟨t,rfl⟩ : ∃t:Hz,v2=t:=#[v2.toNat,∅]
    have ht:t < many:=∅
    nofun
    left;show aM (IR _) (qt ∅) ?_
    have hp:=hu.gp (bU (d:=(0,[])) (show t < u.length by omega))
    show badp S9 _ t _ hp ∅ f9 λw S10 bw f10 k10=>?_
    show zT (d:=d+5) L.put ∅ (hK _ _ ?_)
    clear hK K;rw[yX ∅]
    show st ?_;left;show af (show Bi.min.fn [.int (first:Hz),.int (t:Hz)] S10=ba (.int (if (t:HR) < (first:HR)then(t:HR)else(first:HR)),S10)from rfl) ?_
    dsimp only;have em:(if (t:HR) < (first:HR)then(t:HR)else(first:HR))=((if t < first then t else first:Hz):HR):=by
     by_cases q:t < first
     ·rw[HN q,HN ∅]
     ·rw[HY q,HY ∅]
    rw[em];show dh (hn3' _ _ #[xs.set t w,_,_,_,rfl,by rw[MG]; exact xl,?_,λ_=>?_,λx hx'=>?_,λi x e=>?_,f10])
    ·split <;> omega
    ·split <;> omega
    ·rcases List.mem_or_eq_of_mem_set hx' with q|rfl
     ·exact((hx x q).kp k9 f9).kp k10 f10
     ·exact bw.1
    ·rw[Jo]at e
     by_cases q:t=i
     ·subst q;rw[HN rfl,HN ∅]at e
      cases e;show#[λh=>?_,λ_=>bw.2]
      split at h <;> omega
     ·rw[HY q]at e;obtain⟨h1,h2⟩:=hpt i x e;show#[λh=>h1 ?_,λh=>h2 ?_]
      ·split at h <;> omega
      ·split at h <;> omega
   ·rintro Z S8 ⟨xs,first,a8,a9,rfl,xl,hfm,hj,hx,hpt,f8⟩
    show hK _ _ ?_;clear hK K;have hf1:first < many:=hj ∅
    have e1:xs[first]?=ba xs[first]:=HI ∅
    have bt:BadT a n (.tup xs) first:=.inr #[xs,_,rfl,e1,(hpt first _ e1).2 rfl,λi x hi e=>(hpt i x e).1 hi]
    have tx:∀ {S':aa},Ka S8 S'->Thg S' (.tup xs):=λkk=>.tup (λx h=>(hx x h).ka kk) ∅
    nofun
    dsimp only[wS,wT,wE,wA,wV,wG];show told1 _ S8 _ (tx .refl) (λS' _ g=>(bt.not g).elim) λj S9 k9 b=>?_
    obtain rfl:=b.uniq bt;show al _ _ _ _ λS10 k10=>?_
    show af (show b6 S10 (.bl true)=ba true from rfl) #[λz=>(by cases z),λ_=>?_]
    show look1 _ S10 _ tu gu λS11 k11=>?_
    show af (show cV .isnot (.bl true) (.bl true) S11=ba (.bl false,S11)from rfl) ?_
    dsimp only[wB];show aw (Q0:=Q2) (λz=>by cases z) (λ_ Q3 hn3 _=>dh (hn3 _ _ (hK _ _ ?_)))
    clear hn3 hK K;nofun
    dsimp only[wS,wT,wE,wA,wV,wG];show told1 _ S11 _ (tx (k9.trans (k10.trans k11))) (λS' _ g=>(bt.not g).elim) λj' S12 k12 b'=>?_
    obtain rfl:=b'.uniq bt;show al _ _ _ _ λS13 k13=>?_
    show af (show b6 S13 (.bl true)=ba true from rfl) ?_
    show aw (Q0:=Q2) (λz=>by cases z) (λ_ Q3 hn3 _=>dh (hn3 _ _ (hK _ _ (dh (hn2 _ _ #[#[_,_,_,_,_,rfl],f8.ka (k9.trans (k10.trans (k11.trans (k12.trans k13))))])))))
  ·rintro Z S6 ⟨⟨a5,a6,a7,a8,a9,rfl⟩,f6⟩;show hK _ _ ?_;clear hK K;nofun
   left;show qy (d:=d) ∅ G L.rule f6 λw S7 hw f7 _=>hK _ _ ?_
   clear hK K;obtain⟨a',bs',ms',ns',gs',rfl,hr'⟩:=hw;have hM':(ms'.map W.str).length=a':=by rw[HB,hr'.ml]
   have hN':(IH b7 ns' bs').length=bs'.length:=by rw[KU,hr'.nl]; omega
   clear hr';unfold gl;generalize W.tup ((ju gs').map bL)=b0';generalize bs'.length=n' at hN';have told2:=λ(w:W)=>told _ _ b0' w a' n' hM' hN'
   have ofr:=λ(S:aa) (Q:QW) (s:Hz) (p:Pt) (hl:p.2.length=s) (hs:s<=100)=>r0 (defs:=defs) (fuel:=fuel) (d:=d+5) (S:=S) (Q:=Q) (b0:=b0') L.ofr hM' hN' hl hs
   generalize W.tup [.tup (ms'.map W.str),.tup (IH b7 ns' bs'),b0']=R' at told2 ofr;nofun
   show EG ?_;dsimp only[wE];show Cf many (λi=>!jH (GoodP a' n' i (u.getD i (0,[])))) (λi=>.int (i:Hz)) [ba R',ba (bL u)] rfl rfl rfl rfl ∅ ?_ (λi hi S' k'=>?_) λS8 k8=>hK _ _ ?_
   ·exact#[rfl,.refl]
   ·dsimp only[m6,wC,wT,wE,wA,wP,wV,wG,wN];show af bW ?_;dsimp only;have ei:(u.map dJ)[i]?=ba (dJ (u.getD i (0,[]))):=by rw[HQ,bU (d:=(0,[])) (show i < u.length by omega)]; rfl
    show af (show jV (bL u) (ba ((i:Hz):HR)) (ba ((i:HR)+1)) S'=ba (.tup [dJ (u.getD i (0,[]))],S') by simp only[bL,jV,yW ei]) ?_
    dsimp only;show ofr S' _ i _ (hu.len i _ (bU ∅)) ∅ λS2 k2=>?_
    show af (show b6 S2 (.bl (jH _))=ba (jH _)from rfl) ?_
    exact#[λz=>#[z,rfl,k2],λz=>#[z,k2]]
   clear hK K;have f8:=(f7.ka k8).ka (S':=S8++[.lst (((IJ many).filter λi=>!jH (GoodP a' n' i (u.getD i (0,[])))).map λi=>W.int (i:Hz))]) .push
   have due:∃x:HC,∃z:HR,(∀S' Q,(∀S'',Ka S' S''->Q (.tup [.str x,.int z],S''))->wO (aU (ah defs fuel (d+6)) "_law_told" 2 [R',bL u] S') Q)/\(((IJ many).filter λi=>!jH (GoodP a' n' i (u.getD i (0,[]))))=[]/\x = "let by"/\z=0\/∃j au,((IJ many).filter λi=>!jH (GoodP a' n' i (u.getD i (0,[]))))=j::au/\x = "refused"/\z=(j:Hz)):=by
    cases hL:((IJ many).filter λi=>!jH (GoodP a' n' i (u.getD i (0,[]))))with
    | nil=>
     show#["let by",0,λS' Q kk=>told2 _ S' _ tu (λS'' k'' _=>kk S'' k'') λj S'' _ b=>(b.not #[_,rfl,λi x e=>?_]).elim,.inl #[rfl,rfl,rfl]]
     rw[HQ,Hx]at e;obtain⟨p,e1,rfl⟩:=e;have hi:=(HD.mp e1).1;have:=List.filter_eq_nil_iff.mp hL i (Jp.mpr ∅)
     rw[show u.getD i (0,[])=p by rw[L6,e1]; rfl]at this
     exact qB.mpr (dG.mp (by simpa using this))
    | cons j au=>
     obtain⟨h1,h2,h3⟩:=nw hL;have bt:BadT a' n' (bL u) j:=.inr #[_,_,rfl,by rw[HQ,bU (d:=(0,[])) (show j < u.length by omega)]; rfl,λg=>?_,λi x hi e=>?_]
     ·show#["refused",(j:Hz),λS' Q kk=>told2 _ S' _ tu (λS'' k'' g=>(bt.not g).elim) λj' S'' k'' b=>?_,.inr #[j,au,rfl,rfl,rfl]]
      rw[b.uniq bt];exact kk S'' k''
     ·have:=qB.mp g;rw[qv this]at h2;cases h2
     ·rw[HQ,Hx]at e;obtain⟨p,e1,rfl⟩:=e;have:=h3 i hi;rw[show u.getD i (0,[])=p by rw[L6,e1]; rfl]at this
      exact qB.mpr (dG.mp (by simpa using this))
   obtain⟨x,z,tdue,hdue⟩:=due;show st ?_;dsimp only[wS,wE,wA,HZ];nofun
   dsimp only[wS,wT,wE,wA,wV,wG,HZ];have tl2:∀S9:aa,Fl S9 r->K [ba (.ref 0),ba (.ref r),ba R,ba (.int (many:HR)),ba (bL u),a5,a6,a7,a8,a9,ba R',ba (.ref S8.length),ba (.tup [.str x,.int z]),gV] S9:=by
    intro S9 f9;show hK _ _ ?_;clear hK K;nofun
    dsimp only[wS,wT,wE,wA,wV,wG];show tdue _ _ λS10 k10=>al _ _ _ _ λS11 k11=>?_
    show af (show b6 S11 (.bl true)=ba true from rfl) ?_
    show aw (Q0:=Q') (λz=>by cases z) (λ_ Q3 hn3 _=>dh (hn3 _ _ (hK _ _ ?_)))
    clear hn3 hK K;have CB:=f9.ka (k10.trans k11);nofun
    dsimp only[wS,wE,wA,wV,wG,wN,HZ];show qz ?_;dsimp only;have hO:∀x∈[W.non,.int 0,.bl true,.str "",.str "a",.ref S11.length,.ref (S11++[O.lst []]).length,.int (-1)],Thg (S11++[O.lst []]++[O.lst (u.map dJ)]) x/\Cg x=false:=
     fc #[.non,rfl] (fc #[.int,rfl] (fc #[.bl,rfl] (fc #[.str,rfl] (fc #[.str,rfl] (fc #[.lst #[_,aK aq],rfl] (fc #[.lst #[_,aq],rfl] (fc #[.int,rfl] fn)))))))
    have hol:[W.non,.int 0,.bl true,.str "",.str "a",.ref S11.length,.ref (S11++[O.lst []]).length,.int (-1)].length=8:=rfl;generalize[W.non,.int 0,.bl true,.str "",.str "a",.ref S11.length,.ref (S11++[O.lst []]).length,.int (-1)]=os at hO hol;have kk:Ka S11 (S11++[O.lst []]++[O.lst (u.map dJ)]):=Ka.push.trans .push;have hlr:r≠(S11++[O.lst []]++[O.lst (u.map dJ)]).length:=by have:=CB.lt; simp; omega
    generalize S11++[O.lst []]++[O.lst (u.map dJ)]=S12 at hO kk hlr;show aL (d:=d+5) G.pick ((CB.ka kk).ka .push) #v[] #v[] λv S13 v0 v1 EJ k13=>?_
    have hv:v.toNat < os.length:=∅
    have ho:=hO _ (Jl hv);show jn (k13.get _ _ (Ne.symm hlr) aq) v0 (HI hv) (hK _ _ ?_);clear hK K;generalize os[v.toNat]=odd at ho;have to':Thg S13 odd:=(ho.1.ka .push).kp k13 EJ;have bt:BadT a n odd 0:=.inl #[ho.2,rfl];nofun
    dsimp only[wS,wT,wE,wA,wV,wG];show told1 _ S13 _ to' (λS' _ g=>(bt.not g).elim) λj S14 k14 b=>?_
    obtain rfl:=b.uniq bt;show al "refused" 0 _ _ λS15 k15=>?_
    show af (show b6 S15 (.bl true)=ba true from rfl) #[λz=>(by cases z),λ_=>?_]
    show look1 _ S15 _ (.tup fn (JJ _)) #[[],rfl,λi x e=>by simp at e] λS16 k16=>?_
    show af (show cV .isnot (.bl true) (.bl true) S16=ba (.bl false,S16)from rfl) ?_
    dsimp only[wB];show aw (Q0:=Q') (λz=>by cases z) (λ_ Q3 hn3 _=>dh (hn3 _ _ (hK _ _ ?_)))
    clear hn3 hK K;show st ?_;left;exact told1 _ S16 _ tu (λS' _ _=>al _ _ _ _ λS'' _=>hR _ _ rfl) λj S' _ b=>(b.not gu).elim
   show af (ES (aK aq) aq) ?_;dsimp only[wB];rcases hdue with⟨hL,rfl,rfl⟩|⟨j,au,hL,rfl,rfl⟩
   ·rw[hL];show aw (Q0:=Q') (λz=>by cases z) (λ_ Q3 hn3 _=>dh (hn3 _ _ (tl2 _ ?_)))
    rw[hL]at f8;exact f8.ka .push
   ·rw[hL]at f8 ⊢;show aw (Q0:=Q') (λ_ Q3 hn3 _=>st ?_) (λz=>by cases z)
    left;show jn (w:=.int (j:Hz)) (aK aq) #v[] rfl (dh (hn3 _ _ (tl2 _ (f8.ka .push))))
 dsimp only[wS,wT,wE,wA,wV,wG];show aL (d:=d+5) G.pick f3 #v[] #v[] λv2 S4 w0 w1 f4 _=>?_
 show af mT ?_;dsimp only[wB];show aw (Q0:=Q') (λ_ Q3 hn3 _=>st ?_) (λ_ Q3 hn3 _=>dh (hn3 _ _ ?_))
 ·left;show aL (d:=d+5) G.pick f4 #v[] #v[] λv3 S5 x0 x1 f5 _=>dh (hn3 _ _ ?_)
  obtain⟨m,rfl⟩ : ∃m:Hz,v3=m:=#[v3.toNat,∅]
  exact tl m S5 ∅ f5
 ·obtain⟨m,rfl⟩ : ∃m:Hz,v=m:=#[v.toNat,∅]
  exact tl m S4 ∅ f4
end
abbrev zU:Df:=#[["_law_script"],["_law_script","_law_flow_here","_law_rule_here","_law_many","_law_world","_law_k","_law_thing","_law_first","_law_j","_law_at","_law_other","_law_wrong","_law_due","_law_odd"],iw]
noncomputable abbrev Tw:=HC×Hz×Df×Hz
noncomputable abbrev tw (x:HC)(i:Hz)(d:Df)(a:Hz):Tw:=(x,i,d,a)
abbrev RL:Ho (HC×Hv×Ho HC):=[("NoWorld",63,["point"])]
abbrev qC:Cl:=λcn=>RL.lookup cn
abbrev GC:Ho (HC×Hv):=[("LayError",24),("NoWorld",63),("BadText",82),("NoLaying",101),("NoRow",177),("NoRule",44),("NoSentence",158),("NoShare",120),("NoWish",139)]
abbrev vW:Ho HC:=GC.map (·.1)
abbrev RT:Ho (HC×Hz):=RL.map λp=>(p.1,p.2.2.length)
abbrev TL:Ho Tw:=[tw "is_whole" 11 #[["thing"],["thing"],dE] 186,tw "is_tuple_of" 12 #[["thing","size"],["thing","size"],bV] 193,tw "is_numbers" 13 #[["thing","size"],["thing","size"],ce] 198,tw "is_point" 16 #[["rule","thing","ahead"],["rule","thing","ahead","mark_there"],dF] 210,tw "has_point_form" 17 #[["thing","ahead"],["thing","ahead"],bo] 217,tw "_law_flow" 19 #[["_law_script"],["_law_script"],cw] 224,tw "_law_pick" 20 #[["_law_flow_here","_law_many"],["_law_flow_here","_law_many","_law_cell","_law_digit"],bE] 231,tw "_law_letters" 21 #[["_law_flow_here","_law_many"],["_law_flow_here","_law_many"],bQ] 236,tw "_law_name" 22 #[["_law_flow_here","_law_stem"],["_law_flow_here","_law_stem","_law_near"],dA] 243,tw "_law_names" 23 #[["_law_flow_here","_law_many"],["_law_flow_here","_law_many","_law_stem","_law_names_here","_law_k","_law_name_here","_law_spare"],bG] 250,tw "_law_between" 24 #[["_law_rule_here","_law_world","_law_i","_law_j"],["_law_rule_here","_law_world","_law_i","_law_j"],bR] 257,tw "_law_part" 25 #[["_law_rule_here","_law_world","_law_points"],["_law_rule_here","_law_world","_law_points","_law_told_here","_law_k","_law_i"],dB] 262,tw "_law_turns" 26 #[[],[],eC] 269,tw "_law_figure" 27 #[["_law_rule_here","_law_three"],["_law_rule_here","_law_three"],cb] 274,tw "_law_backs" 28 #[["_law_flow_here","_law_many"],["_law_flow_here","_law_many","_law_menu"],cD] 281,tw "_law_rule_of" 29 #[["_law_flow_here","_law_marks","_law_backs_here","_law_barred"],["_law_flow_here","_law_marks","_law_backs_here","_law_barred","_law_names_here","_law_ways"],bS] 286,tw "_law_free_three" 30 #[["_law_flow_here","_law_marks","_law_ways"],["_law_flow_here","_law_marks","_law_ways","_law_told_here","_law_k"],bj] 291,tw "_law_sizes" 31 #[["_law_flow_here"],["_law_flow_here","_law_menu"],cF] 298,tw "_law_any_world" 32 #[["_law_flow_here","_law_rule_here","_law_many"],["_law_flow_here","_law_rule_here","_law_many","_law_told_here","_law_k","_law_mark"],aZ] 303,tw "_law_alike" 33 #[["_law_found","_law_due"],["_law_found","_law_due"],bg] 308,tw "_law_of_rule" 34 #[["_law_rule_here","_law_world"],["_law_rule_here","_law_world","_law_mark","_law_to"],bz] 313,tw "_law_put" 35 #[["_law_things","_law_at","_law_other"],["_law_things","_law_at","_law_other"],cg] 320,tw "_law_rule" 36 #[["_law_flow_here"],["_law_flow_here","_law_marks","_law_ways","_law_rule_here","_law_barred","_law_k"],bY] 327,tw "_law_bad_point" 37 #[["_law_flow_here","_law_rule_here","_law_point"],["_law_flow_here","_law_rule_here","_law_point","_law_mark","_law_to","_law_menu","_law_at","_law_other"],be] 334,tw "law" 39 zU 346]
abbrev TT:Ho Tw:=[tw "_law_told" 38 #[["_law_rule_here","_law_thing"],["_law_rule_here","_law_thing","_law_told_here","e","_law_good"],(bZ qC)] 341]
abbrev TW:Ho Tw:=[tw "look_world" 15 #[["rule","thing"],["rule","thing","number","point"],(zN "look_world!" 2)] 205]
abbrev TX:Ho (HC×HC×Hz×Df):=[("look_world","look_world!",15,#[["rule","thing"],["rule","thing","number","point"],bf])]
abbrev TA:Ho Tw:=TL++(TT++TW)
abbrev dg:Ho (HC×Df):=(TA.map λp=>(p.1,p.2.2.1))++TX.map λp=>(p.2.1,p.2.2.2)
abbrev GD:Ho (HC×Hz):=TA.map λp=>(p.1,p.2.2.1.ps.length)
abbrev EU:Ho (HC×HC×Hz):=TX.map λp=>(p.1,p.2.1,p.2.2.2.ps.length)
abbrev yZ:Ho HC:=["range","len","list","tuple","int","sorted","isinstance","bool","str","all","min","enumerate","ValueError"]
abbrev v7:Md:=#[GD,yZ]
abbrev BD (x:HC)(st:Jf)(df:Df):Prop:=∀(kV doc pm:Hr) (an:Hs Hv) (cdv ct:Hr) (us:Ho Hr),us.length=df.ps.length->bindArgs (JL x x (bP st) (aD st) (am st) .none kV doc pm an cdv ct) #[us,[]]=pure (df.ps.zip us)
def Fa {us:Ho Hr}(h:us.length=0):us=[]:=J0.mp h
def uc {us:Ho Hr}{n:Hz}(h:us.length=n+1):∃a t,us=a::t/\t.length=n:=by
 cases us with
 | nil=>cases h
 | cons a t=>exact#[a,t,rfl,Qw h]
def Fb {us:Ho Hr}(h:us.length=1):∃a,us=[a]:=by obtain⟨a,t,rfl,g⟩:=uc h; cases Fa g; exact#[a,rfl]
def EV {us:Ho Hr}(h:us.length=2):∃a b,us=[a,b]:=by obtain⟨a,t,rfl,g⟩:=uc h; obtain⟨b,rfl⟩:=Fb g; exact#[a,b,rfl]
def Fc {us:Ho Hr}(h:us.length=3):∃a b c,us=[a,b,c]:=by obtain⟨a,t,rfl,g⟩:=uc h; obtain⟨b,c,rfl⟩:=EV g; exact#[a,b,c,rfl]
def Fd {us:Ho Hr}(h:us.length=4):∃a b c d,us=[a,b,c,d]:=by obtain⟨a,t,rfl,g⟩:=uc h; obtain⟨b,c,d,rfl⟩:=Fc g; exact#[a,b,c,d,rfl]
def Fe {us:Ho Hr}(h:us.length=5):∃a b c d e,us=[a,b,c,d,e]:=by obtain⟨a,t,rfl,g⟩:=uc h; obtain⟨b,c,d,e,rfl⟩:=Fd g; exact#[a,b,c,d,e,rfl]
def GF {us:Ho Hr}(h:us.length=6):∃a b c d e f,us=[a,b,c,d,e,f]:=by obtain⟨a,t,rfl,g⟩:=uc h; obtain⟨b,c,d,e,f,rfl⟩:=Fe g; exact#[a,b,c,d,e,f,rfl]
abbrev DG (p:Tw):Prop:=DL v7 (top p.2.1) p.2.2.1/\FnScope p.2.2.1.N p.2.2.1.ps (am (top p.2.1))/\BD p.1 (top p.2.1) p.2.2.1
def gc {α:Type}{F:α->Prop}{p:α}{L:Ho α}(a:F p)(b:∀q∈L,F q):∀q∈p::L,F q:=M7.mpr #[a,b]
def gn {α:Type}{F:α->Prop}:∀q∈([]:Ho α),F q:=λ_ h=>nomatch h
def Hb {p:Tw}(a:eh (cS 20 (dI v7 (top p.2.1) p.2.2.1.N)) (aD (top p.2.1))=ba p.2.2.1.body)(b:FnScope p.2.2.1.N p.2.2.1.ps (am (top p.2.1)))(c:BD p.1 (top p.2.1) p.2.2.1):DG p:=#[a,b,c]
set_option maxHeartbeats 0 in
def zV:∀p∈TL,DG p:=by
 unfold TL
 repeat show gc (Hb (by kernel_rfl) #[rfl,rfl,rfl,by decide +kernel,rfl,by decide +kernel,by decide +kernel] λ_ _ _ _ _ _ us h=>by
  first
   | (obtain⟨a,rfl⟩:=Fb h; rfl)
   | (obtain⟨a,b,rfl⟩:=EV h; rfl)
   | (obtain⟨a,b,c,rfl⟩:=Fc h; rfl)
   | (obtain⟨a,b,c,d,rfl⟩:=Fd h; rfl)
   | (obtain⟨a,b,c,d,e,rfl⟩:=Fe h; rfl)
   | (obtain⟨a,b,c,d,e,f,rfl⟩:=GF h; rfl)
   | (obtain rfl:=Fa h; rfl)) ?_
 exact gn
abbrev DT (p:Tw):Prop:=eh (CA EU vW qC (dI v7 (top p.2.1) p.2.2.1.N)) (aD (top p.2.1))=ba p.2.2.1.body/\FnScope p.2.2.1.N p.2.2.1.ps (am (top p.2.1))/\BD p.1 (top p.2.1) p.2.2.1
def Hc {p:Tw}(a:eh (CA EU vW qC (dI v7 (top p.2.1) p.2.2.1.N)) (aD (top p.2.1))=ba p.2.2.1.body)(b:FnScope p.2.2.1.N p.2.2.1.ps (am (top p.2.1)))(c:BD p.1 (top p.2.1) p.2.2.1):DT p:=#[a,b,c]
set_option maxHeartbeats 0 in
def zW:∀p∈TT,DT p:=by
 unfold TT
 repeat show gc (Hc (by kernel_rfl) #[rfl,rfl,rfl,by decide +kernel,rfl,by decide +kernel,by decide +kernel] λ_ _ _ _ _ _ us h=>by
  first
   | (obtain⟨a,rfl⟩:=Fb h; rfl)
   | (obtain⟨a,b,rfl⟩:=EV h; rfl)
   | (obtain⟨a,b,c,rfl⟩:=Fc h; rfl)
   | (obtain⟨a,b,c,d,rfl⟩:=Fd h; rfl)
   | (obtain⟨a,b,c,d,e,rfl⟩:=Fe h; rfl)
   | (obtain⟨a,b,c,d,e,f,rfl⟩:=GF h; rfl)
   | (obtain rfl:=Fa h; rfl)) ?_
 exact gn
abbrev DW (p:Tw):Prop:=(∃f',EU.lookup p.1=ba (f',p.2.2.1.ps.length)/\p.2.2.1.body=zN f' p.2.2.1.ps.length)/\BD p.1 (top p.2.1) p.2.2.1
def Hd {p:Tw}(f':HC)(a:EU.lookup p.1=ba (f',p.2.2.1.ps.length))(b:p.2.2.1.body=zN f' p.2.2.1.ps.length)(c:BD p.1 (top p.2.1) p.2.2.1):DW p:=#[#[f',a,b],c]
def zX:∀p∈TW,DW p:=by
 unfold TW;show gc (Hd "look_world!" (by kernel_rfl) (by rfl) (λ_ _ _ _ _ _ us h=>by
  first
   | (obtain⟨a,rfl⟩:=Fb h; rfl)
   | (obtain⟨a,b,rfl⟩:=EV h; rfl)
   | (obtain⟨a,b,c,rfl⟩:=Fc h; rfl)
   | (obtain⟨a,b,c,d,rfl⟩:=Fd h; rfl)
   | (obtain⟨a,b,c,d,e,rfl⟩:=Fe h; rfl)
   | (obtain⟨a,b,c,d,e,f,rfl⟩:=GF h; rfl)
   | (obtain rfl:=Fa h; rfl))) ?_
 exact gn
abbrev DX (p:HC×HC×Hz×Df):Prop:=eh (cX RT 20 (dI v7 (top p.2.2.1) p.2.2.2.N)) (aD (top p.2.2.1))=ba p.2.2.2.body/\FnScope p.2.2.2.N p.2.2.2.ps (am (top p.2.2.1))/\dg.lookup p.2.1=ba p.2.2.2/\∃q∈TA,q.1=p.1/\q.2.1=p.2.2.1/\q.2.2.1.ps=p.2.2.2.ps
def He {p:HC×HC×Hz×Df}(a:eh (cX RT 20 (dI v7 (top p.2.2.1) p.2.2.2.N)) (aD (top p.2.2.1))=ba p.2.2.2.body)(b:FnScope p.2.2.2.N p.2.2.2.ps (am (top p.2.2.1)))(c:dg.lookup p.2.1=ba p.2.2.2)(d:∃q∈TA,q.1=p.1/\q.2.1=p.2.2.1/\q.2.2.1.ps=p.2.2.2.ps):DX p:=#[a,b,c,d]
def GH {q:Tw}(h:q∈TW):q∈TA:=Ic _ (Ic _ h)
set_option maxHeartbeats 0 in
def zY:∀p∈TX,DX p:=by
 unfold TX;show gc (He (by kernel_rfl) #[rfl,rfl,rfl,by decide +kernel,rfl,by decide +kernel,by decide +kernel] (by kernel_rfl) #[_,GH (.head _),rfl,rfl,rfl]) ?_
 exact gn
def Hf {f:HC}{m n:Hz}{b:Ss}(h:((dg.lookup f).map λd=>(d.ps.length,d.N.length,d.body))=ba (m,n,b)):Is dg f m n b:=by
 rw[Hx]at h;obtain⟨d,h1,h2⟩:=h;rw[Pk,Pk]at h2;exact#[d,h1,h2.1,h2.2.1,h2.2.2]
set_option maxHeartbeats 0 in
def EW:Lw04 qC dg:=by
 repeat' first
  | exact Hf (by kernel_rfl)
  | constructor
def jz:∀(L:Ho Tw) (x:HC) (n:Hz),(L.map λp=>(p.1,p.2.2.1.ps.length)).lookup x=ba n->∃p∈L,p.1=x/\p.2.2.1.ps.length=n/\(L.map λp=>(p.1,p.2.2.1)).lookup x=ba p.2.2.1
 | [],x,n,h=>by cases h
 | p::L,x,n,h=>by
  rw[IT,IC]at h;rw[IT,IC];cases e:x==p.1 with
  | true=>
   rw[e]at h;cases h;exact#[p,Iw ..,(eq_of_beq e).symm,rfl,rfl]
  | false=>
   rw[e]at h;obtain⟨q,h1,h2,h3,h4⟩:=jz L x n h;exact#[q,Ig _ h1,h2,h3,h4]
section
variable{P:HM}{w:HX}{K:HA}{mg:HC->Hs Hr}{base:Ii}
abbrev vX (K:HA)(mg:HC->Hs Hr)(x:HC)(st:Jf)(df:Df):Prop:=∃(f:Hv) (fd:IY),Fun K x x st f fd/\mg x=ba (.ref f)/\IZ K (.ref f)=true/\Binds K fd df.ps []
def Cq {h:Ii}{x:HC}{st:Jf}{df:Df}{f:Hv}{oc:Hr}{od an:Hs Hv}{osl:Iu (Hs Hr)}{kV doc pm cdv ct:Hr}(X:K.In h)(G:h.Ns mainGlobals mg)
  (b:BD x st df)
  (a:Km K mainGlobals x=ba (ba (.ref f))) (l:K.lookup f=ba #[oc,od,.func (JL x x (bP st) (aD st) (am st) .none kV doc pm an cdv ct),osl]) (c:Kt K cdv x=true) (k:IZ K (.ref f)=true):vX K mg x st df:=
 have F:=nO (st:=st) l c k
 #[f,_,F,Lu X G a,k,F.binds b]
def lH:∀(L:Ho (HC×HC×Hz×Df)) (x y:HC) (n:Hz),(L.map λp=>(p.1,p.2.1,p.2.2.2.ps.length)).lookup x=ba (y,n)->∃p∈L,p.1=x/\p.2.1=y/\p.2.2.2.ps.length=n
 | [],x,y,n,h=>by cases h
 | p::L,x,y,n,h=>by
  rw[IT,IC]at h;cases e:x==p.1 with
  | true=>
   rw[e]at h;cases h;exact#[p,Iw ..,(eq_of_beq e).symm,rfl,rfl]
  | false=>
   rw[e]at h;obtain⟨q,h1,h2⟩:=lH L x y n h;exact#[q,Ig _ h1,h2]
def lI {x:HC}{df:Df}(h:(TA.map λp=>(p.1,p.2.2.1)).lookup x=ba df):dg.lookup x=ba df:=by
 unfold dg;rw[List.lookup_append,h];rfl
def vY {fuel:Hz}(hb:MdOk w K mg v7)(D:∀p∈TA,vX K mg p.1 (top p.2.1) p.2.2.1)(Zz:XCls K mg base vW qC)(ck:∀c k,RT.lookup c=ba k->CK P w K mg base qC c k):∀d,pW P w K mg base v7 dg fuel d/\EA P w K mg base EU qC dg fuel d
 | 0=>by
  show#[λf n h=>?_,λf f' n h=>?_]
  ·obtain⟨p,h1,rfl,h2,h3⟩:=jz TA f n h;obtain⟨fa,fd,F,m,kp,b⟩:=D p h1;show#[fa,fd,p.2.2.1.ps,#[λvs H Q E z=>?_,λA outer s H args us vs Q E hr he hbd hv z=>?_],m,kp,b]
   all_goals
    obtain⟨_,_,_,_,_,_,_,_,z,_⟩:=z;cases z
  ·obtain⟨p,h1,rfl,rfl,h2⟩:=lH TX f f' n h;obtain⟨_,_,_,q,hq,e1,e2,e3⟩:=zY p h1;obtain⟨fa,fd,F,m,kp,b⟩:=D q hq;rw[e1]at m;show#[fa,fd,q.2.2.1.ps,#[λvs H Q E z=>?_,λA outer s H args us vs Q E hr he hbd hv z=>?_],m,kp,b]
   all_goals
    rcases z with⟨_,_,_,_,_,_,_,_,z,_⟩|⟨_,_,_,_,_,_,_,_,_,_,_,z,_⟩
    ·cases z
    ·cases z
 | d+1=>by
  obtain⟨ih,ix⟩:=vY hb D Zz ck d;show#[λf n h=>?_,λf f' n h=>?_]
  ·obtain⟨p,h1,rfl,h2,h3⟩:=jz TA f n h;rcases IV.mp h1 with q|q
   ·obtain⟨g1,g2,_⟩:=zV p q;obtain⟨fa,fd,F,m,kp,b⟩:=D p h1;show#[fa,fd,p.2.2.1.ps,?_,m,kp,b];rw[<- h2];exact zB F g2 (lI h3) g1 hb ih
   ·rcases IV.mp q with q|q
    ·obtain⟨g1,g2,_⟩:=zW p q;obtain⟨fa,fd,F,m,kp,b⟩:=D p h1;show#[fa,fd,p.2.2.1.ps,?_,m,kp,b];rw[<- h2];exact B4 F g2 (lI h3) g1 hb ih ix Zz
    ·obtain⟨⟨f',g1,g2⟩,_⟩:=zX p q;obtain⟨fa,fd,ps,F,m,kp,b⟩:=ix p.1 f' _ g1;rw[h2]at F g2;exact#[fa,fd,ps,BO F (lI h3) h2 g2 (JN _),m,kp,b]
  ·obtain⟨p,h1,rfl,rfl,h2⟩:=lH TX f f' n h;obtain⟨g1,g2,g3,q,hq,e1,e2,e3⟩:=zY p h1;obtain⟨fa,fd,F,m,kp,b⟩:=D q hq;rw[e1]at m;rw[e2]at F;rw[e3]at b;show#[fa,fd,p.2.2.2.ps,?_,m,kp,b];rw[<- h2];exact BN F g2 g3 g1 hb ih ck
def EX {h:Ii}(X:K.In h)(G:h.Ns mainGlobals mg)(z:∀y∈yZ,Km K mainGlobals y=ba gV):MdOk w K mg v7:=#[λy hy=>PySem.W.mg_none_of X G (z y hy)]
end
def Cr {l:MJ}{w:HX}{K:HA}{h:Ii}{mg:HC->Hs Hr}{fa f:Hv}(X:K.In h)(G:h.Ns mainGlobals mg)(hfa:mg "law" = ba (.ref fa))(hb:MdOk w K mg v7)(D:∀p∈TA,vX K mg p.1 (top p.2.1) p.2.2.1)(Zz:∀base:Ii,K.In base->XCls K mg base vW qC)(ck:∀(base:Ii) c k,RT.lookup c=ba k->CK l.prog w K mg base qC c k)
  {oc:Hr} {od an:Hs Hv} {osl:Iu (Hs Hr)} {kV doc pm cdv ct:Hr} (a:Km K mainGlobals "law" = ba (ba (.ref f))) (l':K.lookup f=ba #[oc,od,.func (JL "law" "law" (bP (top 39)) (aD (top 39)) (am (top 39)) .none kV doc pm an cdv ct),osl]) (c:Kt K cdv "law" = true) (k:IZ K (.ref f)=true) :
  ∃fd:IY,(∀(s:Ht) (v:Hr),NR s fd #[[v],[]] [("_law_script",v)])/\∀base:Ii,K.In base->base.Ns mainGlobals mg->FnOk l.prog w K mg base iG 9 fa fd ["_law_script"] (spF w K 1 (ah dg 100 7 "law")):=by
 have e:=hfa.symm.trans (Lu X G a);cases e;have F:=nO (st:=top 39) l' c k;exact#[JL "law" "law" (bP (top 39)) (aD (top 39)) (am (top 39)) .none kV doc pm an cdv ct,λs v=>.of_eq rfl,λbase kb _=>zB (df:=zU) F #[rfl,rfl,rfl,by decide +kernel,rfl,by decide +kernel,by decide +kernel] (by rfl) (by rfl) hb (vY hb D (Zz base kb) (ck base) 6).1]
def GJ {l:MJ}{q:HM}{loose:Ho HC}{XP:(HC->Hs Hr)->Ii->Prop}{YP:HX->Ii->Prop}{d:DefRec}{K:LU->HA}(hn:l.most=ba 63)(hdf:d.params.defaults=[])
  (hY:∀(w:HX) (h:Ii),YP w h->(K w.params).In h)
  (F:∀(w:HX) (mg:HC->Hs Hr) (fa:Hv) (h:Ii),(K w.params).In h->h.Ns mainGlobals mg->mg d.name=ba (.ref fa)->
   ∃fd:IY,(∀(s:Ht) (u:Hr),NR s fd #[[u],[]] [("_law_script",u)])/\∀base:Ii,(K w.params).In base->base.Ns mainGlobals mg->FnOk l.prog w (K w.params) mg base iG 9 fa fd ["_law_script"] (spF w (K w.params) 1 (ah dg 100 7 "law"))) :
  Pb q loose XP YP l.row.toRowW d [] (λf vs=>OT f vs):=
 L2.wK (n:=63) (k:=9) (x:="_law_script") (CX:=λ_=>iG) (sp:=λw=>spF w (K w.params) 1 (ah dg 100 7 "law")) hn #v[] hdf #[rfl,#v[],#v[]] hY F
  (λw H a ns hl hO hS=>Bp (vV (defs:=dg) (fuel:=100) (d:=0) #v[] (cl:=qC) (C:=63) rfl EW) hO hS) λ_ _ _ _ _ z=>z
end Mi
open PySem PySem.W PyProof.Rows L2
namespace Mi
section
abbrev EL (K:HA)(p:Tw):Prop:=Km K mainGlobals p.1=ba (ba (.ref p.2.2.2))/\K.lookup p.2.2.2=ba (kf p.2.2.2 (top p.2.1) p.1 (FZ p.2.1) (.ref (p.2.2.2 - 1))).2/\Kt K (.ref (p.2.2.2 - 1)) p.1=true/\IZ K (.ref p.2.2.2)=true
def Hg {K:HA}{p:Tw}(e:Km K mainGlobals p.1=ba (ba (.ref p.2.2.2)))(l:K.lookup p.2.2.2=ba (kf p.2.2.2 (top p.2.1) p.1 (FZ p.2.1) (.ref (p.2.2.2 - 1))).2)(c:Kt K (.ref (p.2.2.2 - 1)) p.1=true)(k:IZ K (.ref p.2.2.2)=true):EL K p:=#[e,l,c,k]
def EY (P:LU):∀p∈TA,EL (K0 P) p:=by
 unfold TA TL TT TW;dsimp only[List.cons_append,MH]
 repeat show gc (Hg (by kernel_rfl) (by kernel_rfl) (by kernel_rfl) (by kernel_rfl)) ?_
 exact gn
def EZ (P:LU):∀y∈yZ,Km (K0 P) mainGlobals y=ba gV:=by
 unfold yZ
 repeat show gc (F:=λy=>Km (K0 P) mainGlobals y=ba gV) (by kernel_rfl) ?_
 exact gn
def Hh:∀p∈TA,BD p.1 (top p.2.1) p.2.2.1:=λp hp=>(IV.mp hp).elim (λq=>(zV p q).2.2) λq=>(IV.mp q).elim (λq=>(zW p q).2.2) λq=>(zX p q).2
def Hi (P:LU):Xc.XL (K0 P) 24 (.type "type"):=#[by kernel_rfl,by kernel_rfl,by kernel_rfl]
def eE (P:LU):XE (K0 P) 63 62 60 "NoWorld" [(.ref 24)] [(.ref 24),(.type "ValueError"),(.type "Exception"),(.type "BaseException"),(.type "object")] [] 47 232 240 ["point"]:=
 #[by kernel_rfl,by kernel_rfl,by kernel_rfl,by kernel_rfl,by kernel_rfl,by kernel_rfl,by kernel_rfl,by kernel_rfl,by kernel_rfl,by kernel_rfl,by kernel_rfl,by kernel_rfl,by kernel_rfl,by kernel_rfl,by kernel_rfl]
abbrev G0 (K:HA)(q:HC×Hv):Prop:=Km K mainGlobals q.1=ba (ba (.ref q.2))/\DK K q.2/\∀p∈RL,Nt K (.ref p.2.1) (.ref q.2)=ba (eB p.1 q.1)/\(!(HL p.2.1==HL q.2)||eB p.1 q.1)=true
def Hj {K:HA}{q:HC×Hv}(a:Km K mainGlobals q.1=ba (ba (.ref q.2)))(b:DK K q.2)(c:∀p∈RL,Nt K (.ref p.2.1) (.ref q.2)=ba (eB p.1 q.1)/\(!(HL p.2.1==HL q.2)||eB p.1 q.1)=true):G0 K q:=#[a,b,c]
def Hk (P:LU):∀q∈GC,G0 (K0 P) q:=by
 unfold GC
 repeat show gc (Hj (by kernel_rfl) #[by kernel_rfl,by kernel_rfl,by kernel_rfl,by kernel_rfl] (gc #[by kernel_rfl,by kernel_rfl] gn)) ?_
 exact gn
def Hl {w:HX}{mg:HC->Hs Hr}{h:Ii}(KX:(K0 w.params).In h)(G:h.Ns mainGlobals mg)(base:Ii)(kb:(K0 w.params).In base):XCls (K0 w.params) mg base vW qC:=by
 have a:∀p∈RL,(∃cd,Xc.XK (K0 w.params) p.2.1 cd)/\base.get? p.2.1≠gV/\Xc.XT (K0 w.params) p.2.1 (.type "ValueError") true/\∀g∈p.2.2,Kv (K0 w.params) (.ref p.2.1) g=ba gV:=(gc ((eE w.params).all kb) gn);show#[λcn C gs hc=>a _ (gj hc),λD hD=>?_]
 obtain⟨q,hq,rfl⟩:=IS.mp hD;obtain⟨e,dk,x⟩:=Hk w.params q hq;exact#[q.2,Lu KX G e,dk.xd,λcn C gs hc=>let ⟨x1,x2⟩:=x _ (gj hc); dk.xt x1 x2]
def ny {P:HM}{w:HX}{mg:HC->Hs Hr}{h:Ii}(KX:(K0 w.params).In h)(G:h.Ns mainGlobals mg)(base:Ii):CK P w (K0 w.params) mg base qC "NoWorld" 1:=by
 have F:=(nO (st:=F1 3) (oc:=.type "function") (od:=gV) (an:=gV) (osl:=#[]) (kV:=.none) (doc:=.none) (pm:=(.str "layworld.errors" 187)) (cdv:=(.ref 59)) (ct:=.none) (by kernel_rfl) (by kernel_rfl) (by kernel_rfl):Fun (K0 w.params) "__init__" "NoWorld.__init__" (F1 3) 60 _)
 have hm:mg "LayError" = ba (.ref 24):=Lu KX G (by kernel_rfl)
 obtain⟨cd,m⟩:=(eE w.params).xm;exact .one m ((eE w.params).fd _ Iw) (B5 (k:=0) F #[rfl,rfl,rfl,by decide +kernel,rfl,by decide +kernel,by decide +kernel] #[_,_,_,_,_,_,_,_,_,_,rfl,rfl] rfl rfl rfl hm (Hi _) #v[] #v[] #v[] #v[] #v[]) (Lu KX G (by kernel_rfl)) (F.binds λ_ _ _ _ _ _ us h=>by obtain⟨a,b,rfl⟩:=EV h; rfl) rfl
def Hm {P:HM}{w:HX}{mg:HC->Hs Hr}{h:Ii}(KX:(K0 w.params).In h)(G:h.Ns mainGlobals mg)(base:Ii):∀c k,RT.lookup c=ba k->CK P w (K0 w.params) mg base qC c k:=λc k h=>
 have a:∀p∈RT,CK P w (K0 w.params) mg base qC p.1 p.2:=(gc (ny KX G base) gn)
 a _ (gj h)
end
end Mi
end
end ZZ.Lean
open ZZ.Lean
theorem PySem.Challenge.cw_layworld_k04_worlds_looked_at_holds : PySem.Challenge.rw_layworld_k04_worlds_looked_at.Holds := by
 w_on
 show PySem.W.holds_law (Iy (Iy (Iy (Iy (Iy (Iy (Iy (Iy (Iy (Iy (Iy (Iy (Iy (Iy (Iy (Iy (Iy (Iy (Mi.s0) (by kernel_rfl)) (by kernel_rfl)) (by kernel_rfl)) (by kernel_rfl)) (by kernel_rfl)) (by kernel_rfl)) (by kernel_rfl)) (by kernel_rfl)) (by kernel_rfl)) (by kernel_rfl)) (by kernel_rfl)) (by kernel_rfl)) (by kernel_rfl)) (by kernel_rfl)) (by kernel_rfl)) (by kernel_rfl)) (by kernel_rfl)) (by kernel_rfl)) (λsaid=>?_)
 show PySem.W.holds_open (q:=Mi.vq) (loose:=Mi.lo) (Xt:=λs=>Pp Mi.vq [] s&&Pc [] s) (XP:=PySem.W.XL Mi.vq []) (Yf:=Mi.hk.obs) (Ya:=Mi.hk.val) (YP:=Mi.hk.says) (N:=6060) Mi.hl Mi.hk.of Mi.hk.keeps (λs e=>PySem.W.xl_of s (M9.mp e).1) Qn (by rfl) (by rfl) (by rfl) (λs e=>PySem.W.recFacts_of (M9.mp e).2) (by rfl) said (by decide +kernel) #[rfl,rfl,rfl,rfl,rfl,by decide +kernel] ?hw ?hc
 case hw=>w_witness2
 case hc=>
 show Mi.GJ (l:=Mc) (K:=Mi.K0) rfl rfl (λw h Yj=>PySem.W.kIn_of Yj) ?F
 case F=>
  intro w mg fa h KX G hmg;exact Mi.Cr KX G hmg (Mi.EX KX G (Mi.EZ w.params)) (λp hp=>let ⟨e,l,c,k⟩:=Mi.EY w.params p hp; Mi.Cq KX G (Mi.Hh p hp) e l c k) (Mi.Hl KX G) (Mi.Hm KX G)
   (f:=346) (oc:=.type "function") (od:=gV) (an:=gV) (osl:=#[]) (kV:=.none) (doc:=.none) (pm:=(.str "law_layworld_k04_worlds_looked_at" 452)) (cdv:=.ref 345) (ct:=.none) (by kernel_rfl) (by kernel_rfl) (by kernel_rfl) (by kernel_rfl)
