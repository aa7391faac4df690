import PyProof.Rows.All
import Wide.All
import OpenK.AllK
import Wide.FinOn
import Lean
import PyProof.EqAt
import PyProof.EqKinds
import PyProof.TupleCall
import KE.KDictList
import PyProof.SetKind
import PyProof.IsRules
import KE.KSortTup
import PySem.Challenge.RW_layworld_k18_likenesses_told
noncomputable section
def Ij:=@PySem.wpAny_bind
def Ik:=@PySem.Heap.get?_push_of_some
def Il:=@PySem.wpAny_pure
def Im:=@List.length_map
def Io:=@Option.map_eq_some_iff
def Ip:=@Nat.le_refl
def Iq:=@Bool.and_eq_true
def Ir:=@List.getElem?_eq_some_iff
def Iu:=@List.getElem?_map
def Iv:=@List.length_append
def Iw:=@List.getElem?_eq_getElem
def Ix:=@PySem.Heap.get?_push_size
def Iy:=@PySem.Heap.lt_size
def Iz:=@Array.length_toList
def IA:=@List.mem_of_getElem?
def IB:=@Int.toNat_natCast
def IC:=@Nat.le_trans
def ID:=@Nat.ne_of_lt
def IE:=@List.size_toArray
def IF:=@List.mem_map
def IG:=@Int.natCast_nonneg
def IH:=@Nat.lt_of_lt_of_le
def II:=@List.mem_append_right
def IJ:=@List.all_eq_true
def IK:=@of_decide_eq_true
def IL:=@List.mem_append
def IM:=@PySem.Heap.get?_update_other
def IN:=@List.mem_singleton
def IP:=@PySem.wpAny_newObj_type
def IQ:=@List.getElem_mem
def IR:=@List.mem_cons
def IS:=@List.length_range
def IT:=@List.take_add_one
def IU:=@List.mem_range
def IV:=@List.map_append
def IW:=@PySem.wpAny_holding
def IX:=@Option.isSome_iff_exists
def IY:=@PySem.codeAny_builtin
def IZ:=@PySem.W.mg_none_of
def Ja:=@PySem.sizeLine_eq
def Jb:=@Option.some.inj
def Jc:=@decide_eq_true_eq
def Jd:=@PySem.wpAny_setState_of
def Je:=@Bool.false_ne_true
def Jf:=@List.take_length
def Jg:=@List.mem_cons_self
def Jh:=@beq_self_eq_true
def Ji:=@PySem.wpAny_call_entry
def Jj:=@List.getElem?_eq_none_iff
def Jk:=@List.all_cons
def Jl:=@Array.getElem?_toList
def Jm:=@List.mem_cons_of_mem
def Jn:=@Nat.zero_le
def Jo:=@Array.getElem?_eq_some_iff
def Jp:=@Nat.lt_irrefl
def Jq:=@List.length_take
def Jr:=@decide_eq_false
def Js:=@Array.size_map
def Jt:=@PySem.wpAny_mono
def Ju:=@of_decide_eq_false
def Jv:=@List.mem_append_left
def Jw:=@PySem.wpAny_callSpecial?_slot
def Jx:=@Nat.lt_succ_self
def Jy:=@List.append_nil
def Jz:=@PySem.plainId_quiet
def JA:=@List.replicate_succ
def JB:=@List.map_congr_left
def JC:=@List.length_singleton
def JD:=@PyProof.Rows.slot_tuple_getitem
def JE:=@List.mem_filter
def JF:=@PySem.Heap.get?_update_self
def JG:=@PySem.wpAny_typeNameOfWhole_keyiter
def JH:=@Nat.div_lt_of_lt_mul
def JI:=@PySem.wpAny_truthy_bool
def JJ:=@List.length_eq_zero_iff
def JK:=@List.append_assoc
def JL:=@List.getElem?_set
def JM:=@Int.emod_lt_of_pos
def JN:=@List.length_cons
def JO:=@List.length_filter_le
def JP:=@List.nodup_append
def JQ:=@PySem.wpAny_passesOwn
def JR:=@PySem.W.kia_one
def JS:=@Int.emod_nonneg
def JT:=@Nat.le_succ
def JU:=@Nat.lt_succ_of_lt
def JV:=@List.mem_of_mem_take
def JW:=@List.range_succ
def JX:=@List.map_cons
def JY:=@PySem.wpAny_typeNameOf_keyiter
def JZ:=@PySem.mem_of_lookup
def J0:=@PySem.wpAny_askSetting
def J1:=@PySem.wpAny_seqItems
def J2:=@Nat.ne_of_gt
def J3:=@PySem.wpAny_typeOf
def J4:=@List.map_map
def J5:=@PySem.wpAny_ite_split
def J6:=@List.flatten_cons
def J7:=@List.flatMap_cons
def J8:=@PyProof.Rows.callWith_type1
def J9:=@List.length_zipWith
def Kb:=@List.mem_of_mem_drop
def Kc:=@Nat.pow_le_pow_right
def Kd:=@List.any_cons
def Ke:=@List.foldlM_cons
def Kf:=@Nat.le_of_lt
def Kg:=@PySem.wpAny_forIn_list
def Kh:=@List.ext_getElem
def Ki:=@List.zip_cons_cons
def Kj:=@List.filter_append
def Kk:=@PySem.Calls.call_function_entry
def Kl:=@Array.mem_toList_iff
def Km:=@PySem.Heap.get?_update_ne
def Kn:=@Nat.pow_le_pow_left
def Ko:=@List.pairwise_iff_getElem
def Kq:=@PySem.F.args_tuple_add_2
def Kr:=@PySem.Heap.size_push
def Ks:=@PySem.wpAny_updateSeq
def Kt:=@PySem.wpAny_Call_Name_kw
def Ku:=@Array.toList_extract
def Kv:=@List.nodup_cons
def Kw:=@PySem.codeAny_mono
def Kx:=@decide_eq_true
def Ky:=@PySem.wpAny_runValue
def Kz:=@PySem.wpAny_pyIter_list
def KA:=@PySem.wpAny_dictEntries
def KC:=@List.length_drop
def KD:=@Bool.or_eq_true
def KF:=@Nat.mul_comm
def KG:=@PySem.wpAny_standAt
def KH:=@PySem.wpAny_of_eq
set_option Elab.async false
set_option linter.all false
set_option maxRecDepth 100000
namespace L2
open PySem PySem.Spec PyProof.Rows
noncomputable abbrev nO:=Sum Int Str
noncomputable def BQ:nO->Value->Bool
 | .inl k,v=>Value.isInt k v
 | .inr x,v=>Value.isStrOf x v
noncomputable def Gr (w:World):nO->Int
 | .inl k=>hashInt k
 | .inr x=>hashStr w x
theorem bQ:∀ {k:nO} {v:Value},BQ k v=true->(∃ i t,k=Sum.inl i/\v=Value.int i t)\/(∃ x t,k=Sum.inr x/\v=Value.str x t)
 | .inl i,v,h=>by
  obtain⟨t,e⟩:=Value.isInt_shape (k:=i) (v:=v) h;exact .inl ⟨i,t,rfl,e⟩
 | .inr x,v,h=>by
  obtain⟨t,e⟩:=Value.isStrOf_shape (x:=x) (v:=v) h;exact .inr ⟨x,t,rfl,e⟩
theorem Ci (a b:Int):decide ((Sum.inl a:nO)=Sum.inl b)=(a==b):=by
 by_cases e:a=b
 ·subst e; simp
 ·have h:¬ (Sum.inl a:nO)=Sum.inl b:=fun q=>e (Sum.inl.inj q)
  rw[decide_eq_false h];exact(beq_eq_false_iff_ne.mpr e).symm
theorem Cj (a b:Str):decide ((Sum.inr a:nO)=Sum.inr b)=decide (a=b):=by
 by_cases e:a=b
 ·subst e; simp
 ·have h:¬ (Sum.inr a:nO)=Sum.inr b:=fun q=>e (Sum.inr.inj q)
  rw[decide_eq_false h,decide_eq_false e]
theorem Ck (a:Int)(b:Str):decide ((Sum.inl a:nO)=Sum.inr b)=false:=Jr (fun q=>nomatch q)
theorem Cm (a:Str)(b:Int):decide ((Sum.inr a:nO)=Sum.inl b)=false:=Jr (fun q=>nomatch q)
noncomputable def nP (prog:Program)(w:World):PySem.KeyKind prog w nO where
 is:=BQ
 hash:=Gr w
 inj:=fun v a b ha hb=>by
  rcases bQ ha with⟨i,t,rfl,rfl⟩|⟨x,t,rfl,rfl⟩
  ·rcases bQ hb with⟨j,u,rfl,e⟩|⟨y,u,rfl,e⟩
   ·injection e with e1 _; rw[e1]
   ·exact nomatch e
  ·rcases bQ hb with⟨j,u,rfl,e⟩|⟨y,u,rfl,e⟩
   ·exact nomatch e
   ·injection e with e1 _; rw[e1]
 byValue:=fun k v h=>by
  rcases bQ h with⟨i,t,rfl,rfl⟩|⟨x,t,rfl,rfl⟩ <;> rfl
 pyHash:=fun hv h=>by
  rcases bQ hv with⟨i,t,rfl,rfl⟩|⟨x,t,rfl,rfl⟩
  ·exact wpAny_pyHash_int h
  ·exact wpAny_pyHash_str h
 eqBool:=fun hu hv h=>by
  rcases bQ hu with⟨i,t,rfl,rfl⟩|⟨x,t,rfl,rfl⟩
  ·rcases bQ hv with⟨j,u,rfl,rfl⟩|⟨y,u,rfl,rfl⟩
   ·rw[Ci]at h; exact wpAny_eqBool_int h
   ·rw[Ck]at h; exact SeqAt.EqAt.int_str i t y u _ _ _ _ h
  ·rcases bQ hv with⟨j,u,rfl,rfl⟩|⟨y,u,rfl,rfl⟩
   ·rw[Cm]at h; exact SeqAt.EqAt.str_int x t j u _ _ _ _ h
   ·rw[Cj]at h; exact wpAny_eqBool_str h
 «strs»:=fun k x t v h=>by
  rcases bQ h with⟨i,u,rfl,e⟩|⟨y,u,rfl,e⟩
  ·exact nomatch e
  ·injection e with e1 _
   subst e1;cases v <;> rfl
inductive V where
 | non|bl (b:Bool)|int (i:Int)|str (x:Str)|byt (b:Array UInt8)|flt (b:UInt64)|ref (a:Addr)|ty (n:String)
 deriving DecidableEq
noncomputable def RelV:V->Value->Prop
 | .non,u=>u=Value.none
 | .bl b,u=>u=Value.bool b
 | .int i,u=>∃ t,u=Value.int i t
 | .str x,u=>∃ t,u=Value.str x t
 | .byt b,u=>∃ t,u=Value.bytes b t
 | .flt b,u=>∃ t,u=Value.float b t
 | .ref a,u=>u=Value.ref a
 | .ty n,u=>u=Value.type n
noncomputable abbrev Vals:List V->List Value->Prop:=Paired RelV
theorem Vals.length {xs:List V}{us:List Value}(r:Vals xs us):xs.length=us.length:=Paired.length r
theorem Vals.get:∀ {xs:List V} {us:List Value} {i:Nat} {x:V},Vals xs us->xs[i]?=some x->∃ u,us[i]?=some u/\RelV x u
 | _,_,_,_,.nil,e=>by simp at e
 | _,_,0,_,.cons r _,e=>by simp at e; subst e; exact⟨_,rfl,r⟩
 | _,_,i+1,x,.cons _ t,e=>by
  obtain⟨u,h1,h2⟩:=Vals.get (i:=i) (x:=x) t (by simpa using e)
  exact⟨u,by simpa using h1,h2⟩
theorem Vals.set {x:V}{u:Value}(r:RelV x u):∀ {xs:List V} {us:List Value} (i:Nat),Vals xs us->Vals (xs.set i x) (us.set i u)
 | _,_,_,.nil=>.nil
 | _,_,0,.cons _ t=>.cons r t
 | _,_,i+1,.cons q t=>.cons q (Vals.set r i t)
theorem Vals.append:∀ {xs ys:List V} {us ws:List Value},Vals xs us->Vals ys ws->Vals (xs++ys) (us++ws)
 | _,_,_,_,.nil,s=>s
 | _,_,_,_,.cons r t,s=>.cons r (Vals.append t s)
theorem Vals.take:∀ {xs:List V} {us:List Value} (n:Nat),Vals xs us->Vals (xs.take n) (us.take n)
 | _,_,0,_=>.nil
 | _,_,_+1,.nil=>.nil
 | _,_,n+1,.cons r t=>.cons r (Vals.take n t)
theorem Vals.drop:∀ {xs:List V} {us:List Value} (n:Nat),Vals xs us->Vals (xs.drop n) (us.drop n)
 | _,_,0,r=>r
 | _,_,_+1,.nil=>.nil
 | _,_,n+1,.cons _ t=>Vals.drop n t
noncomputable def En:Option V->Option Value->Prop
 | some v,some u=>RelV v u
 | none,none=>True
 | _,_=>False
noncomputable def KV {κ:Type}:List (κ×V)->List (κ×Value)->Prop:=Paired fun(p:κ×V) (q:κ×Value)=>p.1=q.1/\RelV p.2 q.2
noncomputable def kV:nO->V
 | .inl i=>.int i
 | .inr x=>.str x
inductive HO where
 | lst (xs:List V)
 | tup (xs:List V)
 | dK (kvs:List (nO×V))|dT (kvs:List (List nO×V))
 | set (S:Int->Bool) (n:Nat)
 | ins (C dx:Addr) (fs:List (Str×V))
 | own (x:Addr)
 | xd (fs:List (Str×V))
 | met (f x:Addr)
 | rng (lo hi:Int)
 | frz (o:Obj) (u:HO)
 | tbl (ps:Array Value)
 | ext (φ:Heap->Prop)
noncomputable abbrev Hp:=Addr->Option HO
noncomputable def cb (H:Hp)(a:Addr)(o:HO):Hp:=fun b=>if b=a then some o else H b
theorem bx {H:Hp}{a:Addr}{o:HO}:cb H a o a=some o:=by unfold cb; rw[if_pos rfl]
theorem aP {H:Hp}{a b:Addr}{o:HO}(h:b≠a):cb H a o b=H b:=by unfold cb; rw[if_neg h]
theorem dZ {H:Hp}{a b:Addr}{o:HO}(h:H a=some o)(h':H b=none):a≠b:=by
 intro e; subst e; rw[h]at h'; cases h'
section
variable (P:Program) (w:World)
noncomputable def ObjOk (H:Hp)(h:Heap)(a:Addr):HO->Prop
 | .lst xs=>xs.length<=sizeLine/\∃ (its:List Value) (n:Nat),Vals xs its/\h.get? a=some { cls:=.type "list",data:=.seq its.toArray n }
 | .tup xs=>xs.length<=sizeLine/\∃ its:List Value,Vals xs its/\IsTup h a its.toArray
 | .dK kvs=>kvs.length<=sizeLine/\(a==sysModules)=false/\∃ vs,KV kvs vs/\h.DictOf (nP P w) a vs
 | .dT kvs=>kvs.length<=sizeLine/\(a==sysModules)=false/\∃ xs:List (List nO×Addr×Value),
   Paired (fun(p:List nO×V) (q:List nO×Addr×Value)=>p.1=q.1/\H q.2.1=some (.tup (p.1.map kV))/\RelV p.2 q.2.2) kvs xs/\
   ∃ o es ep,h.get? a=some o/\o.ExactDict/\o.data=.dict es ep/\es.toList=xs.map (entryOfKey (tupleKind (nP P w)))/\(xs.map (·.1)).Nodup
 | .set S n=>h.SetOf (intKind P w) a S n
 | .ins C dx fs=>H dx=some (.own a)/\fs.length<=1000/\dx≠a/\h.get? a=some (PySem.W.instObj C dx)/\
   ∃ mA,h.Ns1 dx mA/\(∀ f,En (fs.lookup f) (mA f))/\PySem.Within mA (fs.map (·.1))
 | .own _=>∃ o,h.get? a=some o
 | .xd fs=>∃ mA,h.Ns1 a mA/\∀ f,En (fs.lookup f) (mA f)
 | .rng lo hi=>∃ t u v,h.get? a=some { cls:=.type "range",data:=.fields #[.int lo t,.int hi u,.int 1 v] }
 | .frz o u=>h.get? a=some o/\ObjOk H h a u
 | .tbl ps=>h.get? a=some { cls:=.none,data:=.fields ps }
 | .met f x=>h.get? a=some (PySem.W.methodObj (.ref f) (.ref x))
 | .ext φ=>φ h/\(∃ o,h.get? a=some o)/\∀ h1 h2:Heap,φ h1->(∀ o,h1.get? a=some o->h2.get? a=some o)->φ h2
noncomputable def HOk (H:Hp)(h:Heap):Prop:=∀ a o,H a=some o->ObjOk P w H h a o
end
section
variable {P:Program} {w:World} {H H':Hp} {h h':Heap} {a:Addr} {o:HO}
theorem ObjOk.lt (x:ObjOk P w H h a o):a < h.objs.size:=by
 cases o with
 | lst xs=>obtain⟨_,_,_,_,e⟩:=x; exact Iy e
 | tup xs=>obtain⟨_,_,_,p⟩:=x; exact p.lt
 | dK kvs=>obtain⟨_,_,_,_,o,_,_,e,_⟩:=x; exact Iy e
 | dT kvs=>obtain⟨_,_,_,_,o,_,_,e,_⟩:=x; exact Iy e
 | set S n=>obtain⟨o,_,_,_,e,_⟩:=x; exact Iy e
 | ins C dx fs=>obtain⟨_,_,_,e,_⟩:=x; exact Iy e
 | own y=>obtain⟨_,e⟩:=x; exact Iy e
 | xd fs=>obtain⟨_,⟨_,_,_,e,_⟩,_⟩:=x; exact Iy e
 | rng lo hi=>obtain⟨_,_,_,e⟩:=x; exact Iy e
 | frz ob u=>obtain⟨e,_⟩:=x; exact Iy e
 | tbl ps=>exact Iy (show h.get? a=some _ from x)
 | met f y=>exact Iy (show h.get? a=some _ from x)
 | ext φ=>obtain⟨_,⟨_,e⟩,_⟩:=x; exact Iy e
theorem Paired.mapP {α β:Type}{F G:α->β->Prop}:∀ {l₁:List α} {l₂:List β},Paired F l₁ l₂->(∀ a b,F a b->G a b)->Paired G l₁ l₂
 | _,_,.nil,_=>.nil
 | _,_,.cons r t,f=>.cons (f _ _ r) (Paired.mapP t f)
theorem ObjOk.stay (x:ObjOk P w H h a o)(k:∀ b u,(b=a\/H b=some (.own a))->h.get? b=some u->h'.get? b=some u)
  (ho:∀ b,H b=some (.own a)->H' b=some (.own a)) (ht:∀ b xs,H b=some (.tup xs)->H' b=some (.tup xs)):ObjOk P w H' h' a o:=by
 induction o with
 | lst xs=>obtain⟨z,its,n,r,e⟩:=x; exact⟨z,its,n,r,k _ _ (.inl rfl) e⟩
 | tup xs=>obtain⟨z,its,r,ob,e,c⟩:=x; exact⟨z,its,r,ob,k _ _ (.inl rfl) e,c⟩
 | dK kvs=>obtain⟨z,y,vs,r,ob,es,ep,e,c⟩:=x; exact⟨z,y,vs,r,ob,es,ep,k _ _ (.inl rfl) e,c⟩
 | dT kvs=>
  obtain⟨z,y,xs,r,ob,es,ep,e,c⟩:=x;exact⟨z,y,xs,Paired.mapP r fun p q z=>⟨z.1,ht _ _ z.2.1,z.2.2⟩,ob,es,ep,k _ _ (.inl rfl) e,c⟩
 | set S n=>obtain⟨ob,es,ep,t,e,c⟩:=x; exact⟨ob,es,ep,t,k _ _ (.inl rfl) e,c⟩
 | ins C dx fs=>
  obtain⟨d,z,ne,e,mA,⟨od,es,ep,e2,c⟩,r⟩:=x;exact⟨ho _ d,z,ne,k _ _ (.inl rfl) e,mA,⟨od,es,ep,k _ _ (.inr d) e2,c⟩,r⟩
 | own y=>obtain⟨ob,e⟩:=x; exact⟨ob,k _ _ (.inl rfl) e⟩
 | xd fs=>obtain⟨mA,⟨od,es,ep,e,c⟩,r⟩:=x; exact⟨mA,⟨od,es,ep,k _ _ (.inl rfl) e,c⟩,r⟩
 | rng lo hi=>obtain⟨t,u,v,e⟩:=x; exact⟨t,u,v,k _ _ (.inl rfl) e⟩
 | frz ob u ih=>obtain⟨e,q⟩:=x; exact⟨k _ _ (.inl rfl) e,ih q⟩
 | tbl ps=>
  have e:h.get? a=some { cls:=.none,data:=.fields ps }:=x;show h'.get? a=some { cls:=.none,data:=.fields ps };exact k a _ (.inl rfl) e
 | met f y=>
  have e:h.get? a=some (PySem.W.methodObj (.ref f) (.ref y)):=x;show h'.get? a=some (PySem.W.methodObj (.ref f) (.ref y));exact k a _ (.inl rfl) e
 | ext φ=>obtain⟨p,⟨o,e⟩,st⟩:=x; exact⟨st _ _ p fun o q=>k _ _ (.inl rfl) q,⟨o,k _ _ (.inl rfl) e⟩,st⟩
theorem HOk.lt (x:HOk P w H h)(e:H a=some o):a < h.objs.size:=(x a o e).lt
theorem HOk.fresh (x:HOk P w H h)(e:h.objs.size<=a):H a=none:=by
 cases q:H a with
 | none=>rfl
 | some u=>exact absurd (IH (x.lt q) e) (Jp _)
theorem HOk.kept (x:HOk P w H h)(k:∀ b u,h.get? b=some u->h'.get? b=some u):HOk P w H h':=fun a o e=>
 (x a o e).stay (fun b u _ q=>k b u q) (fun _ q=>q) fun _ _ q=>q
theorem HOk.laid (x:HOk P w H h)(k:∀ b u,h.get? b=some u->h'.get? b=some u)(hp:h.objs.size<=a)(new:ObjOk P w (cb H a o) h' a o):HOk P w (cb H a o) h':=fun b u e=>by
 have hn:=x.fresh hp
 by_cases hb:b=a
 ·subst hb; rw[bx]at e; cases e; exact new
 ·rw[aP hb]at e;exact(x b u e).stay (fun c v _ q=>k c v q) (fun c q=>by rw[aP (dZ q hn)]; exact q) fun c xs q=>by rw[aP (dZ q hn)]; exact q
end
noncomputable def Rd (H:Hp)(a:Addr)(u:HO):Prop:=H a=some u\/∃ o,H a=some (.frz o u)
theorem Rd.ok {P:Program}{w:World}{H:Hp}{h:Heap}{a:Addr}{u:HO}(r:Rd H a u)(x:HOk P w H h):ObjOk P w H h a u:=by
 rcases r with r|⟨o,r⟩
 ·exact x a u r
 ·obtain⟨_,q⟩:=x a _ r;exact q
noncomputable def Eo:Option HO->Prop
 | some (.lst _)=>True
 | some (.dK _)=>True
 | some (.dT _)=>True
 | some (.set _ _)=>True
 | some (.ins _ _ _)=>True
 | some (.ext _)=>True
 | _=>False
section
variable {P:Program} {w:World} {H:Hp} {h h':Heap} {x e:Addr} {o':HO}
theorem HOk.write (ok:HOk P w H h)(mu:Eo (H x))(he:e=x\/H e=some (.own x))(k:∀ b u,b≠e->h.get? b=some u->h'.get? b=some u)(heo:∃ u,h'.get? e=some u)
  (new:ObjOk P w (cb H x o') h' x o'):HOk P w (cb H x o') h':=fun b u q=>by
 have nown:∀ c y,H c=some (.own y)->c≠x:=fun c y r z=>by subst z; rw[r]at mu; exact mu
 have ntup:∀ c xs,H c=some (.tup xs)->c≠x:=fun c xs r z=>by subst z; rw[r]at mu; exact mu
 by_cases hb:b=x
 ·subst hb; rw[bx]at q; cases q; exact new
 ·rw[aP hb]at q
  by_cases hbe:b=e
  ·have q':H b=some (.own x):=by
    rcases he with z|z
    ·exact absurd (hbe.trans z) hb
    ·rw[hbe]; exact z
   rw[q]at q'; cases q'
   obtain⟨v,hv⟩:=heo;exact⟨v,by rw[hbe]; exact hv⟩
  ·refine(ok b u q).stay (fun c v hc r=>k c v ?_ r) (fun c r=>by rw[aP (nown c b r)]; exact r) fun c xs r=>by rw[aP (ntup c xs r)]; exact r
   rcases hc with rfl|hc
   ·exact hbe
   ·rintro rfl;rcases he with z|z
    ·exact nown c b hc z
    ·rw[hc]at z; cases z; exact hb rfl
end
structure Un (fs ex:List Addr)(H H':Hp)(h h':Heap):Prop where
 keep:∀ b o,h.get? b=some o->H b=none->b∉fs->b∉ex->h'.get? b=some o
 slot:∀ b o,h.get? b=some o->H b=none->b∈fs->b∉ex->∃ sl,h'.get? b=some { o with slots:=sl }
 free:∀ b o,h.get? b=some o->H b=none->b∉ex->H' b=none
 there:∀ b o,h.get? b=some o->b∉ex->∃ o',h'.get? b=some o'
 tups:∀ b xs,H b=some (.tup xs)->H' b=some (.tup xs)
 frzs:∀ b o u,H b=some (.frz o u)->H' b=some (.frz o u)
 tbls:∀ b ps,H b=some (.tbl ps)->∃ more,H' b=some (.tbl (ps++more))
section
variable {fs fs' ex ex':List Addr} {H H1 H2:Hp} {h h1 h2 h':Heap} {a x e:Addr} {o:HO}
theorem Un.any (u:Un fs ex H H1 h h1){b:Addr}{ob:Obj}(q:h.get? b=some ob)(n:H b=none)(hx:b∉ex):∃ sl,h1.get? b=some { ob with slots:=sl }:=by
 by_cases hb:b∈fs
 ·exact u.slot b ob q n hb hx
 ·exact⟨ob.slots,u.keep b ob q n hb hx⟩
theorem Un.trans (a:Un fs ex H H1 h h1)(b:Un fs ex H1 H2 h1 h2):Un fs ex H H2 h h2 where
 keep:=fun c ob q n hc hx=>b.keep c ob (a.keep c ob q n hc hx) (a.free c ob q n hx) hc hx
 slot:=fun c ob q n hc hx=>by
  obtain⟨sl,e1⟩:=a.slot c ob q n hc hx;obtain⟨sl',e2⟩:=b.slot c _ e1 (a.free c ob q n hx) hc hx;exact⟨sl',e2⟩
 free:=fun c ob q n hx=>by
  obtain⟨o',e1⟩:=a.there c ob q hx;exact b.free c o' e1 (a.free c ob q n hx) hx
 there:=fun c ob q hx=>by
  obtain⟨o',e1⟩:=a.there c ob q hx;exact b.there c o' e1 hx
 tups:=fun c xs q=>b.tups c xs (a.tups c xs q)
 frzs:=fun c ob xs q=>b.frzs c ob xs (a.frzs c ob xs q)
 tbls:=fun c ps q=>by
  obtain⟨m1,e1⟩:=a.tbls c ps q;obtain⟨m2,e2⟩:=b.tbls c _ e1;exact⟨m1++m2,by rw[e2,Array.append_assoc]⟩
theorem Un.kept (k:∀ b u,h.get? b=some u->h'.get? b=some u):Un fs ex H H h h':=
 ⟨fun b ob q _ _ _=>k b ob q,fun b ob q _ _ _=>⟨ob.slots,k b ob q⟩,fun _ _ _ n _=>n,fun b ob q _=>⟨ob,k b ob q⟩,fun _ _ q=>q,fun _ _ _ q=>q,fun _ ps q=>⟨#[],by rw[q]; simp⟩⟩
theorem Un.refl:Un fs ex H H h h:=Un.kept fun _ _ q=>q
theorem Un.laid (k:∀ b u,h.get? b=some u->h'.get? b=some u)(hp:h.objs.size<=a)(hn:H a=none):Un fs ex H (cb H a o) h h' where
 keep:=fun b u q _ _ _=>k b u q
 slot:=fun b u q _ _ _=>⟨u.slots,k b u q⟩
 free:=fun b u q n _=>by rw[aP (Nat.ne_of_lt (Nat.lt_of_lt_of_le (Heap.lt_size q) hp))]; exact n
 there:=fun b u q _=>⟨u,k b u q⟩
 tups:=fun b xs q=>by rw[aP (dZ q hn)]; exact q
 frzs:=fun b u xs q=>by rw[aP (dZ q hn)]; exact q
 tbls:=fun b ps q=>⟨#[],by rw[aP (dZ q hn),q]; simp⟩
theorem Un.write (mu:Eo (H x))(he:e=x\/H e=some (.own x))(k:∀ b u,b≠e->h.get? b=some u->h'.get? b=some u)(heo:∃ u,h'.get? e=some u):Un fs ex H (cb H x o) h h':=by
 have hx:∀ b,H b=none->b≠x:=fun b n z=>by subst z; rw[n]at mu; exact mu
 have hb:∀ b,H b=none->b≠e:=fun b n z=>by
  subst z;rcases he with r|r
  ·exact hx b n r
  ·rw[n]at r; cases r
 have hm:∀ b u,H b=some u->¬ Eo (some u)->b≠x:=fun b u q nm z=>by subst z; rw[q]at mu; exact nm mu
 refine⟨fun b u q n _ _=>k b u (hb b n) q,fun b u q n _ _=>⟨u.slots,k b u (hb b n) q⟩,fun b u q n _=>by rw[aP (hx b n)]; exact n,fun b u q _=>?_,
  fun b xs q=>by rw[aP (hm b _ q fun z=>z)]; exact q,fun b u xs q=>by rw[aP (hm b _ q fun z=>z)]; exact q,fun b ps q=>⟨#[],by rw[aP (hm b _ q fun z=>z),q]; simp⟩⟩
 by_cases hbe:b=e
 ·subst hbe; exact heo
 ·exact⟨u,k b u hbe q⟩
end
noncomputable def Gd (h:Heap)(H:Hp):List Addr:=(List.range h.objs.size).filter fun a=>(H a).isSome
noncomputable def nQ (h:Heap)(H:Hp):Heap:=PySem.W.hideAll h (Gd h H)
theorem uE (h:Heap)(H:Hp):(nQ h H).objs.size=h.objs.size:=PySem.W.hideAll_size _ _
theorem vY {h:Heap}{H:Hp}{b:Addr}{o:Obj}(e:h.get? b=some o)(n:H b=none):(nQ h H).get? b=some o:=
 PySem.W.hideAll_get _ e fun hm=>by
  have q:(H b).isSome=true:=(JE.mp hm).2;rw[n]at q; simp at q
theorem zy {h:Heap}{H:Hp}{b:Addr}{o:Obj}(e:(nQ h H).get? b=some o):h.get? b=some o/\H b=none:=by
 have e':h.get? b=some o:=PySem.W.of_hideAll (Gd h H) e;refine⟨e',?_⟩;cases q:H b with
 | none=>rfl
 | some x=>
  have hm:b∈Gd h H:=JE.mpr ⟨IU.mpr (Iy e'),by simp[q]⟩
  have z:(nQ h H).get? b=none:=PySem.W.hideAll_none (Gd h H) hm;rw[z]at e; cases e
noncomputable def zz (g h:Heap)(L:Addr):List (Addr×Obj):=(List.range h.objs.size).filterMap fun a=>if a=L\/(g.get? a).isSome=true then none else(h.get? a).map fun o=>(a,o)
noncomputable def bT (g h:Heap)(L d:Addr):List (Addr×Obj):=(zz g h L).filter fun p=>decide (p.1≠d)
structure Mod (K:PySem.W.Frag)(mg:Str->Option Value)(base:Heap):Prop where
 kin:K.In base
 glob:base.Ns mainGlobals mg
 blt:∃ mb,base.Ns builtinsNs mb/\∀ x:Str,x≠"__name__"->mb x=bootBuiltins x
 nolimit:base.NoLimit
structure Cx where
 prog:Program
 w:World
 K:PySem.W.Frag
 mg:Str->Option Value
 base:Heap
 A:Around
 N:List Str
 s₀:Shared
 H₀:Hp
 env:Env
 outer:List Env
 stack:List Env
 ex:List Addr
 fn:Str->Bool
 calm:Bool
 pn:List (Addr×Obj)
 xe:Value->Shared->Prop
noncomputable def rL (l:List Env):List Addr:=l.filterMap (·.frame)
noncomputable abbrev Cx.fs (X:Cx):List Addr:=rL X.outer
noncomputable def Ge (sc:Scope)(x:Str):Prop:=sc.names.lookup x=some .local\/sc.names.lookup x=some .cell\/sc.names.lookup x=some .free
noncomputable def zA (sc:Scope)(x:Str):Prop:=sc.names.lookup x=some .local\/sc.names.lookup x=some .cell
noncomputable def Gs (env:Env)(h:Heap)(m:Str->Option Value)(x:Str)(u:Value):Prop:=
 (env.kindOf x=some .local/\m x=some u)\/((env.kindOf x=some .cell\/env.kindOf x=some .free)/\∃ c,env.cells.lookup x=some c/\h.IsCell c (some u))
structure Cx.Ok (X:Cx):Prop where
 mod:Mod X.K X.mg X.base
 kind:X.env.scope.kind=.function
 glob:X.env.globals=mainGlobals
 blt:X.env.builtins=builtinsNs
 above:X.s₀.heap.objs.size<=X.env.locals
 inj:∀ x y c,X.env.cells.lookup x=some c->X.env.cells.lookup y=some c->x=y
 has:∀ x,(X.env.kindOf x=some .cell\/X.env.kindOf x=some .free)->∃ c,X.env.cells.lookup x=some c
 cab:∀ x c,X.fn x=true->X.env.cells.lookup x=some c->X.s₀.heap.objs.size<=c
 hd:X.calm=true->X.A.handled=none
 frames:X.A.frames=some X.stack
 stk:X.stack=X.outer\/(X.stack=X.env::X.outer/\X.env.frame=some X.env.locals)
 exf:∀ b∈X.ex,b≠X.env.locals/\∀ x c,X.env.cells.lookup x=some c->c≠b
 bs:∀ b o,X.base.get? b=some o->X.s₀.heap.get? b=some o/\X.H₀ b=none
 bsz:X.base.objs.size<=X.s₀.heap.objs.size
 noex:∀ b o,X.base.get? b=some o->b∉X.ex
 exfs:∀ b∈X.ex,b∉X.fs
 funs:X.s₀.heap.FunFrames X.base X.outer
 frf:∀ b∈X.fs,X.H₀ b=none
structure Inv (X:Cx)(pins:List (Addr×Obj))(σ:List (Option V))(H:Hp)(s:Shared):Prop where
 ok:X.Ok
 os:s.os=X.s₀.os
 bare:AllBare s.gens
 base:Un X.fs X.ex X.H₀ H X.s₀.heap s.heap
 loc:∃ m,s.heap.Ns X.env.locals m/\∀ (i:Nat) (x:Str) (v:V),X.N[i]?=some x->σ[i]?=some (some v)->Ge X.env.scope x->∃ u,RelV v u/\Gs X.env s.heap m x u
 cell:∀ x c,X.env.cells.lookup x=some c->∃ v,s.heap.IsCell c v
 free:H X.env.locals=none
 freeC:∀ x c,X.env.cells.lookup x=some c->H c=none
 pin:∀ p∈X.pn++pins,s.heap.get? p.1=some p.2/\H p.1=none/\p.1≠X.env.locals/\p.1∉X.fs/\∀ v,p.2.data≠.cell v
 hok:HOk X.prog X.w H s.heap
 len:σ.length=X.N.length
section
variable {X:Cx} {pins:List (Addr×Obj)} {σ:List (Option V)} {H H':Hp} {s:Shared} {h':Heap}
theorem Cx.Ok.nofr (ok:X.Ok){b:Addr}{o:Obj}(e:X.base.get? b=some o):b∉X.fs:=fun hb=>by
 have:=(ok.funs.mem hb).1;rw[e]at this; cases this
theorem Inv.bs (I:Inv X pins σ H s):∀ b o,X.base.get? b=some o->s.heap.get? b=some o/\H b=none:=fun b o e=>
 ⟨I.base.keep b o (I.ok.bs b o e).1 (I.ok.bs b o e).2 (I.ok.nofr e) (I.ok.noex b o e),I.base.free b o (I.ok.bs b o e).1 (I.ok.bs b o e).2 (I.ok.noex b o e)⟩
theorem Inv.bk (I:Inv X pins σ H s):∀ b o,X.base.get? b=some o->s.heap.get? b=some o:=fun b o e=>(I.bs b o e).1
theorem Inv.mod (I:Inv X pins σ H s):Mod X.K X.mg X.base:=I.ok.mod
theorem Inv.kIn (I:Inv X pins σ H s):X.K.In s.heap:=I.ok.mod.kin.keeps I.bk
theorem Inv.lt (I:Inv X pins σ H s):X.env.locals < s.heap.objs.size:=let ⟨_,hn,_⟩:=I.loc; hn.lt
theorem Inv.sz (I:Inv X pins σ H s):X.s₀.heap.objs.size<=s.heap.objs.size:=IC I.ok.above (Kf I.lt)
theorem Inv.nofs (I:Inv X pins σ H s){a:Addr}(h:s.heap.objs.size<=a):a∉X.fs:=fun hb=>by
 obtain⟨_,o,ho,_⟩:=I.ok.funs.mem hb;exact absurd (IH (Iy ho) (IC I.sz h)) (Jp _)
theorem Inv.cne (I:Inv X pins σ H s):∀ x c,X.env.cells.lookup x=some c->c≠X.env.locals:=fun x c e z=>by
 obtain⟨v,o,ho,hd⟩:=I.cell x c e;obtain⟨m,⟨o',es,ep,ho',hd',_⟩,_⟩:=I.loc;rw[z,ho']at ho; cases ho; rw[hd']at hd; cases hd
theorem Inv.funs (I:Inv X pins σ H s):s.heap.FunFrames X.base X.outer:=by
 have all:∀ (l:List Env),(∀ b∈rL l,b∈X.fs)->X.s₀.heap.FunFrames X.base l->s.heap.FunFrames X.base l:=by
  intro l
  induction l with
  | nil=>intro _ _; trivial
  | cons env r ih=>
   intro hs hl;obtain⟨hk,⟨L,o,hf,hn,ho,hd⟩,hr⟩:=hl;have hL:L∈X.fs:=hs L (by unfold rL; rw[List.filterMap_cons,hf]; exact List.mem_cons_self)
   obtain⟨sl,e⟩:=I.base.slot L o ho (I.ok.frf L hL) hL fun z=>I.ok.exfs L z hL
   exact⟨hk,⟨L,_,hf,hn,e,hd⟩,ih (fun b hb=>hs b (by unfold rL; rw[List.filterMap_cons,hf]; exact List.mem_cons_of_mem _ hb)) hr⟩
 exact all X.outer (fun _ hb=>hb) I.ok.funs
theorem Inv.stack (I:Inv X pins σ H s):s.heap.FunFrames X.base X.stack:=by
 rcases I.ok.stk with e|⟨e,hf⟩
 ·rw[e]; exact I.funs
 ·rw[e];obtain⟨m,hn,_⟩:=I.loc;refine .cons (by rw[I.ok.kind]; decide) hf hn ?_ I.funs
  exact Heap.get?_none_of_le (IC I.ok.bsz I.ok.above)
theorem Inv.stkSub (I:Inv X pins σ H s):∀ b∈rL X.stack,b∈X.env.locals::X.fs:=fun b hb=>by
 rcases I.ok.stk with e|⟨e,hf⟩
 ·rw[e]at hb; exact Jm _ hb
 ·rw[e]at hb;unfold rL at hb;rw[List.filterMap_cons,hf]at hb;exact hb
theorem Inv.stkFree (I:Inv X pins σ H s):∀ b∈rL X.stack,H b=none:=fun b hb=>by
 rcases IR.mp (I.stkSub b hb)with e|hb
 ·rw[e]; exact I.free
 ·obtain⟨_,o,ho,_⟩:=I.ok.funs.mem hb;exact I.base.free b o ho (I.ok.frf b hb) fun z=>I.ok.exfs b z hb
theorem Inv.step {g':Array GenState}{t':Nat}{d':Drawn}{ch:List Addr}(I:Inv X pins σ H s)
  (hch:∀ b∈ch,(b∈X.ex\/X.s₀.heap.objs.size<=b)/\b≠X.env.locals/\(∀ x c,X.env.cells.lookup x=some c->c≠b)/\∀ p∈X.pn++pins,p.1≠b)
  (keep:∀ b o,b≠X.env.locals->b∉X.fs->b∉ch->s.heap.get? b=some o->H b=none->h'.get? b=some o)
  (slot:∀ b o,b≠X.env.locals->b∈X.fs->b∉ch->s.heap.get? b=some o->H b=none->∃ sl,h'.get? b=some { o with slots:=sl }) (free:∀ b o,b∉ch->s.heap.get? b=some o->H b=none->H' b=none)
  (there:∀ b o,b∉ch->s.heap.get? b=some o->∃ o',h'.get? b=some o')
  (tups:∀ b xs,H b=some (.tup xs)->H' b=some (.tup xs)) (frzs:∀ b o u,H b=some (.frz o u)->H' b=some (.frz o u)) (tbls:∀ b ps,H b=some (.tbl ps)->∃ more,H' b=some (.tbl (ps++more)))
  (ns:∀ m,s.heap.Ns X.env.locals m->h'.Ns X.env.locals m) (hok:HOk X.prog X.w H' h') (hg:AllBare g') :
  Inv X pins σ H' { s with heap:=h',gens:=g',drawn:=d',toks:=t' }:=by
 have neL:∀ b o,X.s₀.heap.get? b=some o->b≠X.env.locals:=fun b o e=>ID (IH (Iy e) I.ok.above)
 have neC:∀ b o,X.s₀.heap.get? b=some o->b∉X.ex->b∉ch:=fun b o e hx hb=>by
  rcases(hch b hb).1 with z|z
  ·exact hx z
  ·exact absurd (IH (Iy e) z) (Jp _)
 have cellK:∀ x c,X.env.cells.lookup x=some c->∀ v,s.heap.IsCell c v->h'.IsCell c v:=fun x c e v ⟨o,ho,hd⟩=>by
  have nch:c∉ch:=fun z=>(hch c z).2.2.1 x c e rfl
  by_cases hc:c∈X.fs
  ·obtain⟨sl,q⟩:=slot c o (I.cne x c e) hc nch ho (I.freeC x c e);exact⟨_,q,hd⟩
  ·exact⟨o,keep c o (I.cne x c e) hc nch ho (I.freeC x c e),hd⟩
 refine⟨I.ok,I.os,hg,⟨fun b o e n hb hx=>?_,fun b o e n hb hx=>?_,fun b o e n hx=>?_,fun b o e hx=>?_,fun b xs e=>tups b xs (I.base.tups b xs e),fun b o xs e=>frzs b o xs (I.base.frzs b o xs e),fun b ps e=>?_⟩,?_,fun x c e=>?_,?_,fun x c e=>?_,fun p hp=>?_,hok,I.len⟩
 ·exact keep b o (neL b o e) hb (neC b o e hx) (I.base.keep b o e n hb hx) (I.base.free b o e n hx)
 ·obtain⟨sl,e1⟩:=I.base.slot b o e n hb hx;obtain⟨sl',e2⟩:=slot b _ (neL b o e) hb (neC b o e hx) e1 (I.base.free b o e n hx);exact⟨sl',e2⟩
 ·obtain⟨o',e1⟩:=I.base.there b o e hx;exact free b o' (neC b o e hx) e1 (I.base.free b o e n hx)
 ·obtain⟨o',e1⟩:=I.base.there b o e hx;exact there b o' (neC b o e hx) e1
 ·obtain⟨m1,e1⟩:=I.base.tbls b ps e;obtain⟨m2,e2⟩:=tbls b _ e1;exact⟨m1++m2,by rw[e2,Array.append_assoc]⟩
 ·obtain⟨m,hn,hl⟩:=I.loc;refine⟨m,ns m hn,fun i x v e1 e2 e3=>?_⟩
  obtain⟨u,r,l⟩:=hl i x v e1 e2 e3;refine⟨u,r,?_⟩;rcases l with l|⟨k,c,e,z⟩
  ·exact .inl l
  ·exact .inr ⟨k,c,e,cellK x c e _ z⟩
 ·obtain⟨v,z⟩:=I.cell x c e;exact⟨v,cellK x c e v z⟩
 ·obtain⟨m,⟨o,_,_,ho,_⟩,_⟩:=I.loc;exact free _ o (fun z=>(hch _ z).2.1 rfl) ho I.free
 ·obtain⟨v,o,ho,hd⟩:=I.cell x c e;exact free c o (fun z=>(hch c z).2.2.1 x c e rfl) ho (I.freeC x c e)
 ·obtain⟨e,n,ne,nf,d⟩:=I.pin p hp;have nch:p.1∉ch:=fun z=>(hch p.1 z).2.2.2 p hp rfl
  exact⟨keep p.1 p.2 ne nf nch e n,free p.1 p.2 nch e n,ne,nf,d⟩
theorem Inv.un {t':Nat}(I:Inv X pins σ H s)(u:Un X.fs [] H H' s.heap h')(hok:HOk X.prog X.w H' h'):Inv X pins σ H' { s with heap:=h',toks:=t' }:=by
 obtain⟨m,⟨o,es,ep,ho,r⟩,_⟩:=id I.loc;obtain⟨sl,hL⟩:=u.any ho I.free (by simp)
 exact I.step (g':=s.gens) (d':=s.drawn) (ch:=[]) (fun _ z=>nomatch z) (fun b o _ hb _ e n=>u.keep b o e n hb (by simp)) (fun b o _ hb _ e n=>u.slot b o e n hb (by simp)) (fun b o _ e n=>u.free b o e n (by simp)) (fun b o _ e=>u.there b o e (by simp)) u.tups u.frzs u.tbls (fun m' hm=>by
  obtain⟨o',es',ep',ho',r'⟩:=hm;rw[ho]at ho'; cases ho'
  exact⟨_,es',ep',hL,r'⟩) hok I.bare
theorem Inv.call {g':Array GenState}{t':Nat}{d':Drawn}{ch:List Addr}(I:Inv X pins σ H s)(u:Un (rL X.stack) ch H H' s.heap h')(hok:HOk X.prog X.w H' h')(hg:AllBare g')
  (hch:∀ b∈ch,(b∈X.ex\/X.s₀.heap.objs.size<=b)/\b≠X.env.locals/\(∀ x c,X.env.cells.lookup x=some c->c≠b)/\∀ p∈X.pn++pins,p.1≠b) :
  Inv X pins σ H' { s with heap:=h',gens:=g',drawn:=d',toks:=t' }:=by
 obtain⟨m,⟨o,es,ep,ho,r⟩,_⟩:=id I.loc;obtain⟨sl,hL⟩:=u.any ho I.free fun z=>(hch _ z).2.1 rfl
 exact I.step (ch:=ch) hch (fun b o hL hb hc e n=>u.keep b o e n (fun z=>(IR.mp (I.stkSub b z)).elim hL hb) hc) (fun b o _ _ hc e n=>u.any e n hc) (fun b o hc e n=>u.free b o e n hc) (fun b o hc e=>u.there b o e hc) u.tups u.frzs u.tbls (fun m' hm=>by
  obtain⟨o',es',ep',ho',r'⟩:=hm;rw[ho]at ho'; cases ho'
  exact⟨_,es',ep',hL,r'⟩) hok hg
theorem Inv.turned {t':Nat}{it:Addr}(I:Inv X pins σ H s)(k:∀ b o,b≠it->s.heap.get? b=some o->h'.get? b=some o)(hn:H it=none)(hL:it≠X.env.locals)
  (h1:it∈X.ex\/X.s₀.heap.objs.size<=it) (h2:∀ x c,X.env.cells.lookup x=some c->c≠it) (h3:∀ p∈X.pn++pins,p.1≠it):Inv X pins σ H { s with heap:=h',toks:=t' }:=by
 have nit:∀ b u,H b=some u->b≠it:=fun b u e z=>by rw[z,hn]at e; cases e
 refine I.step (g':=s.gens) (d':=s.drawn) (ch:=[it]) (fun b hb=>?_) (fun b o _ _ hc e _=>k b o (fun z=>hc (by simp[z])) e) (fun b o _ _ hc e _=>⟨o.slots,k b o (fun z=>hc (by simp[z])) e⟩) (fun _ _ _ _ n=>n)
  (fun b o hc e=>⟨o,k b o (fun z=>hc (by simp[z])) e⟩) (fun _ _ e=>e) (fun _ _ _ e=>e) (fun b ps e=>⟨#[],by rw[e]; simp⟩) (fun m hm=>?_) (fun b u e=>?_) I.bare
 ·have e:b=it:=by simpa using hb
  subst e;exact⟨h1,hL,h2,h3⟩
 ·obtain⟨o,es,ep,ho,r⟩:=hm;exact⟨o,es,ep,k _ o (Ne.symm hL) ho,r⟩
 ·refine(I.hok b u e).stay (fun c v hc q=>k c v ?_ q) (fun _ q=>q) fun _ _ q=>q
  rcases hc with z|z
  ·rw[z]; exact nit b u e
  ·exact nit c _ z
theorem Inv.tok (I:Inv X pins σ H s)(t:Nat):Inv X pins σ H { s with toks:=t }:=I.un (h':=s.heap) (t':=t) Un.refl I.hok
theorem Inv.kept {t':Nat}(I:Inv X pins σ H s)(k:∀ b u,s.heap.get? b=some u->h'.get? b=some u):Inv X pins σ H { s with heap:=h',toks:=t' }:=I.un (Un.kept k) (I.hok.kept k)
theorem Inv.laid {a:Addr}{o:HO}{t':Nat}(I:Inv X pins σ H s)(k:∀ b u,s.heap.get? b=some u->h'.get? b=some u)(hp:s.heap.objs.size<=a)(new:ObjOk X.prog X.w (cb H a o) h' a o) :
  Inv X pins σ (cb H a o) { s with heap:=h',toks:=t' }:=I.un (Un.laid k hp (I.hok.fresh hp)) (I.hok.laid k hp new)
theorem Inv.write {x e:Addr}{o:HO}{t':Nat}(I:Inv X pins σ H s)(mu:Eo (H x))(he:e=x\/H e=some (.own x))(k:∀ b u,b≠e->s.heap.get? b=some u->h'.get? b=some u)(heo:∃ u,h'.get? e=some u)
  (new:ObjOk X.prog X.w (cb H x o) h' x o):Inv X pins σ (cb H x o) { s with heap:=h',toks:=t' }:=I.un (Un.write mu he k heo) (I.hok.write mu he k heo new)
theorem Inv.pins_of {pins':List (Addr×Obj)}(I:Inv X pins σ H s)(h:∀ p∈pins',s.heap.get? p.1=some p.2/\H p.1=none/\p.1≠X.env.locals/\p.1∉X.fs/\∀ v,p.2.data≠.cell v):Inv X pins' σ H s:=
 ⟨I.ok,I.os,I.bare,I.base,I.loc,I.cell,I.free,I.freeC,fun p hp=>(IL.mp hp).elim (fun z=>I.pin p (Jv _ z)) (h p),I.hok,I.len⟩
theorem pJ {N:List Str}(hN:N.Nodup){i j:Nat}{x:Str}(a:N[i]?=some x)(b:N[j]?=some x):i=j:=by
 obtain⟨h1,e1⟩:=Ir.mp a;obtain⟨h2,e2⟩:=Ir.mp b;exact(List.getElem_inj hN).mp (e1.trans e2.symm)
theorem uF {M:Model}{A:Around}{E:Value->Shared->Prop}{i:Nat}{x:Str}{v:V}{u:Value}{Q:Unit->Shared->Prop}(I:Inv X pins σ H s)(hN:X.N.Nodup)(hi:X.N[i]?=some x)(hx:zA X.env.scope x)(r:RelV v u)
  (h:∀ s',Inv X pins (σ.set i (some v)) H s'->(∃ a,Heap.SameBut a s.heap s'.heap/\(a=X.env.locals\/X.env.cells.lookup x=some a))->Q () s') (hf:X.fn x=true\/X.env.scope.names.lookup x=some .local:=by first|exact .inl rfl|exact .inr rfl|assumption):wpAny M A (storeName X.env x u) Q E s:=by
 obtain⟨m,hn,hl⟩:=id I.loc;have hcls:(X.env.scope.kind==.class||(X.env.scope.kind==.module&&X.env.locals != X.env.globals))=false:=by rw[I.ok.kind]; rfl
 have hiσ:i < σ.length:=by rw[I.len]; exact(Ir.mp hi).1
 have cne:=I.cne;have tracked:∀ {a:Addr} {h':Heap},(∃ o,s.heap.get? a=some o/\H a=none)->Heap.SameBut a s.heap h'->HOk X.prog X.w H h':=fun {a h'} ha hs b ob e=>by
  obtain⟨_,_,hfree⟩:=ha;refine(I.hok b ob e).stay (fun c w' hc q=>(hs.2 c ?_).trans q) (fun _ q=>q) fun _ _ q=>q
  rintro rfl;rcases hc with rfl|hc
  ·rw[hfree]at e; cases e
  ·rw[hfree]at hc; cases hc
 rcases hx with hk|hk
 ·refine wpAny_storeName_local hk hn (fun h' hn' hs=>?_) hcls
  obtain⟨oL,_,_,hoL,_⟩:=id hn;refine h _ ⟨I.ok,I.os,I.bare,⟨fun b o e n hb hx=>?_,fun b o e n hb hx=>?_,I.base.free,fun b o e hx=>?_,I.base.tups,I.base.frzs,I.base.tbls⟩,⟨_,hn',fun j y v' e1 e2 e3=>?_⟩,fun y c e=>?_,I.free,I.freeC,fun p hp=>?_,tracked ⟨oL,hoL,I.free⟩ hs,by simpa using I.len⟩ ⟨_,hs,.inl rfl⟩
  ·exact(hs.2 b (ID (IH (Iy e) I.ok.above))).trans (I.base.keep b o e n hb hx)
  ·obtain⟨sl,e1⟩:=I.base.slot b o e n hb hx;exact⟨sl,(hs.2 b (ID (IH (Iy e) I.ok.above))).trans e1⟩
  ·obtain⟨o',e1⟩:=I.base.there b o e hx;exact⟨o',(hs.2 b (ID (IH (Iy e) I.ok.above))).trans e1⟩
  ·by_cases hj:j=i
   ·subst hj;rw[hi]at e1; cases e1
    rw[List.getElem?_set_self hiσ]at e2;cases e2;exact⟨u,r,.inl ⟨hk,by simp⟩⟩
   ·rw[List.getElem?_set_ne (Ne.symm hj)]at e2;obtain⟨u',r',q⟩:=hl j y v' e1 e2 e3;refine⟨u',r',?_⟩;rcases q with⟨k,e⟩|⟨k,c,e,z⟩
    ·refine .inl ⟨k,?_⟩;have:y≠x:=fun e=>hj (pJ hN e1 (e ▸ hi))
     simp[this,e]
    ·exact .inr ⟨k,c,e,z.sameBut hs (cne y c e)⟩
  ·obtain⟨w',z⟩:=I.cell y c e;exact⟨w',z.sameBut hs (cne y c e)⟩
  ·obtain⟨e,n,ne,nf,d⟩:=I.pin p hp;exact⟨(hs.2 p.1 ne).trans e,n,ne,nf,d⟩
 ·have hfn:X.fn x=true:=by
   rcases hf with z|z
   ·exact z
   ·rw[z]at hk; cases hk
  obtain⟨c,hc⟩:=I.ok.has x (.inl hk);obtain⟨w',z⟩:=I.cell x c hc;refine wpAny_storeName_cell I.ok.kind hk hc z (fun h' hc' hs=>?_)
  obtain⟨oc,hoc,hocd⟩:=id z;refine h { s with heap:=h' } ⟨I.ok,I.os,I.bare,⟨fun b o e n hb hx=>?_,fun b o e n hb hx=>?_,I.base.free,fun b o e hx=>?_,I.base.tups,I.base.frzs,I.base.tbls⟩,⟨m,hn.sameBut hs (Ne.symm (cne x c hc)),fun j y v' e1 e2 e3=>?_⟩,fun y c' e=>?_,I.free,I.freeC,fun p hp=>?_,tracked ⟨oc,hoc,I.freeC x c hc⟩ hs,by simpa using I.len⟩ ⟨c,hs,.inr hc⟩
  ·exact(hs.2 b (ID (IH (Iy e) (I.ok.cab x c hfn hc)))).trans (I.base.keep b o e n hb hx)
  ·obtain⟨sl,e1⟩:=I.base.slot b o e n hb hx;exact⟨sl,(hs.2 b (ID (IH (Iy e) (I.ok.cab x c hfn hc)))).trans e1⟩
  ·obtain⟨o',e1⟩:=I.base.there b o e hx;exact⟨o',(hs.2 b (ID (IH (Iy e) (I.ok.cab x c hfn hc)))).trans e1⟩
  ·by_cases hj:j=i
   ·subst hj;rw[hi]at e1; cases e1
    rw[List.getElem?_set_self hiσ]at e2;cases e2;exact⟨u,r,.inr ⟨.inl hk,c,hc,hc'⟩⟩
   ·rw[List.getElem?_set_ne (Ne.symm hj)]at e2;obtain⟨u',r',q⟩:=hl j y v' e1 e2 e3;refine⟨u',r',?_⟩;rcases q with q|⟨k,c',e,z'⟩
    ·exact .inl q
    ·refine .inr ⟨k,c',e,z'.sameBut hs ?_⟩;rintro rfl;exact hj (pJ hN e1 (I.ok.inj _ _ _ e hc ▸ hi))
  ·by_cases hcc:c'=c
   ·subst hcc; exact⟨_,hc'⟩
   ·obtain⟨w2,z2⟩:=I.cell y c' e;exact⟨w2,z2.sameBut hs hcc⟩
  ·obtain⟨e,n,ne,nf,d⟩:=I.pin p hp;refine⟨(hs.2 p.1 ?_).trans e,n,ne,nf,d⟩;intro q;rw[q,hoc]at e;have q':oc=p.2:=Jb e;exact d w' (by rw[<- q']; exact hocd)
theorem iu {M:Model}{A:Around}{E:Value->Shared->Prop}{i:Nat}{x:Str}{v:V}{u:Value}{Q:Unit->Shared->Prop}(I:Inv X pins σ H s)(hN:X.N.Nodup)(hi:X.N[i]?=some x)(hx:zA X.env.scope x)(r:RelV v u)
  (h:∀ s',Inv X pins (σ.set i (some v)) H s'->Q () s') (hf:X.fn x=true\/X.env.scope.names.lookup x=some .local:=by first|exact .inl rfl|exact .inr rfl|assumption):wpAny M A (storeName X.env x u) Q E s:=
 uF I hN hi hx r (fun s' I' _=>h s' I') hf
theorem Inv.call' {s':Shared}{ch:List Addr}(I:Inv X pins σ H s)(ho:s'.os=s.os)(u:Un (rL X.stack) ch H H' s.heap s'.heap)(hok:HOk X.prog X.w H' s'.heap)(hg:AllBare s'.gens)
  (hch:∀ b∈ch,(b∈X.ex\/X.s₀.heap.objs.size<=b)/\b≠X.env.locals/\(∀ x c,X.env.cells.lookup x=some c->c≠b)/\∀ p∈X.pn++pins,p.1≠b):Inv X pins σ H' s':=by
 obtain⟨h',g',d',t',o'⟩:=s';have e:o'=s.os:=ho;subst e;exact I.call (g':=g') (t':=t') (d':=d') u hok hg hch
end
noncomputable abbrev XK:=Value->Option Addr->Hp->Prop
noncomputable abbrev St:=List (Option V)
noncomputable abbrev VK:=V->Hp->Prop
noncomputable abbrev TE:=St->Hp->VK->Prop
noncomputable abbrev TT:=St->Hp->(Bool->Hp->Prop)->Prop
noncomputable abbrev TA:=St->Hp->(List V->Hp->Prop)->Prop
structure Ends where
 nx:St->Hp->Prop
 rt:VK
 bk:St->Hp->Prop:=fun _ _=>False
 ct:St->Hp->Prop:=fun _ _=>False
noncomputable abbrev TS:=Ends->St->Hp->Prop
noncomputable def EP (X:Cx)(pins:List (Addr×Obj))(σ:St)(Q:VK)(u:Value)(s':Shared):Prop:=∃ v H',Inv X pins σ H' s'/\RelV v u/\Q v H'
noncomputable def TP (X:Cx)(pins:List (Addr×Obj))(σ:St)(Q:Bool->Hp->Prop)(b:Bool)(s':Shared):Prop:=∃ H',Inv X pins σ H' s'/\Q b H'
noncomputable def AP (X:Cx)(pins:List (Addr×Obj))(σ:St)(Q:List V->Hp->Prop)(us:List Value)(s':Shared):Prop:=∃ vs H',Inv X pins σ H' s'/\Vals vs us/\Q vs H'
noncomputable def SP (X:Cx)(pins:List (Addr×Obj))(D:Ends)(f:Flow)(s':Shared):Prop:=
 match f with
 | .next=>∃ σ' H',Inv X pins σ' H' s'/\D.nx σ' H'
 | .brk=>∃ σ' H',Inv X pins σ' H' s'/\D.bk σ' H'
 | .cont=>∃ σ' H',Inv X pins σ' H' s'/\D.ct σ' H'
 | .ret u=>∃ v σ' H',Inv X pins σ' H' s'/\RelV v u/\D.rt v H'
noncomputable def PE (X:Cx)(e:Expr)(t:TE):Prop:=
 ∀ (pins:List (Addr×Obj)) (s:Shared) (σ:St) (H:Hp) (Q:VK),Inv X pins σ H s->t σ H Q->wpAny (model X.prog X.w) X.A (eval e X.env) (EP X pins σ Q) X.xe s
noncomputable def PT (X:Cx)(e:Expr)(t:TT):Prop:=
 ∀ (pins:List (Addr×Obj)) (s:Shared) (σ:St) (H:Hp) (Q:Bool->Hp->Prop),Inv X pins σ H s->t σ H Q->wpAny (model X.prog X.w) X.A (isTrue e X.env (eval e X.env)) (TP X pins σ Q) X.xe s
noncomputable def PW (X:Cx)(e:Expr)(t:TT):Prop:=
 ∀ (whole:Sem Value) (pins:List (Addr×Obj)) (s:Shared) (σ:St) (H:Hp) (Q:Bool->Hp->Prop),Inv X pins σ H s->t σ H Q->wpAny (model X.prog X.w) X.A (isTrue e X.env whole) (TP X pins σ Q) X.xe s
theorem PW.pt {X:Cx}{e:Expr}{t:TT}(h:PW X e t):PT X e t:=h _
noncomputable def PA (X:Cx)(es:List Expr)(t:TA):Prop:=
 ∀ (pos:Pos) (pins:List (Addr×Obj)) (s:Shared) (σ:St) (H:Hp) (Q:List V->Hp->Prop),Inv X pins σ H s->t σ H Q->wpAny (model X.prog X.w) X.A (spliced (backTo pos (starEach es X.env))) (AP X pins σ Q) X.xe s
noncomputable def PS (X:Cx)(st:Stmt)(t:TS):Prop:=
 ∀ (pins:List (Addr×Obj)) (s:Shared) (σ:St) (H:Hp) (D:Ends),Inv X pins σ H s->t D σ H->wpAny (model X.prog X.w) X.A (exec st X.env) (SP X pins D) X.xe s
noncomputable def PSs (X:Cx)(st:List Stmt)(t:TS):Prop:=
 ∀ (pins:List (Addr×Obj)) (s:Shared) (σ:St) (H:Hp) (D:Ends),Inv X pins σ H s->t D σ H->wpAny (model X.prog X.w) X.A (execs st X.env) (SP X pins D) X.xe s
theorem bS {α:Type}{t:Sem α}{Q Q':α->Shared->Prop}{M:Model}{A:Around}{E:Value->Shared->Prop}{s:Shared}(h:wpAny M A t Q E s)(hQ:∀ a s,Q a s->Q' a s):wpAny M A t Q' E s:=Jt h hQ fun _ _ x=>x
section
variable {X:Cx}
theorem Ii {a b:Expr}{ta tb:TE}(ha:PE X a ta)(hb:PE X b tb){pins:List (Addr×Obj)}{s:Shared}{σ:St}{H:Hp}{R:V->V->Hp->Prop}(I:Inv X pins σ H s)(h:ta σ H fun x H1=>tb σ H1 fun y H2=>R x y H2)
  {α:Type} {Q:α->Shared->Prop} {f:Value->Value->Sem α}
  (hf:∀ v u s2 x y H2,Inv X pins σ H2 s2->RelV x v->RelV y u->R x y H2->wpAny (model X.prog X.w) X.A (f v u) Q X.xe s2) :
  wpAny (model X.prog X.w) X.A (eval a X.env) (fun v s₁=>wpAny (model X.prog X.w) X.A (eval b X.env) (fun u s₂=>wpAny (model X.prog X.w) X.A (f v u) Q X.xe s₂) X.xe s₁) X.xe s:=by
 refine bS (ha pins s σ H _ I h) fun v s1 ⟨x,H1,I1,r1,q1⟩=>?_
 refine bS (hb pins s1 σ H1 _ I1 q1) fun u s2 ⟨y,H2,I2,r2,q2⟩=>?_
 exact hf v u s2 x y H2 I2 r1 r2 q2
noncomputable def Cn (i:Nat):TE:=fun σ H Q=>∃ v,σ[i]?=some (some v)/\Q v H
noncomputable def tC (v:V):TE:=fun _ H Q=>Q v H
theorem vZ {i:Nat}{x:Str}{pos:Pos}(hN:X.N[i]?=some x)(hv:Ge X.env.scope x)(hd:(x==("__debug__" : Str))=false:=by decide)(hcd:(x==("__classdict__" : Str))=false:=by decide):PE X (.Name x pos) (Cn i):=by
 intro pins s σ H Q I h;obtain⟨v,e,h⟩:=h;obtain⟨m,hn,hl⟩:=I.loc;obtain⟨u,r,l⟩:=hl i x v hN e hv;have fin:EP X pins σ Q u s:=⟨v,H,I,r,h⟩;rcases l with⟨hk,hm⟩|⟨hk,c,hc,hcell⟩
 ·exact wpAny_Name (wpAny_loadName_local I.ok.kind hk hn hm fin) hd
 ·rcases hk with hk|hk
  ·exact wpAny_Name (wpAny_loadName_cell I.ok.kind hk hc hcell fin) hd
  ·exact wpAny_Name (wpAny_loadName_free I.ok.kind hk hc hcell fin hcd) hd
theorem v6 {i j pos}:PE X (.Constant (.int i) j pos) (tC (.int i)):=fun _ _ _ H _ I h=>wpAny_Constant_int ⟨.int i,H,I.tok _,⟨_,rfl⟩,h⟩
theorem BR {b j pos}:PE X (.Constant (.bool b) j pos) (tC (.bl b)):=fun _ _ _ H _ I h=>Constant_bool ⟨.bl b,H,I,rfl,h⟩
theorem v8 {j pos}:PE X (.Constant .none j pos) (tC .non):=fun _ _ _ H _ I h=>Constant_none ⟨.non,H,I,rfl,h⟩
theorem wa {x j pos}:PE X (.Constant (.str x) j pos) (tC (.str x)):=fun _ _ _ H _ I h=>Calls.Constant_str ⟨.str x,H,I.tok _,⟨_,rfl⟩,h⟩
noncomputable def Gl (X:Cx)(x:Str):Prop:=X.env.kindOf x=some .globalImplicit
theorem sL {E:Value->Shared->Prop}{pins:List (Addr×Obj)}{s:Shared}{σ:St}{H:Hp}{x:Str}{u:Value}{pos:Pos}{Q:Value->Shared->Prop}(I:Inv X pins σ H s)(hg:Gl X x)(hm:X.mg x=some u)(h:Q u s)
  (hd:(x==("__debug__" : Str))=false:=by decide):wpAny (model X.prog X.w) X.A (eval (.Name x pos) X.env) Q E s:=
 Calls.Name_function_global I.ok.kind hg (Calls.loadGlobal_global (by rw[I.ok.glob]; exact I.mod.glob.keeps I.bk) hm h) hd
theorem kI {E:Value->Shared->Prop}{pins:List (Addr×Obj)}{s:Shared}{σ:St}{H:Hp}{x:Str}{u:Value}{pos:Pos}{Q:Value->Shared->Prop}(I:Inv X pins σ H s)(hg:Gl X x)(hm:X.mg x=none)(hv:bootBuiltins x=some u)(h:Q u s)
  (hn:x≠"__name__":=by decide) (hd:(x==("__debug__" : Str))=false:=by decide):wpAny (model X.prog X.w) X.A (eval (.Name x pos) X.env) Q E s:=by
 obtain⟨mb,h1,h2⟩:=I.mod.blt;exact Calls.Name_function_global I.ok.kind hg (Calls.loadGlobal_builtin (by rw[I.ok.glob]; exact I.mod.glob.keeps I.bk) hm (by rw[I.ok.blt]; exact h1.keeps I.bk) ((h2 x hn).trans hv) h) hd
theorem zB {x:Str}{v:V}{u:Value}{pos:Pos}(hg:Gl X x)(hm:X.mg x=none)(hv:bootBuiltins x=some u)(r:RelV v u)(hn:x≠"__name__":=by decide)(hd:(x==("__debug__" : Str))=false:=by decide):PE X (.Name x pos) (tC v):=
 fun _ _ _ H _ I h=>kI I hg hm hv ⟨v,H,I,r,h⟩ hn hd
variable {a b:Expr} {ta tb:TE} {pos:Pos}
variable {tA tB':TT} {bT:List Expr}
noncomputable def Er (t u:TT):TT:=fun σ H Q=>t σ H fun c H1=>if c=true then u σ H1 Q else Q false H1
noncomputable def HJ (t u:TT):TT:=fun σ H Q=>t σ H fun c H1=>if c=true then Q true H1 else u σ H1 Q
noncomputable def Gu (t:TT):TT:=fun σ H Q=>t σ H fun c H1=>Q (!c) H1
theorem zC (ha:PT X a tA):PW X (.BoolOp .And [a] pos) tA:=by
 intro wh pins s σ H Q I h;refine isTrue_and (bS (ha pins s σ H Q I h) fun c s1 e=>?_)
 cases c with
 | true=>exact isTrue_and_nil e
 | false=>exact e
theorem Co (ha:PT X a tA):PW X (.BoolOp .Or [a] pos) tA:=by
 intro wh pins s σ H Q I h;refine isTrue_or (bS (ha pins s σ H Q I h) fun c s1 e=>?_)
 cases c with
 | false=>exact isTrue_or_nil e
 | true=>exact e
theorem Cp (ha:PT X a tA)(hb:PW X (.BoolOp .And (b::bT) pos) tB'):PW X (.BoolOp .And (a::b::bT) pos) (Er tA tB'):=by
 intro wh pins s σ H Q I h;refine isTrue_and (bS (ha pins s σ H _ I h) fun c s1 ⟨H1,I1,q1⟩=>?_)
 cases c with
 | true=>exact hb wh pins s1 σ H1 Q I1 q1
 | false=>exact⟨H1,I1,q1⟩
theorem Et (ha:PT X a tA)(hb:PW X (.BoolOp .Or (b::bT) pos) tB'):PW X (.BoolOp .Or (a::b::bT) pos) (HJ tA tB'):=by
 intro wh pins s σ H Q I h;refine isTrue_or (bS (ha pins s σ H _ I h) fun c s1 ⟨H1,I1,q1⟩=>?_)
 cases c with
 | true=>exact⟨H1,I1,q1⟩
 | false=>exact hb wh pins s1 σ H1 Q I1 q1
theorem Cq (ha:PT X a tA):PT X (.UnaryOp .Not a pos) (Gu tA):=by
 intro pins s σ H Q I h;exact isTrue_not (ha pins s σ H (fun c H1=>Q (!c) H1) I h)
noncomputable def Eu (ta tb:TE):TE:=fun σ H Q=>ta σ H fun x H1=>∃ c,x=.bl c/\if c=true then tb σ H1 Q else Q (.bl false) H1
noncomputable def Gv (ta tb:TE):TE:=fun σ H Q=>ta σ H fun x H1=>∃ c,x=.bl c/\if c=true then Q (.bl true) H1 else tb σ H1 Q
noncomputable def Ev (ta:TE):TE:=fun σ H Q=>ta σ H fun x H1=>∃ c,x=.bl c/\Q (.bl (!c)) H1
theorem Cr {op}{t:TE}(h:PE X a t):PE X (.BoolOp op [a] pos) t:=fun pins s σ H Q I hw=>BoolOp_one (h pins s σ H Q I hw)
theorem Cs (ha:PE X a ta)(hb:PE X (.BoolOp .And (b::bT) pos) tb):PE X (.BoolOp .And (a::b::bT) pos) (Eu ta tb):=by
 intro pins s σ H Q I h;refine BoolOp_and (bS (ha pins s σ H _ I h) fun v s1 ⟨x,H1,I1,r1,q1⟩=>?_)
 obtain⟨c,rfl,q1⟩:=q1;cases r1;refine JI ?_;cases c with
 | true=>exact hb pins s1 σ H1 Q I1 q1
 | false=>exact⟨.bl false,H1,I1,rfl,q1⟩
theorem Ew (ha:PE X a ta)(hb:PE X (.BoolOp .Or (b::bT) pos) tb):PE X (.BoolOp .Or (a::b::bT) pos) (Gv ta tb):=by
 intro pins s σ H Q I h;refine BoolOp_or (bS (ha pins s σ H _ I h) fun v s1 ⟨x,H1,I1,r1,q1⟩=>?_)
 obtain⟨c,rfl,q1⟩:=q1;cases r1;refine JI ?_;cases c with
 | false=>exact hb pins s1 σ H1 Q I1 q1
 | true=>exact⟨.bl true,H1,I1,rfl,q1⟩
theorem Ct (ha:PE X a ta):PE X (.UnaryOp .Not a pos) (Ev ta):=by
 intro pins s σ H Q I h;refine UnaryOp_ (bS (ha pins s σ H _ I h) fun v s1 ⟨x,H1,I1,r1,q1⟩=>?_)
 obtain⟨c,rfl,q1⟩:=q1;cases r1;exact not_of (JI ⟨.bl (!c),H1,I1,rfl,q1⟩)
noncomputable def HR (t:TT)(ta tb:TE):TE:=fun σ H Q=>t σ H fun c H1=>if c=true then ta σ H1 Q else tb σ H1 Q
theorem wb {c:Expr}(hc:PT X c tA)(ha:PE X a ta)(hb:PE X b tb):PE X (.IfExp c a b pos) (HR tA ta tb):=by
 intro pins s σ H Q I h;refine wpAny_IfExp (bS (hc pins s σ H _ I h) fun d s1 ⟨H1,I1,q1⟩=>?_)
 cases d with
 | true=>exact ha pins s1 σ H1 Q I1 q1
 | false=>exact hb pins s1 σ H1 Q I1 q1
end
noncomputable def SqL (K:PySem.W.Frag)(H:Hp)(a:Addr)(xs:List V):Prop:=
 Rd H a (.lst xs)\/
  ∃ (o:Obj) (its:Array Value) (n:Nat),K.lookup a=some o/\o.cls=.type "list"/\o.dict=none/\o.data=.seq its n/\its.size<=sizeLine/\Vals xs its.toList
noncomputable def SqT (K:PySem.W.Frag)(H:Hp)(a:Addr)(xs:List V):Prop:=
 Rd H a (.tup xs)\/
  ∃ (o:Obj) (its:Array Value) (n:Nat),K.lookup a=some o/\o.cls=.type "tuple"/\o.data=.seq its n/\its.size<=sizeLine/\Vals xs its.toList
noncomputable def Gw:Value->Option V
 | .none=>some .non
 | .bool b=>some (.bl b)
 | .int i _=>some (.int i)
 | .str x _=>some (.str x)
 | .bytes b _=>some (.byt b)
 | .float b _=>some (.flt b)
 | .ref a=>some (.ref a)
 | .type n=>some (.ty n)
 | _=>none
theorem RelV.abs {x:V}{u:Value}(r:RelV x u):Gw u=some x:=by
 cases x with
 | non=>cases r; rfl
 | bl _=>cases r; rfl
 | int _=>obtain⟨t,rfl⟩:=r; rfl
 | str _=>obtain⟨t,rfl⟩:=r; rfl
 | byt _=>obtain⟨t,rfl⟩:=r; rfl
 | flt _=>obtain⟨t,rfl⟩:=r; rfl
 | ref _=>cases r; rfl
 | ty _=>cases r; rfl
theorem RelV.inj {x y:V}{u:Value}(r:RelV x u)(q:RelV y u):x=y:=Jb (r.abs.symm.trans q.abs)
theorem Vals.inj:∀ {xs ys:List V} {us:List Value},Vals xs us->Vals ys us->xs=ys
 | _,_,_,.nil,.nil=>rfl
 | _,_,_,.cons r t,.cons r' t'=>by rw[r.inj r',Vals.inj t t']
section
variable {X:Cx} {pins:List (Addr×Obj)} {σ:St} {H:Hp} {s:Shared} {a:Addr} {xs ys:List V}
theorem SqL.of {K:PySem.W.Frag}(h:H a=some (.lst xs)):SqL K H a xs:=.inl (.inl h)
theorem SqT.of {K:PySem.W.Frag}(h:H a=some (.tup xs)):SqT K H a xs:=.inl (.inl h)
theorem Inv.list (I:Inv X pins σ H s)(h:SqL X.K H a xs):∃ its:List Value,Vals xs its/\PlainL s.heap a its.toArray/\xs.length<=sizeLine:=by
 rcases h with h|⟨o,its,n,hk,hc,hd,hs,hz,r⟩
 ·obtain⟨z,its,n,r,e⟩:=h.ok I.hok;exact⟨its,r,⟨_,n,e,rfl,rfl,rfl⟩,z⟩
 ·refine⟨its.toList,r,⟨o,n,I.kIn a o hk,hc,hd,by simpa using hs⟩,?_⟩
  have e:=r.length;simp only[Array.length_toList]at e;omega
theorem Inv.tuple (I:Inv X pins σ H s)(h:SqT X.K H a xs):∃ its:List Value,Vals xs its/\IsTup s.heap a its.toArray/\xs.length<=sizeLine:=by
 rcases h with h|⟨o,its,n,hk,hc,hs,hz,r⟩
 ·obtain⟨z,its,r,p⟩:=h.ok I.hok;exact⟨its,r,p,z⟩
 ·refine⟨its.toList,r,⟨o,I.kIn a o hk,hc,n,by simpa using hs⟩,?_⟩
  have e:=r.length;simp only[Array.length_toList]at e;omega
theorem Inv.list_inj (I:Inv X pins σ H s)(h:SqL X.K H a xs)(h':SqL X.K H a ys):xs=ys:=by
 obtain⟨its,r,⟨o,n,e,_,_,d⟩,_⟩:=I.list h;obtain⟨its',r',⟨o',n',e',_,_,d'⟩,_⟩:=I.list h';rw[e]at e'; cases e'
 rw[d]at d';injection d' with d1 _
 have:its=its':=by simpa using congrArg Array.toList d1
 subst this;exact r.inj r'
theorem Inv.tuple_inj (I:Inv X pins σ H s)(h:SqT X.K H a xs)(h':SqT X.K H a ys):xs=ys:=by
 obtain⟨its,r,⟨o,e,_,n,d⟩,_⟩:=I.tuple h;obtain⟨its',r',⟨o',e',_,n',d'⟩,_⟩:=I.tuple h';rw[e]at e'; cases e'
 rw[d]at d';injection d' with d1 _
 have:its=its':=by simpa using congrArg Array.toList d1
 subst this;exact r.inj r'
end
noncomputable abbrev Cx.wish (X:Cx)(E:Value->Shared->Prop):Cx:={ X with xe:=E }
noncomputable abbrev Cx.nox (X:Cx):Cx:=X.wish fun _ _=>False
theorem Cx.Ok.wish {X:Cx}(ok:X.Ok)(E:Value->Shared->Prop):(X.wish E).Ok:=
 ⟨ok.mod,ok.kind,ok.glob,ok.blt,ok.above,ok.inj,ok.has,ok.cab,ok.hd,ok.frames,ok.stk,ok.exf,ok.bs,ok.bsz,ok.noex,ok.exfs,ok.funs,ok.frf⟩
theorem Cx.Ok.unwish {X:Cx}{E:Value->Shared->Prop}(ok:(X.wish E).Ok):X.Ok:=
 ⟨ok.mod,ok.kind,ok.glob,ok.blt,ok.above,ok.inj,ok.has,ok.cab,ok.hd,ok.frames,ok.stk,ok.exf,ok.bs,ok.bsz,ok.noex,ok.exfs,ok.funs,ok.frf⟩
section
variable {X:Cx} {pins:List (Addr×Obj)} {σ:St} {H:Hp} {s:Shared} {E:Value->Shared->Prop}
theorem Inv.wish (I:Inv X pins σ H s)(E:Value->Shared->Prop):Inv (X.wish E) pins σ H s:=⟨I.ok.wish E,I.os,I.bare,I.base,I.loc,I.cell,I.free,I.freeC,I.pin,I.hok,I.len⟩
theorem Inv.unwish (I:Inv (X.wish E) pins σ H s):Inv X pins σ H s:=⟨I.ok.unwish,I.os,I.bare,I.base,I.loc,I.cell,I.free,I.freeC,I.pin,I.hok,I.len⟩
theorem SP.unwish {D:Ends}{f:Flow}{s':Shared}(h:SP (X.wish E) pins D f s'):SP X pins D f s':=by
 cases f with
 | next=>obtain⟨σ',H',I,q⟩:=h; exact⟨σ',H',I.unwish,q⟩
 | brk=>obtain⟨σ',H',I,q⟩:=h; exact⟨σ',H',I.unwish,q⟩
 | cont=>obtain⟨σ',H',I,q⟩:=h; exact⟨σ',H',I.unwish,q⟩
 | ret u=>obtain⟨v,σ',H',I,r,q⟩:=h; exact⟨v,σ',H',I.unwish,r,q⟩
theorem PSs.nox {st:List Stmt}{t:TS}(h:PSs X.nox st t):PSs X st t:=fun pins s σ H D I hw=>
 Jt (h pins s σ H D (I.wish _) hw) (fun _ _ q=>q.unwish) fun _ _ z=>False.elim z
end
section
variable {X:Cx} {st:Stmt} {bT:List Stmt} {t u:TS} {e:Expr} {te:TE} {pos:Pos}
noncomputable def wc:TS:=fun D σ H=>D.nx σ H
noncomputable def Gx (t u:TS):TS:=fun D σ H=>t { D with nx:=u D } σ H
theorem zD:PSs X [] wc:=fun _ _ σ H _ I h=>wpAny_execs_nil ⟨σ,H,I,h⟩
theorem we (h1:PS X st t)(h2:PSs X bT u):PSs X (st::bT) (Gx t u):=by
 intro pins s σ H D I h;refine wpAny_execs_cons (bS (h1 pins s σ H { D with nx:=u D } I h) fun f s1 q=>?_)
 cases f with
 | next=>
  obtain⟨σ',H',I',q⟩:=q;exact h2 pins s1 σ' H' D I' q
 | ret v=>exact q
 | brk=>exact q
 | cont=>exact q
noncomputable def Cu:TS:=fun D σ H=>D.bk σ H
noncomputable def Ex:TS:=fun D σ H=>D.ct σ H
theorem zE:PS X (.Pass pos) wc:=fun _ _ σ H _ I h=>wpAny_Pass ⟨σ,H,I,h⟩
theorem wf:PS X (.Break pos) Cu:=fun _ _ σ H _ I h=>wpAny_Break ⟨σ,H,I,h⟩
theorem pK:PS X (.Continue pos) Ex:=fun _ _ σ H _ I h=>wpAny_Continue ⟨σ,H,I,h⟩
theorem Inv.quiet {pins:List (Addr×Obj)}{σ:St}{H:Hp}{s:Shared}(I:Inv X pins σ H s):interactive X.env=false:=by simp[interactive,I.ok.kind]
theorem Cv {x j pos pos'}:PS X (.Expr (.Constant (.str x) j pos) pos') wc:=fun _ s σ H _ I h=>wpAny_Expr (Calls.Constant_str (show SP X _ _ .next { s with toks:=s.toks+1 } from⟨σ,H,I.tok _,h⟩)) I.quiet
noncomputable def Ey (te:TE):TS:=fun D σ H=>te σ H fun _ H1=>D.nx σ H1
theorem zF (he:PE X e te)(hs:swapsWith e none pos.line X.env=pure false:=by rfl):PS X (.Expr e pos) (Ey te):=by
 intro pins s σ H D I h;exact wpAny_Expr_any (bS (he pins s σ H _ I h) fun v s1 ⟨x,H1,I1,r1,q1⟩=>⟨σ,H1,I1,q1⟩) I.quiet hs
noncomputable def Gy (te:TE):TS:=fun D σ H=>te σ H D.rt
theorem Cw (he:PE X e te):PS X (.Return (some e) pos) (Gy te):=by
 intro pins s σ H D I h;exact wpAny_Return_some (bS (he pins s σ H _ I h) fun v s1 ⟨x,H1,I1,r1,q1⟩=>⟨x,σ,H1,I1,r1,q1⟩)
noncomputable def Ez:TS:=fun D _ H=>D.rt .non H
theorem zG:PS X (.Return none pos) Ez:=fun _ _ σ H _ I h=>wpAny_Return_none ⟨.non,σ,H,I,rfl,h⟩
noncomputable def Gz (c:TT)(t u:TS):TS:=fun D σ H=>c σ H fun b H1=>if b=true then t D σ H1 else u D σ H1
theorem EA {c:Expr}{a b:List Stmt}{tc:TT}(hc:PT X c tc)(ha:PSs X a t)(hb:PSs X b u):PS X (.If c a b pos) (Gz tc t u):=by
 intro pins s σ H D I h;refine wpAny_If (bS (hc pins s σ H _ I h) fun d s1 ⟨H1,I1,q1⟩=>?_)
 cases d with
 | true=>exact ha pins s1 σ H1 D I1 q1
 | false=>exact hb pins s1 σ H1 D I1 q1
end
noncomputable abbrev TG:=V->St->Hp->(St->Hp->Prop)->Prop
noncomputable abbrev Cy:=List V->St->Hp->(St->Hp->Prop)->Prop
noncomputable def PG (X:Cx)(target:Expr)(t:TG):Prop:=
 ∀ (pins:List (Addr×Obj)) (s:Shared) (σ:St) (H:Hp) (v:V) (u:Value) (Q:St->Hp->Prop),Inv X pins σ H s->RelV v u->t v σ H Q->
  wpAny (model X.prog X.w) X.A (assign target X.env u) (fun _ s'=>∃ σ' H',Inv X pins σ' H' s'/\Q σ' H') X.xe s
noncomputable def EB (X:Cx)(ts:List Expr)(t:Cy):Prop:=
 ∀ (pins:List (Addr×Obj)) (s:Shared) (σ:St) (H:Hp) (vs:List V) (us:List Value) (Q:St->Hp->Prop),Inv X pins σ H s->Vals vs us->t vs σ H Q->
  wpAny (model X.prog X.w) X.A (assignInOrder ((assignEach ts X.env).map (·.2)) us) (fun _ s'=>∃ σ' H',Inv X pins σ' H' s'/\Q σ' H') X.xe s
noncomputable abbrev Cz:=V->V->V->Hp->(Hp->Prop)->Prop
noncomputable def CA (X:Cx)(t:Cz):Prop:=
 ∀ (pins:List (Addr×Obj)) (s:Shared) (σ:St) (H:Hp) (o i v:V) (ov iv u:Value) (Q:Hp->Prop),Inv X pins σ H s->RelV o ov->RelV i iv->RelV v u->t o i v H Q->
  wpAny (model X.prog X.w) X.A (setItem ov iv u) (fun _ s'=>∃ H',Inv X pins σ H' s'/\Q H') X.xe s
section
variable {X:Cx} {pos:Pos}
noncomputable def EC (i:Nat):TG:=fun v σ H Q=>Q (σ.set i (some v)) H
theorem sM {i:Nat}{x:Str}(hN:X.N.Nodup)(hi:X.N[i]?=some x)(hx:zA X.env.scope x)(hf:X.fn x=true\/X.env.scope.names.lookup x=some .local:=by first|exact .inl rfl|exact .inr rfl|assumption):PG X (.Name x pos) (EC i):=by
 intro pins s σ H v u Q I r h;exact wpAny_assign_Name (iu I hN hi hx r (fun s' I'=>⟨_,H,I',h⟩) hf)
noncomputable def GB:Cy:=fun vs σ H Q=>vs=[]/\Q σ H
noncomputable def ED (t:TG)(u:Cy):Cy:=fun vs σ H Q=>∃ v r,vs=v::r/\t v σ H fun σ' H'=>u r σ' H' Q
theorem zH:EB X [] GB:=by
 intro pins s σ H vs us Q I r h;obtain⟨e,h⟩:=h;subst e;cases r;exact assignInOrder_nil ⟨σ,H,I,h⟩
theorem wg {e:Expr}{es:List Expr}{t:TG}{u:Cy}(h1:PG X e t)(h2:EB X es u)
  (hs:(assignEach (e::es) X.env).map (·.2)=assign e X.env::(assignEach es X.env).map (·.2):=by rfl):EB X (e::es) (ED t u):=by
 intro pins s σ H vs us Q I r h;obtain⟨v,vr,e1,h⟩:=h;subst e1;cases r with
 | cons r rr=>
  rw[hs];refine assignInOrder_cons (bS (h1 pins s σ H _ _ _ I r h) fun _ s1 ⟨σ1,H1,I1,q1⟩=>?_)
  exact h2 pins s1 σ1 H1 _ _ Q I1 rr q1
noncomputable def GC (K:PySem.W.Frag)(n:Nat)(t:Cy):TG:=fun v σ H Q=>∃ a xs,v=.ref a/\SqT K H a xs/\xs.length=n/\t xs σ H Q
theorem CB {es:List Expr}{k:Nat}{t:Cy}{n:Nat}(hc:X.calm=true)(h:EB X es t)
  (hn:(assignEach es X.env).length=n:=by rfl) (hst:(assignEach es X.env).findIdx? (·.1)=none:=by rfl):PG X (.Tuple es k pos) (GC X.K n t):=by
 intro pins s σ H v u Q I r hw;obtain⟨a,xs,e1,hq,hl,hw⟩:=hw;subst e1;cases r;obtain⟨its,rv,ht,hz⟩:=I.tuple hq;refine assign_Tuple_tuple (I.ok.hd hc) ht (by simp[hn,<- hl,rv.length]) hst fun h' hx=>?_
 have I1:Inv X pins σ H { s with heap:=h' }:=I.kept (t':=s.toks) fun b o e=>hx b o (ID (Iy e)) e
 exact h pins _ σ H xs _ Q I1 (by simpa using rv) hw
noncomputable def GD (to ti:TE)(t:Cz):TG:=fun v σ H Q=>to σ H fun o H1=>ti σ H1 fun i H2=>t o i v H2 fun H3=>Q σ H3
theorem CC {o i:Expr}{to ti:TE}{t:Cz}(ho:PE X o to)(hi:PE X i ti)(hs:CA X t)
  (ha:∀ v,assign (.Subscript o i pos) X.env v=(do
   let ov <- holding [v] (eval o X.env)
   let iv <- holding [v,ov] (eval i X.env)
   standAt pos
   holding [v,ov,iv] (setItem ov iv v)
   release [v,ov,iv] []):=by intro _; rfl):PG X (.Subscript o i pos) (GD to ti t):=by
 intro pins s σ H v u Q I r h;rw[ha];refine Ij (IW (bS (ho pins s σ H _ I h) fun ov s1 ⟨x,H1,I1,r1,q1⟩=>?_))
 refine Ij (IW (bS (hi pins s1 σ H1 _ I1 q1) fun iv s2 ⟨y,H2,I2,r2,q2⟩=>?_))
 refine Ij (KG (Ij (IW (bS (hs pins s2 σ H2 x y v ov iv u _ I2 r1 r2 r q2) fun _ s3 ⟨H3,I3,q3⟩=>?_))))
 exact wpAny_release ⟨σ,H3,I3,q3⟩
noncomputable def GF (te:TE)(g:TG):TS:=fun D σ H=>te σ H fun x H1=>g x σ H1 D.nx
theorem CD {tg e:Expr}{te:TE}{g:TG}(he:PE X e te)(hg:PG X tg g)(hs:swapsWithSole [tg] e pos.line X.env=pure false:=by rfl)(hw:swappedStores [tg] e X.env=pure none:=by rfl)
  (h1:(assignEach [tg] X.env).map (·.2)=[assign tg X.env]:=by rfl):PS X (.Assign [tg] e pos) (GF te g):=by
 intro pins s σ H D I h;refine wpAny_Assign_stores (bS (he pins s σ H _ I h) fun v s1 ⟨x,H1,I1,r1,q1⟩=>?_) hs hw
 rw[h1];exact bS (hg pins s1 σ H1 x v _ I1 r1 q1) fun _ s2 q=>q
noncomputable def GH (i j:Nat)(ta:TA):TS:=fun D σ H=>ta σ H fun vs H1=>∃ v w,vs=[v,w]/\D.nx ((σ.set i (some v)).set j (some w)) H1
theorem CF {i j:Nat}{x y:Str}{a b:Expr}{ta:TA}{px py pt:Pos}{kt k2 pt2}(hc:X.calm=true)(hN:X.N.Nodup)(hi:X.N[i]?=some x)(hj:X.N[j]?=some y)(hij:i≠j)
  (hx:X.env.scope.names.lookup x=some .local) (hy:X.env.scope.names.lookup y=some .local) (ha:PA X [a,b] ta)
  (hw:swappedStores [.Tuple [.Name x px,.Name y py] kt pt] (.Tuple [a,b] k2 pt2) X.env=pure (some [x,y]))
  (hs:swapsWithSole [.Tuple [.Name x px,.Name y py] kt pt] (.Tuple [a,b] k2 pt2) pos.line X.env=pure false:=by rfl) :
  PS X (.Assign [.Tuple [.Name x px,.Name y py] kt pt] (.Tuple [a,b] k2 pt2) pos) (GH i j ta):=by
 intro pins s σ H D I h;rw[exec_Assign_arm];refine Ij (KG ?_);rw[hs];refine Ij (Il ?_);rw[if_neg (by decide)]
 refine Ij (Tuple_ (bS (ha _ pins s σ H _ I h) fun us s1 ⟨vs,H1,I1,r1,q1⟩=>?_))
 obtain⟨v,w,e1,q1⟩:=q1;subst e1;obtain⟨u1,u2,rfl,rv,rw'⟩ : ∃ u1 u2,us=[u1,u2]/\RelV v u1/\RelV w u2:=by
  cases r1 with
  | cons p q=>
   cases q with
   | cons p' q'=>
    cases q';exact⟨_,_,rfl,p,p'⟩
 refine IP ?_ (by show 2<=sizeLine; decide)
 have I2:Inv X pins σ H1 { s1 with heap:=s1.heap.push { cls:=.type "tuple",data:=.seq [u1,u2].toArray } }:=I1.kept (t':=s1.toks) fun b o e=>Ik _ e
 rw[hw];refine Ij (Il ?_);show wpAny (model X.prog X.w) X.A (do rule "assign.swapped-stores"; let items <- unpackItems (.ref s1.heap.objs.size) 2 none; assignInOrder [fun v=>bindName X.env y v,fun v=>bindName X.env x v] items.reverse; pure Flow.next) _ _ _
 refine Ij (wpAny_rule (Ij (unpackItems_tuple (items:=#[u1,u2]) (I.ok.hd hc) (IsTup.new s1.heap _) fun h' hx'=>?_)))
 have I3:=I2.kept (h':=h') (t':=s1.toks) fun b o e=>hx' b o (ID (Iy e)) e
 show wpAny _ _ (assignInOrder [fun v=>bindName X.env y v,fun v=>bindName X.env x v] [u2,u1] >>= fun _=>pure Flow.next) _ _ _
 refine Ij (assignInOrder_cons (wpAny_bindName (iu I3 hN hj (.inl hy) rw' (fun s2 I4=>?_) (.inr hy))))
 refine assignInOrder_cons (wpAny_bindName (iu I4 hN hi (.inl hx) rv (fun s3 I5=>assignInOrder_nil (Il ?_)) (.inr hx)))
 rw[List.set_comm _ _ (Ne.symm hij)]at I5;exact⟨_,H1,I5,q1⟩
end
section
variable {X:Cx} {pos:Pos}
noncomputable def CG (c:TT)(tb:TS):TS:=fun D σ H=>∃ W:Nat->St->Hp->Prop,(∃ m,W m σ H)/\∀ m σ H,W m σ H->
 c σ H fun b H1=>if b=true then ∃ N:St->Hp->Prop,(∀ σ' H',N σ' H'->∃ m',m' < m/\W m' σ' H')/\tb { D with nx:=N,ct:=N,bk:=D.nx } σ H1 else D.nx σ H1
theorem wj {c:Expr}{body:List Stmt}{tc:TT}{tb:TS}(hp:PassesOwn (model X.prog X.w) X.A X.env X.xe)(hc:PT X c tc)(hb:PSs X body tb):PS X (.While c body [] pos) (CG tc tb):=by
 intro pins s σ H D I h;obtain⟨W,⟨m0,w0⟩,turn⟩:=h;refine wpAny_While (codeAny_whileLoop (fun n s'=>∃ σ' H',Inv X pins σ' H' s'/\W n σ' H') ?_ m0 ⟨σ,H,I,w0⟩)
 rintro n s1 ⟨σ1,H1,I1,w1⟩;refine JQ hp (bS (hc pins s1 σ1 H1 _ I1 (turn n σ1 H1 w1)) fun b s2 ⟨H2,I2,q2⟩=>?_)
 cases b with
 | true=>
  obtain⟨N,hN,q2⟩:=q2;rw[if_pos rfl];refine JQ hp (bS (hb pins s2 σ1 H2 _ I2 q2) fun f s3 q3=>?_)
  cases f with
  | next=>
   obtain⟨σ3,H3,I3,n3⟩:=q3;obtain⟨m',hm,w3⟩:=hN σ3 H3 n3;exact⟨m',hm,σ3,H3,I3,w3⟩
  | cont=>
   obtain⟨σ3,H3,I3,n3⟩:=q3;obtain⟨m',hm,w3⟩:=hN σ3 H3 n3;exact⟨m',hm,σ3,H3,I3,w3⟩
  | brk=>exact q3
  | ret v=>exact q3
 | false=>
  rw[if_neg Bool.false_ne_true];exact wpAny_execs_nil ⟨σ1,H2,I2,q2⟩
end
structure It where
 go:Nat->Hp->Prop
 yld:Nat->Hp->V->Hp->Prop
 stop:Nat->Hp->Prop
noncomputable def pL (X:Cx)(pins:List (Addr×Obj))(H:Hp)(b:Addr):Prop:=
 H b=none/\b≠X.env.locals/\b∉X.fs/\(b∈X.ex\/X.s₀.heap.objs.size<=b)/\(∀ x c,X.env.cells.lookup x=some c->c≠b)/\∀ p∈X.pn++pins,p.1≠b
theorem Inv.fpOk {X:Cx}{pins:List (Addr×Obj)}{σ:St}{H H':Hp}{s:Shared}{b:Addr}(I:Inv X pins σ H s)(hb:s.heap.objs.size<=b)(hn:H' b=none):pL X pins H' b:=by
 refine⟨hn,J2 (IH I.lt hb),I.nofs hb,.inr (IC I.sz hb),fun x c e z=>?_,fun p hp z=>?_⟩
 ·obtain⟨v,q⟩:=I.cell x c e;exact absurd (IH q.lt (by rw[z]; exact hb)) (Jp _)
 ·exact absurd (IH (Iy (I.pin p hp).1) (by rw[z]; exact hb)) (Jp _)
structure Turn (P:Program)(w:World)(K:PySem.W.Frag)(tg:Expr)(J:It)(fp:List Addr)(it:Addr)(tn:Nat->Heap->Prop):Prop where
 mem:it∈fp
 obj:∀ i h,tn i h->∀ b∈fp,∃ o,h.get? b=some o/\∀ v,o.data≠.cell v
 keep:∀ i h h',tn i h->(∀ b∈fp,∀ o,h.get? b=some o->h'.get? b=some o)->tn i h'
 item:∀ (X:Cx),X.prog=P->X.w=w->X.K=K->X.calm=true->∀ (i:Nat) (pins:List (Addr×Obj)) (s:Shared) (σ:St) (H:Hp) (E:Value->Shared->Prop),Inv X pins σ H s->(∀ b∈fp,pL X pins H b)->tn i s.heap->J.go i H->
  wpAny (model P w) X.A (pyNext (.ref it)) (fun r s1=>∃ u,r=some u/\
   wpAny (model P w) X.A (letOwnedTupleGo tg (.ref it) u) (fun _ s2=>∃ x H',Inv X pins σ H' s2/\RelV x u/\J.yld i H x H'/\tn (i+1) s2.heap/\∀ b∈fp,H' b=none) E s1) E s
 done:∀ (X:Cx),X.prog=P->X.w=w->X.K=K->X.calm=true->∀ (i:Nat) (pins:List (Addr×Obj)) (s:Shared) (σ:St) (H:Hp) (E:Value->Shared->Prop),Inv X pins σ H s->(∀ b∈fp,pL X pins H b)->tn i s.heap->J.stop i H->
  wpAny (model P w) X.A (pyNext (.ref it)) (fun r s1=>r=none/\Inv X pins σ H s1) E s
 self:∀ (A:Around) (i:Nat) (s:Shared) (Q:Value->Shared->Prop) (E:Value->Shared->Prop),tn i s.heap->Q (.ref it) s->wpAny (model P w) A (pyIter (.ref it)) Q E s
noncomputable abbrev TI:=St->Hp->(It->Hp->Prop)->Prop
noncomputable def Gf (X:Cx)(pins:List (Addr×Obj))(σ:St)(tg:Expr)(R:It->Hp->Prop)(itv:Value)(s2:Shared):Prop:=
 ∃ (it:Addr) (fp:List Addr) (tn:Nat->Heap->Prop) (J:It) (H':Hp),itv=.ref it/\Inv X pins σ H' s2/\Turn X.prog X.w X.K tg J fp it tn/\tn 0 s2.heap/\(∀ b∈fp,pL X pins H' b)/\R J H'
noncomputable def PI (X:Cx)(tg iter:Expr)(wi:TI):Prop:=
 ∀ (pins:List (Addr×Obj)) (s:Shared) (σ:St) (H:Hp) (R:It->Hp->Prop),Inv X pins σ H s->wi σ H R->
  wpAny (model X.prog X.w) X.A (eval iter X.env) (fun v s1=>wpAny (model X.prog X.w) X.A (pyIter v) (Gf X pins σ tg R) X.xe s1) X.xe s
theorem sN {M:Model}{A:Around}{E:Value->Shared->Prop}{s:Shared}{tg:Expr}{it:Addr}{u:Value}{o:Obj}{n:String}{vs:Array Value}{Q:Unit->Shared->Prop}(ho:s.heap.get? it=some o)(hc:o.cls=.type n)(hd:o.data=.fields vs)
    (hn:["enumerate","zip","dict_itemiterator","dict_reverseitemiterator","odict_iterator","itertools.zip_longest","itertools.pairwise"].contains n=false) (hQ:Q () s):wpAny M A (letOwnedTupleGo tg (.ref it) u) Q E s:=by
  unfold letOwnedTupleGo;cases tg <;> first
    | exact Il hQ
    | (cases u <;> first
        | exact Il hQ
        | (refine Ij (wpAny_load ho ?_)
           rw[hc,hd];show wpAny M A (if (["enumerate","zip","dict_itemiterator","dict_reverseitemiterator","odict_iterator","itertools.zip_longest","itertools.pairwise"].contains n&&vs[0]?==some (rawInt _))=true then _ else _) Q E s
           rw[if_neg (by intro h; rw[hn,Bool.false_and]at h; cases h)]
           exact Il hQ))
noncomputable def GJ (K:PySem.W.Frag)(a:Addr):It:=
 ⟨fun i H=>∃ xs x,SqL K H a xs/\xs[i]?=some x,fun i H x H'=>H'=H/\∀ xs,SqL K H a xs->xs[i]?=some x,fun i H=>∃ xs,SqL K H a xs/\xs.length<=i⟩
noncomputable def Eg (K:PySem.W.Frag)(a:Addr):It:=
 ⟨fun i H=>∃ xs x,SqT K H a xs/\xs[i]?=some x,fun i H x H'=>H'=H/\∀ xs,SqT K H a xs->xs[i]?=some x,fun i H=>∃ xs,SqT K H a xs/\xs.length<=i⟩
noncomputable def EE (lo:Int)(n:Nat):It:=⟨fun i _=>i < n,fun i H x H'=>H'=H/\x=.int (lo+i),fun i _=>n<=i⟩
theorem uG {P:Program}{w:World}{K:PySem.W.Frag}{tg:Expr}(a it:Addr):Turn P w K tg (GJ K a) [it] it (fun i h=>h.IsListIter it a i) where
 mem:=by simp
 obj:=fun i h st b hb=>by
  have e:b=it:=by simpa using hb
  subst e;obtain⟨o,e,c,d⟩:=st;exact⟨o,e,fun v z=>by rw[d]at z; cases z⟩
 keep:=fun i h h' st k=>st.at fun o e=>k it (by simp) o e
 item:=by
  intro X hP hw hK hc i pins s σ H E I hf st hg;subst hP hw hK;obtain⟨xs,x,hq,hx⟩:=hg;obtain⟨its,rv,p,hz⟩:=I.list hq;obtain⟨u,hu,ru⟩:=rv.get hx;obtain⟨f0,f1,f2,f3,f4,f5⟩:=hf it (by simp)
  refine wpAny_pyNext_list_item st p.isList (x:=u) (by simpa using hu) fun h' st' sb=>?_
  have I1:Inv X pins σ H { s with heap:=h' }:=I.turned (t':=s.toks) (fun b o hb e=>(sb.2 b hb).trans e) f0 f1 f3 f4 f5
  obtain⟨o,e,c,d⟩:=id st';exact⟨u,rfl,sN (s:={ s with heap:=h' }) e c d (by decide) ⟨x,H,I1,ru,⟨rfl,fun ys hy=>by rw[I.list_inj hy hq]; exact hx⟩,st',fun b hb=>(hf b hb).1⟩⟩
 done:=by
  intro X hP hw hK hc i pins s σ H E I hf st hg;subst hP hw hK;obtain⟨xs,hq,hx⟩:=hg;obtain⟨its,rv,p,hz⟩:=I.list hq;obtain⟨f0,f1,f2,f3,f4,f5⟩:=hf it (by simp)
  have hl:=rv.length;exact wpAny_pyNext_list_end (I.ok.hd hc) st p.isList (by simp; omega) fun h' eb=>⟨rfl,I.turned (t':=s.toks) (fun b o hb e=>eb b o hb e) f0 f1 f3 f4 f5⟩
 self:=fun _ _ _ _ _ st h=>wpAny_pyIter_listiter st h
theorem rM {P:Program}{w:World}{K:PySem.W.Frag}{tg:Expr}(a it:Addr):Turn P w K tg (Eg K a) [it] it (fun i h=>h.IsTupleIter it a i) where
 mem:=by simp
 obj:=fun i h st b hb=>by
  have e:b=it:=by simpa using hb
  subst e;obtain⟨o,e,c,d⟩:=st;exact⟨o,e,fun v z=>by rw[d]at z; cases z⟩
 keep:=fun i h h' st k=>st.at fun o e=>k it (by simp) o e
 item:=by
  intro X hP hw hK hc i pins s σ H E I hf st hg;subst hP hw hK;obtain⟨xs,x,hq,hx⟩:=hg;obtain⟨its,rv,p,hz⟩:=I.tuple hq;obtain⟨u,hu,ru⟩:=rv.get hx;obtain⟨f0,f1,f2,f3,f4,f5⟩:=hf it (by simp)
  refine wpAny_pyNext_tuple_item st (show s.heap.IsTuple a its.toArray from p) (x:=u) (by simpa using hu) fun h' st' sb=>?_
  have I1:Inv X pins σ H { s with heap:=h' }:=I.turned (t':=s.toks) (fun b o hb e=>(sb.2 b hb).trans e) f0 f1 f3 f4 f5
  obtain⟨o,e,c,d⟩:=id st';exact⟨u,rfl,sN (s:={ s with heap:=h' }) e c d (by decide) ⟨x,H,I1,ru,⟨rfl,fun ys hy=>by rw[I.tuple_inj hy hq]; exact hx⟩,st',fun b hb=>(hf b hb).1⟩⟩
 done:=by
  intro X hP hw hK hc i pins s σ H E I hf st hg;subst hP hw hK;obtain⟨xs,hq,hx⟩:=hg;obtain⟨its,rv,p,hz⟩:=I.tuple hq;obtain⟨f0,f1,f2,f3,f4,f5⟩:=hf it (by simp)
  have hl:=rv.length;exact wpAny_pyNext_tuple_end (I.ok.hd hc) st (show s.heap.IsTuple a its.toArray from p) (by simp; omega) fun h' eb=>⟨rfl,I.turned (t':=s.toks) (fun b o hb e=>eb b o hb e) f0 f1 f3 f4 f5⟩
 self:=fun _ _ _ _ _ st h=>wpAny_pyIter_tupleiter st h
theorem rN {P:Program}{w:World}{K:PySem.W.Frag}{tg:Expr}(it:Addr)(lo:Int)(n:Nat):Turn P w K tg (EE lo n) [it] it (fun i h=>IsRangeIter h it (lo+(i:Nat)*1) ((n:Int) - (i:Nat)) 1) where
 mem:=by simp
 obj:=fun i h st b hb=>by
  have e:b=it:=by simpa using hb
  subst e;exact⟨_,st,fun v z=>by
   have z':Data.fields _=Data.cell v:=z;cases z'⟩
 keep:=fun i h h' st k=>k it (by simp) _ st
 item:=by
  intro X hP hw hK hc i pins s σ H E I hf st hg;subst hP hw hK;obtain⟨f0,f1,f2,f3,f4,f5⟩:=hf it (by simp)
  have W:=Walks.range (prog:=X.prog) (w:=X.w) (I.ok.hd hc) it lo 1 n;refine W.item i s _ _ hg st fun v h' tk hv st' kk=>?_
  obtain⟨t,rfl⟩:=hv;have I1:Inv X pins σ H { s with heap:=h',toks:=tk }:=I.turned (fun b o hb e=>kk b o (by simpa using hb) e) f0 f1 f3 f4 f5
  refine⟨_,rfl,sN (s:={ s with heap:=h',toks:=tk }) (n:="range_iterator") st' rfl rfl (by decide) ⟨.int (lo+i),H,I1,⟨t,?_⟩,⟨rfl,rfl⟩,st',fun b hb=>(hf b hb).1⟩⟩
  rw[Int.mul_one]
 done:=by
  intro X hP hw hK hc i pins s σ H E I hf st hg;subst hP hw hK;obtain⟨f0,f1,f2,f3,f4,f5⟩:=hf it (by simp)
  exact wpAny_pyNext_range_end (I.ok.hd hc) st (by have:n<=i:=hg; omega) fun h' eb=>⟨rfl,I.turned (t':=s.toks) (fun b o hb e=>eb b o hb e) f0 f1 f3 f4 f5⟩
 self:=fun _ _ _ _ _ st h=>wpAny_pyIter_rangeiter st h
section
variable {X:Cx} {tg:Expr}
theorem pM {pins:List (Addr×Obj)}{σ:St}{H:Hp}{s:Shared}{R:It->Hp->Prop}{E:Value->Shared->Prop}{lo hi:Int}{t u v:Tok}{tk:Nat}(I:Inv X pins σ H s)(h1 : -(2 ^ 62)<=lo)(h2:lo < 2 ^ 62)(h3 : -(2 ^ 62)<=hi)(h4:hi < 2 ^ 62)
  (q:R (EE lo (hi - lo).toNat) H):wpAny (model X.prog X.w) X.A (pyIter (.ref s.heap.objs.size)) (Gf X pins σ tg R) E { s with heap:=s.heap.push { cls:=.type "range",data:=.fields #[.int lo t,.int hi u,.int 1 v] },toks:=tk }:=by
 refine wpAny_pyIter_range (IsRange.new ..) (small_one h1 h2 h3 h4) ?_;have I1:Inv X pins σ H { s with heap:=s.heap.push { cls:=.type "range",data:=.fields #[.int lo t,.int hi u,.int 1 v] },toks:=tk }:=I.kept fun b o e=>Ik _ e
 refine⟨(s.heap.push { cls:=.type "range",data:=.fields #[.int lo t,.int hi u,.int 1 v] }).objs.size,[(s.heap.push { cls:=.type "range",data:=.fields #[.int lo t,.int hi u,.int 1 v] }).objs.size],_,_,H,rfl,
  I1.kept (t':=tk) fun b o e=>Ik _ e,rN _ lo (hi - lo).toNat,?_,fun b hb=>?_,q⟩
 ·have e1:lo+((0:Nat):Int)*1=lo:=by simp
  have e2:(((hi - lo).toNat:Nat):Int) - ((0:Nat):Int)=Builtin.Range.rangeSize lo hi 1:=by rw[rangeSize_one]; split <;> omega
  show IsRangeIter _ _ (lo+((0:Nat):Int)*1) ((((hi - lo).toNat:Nat):Int) - ((0:Nat):Int)) 1;rw[e1,e2];exact Ix _ rfl
 ·have e:b=(s.heap.push { cls:=.type "range",data:=.fields #[.int lo t,.int hi u,.int 1 v] }).objs.size:=by simpa using hb
  subst e;exact I1.fpOk (Ip _) (I1.hok.fresh (Ip _))
noncomputable def EF (ta:TA):TI:=fun σ H R=>ta σ H fun vs H1=>∃ j:Int,vs=[.int j]/\-(2 ^ 62)<=j/\j < 2 ^ 62/\R (EE 0 j.toNat) H1
noncomputable def iRng2 (ta:TA):TI:=fun σ H R=>ta σ H fun vs H1=>∃ i j:Int,vs=[.int i,.int j]/\(-(2 ^ 62)<=i/\i < 2 ^ 62/\-(2 ^ 62)<=j/\j < 2 ^ 62)/\R (EE i (j - i).toNat) H1
theorem uH {a:Expr}{ta:TA}{p pos:Pos}(hg:Gl X "range")(hm:X.mg "range" = none)(ha:PA X [a] ta)(hs:starEach [a] X.env=[(false,eval a X.env)]:=by rfl):PI X tg (.Call (.Name "range" p) [a] [] pos) (EF ta):=by
 intro pins s σ H R I h;refine Call_ (kI I hg hm boot_range (J8 (bS (ha pos pins s σ H _ I h) fun us s1 ⟨vs,H1,I1,r1,q1⟩=>?_) hs rfl))
 obtain⟨j,e,q1,q2,q⟩:=q1;subst e;cases r1 with
 | cons r rr=>
  cases rr;obtain⟨t,rfl⟩:=r;exact call_range_1 (pM I1 (by omega) (by omega) q1 q2 (by simpa using q))
theorem uI {a b:Expr}{ta:TA}{p pos:Pos}(hg:Gl X "range")(hm:X.mg "range" = none)(ha:PA X [a,b] ta)(hs:starEach [a,b] X.env=[(false,eval a X.env),(false,eval b X.env)]:=by rfl)(hs2:starEach [b] X.env=[(false,eval b X.env)]:=by rfl) :
  PI X tg (.Call (.Name "range" p) [a,b] [] pos) (iRng2 ta):=by
 intro pins s σ H R I h;refine Call_ (kI I hg hm boot_range (J8 (bS (ha pos pins s σ H _ I h) fun us s1 ⟨vs,H1,I1,r1,q1⟩=>?_) (by rw[hs,hs2]) (by rw[hs2]; rfl)))
 obtain⟨i,j,e,⟨q1,q2,q3,q4⟩,q⟩:=q1;subst e;cases r1 with
 | cons r rr=>
  cases rr with
  | cons r' rr=>
   cases rr;obtain⟨t,rfl⟩:=r;obtain⟨t',rfl⟩:=r';exact call_range_2 (pM I1 q1 q2 q3 q4 q)
noncomputable def GK (wi:TI)(g:TG)(tb:TS):TS:=fun D σ H=>wi σ H fun J H1=>∃ W:Nat->Nat->St->Hp->Prop,(∃ m,W 0 m σ H1)/\∀ i m σ H,W i m σ H->
 (J.stop i H/\D.nx σ H)\/(J.go i H/\∃ N:St->Hp->Prop,(∀ σ' H',N σ' H'->∃ m',m' < m/\W (i+1) m' σ' H')/\∀ x H',J.yld i H x H'->g x σ H' fun σ2 H2=>tb { D with nx:=N,ct:=N,bk:=D.nx } σ2 H2)
noncomputable def jb (fp:List Addr)(h:Heap):List (Addr×Obj):=fp.filterMap fun b=>(h.get? b).map fun o=>(b,o)
theorem fu {fp:List Addr}{h:Heap}{b:Addr}{o:Obj}(hb:b∈fp)(e:h.get? b=some o):(b,o)∈jb fp h:=List.mem_filterMap.mpr ⟨b,hb,by rw[e]; rfl⟩
theorem uJ {fp:List Addr}{h:Heap}{p:Addr×Obj}(hp:p∈jb fp h):p.1∈fp/\h.get? p.1=some p.2:=by
 obtain⟨b,hb,e⟩:=List.mem_filterMap.mp hp;cases q:h.get? b with
 | none=>rw[q]at e; cases e
 | some o=>
  rw[q]at e;have e':(b,o)=p:=Jb e;subst e';exact⟨hb,q⟩
theorem Inv.pinned {pins:List (Addr×Obj)}{σ:St}{H:Hp}{s:Shared}{fp:List Addr}(I:Inv X pins σ H s)(hf:∀ b∈fp,pL X pins H b)(ho:∀ b∈fp,∃ o,s.heap.get? b=some o/\∀ v,o.data≠.cell v):Inv X (pins++jb fp s.heap) σ H s:=
 I.pins_of fun p hp=>(IL.mp hp).elim (fun z=>I.pin p (II _ z)) fun z=>by
  obtain⟨hb,e⟩:=uJ z;obtain⟨f0,f1,f2,_⟩:=hf p.1 hb;obtain⟨o,e',d⟩:=ho p.1 hb;rw[e]at e'; cases e'
  exact⟨e,f0,f1,f2,d⟩
theorem Inv.unpinned {pins pl:List (Addr×Obj)}{σ:St}{H:Hp}{s:Shared}(I:Inv X (pins++pl) σ H s):Inv X pins σ H s:=I.pins_of fun p hp=>I.pin p (II _ (Jv _ hp))
theorem CH {iter:Expr}{body:List Stmt}{wi:TI}{g:TG}{tb:TS}{pos:Pos}(hp:PassesOwn (model X.prog X.w) X.A X.env X.xe)(hc:X.calm=true)(hi:PI X tg iter wi)(hg:PG X tg g)(hb:PSs X body tb)
  (hs:∀ x,foldedSetIterable iter X.env x=pure x:=by intro _; rfl):PS X (.For tg iter body [] pos) (GK wi g tb):=by
 intro pins s σ H D I h;refine wpAny_For (bS (hi pins s σ H _ I h) fun v s1 h1=>bS h1 fun itv s2 h2=>?_) hs
 obtain⟨it,fp,tn,J,H2,e,I2,T,aZ,f2,W,⟨m0,w0⟩,turn⟩:=h2;subst e;have stat:∀ {H':Hp},(∀ b∈fp,H' b=none)->∀ b∈fp,pL X pins H' b:=fun hn b hb=>⟨hn b hb,(f2 b hb).2⟩
 refine codeAny_forLoop_any (fun n s'=>∃ i σ' H',Inv X pins σ' H' s'/\tn i s'.heap/\(∀ b∈fp,H' b=none)/\W i n σ' H') ?_ m0 ⟨0,σ,H2,I2,aZ,fun b hb=>(f2 b hb).1,w0⟩
 rintro n s3 ⟨i,σ3,H3,I3,st3,fr3,w3⟩;rcases turn i n σ3 H3 w3 with⟨stop,qn⟩|⟨go,N,hN,step⟩
 ·refine JQ hp (bS (T.done X rfl rfl rfl hc i pins s3 σ3 H3 X.xe I3 (stat fr3) st3 stop) fun r s4 ⟨hr,I4⟩=>?_)
  subst hr;exact wpAny_execs_nil ⟨σ3,H3,I4,qn⟩
 ·refine JQ hp (bS (T.item X rfl rfl rfl hc i pins s3 σ3 H3 X.xe I3 (stat fr3) st3 go) fun r s4 ⟨u,hr,h4⟩=>?_)
  subst hr;refine JQ hp (bS h4 fun _ s5 ⟨x,H5,I5,r5,y5,st5,fr5⟩=>?_)
  have I5':=I5.pinned (stat fr5) (T.obj _ _ st5);refine JQ hp (bS (hg _ s5 σ3 H5 x u _ I5' r5 (step x H5 y5)) fun _ s6 ⟨σ6,H6,I6,q6⟩=>?_)
  refine JQ hp (bS (hb _ s6 σ6 H6 _ I6 q6) fun f s7 q7=>?_)
  have again:∀ {σ7:St} {H7:Hp},Inv X (pins++jb fp s5.heap) σ7 H7 s7->N σ7 H7->∃ m,m < n/\∃ i σ' H',Inv X pins σ' H' s7/\tn i s7.heap/\(∀ b∈fp,H' b=none)/\W i m σ' H':=fun {σ7 H7} I7 n7=>by
   obtain⟨m',hm,w7⟩:=hN σ7 H7 n7;refine⟨m',hm,i+1,σ7,H7,I7.unpinned,T.keep _ _ _ st5 fun b hb o e=>(I7.pin (b,o) (II _ (II _ (fu hb e)))).1,fun b hb=>?_,w7⟩
   obtain⟨o,e,d⟩:=T.obj _ _ st5 b hb;exact(I7.pin (b,o) (II _ (II _ (fu hb e)))).2.1
  cases f with
  | next=>obtain⟨σ7,H7,I7,n7⟩:=q7; exact again I7 n7
  | cont=>obtain⟨σ7,H7,I7,n7⟩:=q7; exact again I7 n7
  | brk=>obtain⟨σ7,H7,I7,q7⟩:=q7; exact⟨σ7,H7,I7.unpinned,q7⟩
  | ret v=>obtain⟨x7,σ7,H7,I7,r7,q7⟩:=q7; exact⟨x7,σ7,H7,I7.unpinned,r7,q7⟩
end
theorem for_tup {K:PySem.W.Frag}{a:Addr}{xs:List V}{g:TG}{tb:TS}{D:Ends}{σ:St}{H:Hp}(Pv:Nat->St->Hp->Prop)(h0:Pv 0 σ H)(hl:∀ i σ H,i<=xs.length->Pv i σ H->SqT K H a xs)
  (hs:∀ i x σ H,xs[i]?=some x->Pv i σ H->g x σ H fun σ2 H2=>tb { D with nx:=Pv (i+1),ct:=Pv (i+1),bk:=D.nx } σ2 H2) (hd:∀ σ H,Pv xs.length σ H->D.nx σ H) :
  ∃ W:Nat->Nat->St->Hp->Prop,(∃ m,W 0 m σ H)/\∀ i m σ H,W i m σ H->
   ((Eg K a).stop i H/\D.nx σ H)\/((Eg K a).go i H/\∃ N:St->Hp->Prop,(∀ σ' H',N σ' H'->∃ m',m' < m/\W (i+1) m' σ' H')/\∀ x H',(Eg K a).yld i H x H'->g x σ H' fun σ2 H2=>tb { D with nx:=N,ct:=N,bk:=D.nx } σ2 H2):=by
 refine⟨fun i m σ H=>m=xs.length - i/\i<=xs.length/\Pv i σ H,⟨xs.length,by simp,Jn _,h0⟩,?_⟩
 rintro i m σ H ⟨rfl,hi,p⟩;have q:=hl i σ H hi p
 by_cases hlt:i < xs.length
 ·refine .inr ⟨⟨xs,xs[i],q,by simp[hlt]⟩,Pv (i+1),fun σ' H' p'=>⟨xs.length - (i+1),by omega,rfl,hlt,p'⟩,fun x H' y=>?_⟩
  obtain⟨e,y⟩:=y;subst e;exact hs i x σ _ (y xs q) p
 ·have e:i=xs.length:=by omega
  subst e;exact .inl ⟨⟨xs,q,Ip _⟩,hd σ H p⟩
noncomputable abbrev R2:=V->V->Hp->VK->Prop
noncomputable def OpR (X:Cx)(f:Value->Value->Sem Value)(r:R2):Prop:=
 ∀ (pins:List (Addr×Obj)) (s:Shared) (σ:St) (H:Hp) (x y:V) (v u:Value) (Q:VK),Inv X pins σ H s->RelV x v->RelV y u->r x y H Q->
  wpAny (model X.prog X.w) X.A (f v u) (EP X pins σ Q) X.xe s
noncomputable def GL (X:Cx)(f:Value->Sem Value)(r:V->Hp->VK->Prop):Prop:=
 ∀ (pins:List (Addr×Obj)) (s:Shared) (σ:St) (H:Hp) (x:V) (v:Value) (Q:VK),Inv X pins σ H s->RelV x v->r x H Q->
  wpAny (model X.prog X.w) X.A (f v) (EP X pins σ Q) X.xe s
noncomputable def CallR (X:Cx)(f:Value)(r:List V->Hp->VK->Prop):Prop:=
 ∀ (pins:List (Addr×Obj)) (s:Shared) (σ:St) (H:Hp) (xs:List V) (us:List Value) (Q:VK),Inv X pins σ H s->Vals xs us->r xs H Q->
  wpAny (model X.prog X.w) X.A (call f us) (EP X pins σ Q) X.xe s
noncomputable def GM (X:Cx)(r:V->Hp->(Bool->Hp->Prop)->Prop):Prop:=
 ∀ (pins:List (Addr×Obj)) (s:Shared) (σ:St) (H:Hp) (x:V) (v:Value) (Q:Bool->Hp->Prop),Inv X pins σ H s->RelV x v->r x H Q->
  wpAny (model X.prog X.w) X.A (truthy v) (TP X pins σ Q) X.xe s
noncomputable def Gg (r:R2)(ta tb:TE):TE:=fun σ H Q=>ta σ H fun x H1=>tb σ H1 fun y H2=>r x y H2 Q
noncomputable def HS (r:V->Hp->VK->Prop)(ta:TE):TE:=fun σ H Q=>ta σ H fun x H1=>r x H1 Q
noncomputable def rI (C:Int->Int->Prop)(g:Int->Int->V):R2:=fun x y H Q=>∃ i j,x=.int i/\y=.int j/\C i j/\Q (g i j) H
noncomputable def BS (g:Int->Int->V):R2:=fun x y H Q=>∃ i j,x=.int i/\y=.int j/\Q (g i j) H
noncomputable def rU (g:Int->V):V->Hp->VK->Prop:=fun x H Q=>∃ i,x=.int i/\Q (g i) H
section
variable {X:Cx} {a b c:Expr} {ta tb tc:TE} {pos:Pos}
theorem CI (ha:PE X a ta)(hb:PE X b tb){pins:List (Addr×Obj)}{s:Shared}{σ:St}{H:Hp}{R:V->V->Hp->Prop}(I:Inv X pins σ H s)
  (h:ta σ H fun x H1=>tb σ H1 fun y H2=>R x y H2) {Q:Value->Shared->Prop} {f:Value->Value->Sem Value}
  (hf:∀ v u s2 x y H2,Inv X pins σ H2 s2->RelV x v->RelV y u->R x y H2->wpAny (model X.prog X.w) X.A (f v u) Q X.xe s2) :
  wpAny (model X.prog X.w) X.A (eval a X.env) (fun v s₁=>wpAny (model X.prog X.w) X.A (eval b X.env) (fun u s₂=>wpAny (model X.prog X.w) X.A (f v u) Q X.xe s₂) X.xe s₁) X.xe s:=by
 refine bS (ha pins s σ H _ I h) fun v s1 ⟨x,H1,I1,r1,q1⟩=>?_
 refine bS (hb pins s1 σ H1 _ I1 q1) fun u s2 ⟨y,H2,I2,r2,q2⟩=>?_
 exact hf v u s2 x y H2 I2 r1 r2 q2
theorem EG {op:Operator}{r:R2}(ho:OpR X (binaryOp op) r)(ha:PE X a ta)(hb:PE X b tb):PE X (.BinOp a op b pos) (Gg r ta tb):=by
 intro pins s σ H Q I h;exact wpAny_BinOp (CI ha hb I h fun v u s2 x y H2 I2 rx ry q=>ho pins s2 σ H2 x y v u Q I2 rx ry q)
theorem EH {op:UnaryOp}{r:V->Hp->VK->Prop}(ho:GL X (unaryOp op) r)(ha:PE X a ta):PE X (.UnaryOp op a pos) (HS r ta):=by
 intro pins s σ H Q I h;exact UnaryOp_ (bS (ha pins s σ H _ I h) fun v s1 ⟨x,H1,I1,r1,q1⟩=>ho pins s1 σ H1 x v Q I1 r1 q1)
theorem Gh {f:Value->Value->Sem Value}{C:Int->Int->Prop}{g:Int->Int->Int}
  (rule:∀ (i j:Int) (t u:Tok) (s:Shared) (Q:Value->Shared->Prop) (E:Value->Shared->Prop),C i j->Q (.int (g i j) s.toks) { s with toks:=s.toks+1 }->wpAny (model X.prog X.w) X.A (f (.int i t) (.int j u)) Q E s) :
  OpR X f (rI C fun i j=>.int (g i j)):=by
 intro pins s σ H x y v u Q I rx ry h;obtain⟨i,j,rfl,rfl,hc,q⟩:=h;obtain⟨t,rfl⟩:=rx;obtain⟨t',rfl⟩:=ry;exact rule i j t t' s _ _ hc ⟨.int (g i j),H,I.tok _,⟨_,rfl⟩,q⟩
theorem EI {f:Value->Value->Sem Value}{g:Int->Int->Int}
  (rule:∀ (i j:Int) (t u:Tok) (s:Shared) (Q:Value->Shared->Prop) (E:Value->Shared->Prop),Q (.int (g i j) s.toks) { s with toks:=s.toks+1 }->wpAny (model X.prog X.w) X.A (f (.int i t) (.int j u)) Q E s) :
  OpR X f (BS fun i j=>.int (g i j)):=by
 intro pins s σ H x y v u Q I rx ry h;obtain⟨i,j,rfl,rfl,q⟩:=h;obtain⟨t,rfl⟩:=rx;obtain⟨t',rfl⟩:=ry;exact rule i j t t' s _ _ ⟨.int (g i j),H,I.tok _,⟨_,rfl⟩,q⟩
theorem zI {f:Value->Value->Sem Value}{g:Int->Int->Bool}
  (rule:∀ (i j:Int) (t u:Tok) (s:Shared) (Q:Value->Shared->Prop) (E:Value->Shared->Prop),Q (.bool (g i j)) s->wpAny (model X.prog X.w) X.A (f (.int i t) (.int j u)) Q E s) :
  OpR X f (BS fun i j=>.bl (g i j)):=by
 intro pins s σ H x y v u Q I rx ry h;obtain⟨i,j,rfl,rfl,q⟩:=h;obtain⟨t,rfl⟩:=rx;obtain⟨t',rfl⟩:=ry;exact rule i j t t' s _ _ ⟨.bl (g i j),H,I,rfl,q⟩
noncomputable def GN (i j:Int):Prop:=0 < j/\j < 1073741824
noncomputable def GP (i j:Int):Prop:=0<=j/\j<=1000000/\i.natAbs < 2 ^ 64
noncomputable def CMul (i j:Int):Prop:=(-(2 ^ 64) < i/\i < 2 ^ 64)\/(-(2 ^ 64) < j/\j < 2 ^ 64)
theorem CMul.ok {i j:Int}(h:CMul i j):IntMulOk i j:=by
 rcases h with⟨h1,h2⟩|⟨h1,h2⟩
 ·exact .of_left (intBits_le_64 h1 h2)
 ·exact .of_right (intBits_le_64 h1 h2)
theorem CJ:OpR X (binaryOp .Add) (BS fun i j=>.int (i+j)):=EI fun _ _ _ _ _ _ _ q=>add_int q
theorem CK:OpR X (binaryOp .Sub) (BS fun i j=>.int (i - j)):=EI fun _ _ _ _ _ _ _ q=>sub_int q
theorem CL:OpR X (binaryOp .Mult) (rI CMul fun i j=>.int (i*j)):=Gh fun _ _ _ _ _ _ _ hc q=>mul_int q hc.ok
theorem zJ:OpR X (binaryOp .FloorDiv) (rI GN fun i j=>.int (i / j)):=Gh fun i j _ _ _ _ _ hc q=>by
 have h1:(0:Int) < j:=hc.1;have h2:j < 1073741824:=hc.2;exact floordiv_int (by omega) (by rw[Int.fdiv_eq_ediv_of_nonneg i (by omega)]; exact q) (.inl (PyProof.noPylong_small (by omega)))
theorem CM:OpR X (binaryOp .Mod) (rI (fun _ j=>0 < j) fun i j=>.int (i % j)):=Gh fun i j _ _ _ _ _ hc q=>by
 have h1:(0:Int) < j:=hc;exact mod_int' (by omega) (by rw[Int.fmod_eq_emod_of_nonneg i (by omega)]; exact q)
theorem CN:OpR X (binaryOp .Pow) (rI GP fun i j=>.int (i ^ j.toNat)):=Gh fun _ _ _ _ _ _ _ hc q=>pow_int_small hc.1 hc.2.1 hc.2.2 q
theorem HU {f:Value->Sem Value}{g:Int->Int}
  (rule:∀ (i:Int) (t:Tok) (s:Shared) (Q:Value->Shared->Prop) (E:Value->Shared->Prop),Q (.int (g i) s.toks) { s with toks:=s.toks+1 }->wpAny (model X.prog X.w) X.A (f (.int i t)) Q E s) :
  GL X f (rU fun i=>.int (g i)):=by
 intro pins s σ H x v Q I rx h;obtain⟨i,rfl,q⟩:=h;obtain⟨t,rfl⟩:=rx;exact rule i t s _ _ ⟨.int (g i),H,I.tok _,⟨_,rfl⟩,q⟩
theorem CO:GL X (unaryOp .USub) (rU fun i=>.int (-i)):=HU fun _ _ _ _ _ q=>neg_int q
end
section
variable {X:Cx} {a b c:Expr} {ta tb tc:TE} {pos:Pos}
theorem wl {pins:List (Addr×Obj)}{σ:St}{H:Hp}{s:Shared}{Q:VK}{k k':Bool}(I:Inv X pins σ H s)(q:Q (.bl k) H)(e:k=k'):EP X pins σ Q (.bool k') s:=by
 subst e;exact⟨.bl k,H,I,rfl,q⟩
theorem EJ:OpR X (compareOp .Lt) (BS fun i j=>.bl (decide (i < j))):=zI fun _ _ _ _ _ _ _ q=>lt_int q
theorem EK:OpR X (compareOp .LtE) (BS fun i j=>.bl (decide (i<=j))):=zI fun _ _ _ _ _ _ _ q=>le_int q
theorem EL:OpR X (compareOp .Gt) (BS fun i j=>.bl (decide (j < i))):=zI fun _ _ _ _ _ _ _ q=>gt_int q
theorem EM:OpR X (compareOp .GtE) (BS fun i j=>.bl (decide (j<=i))):=zI fun _ _ _ _ _ _ _ q=>ge_int q
theorem CP:OpR X (compareOp .Is) (fun x y H Q=>y=.non/\Q (.bl (decide (x=.non))) H):=by
 intro pins s σ H x y v u Q I rx ry h;obtain⟨rfl,q⟩:=h;cases ry;refine is_none_gen (wl I q ?_);cases x <;> first
  | (cases rx; rfl)
  | (obtain⟨t,rfl⟩:=rx; rfl)
theorem zK:OpR X (compareOp .IsNot) (fun x y H Q=>y=.non/\Q (.bl (!decide (x=.non))) H):=by
 intro pins s σ H x y v u Q I rx ry h;obtain⟨rfl,q⟩:=h;cases ry;refine isnot_none_gen (wl I q ?_);cases x <;> first
  | (cases rx; rfl)
  | (obtain⟨t,rfl⟩:=rx; rfl)
theorem zL {op:CmpOp}{r:R2}(ho:OpR X (compareOp op) r)(ha:PE X a ta)(hb:PE X b tb)(hm:behindInMarks op b=false):PE X (.Compare a [op] [b] pos) (Gg r ta tb):=by
 intro pins s σ H Q I h;exact wpAny_Compare1 (CI ha hb I h fun v u s2 x y H2 I2 rx ry q=>ho pins s2 σ H2 x y v u Q I2 rx ry q) hm
noncomputable def EN (t:TE):TT:=fun σ H Q=>t σ H fun x H'=>∃ k,x=.bl k/\Q k H'
theorem zM {op:CmpOp}{r:R2}(ho:OpR X (compareOp op) r)(ha:PE X a ta)(hb:PE X b tb)(hm:behindInMarks op b=false):PT X (.Compare a [op] [b] pos) (EN (Gg r ta tb)):=by
 intro pins s σ H Q I h;refine wpAny_isTrue_Compare1 (bS (ha pins s σ H _ I h) fun v s1 ⟨x,H1,I1,r1,q1⟩=>bS (hb pins s1 σ H1 _ I1 q1) fun u s2 ⟨y,H2,I2,r2,q2⟩=>
  bS (ho pins s2 σ H2 x y v u _ I2 r1 r2 q2) fun c s3 ⟨z,H3,I3,r3,k,e,q3⟩=>?_) hm
 subst e;cases r3;exact JI ⟨H3,I3,q3⟩
noncomputable def GQ (K:PySem.W.Frag)(x:V)(H:Hp)(k:Bool):Prop:=
 match x with
 | .non=>k=false
 | .bl b=>k=b
 | .int i=>k=(i != 0)
 | .str y=>y.length<=sizeLine/\k=((y.length:Int) != 0)
 | .byt y=>y.size<=sizeLine/\k=((y.size:Int) != 0)
 | .ref p=>(∃ xs,SqL K H p xs/\k = !xs.isEmpty)\/(∃ xs,SqT K H p xs/\k = !xs.isEmpty)\/∃ kvs,H p=some (.dK kvs)/\k = !kvs.isEmpty
 | _=>False
theorem rO {κ:Type}{kvs:List (κ×V)}{vs:List (κ×Value)}(r:KV kvs vs):(!vs.isEmpty) = !kvs.isEmpty:=by
 cases r <;> rfl
theorem kJ {xs:List V}{its:List Value}(r:Vals xs its):(!its.toArray.isEmpty) = !xs.isEmpty:=by
 cases r <;> simp
theorem jc:(sizeLine:Nat) < 2 ^ 63:=by rw[(Ja)]; decide
theorem CQ:GM X (fun x H Q=>∃ k,GQ X.K x H k/\Q k H):=by
 intro pins s σ H x v Q I rx h;obtain⟨k,e,q⟩:=h;have hl:=jc;have hs:sizeLine=16777216:=Ja;cases x with
 | non=>
  cases rx;have e':k=false:=e;subst e';exact truthy_none ⟨H,I,q⟩
 | bl b=>
  cases rx;have e':k=b:=e;subst e';exact JI ⟨H,I,q⟩
 | int i=>
  obtain⟨t,rfl⟩:=rx;have e':k=(i != 0):=e;subst e';exact PySem.P.truthy_int ⟨H,I,q⟩
 | str y=>
  obtain⟨t,rfl⟩:=rx;obtain⟨hy,e'⟩ : y.length<=sizeLine/\k=((y.length:Int) != 0):=e;subst e';exact PySem.P.truthy_str (by omega) ⟨H,I.tok _,q⟩
 | byt y=>
  obtain⟨t,rfl⟩:=rx;obtain⟨hy,e'⟩ : y.size<=sizeLine/\k=((y.size:Int) != 0):=e;subst e';exact PySem.W.truthy_bytes (by omega) ⟨H,I.tok _,q⟩
 | ref p=>
  cases rx;have e':(∃ xs,SqL X.K H p xs/\k = !xs.isEmpty)\/(∃ xs,SqT X.K H p xs/\k = !xs.isEmpty)\/∃ kvs,H p=some (.dK kvs)/\k = !kvs.isEmpty:=e;rcases e' with⟨xs,hx,e'⟩|⟨xs,hx,e'⟩|⟨kvs,hx,e'⟩
  ·subst e';obtain⟨its,r,pl,hz⟩:=I.list hx;have hlen:=r.length;exact wpAny_truthy_list pl.isList (by simp only[List.size_toArray]; omega) ⟨H,I.tok _,by rw[kJ r]; exact q⟩
  ·subst e';obtain⟨its,r,pl,hz⟩:=I.tuple hx;have hlen:=r.length;exact truthy_tuple pl (by simp only[List.size_toArray]; omega) ⟨H,I.tok _,by rw[kJ r]; exact q⟩
  ·subst e';obtain⟨hz,hS,vs,r,m⟩ : kvs.length<=sizeLine/\(p==sysModules)=false/\∃ vs,KV kvs vs/\s.heap.DictOf (nP X.prog X.w) p vs:=I.hok p _ hx;have hlen:kvs.length=vs.length:=Paired.length r;exact wpAny_truthy_dict hS m (by omega) ⟨H,I.tok _,by rw[rO r]; exact q⟩
 | _=>exact(show False from e).elim
theorem rP:OpR X (binaryOp .Add) (fun x y H Q=>∃ i j,x=.str i/\y=.str j/\i.length+j.length<=sizeLine/\Q (.str (i++j)) H):=by
 intro pins s σ H x y v u Q I rx ry h;obtain⟨i,j,rfl,rfl,hz,q⟩:=h;obtain⟨t,rfl⟩:=rx;obtain⟨t',rfl⟩:=ry;exact add_str (fun t' tk=>⟨.str (i++j),H,I.tok _,⟨_,rfl⟩,q⟩) hz
theorem mH {x:V}{us:List Value}(r:Vals [x] us):∃ u,us=[u]/\RelV x u:=by
 cases r with
 | cons r1 r2=>cases r2; exact⟨_,rfl,r1⟩
theorem mI:CallR X (.type "int") (fun xs H Q=>(∃ i,xs=[.int i]/\Q (.int i) H)\/∃ k,xs=[.bl k]/\Q (.int (if k then 1 else 0)) H):=by
 intro pins s σ H xs us Q I r h;rcases h with⟨i,rfl,q⟩|⟨k,rfl,q⟩
 ·obtain⟨u,rfl,t,rfl⟩:=mH r;exact call_int_int ⟨.int i,H,I,⟨_,rfl⟩,q⟩
 ·obtain⟨u,rfl,r1⟩:=mH r;cases r1;exact call_int_bool ⟨.int (if k then 1 else 0),H,I.tok _,⟨_,rfl⟩,q⟩
noncomputable def GR (K:PySem.W.Frag)(x:V)(H:Hp)(n:Nat):Prop:=
 match x with
 | .str y=>y.length<=sizeLine/\n=y.length
 | .byt y=>y.size<=sizeLine/\n=y.size
 | .ref p=>(∃ xs,SqL K H p xs/\n=xs.length)\/∃ xs,SqT K H p xs/\n=xs.length
 | _=>False
theorem kK:CallR X (.builtin "len") (fun xs H Q=>∃ x n,xs=[x]/\GR X.K x H n/\Q (.int n) H):=by
 intro pins s σ H xs us Q I r h;obtain⟨x,n,rfl,e,q⟩:=h;obtain⟨u,rfl,rx⟩:=mH r;have hl:=jc;have hs:sizeLine=16777216:=Ja;cases x with
 | str y=>
  obtain⟨t,rfl⟩:=rx;obtain⟨hy,e'⟩ : y.length<=sizeLine/\n=y.length:=e;subst e';exact len_str (by omega) ⟨.int _,H,I.tok _,⟨_,rfl⟩,q⟩
 | byt y=>
  obtain⟨t,rfl⟩:=rx;obtain⟨hy,e'⟩ : y.size<=sizeLine/\n=y.size:=e;subst e';exact PySem.W.len_bytes (by omega) ⟨.int _,H,I.tok _,⟨_,rfl⟩,q⟩
 | ref p=>
  cases rx;have e':(∃ xs,SqL X.K H p xs/\n=xs.length)\/∃ xs,SqT X.K H p xs/\n=xs.length:=e;rcases e' with⟨xs,hx,e'⟩|⟨xs,hx,e'⟩
  ·subst e';obtain⟨its,r',pl,hz⟩:=I.list hx;have hlen:=r'.length;exact Calls.call_len_list pl.isList (by simp only[List.size_toArray]; omega) ⟨.int xs.length,H,I.tok _,⟨_,by simp only[List.size_toArray]; rw[hlen]⟩,q⟩
  ·subst e';obtain⟨its,r',pl,hz⟩:=I.tuple hx;have hlen:=r'.length;exact len_tuple pl (by simp only[List.size_toArray]; omega) ⟨.int xs.length,H,I.tok _,⟨_,by simp only[List.size_toArray]; rw[hlen]⟩,q⟩
 | _=>exact(show False from e).elim
end
section
variable {prog:Program} {w:World} {A:Around} {E:Value->Shared->Prop} {s:Shared} {K:PySem.W.Frag} {x dx C f:Addr} {mA:Str->Option Value} {name:Str} {v:Value}
end
section
variable {P:Program} {w:World} {H H':Hp} {h h':Heap} {a C dx:Addr} {fs fs':List (Str×V)}
end
section
variable {X:Cx} {pins:List (Addr×Obj)} {σ:St} {H:Hp} {s:Shared} {a C dx:Addr} {fs:List (Str×V)} {f:Str} {v:V} {A:Around} {E:Value->Shared->Prop}
end
section
variable {X:Cx} {o e value:Expr} {f:Str} {pos pos' tpos:Pos} {ta tv:TE}
end
section
variable {X:Cx} {pins:List (Addr×Obj)} {σ:St} {H:Hp} {s:Shared} {A:Around} {E:Value->Shared->Prop} {Q:Value->Shared->Prop} {c:Value} {b:Bool}
end
structure Room (k:Nat)(A:Around):Prop where
 hd:A.handled=none
 dp:A.depth+3*k+5 < recursionLimit
 un:A.units+16*k+200 < cLine
theorem Room.deeper {k:Nat}{A:Around}(r:Room (k+1) A)(env:Env):Room k (A.deeper env):=
 ⟨r.hd,by have:=r.dp; show A.depth+1+3*k+5 < _; omega,by have:=r.un; show A.units+3+16*k+200 < _; omega⟩
theorem Room.depth {k:Nat}{A:Around}(r:Room k A):A.depth < recursionLimit:=by have:=r.dp; omega
noncomputable def EO:TA:=fun _ H Q=>Q [] H
noncomputable def EQ (ta:TE)(tr:TA):TA:=fun σ H Q=>ta σ H fun x H1=>tr σ H1 fun xs H2=>Q (x::xs) H2
section
variable {X:Cx} {e:Expr} {es:List Expr} {te:TE} {t:TA} {pos:Pos}
theorem wm:PA X [] EO:=fun _ _ _ _ H Q I h=>Calls.spliced_nil ⟨[],H,I,.nil,h⟩
theorem nR (ha:PE X e te)(hr:PA X es t)(hs:starEach (e::es) X.env=(false,eval e X.env)::starEach es X.env:=by rfl):PA X (e::es) (EQ te t):=by
 intro pos pins s σ H Q I h;rw[hs];show wpAny _ _ (spliced ((false,eval e X.env)::backTo pos (starEach es X.env))) _ _ s;refine Calls.spliced_cons (bS (ha pins s σ H _ I h) fun u s1 ⟨x,H1,I1,r1,q1⟩=>?_)
 exact bS (hr pos pins s1 σ H1 _ I1 q1) fun us s2 ⟨xs,H2,I2,r2,q2⟩=>⟨x::xs,H2,I2,.cons r1 r2,q2⟩
noncomputable def GU (t:TA):TE:=fun σ H Q=>t σ H fun xs H1=>xs.length<=sizeLine/\∀ p,H1 p=none->Q (.ref p) (cb H1 p (.tup xs))
noncomputable def GV (t:TA):TE:=fun σ H Q=>t σ H fun xs H1=>xs.length<=sizeLine/\∀ p,H1 p=none->Q (.ref p) (cb H1 p (.lst xs))
theorem CS {x1}(h:PA X es t):PE X (.Tuple es x1 pos) (GU t):=by
 intro pins s σ H Q I hq;refine wpAny_Tuple_spliced (bS (h pos pins s σ H _ I hq) fun us s1 ⟨xs,H1,I1,r,z,q⟩=>⟨by rw[<- r.length]; exact z,?_⟩)
 have hf:H1 s1.heap.objs.size=none:=I1.hok.fresh (Ip _);refine⟨.ref s1.heap.objs.size,cb H1 s1.heap.objs.size (.tup xs),I1.laid (t':=s1.toks) (fun b u e=>Ik _ e) (Ip _) ?_,rfl,q _ hf⟩
 exact⟨z,us,r,⟨_,Ix _ rfl,rfl,_,rfl⟩⟩
theorem CT (h:PA X es t):PE X (.List es pos) (GV t):=by
 intro pins s σ H Q I hq;refine wpAny_List_spliced (bS (h pos pins s σ H _ I hq) fun us s1 ⟨xs,H1,I1,r,z,q⟩=>⟨by rw[<- r.length]; exact z,?_⟩)
 have hf:H1 s1.heap.objs.size=none:=I1.hok.fresh (Ip _);refine⟨.ref s1.heap.objs.size,cb H1 s1.heap.objs.size (.lst xs),I1.laid (t':=s1.toks) (fun b u e=>Ik _ e) (Ip _) ?_,rfl,q _ hf⟩
 exact⟨z,us,0,r,Ix _ rfl⟩
end
noncomputable abbrev Sp:=List V->Hp->VK->XK->Prop
noncomputable abbrev wn:=List Env->Hp->Shared->XK->Value->Shared->Prop
structure Env0 (P:Program)(w:World)(K:PySem.W.Frag)(mg:Str->Option Value)(base:Heap)(A:Around)(outer:List Env)(s:Shared)(H:Hp):Prop where
 frames:A.frames=some outer
 mod:Mod K mg base
 bs:∀ b o,base.get? b=some o->s.heap.get? b=some o/\H b=none
 bsz:base.objs.size<=s.heap.objs.size
 funs:s.heap.FunFrames base outer
 frf:∀ b∈rL outer,H b=none
 hok:HOk P w H s.heap
 bare:AllBare s.gens
noncomputable def CE (outer:List Env)(P:Program)(w:World)(H:Hp)(s:Shared)(Q:VK)(u:Value)(s':Shared):Prop:=
 ∃ v H',s'.os=s.os/\AllBare s'.gens/\Un (rL outer) [] H H' s.heap s'.heap/\HOk P w H' s'.heap/\RelV v u/\Q v H'
noncomputable def CR (CX:wn)(outer:List Env)(P:Program)(w:World)(H:Hp)(s:Shared)(Q:VK)(E:XK)(r:Result)(s':Shared):Prop:=
 match r with
 | .ok (.ret u)=>CE outer P w H s Q u s'
 | .ok _=>False
 | .error e=>CX outer H s E e s'
structure FnOk (P:Program)(w:World)(K:PySem.W.Frag)(mg:Str->Option Value)(base:Heap)(CX:wn)(k:Nat)(f:Addr)(fd:FuncData)(ps:List Str)(sp:Sp):Prop where
 len:∀ vs H Q E,sp vs H Q E->vs.length=ps.length
 run:∀ (A:Around) (outer:List Env) (s:Shared) (H:Hp) (args:Args) (us:List Value) (vs:List V) (Q:VK) (E:XK),Room k A->Env0 P w K mg base A outer s H->BindsTo s fd args (ps.zip us)->Vals vs us->sp vs H Q E->
  codeAny (model P w) A (.call (.ref f) args) (CR CX outer P w H s Q E) s
section
variable {X:Cx} {pins:List (Addr×Obj)} {σ:St} {H:Hp} {s s':Shared}
theorem Inv.env0 (I:Inv X pins σ H s):Env0 X.prog X.w X.K X.mg X.base X.A X.stack s H:=
 ⟨I.ok.frames,I.ok.mod,I.bs,IC I.ok.bsz I.sz,I.stack,I.stkFree,I.hok,I.bare⟩
theorem Inv.after {Q:VK}{u:Value}(I:Inv X pins σ H s)(h:CE X.stack X.prog X.w H s Q u s'):EP X pins σ Q u s':=by
 obtain⟨v,H',os,bare,un,hok,r,q⟩:=h;obtain⟨hh,g,d,t,os'⟩:=s';obtain rfl:os'=s.os:=os;exact⟨v,H',I.call (h':=hh) (g':=g) (d':=d) (t':=t) (ch:=[]) un hok bare (fun b z=>absurd z (by simp)),r,q⟩
end
noncomputable def wo (sp:Sp)(dvs:List V)(E:XK)(t:TA):TE:=fun σ H Q=>t σ H fun vs H1=>sp (vs++dvs) H1 Q E
noncomputable def Binds (K:PySem.W.Frag)(fd:FuncData)(ps:List Str)(ds:List Value):Prop:=
 ∀ (s:Shared) (us:List Value),K.In s.heap->(us++ds).length=ps.length->BindsTo s fd ⟨us,[]⟩ (ps.zip (us++ds))
theorem Binds.all {K:PySem.W.Frag}{fd:FuncData}{ps:List Str}(h:∀ us:List Value,us.length=ps.length->bindArgs fd ⟨us,[]⟩=pure (ps.zip us)):Binds K fd ps []:=fun s us _ hl=>by
 rw[(Jy)]at hl ⊢;exact .of_eq (h us hl)
noncomputable def nS (CX:wn)(X:Cx)(E:XK):Prop:=∀ (pins:List (Addr×Obj)) (σ:St) (H:Hp) (s:Shared) (e:Value) (s':Shared),Inv X pins σ H s->CX X.stack H s E e s'->X.xe e s'
section
variable {X:Cx} {CX:wn} {k:Nat} {f C:Addr} {fd:FuncData} {ps:List Str} {sp:Sp} {dvs:List V} {ds:List Value} {E:XK} {x m:Str} {p pos apos:Pos} {e o:Expr} {es:List Expr} {ta:TE} {t:TA}
theorem wp {pins:List (Addr×Obj)}{σ:St}{H:Hp}{s:Shared}{Q:VK}{us:List Value}{vs:List V}(F:FnOk X.prog X.w X.K X.mg X.base CX k f fd ps sp)(hr:Room k X.A)(hb:Binds X.K fd ps ds)(hd:Vals dvs ds)(hx:nS CX X E)
  (I:Inv X pins σ H s) (r:Vals vs us) (h:sp (vs++dvs) H Q E):wpAny (model X.prog X.w) X.A (call (.ref f) us) (EP X pins σ Q) X.xe s:=by
 have r2:Vals (vs++dvs) (us++ds):=r.append hd;have hl:(us++ds).length=ps.length:=by rw[<- r2.length]; exact F.len _ _ _ _ h
 refine wpAny_call (Kw (F.run X.A X.stack s H ⟨us,[]⟩ (us++ds) (vs++dvs) Q E hr I.env0 (hb s us I.kIn hl) r2 h) fun r s' hq=>?_)
 cases r with
 | error e=>exact hx pins σ H s e s' I hq
 | ok fl=>
  cases fl with
  | ret u=>exact I.after hq
  | next=>exact False.elim hq
  | brk=>exact False.elim hq
  | cont=>exact False.elim hq
theorem zN (F:FnOk X.prog X.w X.K X.mg X.base CX k f fd ps sp)(hr:Room k X.A)(hg:Gl X x)(hm:X.mg x=some (.ref f))(hk:PySem.W.keepIn X.K (.ref f)=true)(hb:Binds X.K fd ps ds)(hd:Vals dvs ds)(hx:nS CX X E)
  (ha:PA X (e::es) t) (hdb:(x==("__debug__" : Str))=false:=by decide) (he:starEach (e::es) X.env=(false,eval e X.env)::starEach es X.env:=by rfl) (hpl:(backTo pos (starEach es X.env)).any (·.1)=false:=by rfl) :
  PE X (.Call (.Name x p) (e::es) [] pos) (wo sp dvs E t):=by
 intro pins s σ H Q I h;refine Kt (sL I hg hm ?_ hdb);refine PySem.W.callWith_K (h₀:=X.base) I.ok.mod.kin hk (bS (ha pos pins s σ H _ I h) fun us s1 ⟨vs,H1,I1,r,q⟩=>⟨I1.kIn,?_⟩) he hpl
 exact wp F hr hb hd hx I1 r q
theorem wq (F:FnOk X.prog X.w X.K X.mg X.base CX k f fd ps sp)(hr:Room k X.A)(hg:Gl X x)(hm:X.mg x=some (.ref f))(hk:PySem.W.keepIn X.K (.ref f)=true)(hb:Binds X.K fd ps ds)(hd:Vals dvs ds)(hx:nS CX X E)
  (hdb:(x==("__debug__" : Str))=false:=by decide):PE X (.Call (.Name x p) [] [] pos) (wo sp dvs E EO):=by
 intro pins s σ H Q I h;refine Kt (sL I hg hm ?_ hdb);exact PySem.W.callWith_K0 I.kIn hk (wp (us:=[]) F hr hb hd hx I .nil h)
end
section
variable {X:Cx} {CX:wn} {k:Nat} {f C:Addr} {fd:FuncData} {ps ks:List Str} {sp:Sp} {E:XK} {x m:Str} {p pos apos kpos:Pos} {e o:Expr} {es:List Expr} {kws:List Keyword} {te ta:TE} {t tk:TA} {nm:Option Str}
variable {g:List Value->List Value->List Value} {gV:List V->List V->List V}
end
structure FnScope (N P:List Str)(sc:Scope):Prop where
 kind:sc.kind=.function
 co:sc.isCoroutine=false
 gen:sc.isGenerator=false
 nd:N.Nodup
 pre:N.take P.length=P
 par:∀ x∈P,sc.names.lookup x=some .local\/sc.names.lookup x=some .cell
 nofree:∀ y∈sc.names,y.2≠.free
theorem mJ {kindOf:Str->Option NameKind}{x:Str}:∀ {binds:List (Str×Value)} {m:Str->Option Value},(∀ v,(x,v)∉binds)->bindL kindOf binds m x=m x
 | [],_,_=>rfl
 | (n,v)::r,m,h=>by
  unfold bindL;rw[mJ fun w hw=>h w (List.mem_cons_of_mem _ hw)]
  split
  ·have:x≠n:=by rintro rfl; exact h v Jg
   simp[this]
  ·rfl
theorem mK {kindOf:Str->Option NameKind}{x:Str}:∀ {binds:List (Str×Value)} {m:Str->Option Value},(∀ v,(x,v)∉binds)->bindC kindOf binds m x=m x
 | [],_,_=>rfl
 | (n,v)::r,m,h=>by
  unfold bindC;rw[mK fun w hw=>h w (List.mem_cons_of_mem _ hw)]
  split
  ·rfl
  ·have:x≠n:=by rintro rfl; exact h v Jg
   simp[this]
theorem mL {kindOf:Str->Option NameKind}{x:Str}{v:Value}:∀ {P:List Str} {vs:List Value} {i:Nat} {m:Str->Option Value},P.Nodup->P[i]?=some x->vs[i]?=some v->kindOf x=some .local->
  bindL kindOf (P.zip vs) m x=some v
 | [],_,_,_,_,h,_,_=>by simp at h
 | _::_,[],_,_,_,_,h,_=>by simp at h
 | p::P,w::vs,0,m,nd,h1,h2,hk=>by
  simp at h1 h2; subst h1; subst h2
  show bindL kindOf ((p,w)::P.zip vs) m p=_;unfold bindL;rw[mJ fun v hv=>(List.nodup_cons.mp nd).1 (List.of_mem_zip hv).1,if_pos hk]
  simp
 | p::P,w::vs,i+1,m,nd,h1,h2,hk=>by
  show bindL kindOf ((p,w)::P.zip vs) m x=_;unfold bindL;exact mL (i:=i) (Kv.mp nd).2 (by simpa using h1) (by simpa using h2) hk
theorem mM {kindOf:Str->Option NameKind}{x:Str}{v:Value}:∀ {P:List Str} {vs:List Value} {i:Nat} {m:Str->Option Value},P.Nodup->P[i]?=some x->vs[i]?=some v->kindOf x≠some .local->
  bindC kindOf (P.zip vs) m x=some v
 | [],_,_,_,_,h,_,_=>by simp at h
 | _::_,[],_,_,_,_,h,_=>by simp at h
 | p::P,w::vs,0,m,nd,h1,h2,hk=>by
  simp at h1 h2; subst h1; subst h2
  show bindC kindOf ((p,w)::P.zip vs) m p=_;unfold bindC;rw[mK fun v hv=>(List.nodup_cons.mp nd).1 (List.of_mem_zip hv).1,if_neg hk]
  simp
 | p::P,w::vs,i+1,m,nd,h1,h2,hk=>by
  show bindC kindOf ((p,w)::P.zip vs) m x=_;unfold bindC;exact mM (i:=i) (Kv.mp nd).2 (by simpa using h1) (by simpa using h2) hk
noncomputable def fQ (N:List Str)(vs:List V):St:=vs.map some++List.replicate (N.length - vs.length) none
noncomputable def rQ (CX:wn)(P:Program)(w:World)(K:PySem.W.Frag)(mg:Str->Option Value)(base:Heap)(N:List Str)(qual:Str)(scope:Scope)(f:Addr)(cd:Value)(A:Around)(outer:List Env)(s:Shared)(H:Hp)(E:XK):Cx where
 prog:=P
 w:=w
 K:=K
 mg:=mg
 base:=base
 A:=A.deeper (envOfC qual scope s.heap.objs.size f cd)
 N:=N
 s₀:=s
 H₀:=H
 env:=envOfC qual scope s.heap.objs.size f cd
 outer:=outer
 stack:=envOfC qual scope s.heap.objs.size f cd::outer
 ex:=[]
 calm:=true
 fn:=fun _=>true
 pn:=[]
 xe:=fun e s'=>wpAny (model P w) (A.deeper (envOfC qual scope s.heap.objs.size f cd)) (leaving (envOfC qual scope s.heap.objs.size f cd) e) (fun _ s''=>CX outer H s E e s'') (fun e' s''=>CX outer H s E e' s'') s'
theorem pN {sc:Scope}{n:Nat}{x:Str}(h:sc.names.lookup x=some .cell):∃ c,(cellsFrom n sc.names []).lookup x=some c:=by
 have q:=PySem.W.cellsFrom_some sc.names n [] (.inl h);exact IX.mp q
theorem uK {CX:wn}{P:Program}{w:World}{K:PySem.W.Frag}{mg:Str->Option Value}{base:Heap}{N ps:List Str}{qual:Str}{scope:Scope}{f:Addr}{cd:Value}{A:Around}{outer:List Env}{s s1:Shared}{H:Hp}{E:XK}{us:List Value}{vs:List V}
  (S:FnScope N ps scope) (hd:A.handled=none) (e0:Env0 P w K mg base A outer s H) (hl:vs.length=ps.length) (r:Vals vs us)
  (x:InCallC s s.heap.objs.size (bindL (envOfC qual scope s.heap.objs.size f cd).kindOf (ps.zip us) fun _=>none) (cellsFrom (s.heap.objs.size+1) scope.names []) (bindC (envOfC qual scope s.heap.objs.size f cd).kindOf (ps.zip us) fun _=>none) s1) :
  Inv (rQ CX P w K mg base N qual scope f cd A outer s H E) [] (fQ N vs) H s1:=by
 have hpl:ps.length<=N.length:=by have:=congrArg List.length S.pre; rw[(Jq)]at this; omega
 obtain⟨h1,tk,rfl,hk⟩:=x.done;have noA:∀ b:Addr,b∉(rQ CX P w K mg base N qual scope f cd A outer s H E).ex:=fun b z=>absurd (show b∈([]:List Addr)from z) (by simp)
 refine⟨⟨e0.mod,S.kind,rfl,rfl,Ip _,fun y z c h1 h2=>?_,fun y hy=>?_,fun y c _ h=>?_,fun _=>hd,Around.frames_deeper e0.frames,.inr ⟨rfl,rfl⟩,fun b z=>absurd z (noA b),e0.bs,e0.bsz,fun b _ _=>noA b,fun b z=>absurd z (noA b),e0.funs,e0.frf⟩,
  rfl,e0.bare,Un.kept hk,⟨_,x.toInCall.ns,fun i y v h1 h2 h3=>?_⟩,fun y c h=>⟨_,x.cell y c h⟩,e0.hok.fresh (Ip _),fun y c h=>?_,fun p hp=>absurd (show p∈([]:List (Addr×Obj))from hp) (by simp),e0.hok.kept hk,?_⟩
 ·exact name_of_addr x.apart (JZ h1) (JZ h2)
 ·have hy:scope.names.lookup y=some .cell\/scope.names.lookup y=some .free:=hy;rcases hy with hy|hy
  ·exact pN hy
  ·exact absurd rfl (S.nofree _ (JZ hy))
 ·exact Kf (x.above y c (JZ h))
 ·have hi:i < vs.length:=by
   unfold fQ at h2
   by_cases hi:i < vs.length
   ·exact hi
   ·rw[List.getElem?_append_right (by simpa using hi)]at h2
    rw[List.getElem?_replicate]at h2;split at h2 <;> cases h2
  have ha:vs[i]?=some v:=by
   unfold fQ at h2;rw[List.getElem?_append_left (by simpa using hi),(Iu)]at h2
   cases e:vs[i]? with
   | none=>rw[e]at h2; cases h2
   | some a=>rw[e]at h2; cases h2; rfl
  obtain⟨u,hu,rv⟩:=r.get ha;have hp:ps[i]?=some y:=by
   rw[<- S.pre,List.getElem?_take_of_lt (by omega)]; exact h1
  have ndP:ps.Nodup:=by rw[<- S.pre]; exact S.nd.sublist (List.take_sublist _ _)
  refine⟨u,rv,?_⟩;rcases S.par y (IA hp)with k|k
  ·exact .inl ⟨k,mL ndP hp hu k⟩
  ·obtain⟨c,e⟩:=pN (n:=s.heap.objs.size+1) k;refine .inr ⟨.inl k,c,e,?_⟩;have q:=x.cell y c e;rw[mM ndP hp hu (by show scope.names.lookup y≠_; rw[k]; decide)]at q
   exact q
 ·exact e0.hok.fresh (Kf (x.above y c (JZ h)))
 ·unfold fQ;show _=N.length;rw[(Iv),(Im),List.length_replicate];omega
theorem ER {CX:wn}{P:Program}{w:World}{K:PySem.W.Frag}{mg:Str->Option Value}{base:Heap}{k:Nat}{f:Addr}{name qual:Str}{params:Arguments}{body:List Stmt}{scope:Scope}{dV kV doc pm cdv ct oc:Value}{an od:Option Addr}
  {osl:Array (Option Value)} {N ps:List Str} {sp:Sp} (lk:K.lookup f=some ⟨oc,od,.func (PySem.W.fnOf name qual params body scope dV kV doc pm an cdv ct),osl⟩) (hcd:PySem.W.codeIn K cdv qual=true) (S:FnScope N ps scope)
  (len:∀ vs H Q E,sp vs H Q E->vs.length=ps.length)
  (hbody:∀ (A:Around) (outer:List Env) (s:Shared) (H:Hp) (vs:List V) (Q:VK) (E:XK),Room k (A.deeper (envOfC qual scope s.heap.objs.size f cdv))->sp vs H Q E->
   ∃ t,PSs (rQ CX P w K mg base N qual scope f cdv A outer s H E) body t/\t { nx:=fun _ H'=>Q .non H',rt:=Q } (fQ N vs) H) :
  FnOk P w K mg base CX (k+1) f (PySem.W.fnOf name qual params body scope dV kV doc pm an cdv ct) ps sp:=by
 refine⟨len,fun A outer s H args us vs Q E hr e0 hb r hsp=>?_⟩
 have hl:=len _ _ _ _ hsp;have KX:K.In s.heap:=e0.mod.kin.keeps fun b o e=>(e0.bs b o e).1
 have lim:s.heap.NoLimit:=e0.mod.nolimit.keeps fun b o e=>(e0.bs b o e).1
 have hkind:∀ y∈ps.zip us,scope.names.lookup y.1=some .local\/(scope.names.lookup y.1=some .cell/\((cellsFrom (s.heap.objs.size+1) scope.names []).lookup y.1).isSome=true):=fun⟨n,v⟩ hy=>by
  rcases S.par n (List.of_mem_zip hy).1 with q|q
  ·exact .inl q
  ·exact .inr ⟨q,PySem.W.cellsFrom_some _ _ _ (.inl q)⟩
 refine codeAny_call_function hr.depth (KX _ _ lk) rfl S.co S.gen rfl (PySem.W.codeRec_of KX hcd) (hb _ _ _ _ ?_);refine wpAny_newFunctionEnv_cells S.kind hkind fun env he s1 x=>?_
 subst he;refine⟨lim.keeps x.toInCall.keep,codeAny_func ?_⟩;obtain⟨t,ht,hq⟩:=hbody A outer s H vs Q E (hr.deeper _) hsp;have I:Inv (rQ CX P w K mg base N qual scope f cdv A outer s H E) [] (fQ N vs) H s1:=uK S hr.hd e0 hl r x;refine Jt (ht [] s1 (fQ N vs) H _ I hq) (fun fl s' hs=>?_) fun e s' hs=>hs
 have fin:∀ {σ':St} {H':Hp} {v:V} {u:Value},Inv (rQ CX P w K mg base N qual scope f cdv A outer s H E) [] σ' H' s'->RelV v u->Q v H'->CE outer P w H s Q u s':=
  fun {σ' H' v u} J rv q=>⟨v,H',J.os,J.bare,J.base,J.hok,rv,q⟩
 cases fl with
 | ret u=>
  obtain⟨v,σ',H',J,rv,q⟩:=hs;exact fin J rv q
 | next=>
  obtain⟨σ',H',J,q⟩:=hs;exact fin (v:=V.non) (u:=Value.none) J rfl q
 | brk=>
  obtain⟨_,_,_,q⟩:=hs;exact False.elim q
 | cont=>
  obtain⟨_,_,_,q⟩:=hs;exact False.elim q
section
variable {X:Cx} {x:Str} {p pos:Pos} {e:Expr} {es:List Expr} {t:TA} {id T:String} {r:List V->Hp->VK->Prop}
noncomputable def HK (r:List V->Hp->VK->Prop)(t:TA):TE:=fun σ H Q=>t σ H fun vs H1=>r vs H1 Q
theorem pO (hc:CallR X (.builtin id) r)(hg:Gl X x)(hm:X.mg x=none)(hv:bootBuiltins x=some (.builtin id))(ha:PA X (e::es) t)(hn:x≠"__name__":=by decide)(hdb:(x==("__debug__" : Str))=false:=by decide)
  (he:starEach (e::es) X.env=(false,eval e X.env)::starEach es X.env:=by rfl) (hpl:(backTo pos (starEach es X.env)).any (·.1)=false:=by rfl):PE X (.Call (.Name x p) (e::es) [] pos) (HK r t):=by
 intro pins s σ H Q I h;refine Kt (kI I hg hm hv ?_ hn hdb);exact PyProof.Rows.callWith_builtin1 (bS (ha pos pins s σ H _ I h) fun us s1 ⟨vs,H1,I1,r1,q1⟩=>hc pins s1 σ H1 vs us Q I1 r1 q1) he hpl
theorem uL (hc:CallR X (.type T) r)(hg:Gl X x)(hm:X.mg x=none)(hv:bootBuiltins x=some (.type T))(ha:PA X (e::es) t)(hn:x≠"__name__":=by decide)(hdb:(x==("__debug__" : Str))=false:=by decide)
  (he:starEach (e::es) X.env=(false,eval e X.env)::starEach es X.env:=by rfl) (hpl:(backTo pos (starEach es X.env)).any (·.1)=false:=by rfl):PE X (.Call (.Name x p) (e::es) [] pos) (HK r t):=by
 intro pins s σ H Q I h;refine Kt (kI I hg hm hv ?_ hn hdb);exact J8 (bS (ha pos pins s σ H _ I h) fun us s1 ⟨vs,H1,I1,r1,q1⟩=>hc pins s1 σ H1 vs us Q I1 r1 q1) he hpl
end
end L2
namespace HT
open PySem PyProof.Rows
section
open PySem.SeqAt
open PySem.AutoSeq1 (wpAny_loadPart')
open PySem.MeetsSeq PySem.MeetsSeq2 PySem.MeetsSeq3
end
section
variable {prog:Program} {w:World} {A:Around} {E:Value->Shared->Prop} {s:Shared}
theorem zO {t b:Addr}{vs ws:List Value}{Q:Value->Shared->Prop}(ht:IsTup s.heap t vs.toArray)(hb:IsTup s.heap b ws.toArray)(hv:vs≠[])
  (h1:ws=[]->Q (.ref t) s) (h2:ws≠[]->Q (.ref s.heap.objs.size) { s with heap:=s.heap.push { cls:=.type "tuple",data:=.seq (vs++ws).toArray } })
  (hsz:vs.length+ws.length<=sizeLine):wpAny (model prog w) A (binaryOp .Add (.ref t) (.ref b)) Q E s:=by
 obtain⟨⟨cls,dd,data,sl⟩,ho,hc,n,hd⟩:=id ht;obtain⟨⟨cls2,dd2,data2,sl2⟩,ho2,hc2,n2,hd2⟩:=id hb;simp only at hc hd hc2 hd2;subst hc hd hc2 hd2;have e:vs.toArray++ws.toArray=(vs++ws).toArray:=by simp
 by_cases hw:ws=[]
 ·exact concat_meets ⟨_,ho,rfl⟩ ⟨_,ho2,rfl⟩ noFill_tuple_add seq_tuple_add PySem.F.slot_tuple_add PySem.F.entry_tuple_add (Kq _ _)
   (tuple_addW1 t b vs.toArray ws.toArray n n2 dd dd2 sl sl2 (by simpa using hv) (by simp[hw])) ⟨ho,ho2,h1 hw⟩
 ·refine concat_meets ⟨_,ho,rfl⟩ ⟨_,ho2,rfl⟩ noFill_tuple_add seq_tuple_add PySem.F.slot_tuple_add PySem.F.entry_tuple_add (Kq _ _)
   (tuple_addW2 t b vs.toArray ws.toArray n n2 dd dd2 sl sl2 (by simpa using hv) (by simpa using hw) (by rw[(IE),(IE)]; exact hsz)) ⟨ho,ho2,?_⟩
  rw[e];exact h2 hw
noncomputable def cx (n d:Nat):Option Int->Nat
 | none=>d
 | some v=>if v < 0 then(v+(n:Int)).toNat else min v.toNat n
theorem kL (n d:Nat):cx n d none=d:=rfl
theorem sO (n d k:Nat):cx n d (some (k:Int))=min k n:=by
 show(if (k:Int) < 0 then((k:Int)+(n:Int)).toNat else min (k:Int).toNat n)=min k n
 rw[if_neg (by omega),(IB)]
theorem CU (n d:Nat)(hd:d<=n)(o:Option Int):cx n d o<=n:=by
 cases o with
 | none=>exact hd
 | some v=>
  show(if v < 0 then(v+(n:Int)).toNat else min v.toNat n)<=n
  by_cases hv:v < 0
  ·rw[if_pos hv]; omega
  ·rw[if_neg hv]; exact Nat.min_le_right _ _
theorem sP (v:Int)(n d:Nat):(if v < 0 then max (v+(n:Int)) 0 else min v (n:Int))=((cx n d (some v):Nat):Int):=by
 show(if v < 0 then max (v+(n:Int)) 0 else min v (n:Int))=(((if v < 0 then(v+(n:Int)).toNat else min v.toNat n):Nat):Int)
 by_cases hv:v < 0
 ·simp only[if_pos hv]; omega
 ·simp only[if_neg hv]; omega
theorem rR (lo hi:Option Int)(n:Nat):Builtin.Slice.sliceAdjust lo hi 1 (n:Int)=(((cx n 0 lo:Nat):Int),((cx n n hi:Nat):Int)):=by
 have h1:¬ ((1:Int) < 0):=by omega
 unfold Builtin.Slice.sliceAdjust;simp only[h1,if_false];refine Prod.ext ?_ ?_
 ·cases lo with
  | none=>rfl
  | some v=>exact sP v n 0
 ·cases hi with
  | none=>rfl
  | some v=>exact sP v n n
theorem rS (i j:Nat):Builtin.Slice.slicePlaces (i:Int) (j:Int) 1=j - i:=by
 unfold Builtin.Slice.slicePlaces;have h1:(1:Int) > 0:=by omega
 simp only[h1,if_true,Int.ediv_one];split <;> omega
theorem kM {v:Value}{o:Option Int}{Q:Option Int->Shared->Prop}(p:IsPart v o)(h:Q o s):wpAny (model prog w) A (Builtin.Slice.slicePartIndex v) Q E s:=by
 cases p with
 | none=>exact slicePart_none h
 | int i t=>exact slicePart_int h
theorem eS {sl:Addr}{vl vu:Value}{lo hi:Option Int}{n:Nat}{Q:Int×Int×Nat->Shared->Prop}(hs:s.heap.IsSliceOf sl vl vu .none)(pl:IsPart vl lo)(pu:IsPart vu hi)
  (h:Q (((cx n 0 lo:Nat):Int),1,cx n n hi - cx n 0 lo) s):wpAny (model prog w) A (Builtin.Slice.sliceApplied (.ref sl) (pure (n:Int))) Q E s:=by
 obtain⟨os,hos,hcs,hds⟩:=id hs;unfold Builtin.Slice.sliceApplied Builtin.Slice.sliceFields;refine Ij (Ij (wpAny_field hos hds (x:=vl) rfl (Ij (wpAny_field hos hds (x:=vu) rfl (Ij (wpAny_field hos hds (x:=.none) rfl (Il ?_)))))));refine Ij (slicePart_none ?_);show wpAny _ _ (if ((1:Int)==0)=true then _ else _) _ _ s
 rw[if_neg (by decide)]
 refine Ij (kM pl (Ij (kM pu (Ij (Il ?_)))));show wpAny _ _ (match Builtin.Slice.sliceAdjust lo hi 1 (n:Int)with|(lo,hi)=>pure (lo,(1:Int),Builtin.Slice.slicePlaces lo hi 1)) _ _ s
 rw[rR lo hi n];show wpAny _ _ (pure (((cx n 0 lo:Nat):Int),(1:Int),Builtin.Slice.slicePlaces ((cx n 0 lo:Nat):Int) ((cx n n hi:Nat):Int) 1)) _ _ s;rw[rS];exact Il h
theorem wt (xs:Array Value)(i k:Nat):((List.range k).filterMap fun(m:Nat)=>xs[((i:Int)+(m:Int)*1).toNat]?).toArray=((xs.toList.drop i).take k).toArray:=by
 have e:(fun(m:Nat)=>xs[((i:Int)+(m:Int)*1).toNat]?)=fun m=>xs[i+m]?:=by
  funext m
  have:((i:Int)+(m:Int)*1).toNat=i+m:=by omega
  rw[this]
 rw[e];have:=pick_run xs i k;rw[List.filterMap_map]at this;have e2:((fun x=>xs[x]?)∘fun x=>i+x)=fun m=>xs[i+m]?:=rfl
 rw[e2]at this;rw[this]
theorem iw {t sl:Addr}{items:Array Value}{vl vu:Value}{lo hi:Option Int}{Q:Value->Shared->Prop}(ht:IsTup s.heap t items)(hs:s.heap.IsSliceOf sl vl vu .none)(pl:IsPart vl lo)(pu:IsPart vu hi)
  (hw:¬ (cx items.size 0 lo=0/\cx items.size items.size hi=items.size))
  (h:Q (.ref s.heap.objs.size) { s with heap:=s.heap.push { cls:=.type "tuple",data:=.seq ((items.toList.drop (cx items.size 0 lo)).take (cx items.size items.size hi - cx items.size 0 lo)).toArray } })
  (hsz:items.size<=sizeLine):wpAny (model prog w) A (getItem (.ref t) (.ref sl)) Q E s:=by
 have htake:sizeOk (.seq ((items.toList.drop (cx items.size 0 lo)).take (cx items.size items.size hi - cx items.size 0 lo)).toArray):=by
  show((items.toList.drop (cx items.size 0 lo)).take (cx items.size items.size hi - cx items.size 0 lo)).toArray.size<=sizeLine;rw[(IE),(Jq),(KC),(Iz)];omega
 have hj:cx items.size items.size hi<=items.size:=CU _ _ (Ip _) hi;obtain⟨os,hos,hcs,hds⟩:=id hs;have hTs:s.TypeIs (.ref sl) "slice":=⟨os,hos,hcs⟩;unfold getItem
 try with_reducible refine IW ?_
 first|refine Ij (Il ?_)|skip
 refine Ij (wpAny_sequenceKey ht.typeIs (by decide) ?_)
 refine Ij (Jw (name:=Str.ofString "__getitem__") ht.typeIs JD
  (Ji JD ht.typeIs entry_tuple_getitem ?_ (args_tuple_getitem _ _)))
 show wpAny _ _ (Builtin.Tuple.tupleItemsOf (.ref t) >>= _) _ _ s;refine Ij (tupleItemsOf_ ht ?_);refine Ij (J3 hTs ?_);rw[if_pos (by decide)]
 refine Ij (eS hs pl pu ?_);have hno:¬ ((((cx items.size 0 lo:Nat):Int)==0&&(1:Int)==1&&(cx items.size items.size hi - cx items.size 0 lo)==items.size)=true):=by
  intro q;rw[(Iq),(Iq)]at q;have q1:((cx items.size 0 lo:Nat):Int)=0:=eq_of_beq q.1.1;have q2:cx items.size items.size hi - cx items.size 0 lo=items.size:=eq_of_beq q.2;exact hw ⟨by omega,by omega⟩
 show wpAny _ _ (if (((cx items.size 0 lo:Nat):Int)==0&&(1:Int)==1&&(cx items.size items.size hi - cx items.size 0 lo)==items.size)=true then _ else _) _ _ s
 rw[if_neg hno,wt]
 first
  | exact Ij (m:=Builtin.Tuple.tupleExact _) (IP (Il ⟨_,rfl,Il h⟩) htake)
  | exact Ij (m:=Builtin.Tuple.tupleExact _) (IP (Ij (Il (Il ⟨_,rfl,Il h⟩))) htake)
  | exact Ij (Ij (m:=Builtin.Tuple.tupleExact _) (IP (Il (Il ⟨_,rfl,Il h⟩)) htake))
  | exact Ij (Ij (m:=Builtin.Tuple.tupleExact _) (IP (Il ⟨_,rfl,Il h⟩) htake))
end
end HT
namespace L2
open PySem PySem.Spec PyProof.Rows
noncomputable abbrev TO:=St->Hp->(Option Int->Hp->Prop)->Prop
noncomputable def PO (X:Cx)(e:Option Expr)(t:TO):Prop:=
 ∀ (pins:List (Addr×Obj)) (s:Shared) (σ:St) (H:Hp) (Q:Option Int->Hp->Prop),Inv X pins σ H s->t σ H Q->
  wpAny (model X.prog X.w) X.A (evalPart e X.env) (fun u s'=>∃ o H',Inv X pins σ H' s'/\IsPart u o/\Q o H') X.xe s
noncomputable def zP:TO:=fun _ H Q=>Q none H
noncomputable def ES (t:TE):TO:=fun σ H Q=>t σ H fun x H1=>∃ i,x=.int i/\Q (some i) H1
section
variable {X:Cx} {e:Expr} {te:TE} {lo hi:Option Expr} {tl th:TO} {pos p2:Pos}
theorem zQ:PO X none zP:=by
 intro pins s σ H Q I h;rw[evalPart_none];exact Il ⟨none,H,I,.none,h⟩
theorem zR (h:PE X e te):PO X (some e) (ES te):=by
 intro pins s σ H Q I hw;rw[evalPart_some];refine bS (h pins s σ H _ I hw) fun u s1 ⟨x,H1,I1,r1,q1⟩=>?_
 obtain⟨i,rfl,q⟩:=q1;obtain⟨t,rfl⟩:=r1;exact⟨some i,H1,I1,.int i t,q⟩
noncomputable def ET (X:Cx)(r:V->Option Int->Option Int->Hp->VK->Prop):Prop:=
 ∀ (pins:List (Addr×Obj)) (s:Shared) (σ:St) (H:Hp) (x:V) (v vl vu:Value) (lo hi:Option Int) (sl:Addr) (Q:VK),Inv X pins σ H s->RelV x v->s.heap.IsSliceOf sl vl vu .none->IsPart vl lo->IsPart vu hi->r x lo hi H Q->
  ∃ T id,typeLookup (.type T) "__getitem__" = pure (some (.builtin id))/\s.TypeIs v T/\wpAny (model X.prog X.w) X.A (getItem v (.ref sl)) (EP X pins σ Q) X.xe s
noncomputable def HV (r:V->Option Int->Option Int->Hp->VK->Prop)(te:TE)(tl th:TO):TE:=fun σ H Q=>te σ H fun x H1=>tl σ H1 fun l H2=>th σ H2 fun u H3=>r x l u H3 Q
theorem wu {r:V->Option Int->Option Int->Hp->VK->Prop}(hr:ET X r)(he:PE X e te)(hl:PO X lo tl)(hu:PO X hi th):PE X (.Subscript e (.Slice lo hi none p2) pos) (HV r te tl th):=by
 intro pins s σ H Q I h;refine Subscript_ (bS (he pins s σ H _ I h) fun v s1 ⟨x,H1,I1,r1,q1⟩=>?_)
 refine wpAny_Slice (bS (hl pins s1 σ H1 _ I1 q1) fun vl s2 ⟨l,H2,I2,pl,q2⟩=>bS (hu pins s2 σ H2 _ I2 q2) fun vu s3 ⟨u,H3,I3,pu,q3⟩=>?_)
 rw[evalPart_none];refine Il ?_;have I4:Inv X pins σ H3 { s3 with heap:=s3.heap.push { cls:=.type "slice",data:=.fields #[vl,vu,.none] } }:=I3.kept (t':=s3.toks) fun b ob q=>Ik _ q
 obtain⟨T,id,hT,ht,hg⟩:=hr pins { s3 with heap:=s3.heap.push { cls:=.type "slice",data:=.fields #[vl,vu,.none] } } σ H3 x v vl vu l u s3.heap.objs.size Q I4 r1 (Heap.IsSliceOf.new ..) pl pu q3
 show wpAny (model X.prog X.w) X.A (subscriptTail e (.Slice lo hi none p2) v (.ref s3.heap.objs.size)) (EP X pins σ Q) X.xe { s3 with heap:=s3.heap.push { cls:=.type "slice",data:=.fields #[vl,vu,.none] } }
 exact tail_any (ops:=[.ref s3.heap.objs.size,v]) ht hT hg (by with_unfolding_all rfl)
noncomputable def kN (xs:List V)(lo hi:Option Int):List V:=(xs.drop (HT.cx xs.length 0 lo)).take (HT.cx xs.length xs.length hi - HT.cx xs.length 0 lo)
theorem jL (xs:List V)(lo hi:Option Int):(kN xs lo hi).length<=xs.length:=by
 unfold kN;rw[(Jq),(KC)];omega
noncomputable def GX (K:PySem.W.Frag):V->Option Int->Option Int->Hp->VK->Prop:=fun x lo hi H Q=>∃ a xs,x=.ref a/\SqT K H a xs/\
 ¬ (HT.cx xs.length 0 lo=0/\HT.cx xs.length xs.length hi=xs.length)/\∀ p,H p=none->Q (.ref p) (cb H p (.tup (kN xs lo hi)))
theorem CV:ET X (GX X.K):=by
 intro pins s σ H x v vl vu lo hi sl Q I rx hs pl pu h;obtain⟨a,xs,rfl,hx,hw,q⟩:=h;cases rx;obtain⟨its,r,ht,hz⟩:=I.tuple hx;have hlen:its.toArray.size=xs.length:=by rw[(IE)]; exact r.length.symm
 refine⟨"tuple",_,PyProof.Rows.slot_tuple_getitem.lookup,ht.typeIs,?_⟩;refine HT.iw ht hs pl pu (by rw[hlen]; exact hw) ?_ (by rw[hlen]; exact hz)
 rw[hlen];refine⟨.ref s.heap.objs.size,_,I.laid (t':=s.toks) (o:=.tup (kN xs lo hi)) (fun b ob q=>Ik _ q) (Ip _) ?_,rfl,q _ (I.hok.fresh (Ip _))⟩
 exact⟨IC (jL xs lo hi) hz,_,(r.drop (HT.cx xs.length 0 lo)).take (HT.cx xs.length xs.length hi - HT.cx xs.length 0 lo),IsTup.new _ _⟩
theorem Vals.nil_iff {xs:List V}{us:List Value}(r:Vals xs us):us=[]↔xs=[]:=by
 cases r with
 | nil=>simp
 | cons _ _=>simp
end
noncomputable def sQ (n:Nat)(i:Int):Option Nat:=if 0<=i then(if i < n then some i.toNat else none)else if -(n:Int)<=i then some (i+n).toNat else none
noncomputable def pP {α:Type}(xs:List α)(i:Int):Option α:=(sQ xs.length i).bind fun j=>xs[j]?
theorem sR {n:Nat}{i:Int}{j:Nat}(h:sQ n i=some j):seqIndex? i n=some j/\j < n/\-(n:Int)<=i/\i < n:=by
 unfold sQ at h
 by_cases h0:0<=i
 ·rw[if_pos h0]at h
  by_cases h1:i < n
  ·rw[if_pos h1]at h;have e:i.toNat=j:=Jb h;exact⟨by rw[seqIndex_of h0 h1,e],by omega,by omega,h1⟩
  ·rw[if_neg h1]at h; cases h
 ·rw[if_neg h0]at h
  by_cases h1 : -(n:Int)<=i
  ·rw[if_pos h1]at h;have e:(i+n).toNat=j:=Jb h;exact⟨by rw[seqIndex_neg (by omega) h1,e],by omega,h1,by omega⟩
  ·rw[if_neg h1]at h; cases h
theorem nT {α:Type}{xs:List α}{i:Int}{v:α}(h:pP xs i=some v):∃ j,seqIndex? i xs.length=some j/\xs[j]?=some v/\j < xs.length/\-(xs.length:Int)<=i/\i < xs.length:=by
 unfold pP at h;cases e:sQ xs.length i with
 | none=>rw[e]at h; cases h
 | some j=>
  rw[e]at h;obtain⟨h1,h2,h3,h4⟩:=sR e;exact⟨j,h1,h,h2,h3,h4⟩
theorem atI_nat {α:Type}{xs:List α}{j:Nat}{v:α}(h:xs[j]?=some v):pP xs (j:Int)=some v:=by
 have hj:j < xs.length:=(Ir.mp h).1;have e:sQ xs.length (j:Int)=some j:=by
  unfold sQ;rw[if_pos (by omega),if_pos (by omega)]; simp
 unfold pP; rw[e]; exact h
noncomputable def nU (b:Expr):Prop:=∀ o i,subscripted b false o i=operate [o,i] (getItem o i)
noncomputable def IxR (X:Cx)(r:R2):Prop:=
 ∀ (value slice:Expr) (pins:List (Addr×Obj)) (s:Shared) (σ:St) (H:Hp) (x y:V) (v u:Value) (Q:VK),Inv X pins σ H s->RelV x v->RelV y u->r x y H Q->
  subscripted slice false v u=operate [v,u] (getItem v u)->wpAny (model X.prog X.w) X.A (subscriptTail value slice v u) (EP X pins σ Q) X.xe s
noncomputable def MtR (X:Cx)(id:String)(r:V->List V->Hp->VK->Prop):Prop:=
 ∀ (pins:List (Addr×Obj)) (s:Shared) (σ:St) (H:Hp) (x:V) (xs:List V) (v:Value) (us:List Value) (Q:VK),Inv X pins σ H s->RelV x v->Vals xs us->r x xs H Q->
  wpAny (model X.prog X.w) X.A (call (.builtin id) (v::us)) (EP X pins σ Q) X.xe s
section
variable {X:Cx} {a b:Expr} {ta tb:TE} {pos:Pos}
theorem EU {r:R2}(hr:IxR X r)(ha:PE X a ta)(hb:PE X b tb)(hs:nU b):PE X (.Subscript a b pos) (Gg r ta tb):=by
 intro pins s σ H Q I h;exact Subscript_ (CI ha hb I h fun v u s2 x y H2 I2 rx ry q=>hr a b pins s2 σ H2 x y v u Q I2 rx ry q (hs _ _))
noncomputable def GY (K:PySem.W.Frag):R2:=fun x y H Q=>∃ p xs i v,x=.ref p/\y=.int i/\SqL K H p xs/\pP xs i=some v/\Q v H
noncomputable def GZ (K:PySem.W.Frag):R2:=fun x y H Q=>∃ p xs i v,x=.ref p/\y=.int i/\SqT K H p xs/\pP xs i=some v/\Q v H
noncomputable def G0:R2:=fun x y H Q=>∃ z i c,x=.str z/\y=.int i/\z.length<=sizeLine/\pP z.cps.toList i=some c/\Q (.str ⟨#[c]⟩) H
theorem zS:IxR X (GY X.K):=by
 intro value slice pins s σ H x y v u Q I rx ry h hs;obtain⟨p,xs,i,z,rfl,rfl,hq,he,q⟩:=h;cases rx;obtain⟨t,rfl⟩:=ry;obtain⟨its,r,pl,hz⟩:=I.list hq;obtain⟨j,h1,h2,h3,h4,h5⟩:=nT he;obtain⟨w,ew,rw'⟩:=r.get h2;have hl:=r.length;have hn:=jc;have fin:EP X pins σ Q w s:=⟨z,H,I,rw',q⟩
 by_cases h0:0<=i
 ·have hj:i.toNat=j:=by
   rw[seqIndex_of h0 h5]at h1;exact Jb h1
  exact item_listR pl.isList h0 (by omega) (by rw[hj]; simpa using ew) fin hs
 ·have hj:(i+(its.toArray.size:Int)).toNat=j:=by
   rw[seqIndex_neg (by omega) h4]at h1
   rw[(IE),<- hl];exact Jb h1
  exact subscriptTail_builtinR (x:=w) pl.isList.typeIs slot_list_getitem.lookup
   (wpAny_getItem_list_neg (Q:=fun r s'=>r=w/\EP X pins σ Q r s') pl.isList (by omega) (by rw[(IE)] <;> omega) (by omega) (by rw[hj]; simpa using ew) ⟨rfl,fin⟩) hs
theorem CW:IxR X (GZ X.K):=by
 intro value slice pins s σ H x y v u Q I rx ry h hs;obtain⟨p,xs,i,z,rfl,rfl,hq,he,q⟩:=h;cases rx;obtain⟨t,rfl⟩:=ry;obtain⟨its,r,pl,hz⟩:=I.tuple hq;obtain⟨j,h1,h2,h3,h4,h5⟩:=nT he;obtain⟨w,ew,rw'⟩:=r.get h2;have hl:=r.length;have hn:=jc;have fin:EP X pins σ Q w s:=⟨z,H,I,rw',q⟩;exact subscriptTail_builtinR (x:=w) pl.typeIs slot_tuple_getitem.lookup
  (getItem_tuple (j:=j) (Q:=fun r s'=>r=w/\EP X pins σ Q r s') pl (by omega) (by omega) (by rw[(IE),<- hl]; exact h1) (by simpa using ew) ⟨rfl,fin⟩) hs
theorem CY:IxR X G0:=by
 intro value slice pins s σ H x y v u Q I rx ry h hs;obtain⟨z,i,c,rfl,rfl,hz,he,q⟩:=h;obtain⟨t,rfl⟩:=rx;obtain⟨t',rfl⟩:=ry;obtain⟨j,h1,h2,h3,h4,h5⟩:=nT he;have hl:z.cps.toList.length=z.length:=by simp[Str.length]
 rw[hl]at h1 h4 h5;have hn:=jc;exact tail_any (typeIs_str s z t) slot_str_getitem.lookup (getItem_str (c:=c) (by
  have e1:decide (i < -(2 ^ 63:Int))=false:=Jr (by omega)
  have e2:decide (i>=2 ^ 63)=false:=Jr (by omega)
  rw[e1,e2,Bool.or_false]) (by rw[h1]; simpa using h2) ⟨.str ⟨#[c]⟩,H,I.tok _,⟨_,rfl⟩,q⟩) hs
theorem rT (its:List Value)(n j:Nat)(u:Value):Obj.mapSeq (·.setIfInBounds j u) { cls:=.type "list",data:=.seq its.toArray n }={ cls:=.type "list",data:=.seq (its.set j u).toArray n }:=by
 simp[Obj.mapSeq]
theorem Inv.lst {pins:List (Addr×Obj)}{σ:St}{H:Hp}{s:Shared}{p:Addr}{xs:List V}(I:Inv X pins σ H s)(h:H p=some (.lst xs)) :
  ∃ (its:List Value) (n:Nat),Vals xs its/\s.heap.get? p=some { cls:=.type "list",data:=.seq its.toArray n }/\xs.length<=sizeLine:=by
 obtain⟨z,its,n,r,e⟩:=I.hok p _ h;exact⟨its,n,r,e,z⟩
theorem Inv.lstUpd {pins:List (Addr×Obj)}{σ:St}{H:Hp}{s:Shared}{p:Addr}{xs ys:List V}{its its':List Value}{n n':Nat}{f:Obj->Obj}(I:Inv X pins σ H s)(h:H p=some (.lst xs))
  (ho:s.heap.get? p=some { cls:=.type "list",data:=.seq its.toArray n }) (hf:f { cls:=.type "list",data:=.seq its.toArray n }={ cls:=.type "list",data:=.seq its'.toArray n' }) (r:Vals ys its') (hz:ys.length<=sizeLine) (t:Nat) :
  Inv X pins σ (cb H p (.lst ys)) { s with heap:=s.heap.update p f,toks:=t }:=by
 have e:(s.heap.update p f).get? p=some { cls:=.type "list",data:=.seq its'.toArray n' }:=by
  rw[Heap.get?_update_self f ho (by rw[hf] <;> rfl),hf]
 refine I.write (x:=p) (e:=p) (by rw[h]; trivial) (.inl rfl) (fun b u hb q=>(IM _ _ (Ne.symm hb)).trans q) ⟨_,e⟩ ?_
 exact⟨hz,its',n',r,e⟩
noncomputable def EV:V->V->V->Hp->(Hp->Prop)->Prop:=fun o i v H Q=>∃ p xs k j,o=.ref p/\i=.int k/\H p=some (.lst xs)/\sQ xs.length k=some j/\Q (cb H p (.lst (xs.set j v)))
theorem ww:CA X EV:=by
 intro pins s σ H o i v ov iv u Q I ro ri rv h;obtain⟨p,xs,k,j,rfl,rfl,hp,hj,q⟩:=h;cases ro;obtain⟨t,rfl⟩:=ri;obtain⟨its,n,r,ho,hz⟩:=I.lst hp;obtain⟨h1,h2,h3,h4⟩:=sR hj;have hl:=r.length;have hn:=jc;have I':Inv X pins σ (cb H p (.lst (xs.set j v))) { s with heap:=s.heap.update p (Obj.mapSeq (·.setIfInBounds j u)) }:=
  I.lstUpd hp ho (rT its n j u) (r.set rv j) (by rw[List.length_set]; exact hz) s.toks
 by_cases h0:0<=k
 ·have hk:k.toNat=j:=by
   rw[seqIndex_of h0 h4]at h1;exact Jb h1
  exact PySem.W.ki_setAt ho h0 (by omega) (by rw[(IE),<- hl]; exact h4) (by rw[hk]; exact⟨_,I',q⟩)
 ·have hk:(k+(its.toArray.size:Int)).toNat=j:=by
   rw[seqIndex_neg (by omega) h3]at h1
   rw[(IE),<- hl];exact Jb h1
  exact PySem.W.ki_setBack ho (by omega) (by rw[(IE),<- hl]; exact h3) (by omega) (by rw[hk]; exact⟨_,I',q⟩)
theorem nV (lo hi:Option Int)(n:Nat):(sliceBounds lo hi none n).1=((HT.cx n 0 lo:Nat):Int)/\(sliceBounds lo hi none n).2.1=((HT.cx n n hi:Nat):Int)/\(sliceBounds lo hi none n).2.2=1:=by
 refine⟨?_,?_,rfl⟩
 ·cases lo with
  | none=>simp[sliceBounds,HT.cx]
  | some i=>
   simp only[sliceBounds,HT.cx,Option.getD_none,show(1:Int) > 0 by decide,if_true]
   by_cases h:i < 0
   ·simp only[h,if_true] <;> omega
   ·simp only[h,if_false] <;> omega
 ·cases hi with
  | none=>simp[sliceBounds,HT.cx]
  | some i=>
   simp only[sliceBounds,HT.cx,Option.getD_none,show(1:Int) > 0 by decide,if_true]
   by_cases h:i < 0
   ·simp only[h,if_true] <;> omega
   ·simp only[h,if_false] <;> omega
theorem lX (its:List Value)(lo hi:Option Int):slicePick its.toArray lo hi none=((its.drop (HT.cx its.length 0 lo)).take (HT.cx its.length its.length hi - HT.cx its.length 0 lo)).toArray:=by
 obtain⟨h1,h2,h3⟩:=nV lo hi its.toArray.size;unfold slicePick;rw[h1,h2,h3];simp only[sliceRange_one,pick_run,List.size_toArray] <;> rfl
noncomputable def G1 (K:PySem.W.Frag):V->Option Int->Option Int->Hp->VK->Prop:=fun x lo hi H Q=>∃ a xs,x=.ref a/\SqL K H a xs/\∀ p,H p=none->Q (.ref p) (cb H p (.lst (kN xs lo hi)))
theorem zU:ET X (G1 X.K):=by
 intro pins s σ H x v vl vu lo hi sl Q I rx hs pl pu h;obtain⟨a,xs,rfl,hx,q⟩:=h;cases rx;obtain⟨its,r,ht,hz⟩:=I.list hx;have hlen:=r.length;refine⟨"list",_,slot_list_getitem.lookup,ht.isList.typeIs,?_⟩;refine wpAny_getItem_list_slice ht.isList hs pl pu .none (by simp) ?_ (by rw[(IE)] <;> omega)
 rw[lX,<- hlen];refine⟨.ref s.heap.objs.size,_,I.laid (t':=s.toks) (o:=.lst (kN xs lo hi)) (fun b ob q=>Ik _ q) (Ip _) ?_,rfl,q _ (I.hok.fresh (Ip _))⟩
 exact⟨IC (jL xs lo hi) hz,_,0,(r.drop (HT.cx xs.length 0 lo)).take (HT.cx xs.length xs.length hi - HT.cx xs.length 0 lo),Ix _ rfl⟩
noncomputable def gO:V->Bool
 | .non=>true
 | .bl _=>true
 | .int _=>true
 | .str _=>true
 | _=>false
noncomputable def zW:V->V->Bool
 | .non,.non=>true
 | .bl a,.bl b=>a==b
 | .bl a,.int b=>(if a then 1 else 0)==b
 | .int a,.bl b=>a==(if b then 1 else 0)
 | .int a,.int b=>a==b
 | .str a,.str b=>a==b
 | _,_=>false
theorem CZ {A:Around}{s:Shared}{y x:V}{u v:Value}(ry:RelV y u)(rx:RelV x v)(fy:gO y=true)(fx:gO x=true):SeqAt.EqAt A s u v (zW y x):=by
 cases y with
 | non=>
  cases ry;cases x with
  | non=>cases rx; exact SeqAt.EqAt.same _
  | bl b=>cases rx; exact SeqAt.EqAt.none_bool b
  | int b=>obtain⟨t,rfl⟩:=rx; exact SeqAt.EqAt.none_int b t
  | str b=>obtain⟨t,rfl⟩:=rx; exact SeqAt.EqAt.none_str b t
  | _=>exact absurd (show false=true from fx) Je
 | bl a=>
  cases ry;cases x with
  | non=>cases rx; exact SeqAt.EqAt.bool_none a
  | bl b=>cases rx; exact SeqAt.EqAt.bool_bool a b
  | int b=>obtain⟨t,rfl⟩:=rx; exact SeqAt.EqAt.bool_int a b t
  | str b=>obtain⟨t,rfl⟩:=rx; exact SeqAt.EqAt.bool_str a b t
  | _=>exact absurd (show false=true from fx) Je
 | int a=>
  obtain⟨t',rfl⟩:=ry;cases x with
  | non=>cases rx; exact SeqAt.EqAt.int_none a t'
  | bl b=>cases rx; exact SeqAt.EqAt.int_bool a t' b
  | int b=>obtain⟨t,rfl⟩:=rx; exact SeqAt.EqAt.int_int a t' b t
  | str b=>obtain⟨t,rfl⟩:=rx; exact SeqAt.EqAt.int_str a t' b t
  | _=>exact absurd (show false=true from fx) Je
 | str a=>
  obtain⟨t',rfl⟩:=ry;cases x with
  | non=>cases rx; exact SeqAt.EqAt.str_none a t'
  | bl b=>cases rx; exact SeqAt.EqAt.str_bool a t' b
  | int b=>obtain⟨t,rfl⟩:=rx; exact SeqAt.EqAt.str_int a t' b t
  | str b=>obtain⟨t,rfl⟩:=rx; exact SeqAt.EqAt.str_str a t' b t
  | _=>exact absurd (show false=true from fx) Je
 | _=>exact absurd (show false=true from fy) Je
noncomputable def rV (x:V)(u:Value):Bool:=match u with
 | .none=>zW .non x
 | .bool b=>zW (.bl b) x
 | .int i _=>zW (.int i) x
 | .str z _=>zW (.str z) x
 | _=>false
theorem wx {x y:V}{u:Value}(r:RelV y u)(f:gO y=true):rV x u=zW y x:=by
 cases y with
 | non=>cases r; rfl
 | bl b=>cases r; rfl
 | int i=>obtain⟨t,rfl⟩:=r; rfl
 | str z=>obtain⟨t,rfl⟩:=r; rfl
 | _=>exact absurd (show false=true from f) Je
theorem iy {x:V}:∀ {xs:List V} {us:List Value},Vals xs us->xs.all gO=true->us.any (rV x)=xs.any fun y=>zW y x
 | _,_,.nil,_=>rfl
 | y::xs,u::us,.cons r t,f=>by
  rw[(Jk),(Iq)]at f;rw[(Kd),(Kd),wx r f.1,iy t f.2]
theorem fR {A:Around}{s:Shared}{x:V}{v:Value}(rx:RelV x v)(fx:gO x=true):∀ {xs:List V} {us:List Value},Vals xs us->xs.all gO=true->∀ u∈us,SeqAt.EqAt A s u v (rV x u)
 | _,_,.nil,_=>fun u hu=>by cases hu
 | y::xs,u::us,.cons r t,f=>fun u' hu=>by
  rw[(Jk),(Iq)]at f;rcases IR.mp hu with rfl|hu
  ·rw[wx r f.1]; exact CZ r rx f.1 fx
  ·exact fR rx fx t f.2 u' hu
noncomputable def Gi (x:V)(xs:List V):Bool:=xs.any fun y=>zW y x
noncomputable def G2 (K:PySem.W.Frag)(neg:Bool):R2:=fun x y H Q=>∃ p xs,y=.ref p/\(SqL K H p xs\/SqT K H p xs)/\gO x=true/\xs.all gO=true/\Q (.bl (if neg then !Gi x xs else Gi x xs)) H
theorem uM:OpR X (compareOp .In) (G2 X.K false):=by
 intro pins s σ H x y v u Q I rx ry h;obtain⟨p,xs,rfl,hq,fx,fs,q⟩:=h;cases ry;rcases hq with hq|hq
 ·obtain⟨its,r,pl,hz⟩:=I.list hq;refine SeqAt.in_listAt (rV x) pl.isList (fun w hw=>fR rx fx r fs w (by simpa using hw)) ⟨.bl _,H,I,rfl,?_⟩
  rw[show its.toArray.any (rV x)=its.any (rV x) by simp,iy r fs]
  exact q
 ·obtain⟨its,r,pl,hz⟩:=I.tuple hq;refine SeqAt.in_tupleAt (rV x) pl (fun w hw=>fR rx fx r fs w (by simpa using hw)) ⟨.bl _,H,I,rfl,?_⟩
  rw[show its.toArray.any (rV x)=its.any (rV x) by simp,iy r fs]
  exact q
theorem nW:OpR X (compareOp .NotIn) (G2 X.K true):=by
 intro pins s σ H x y v u Q I rx ry h;obtain⟨p,xs,rfl,hq,fx,fs,q⟩:=h;cases ry;rcases hq with hq|hq
 ·obtain⟨its,r,pl,hz⟩:=I.list hq;refine SeqAt.notIn_listAt (rV x) pl.isList (fun w hw=>fR rx fx r fs w (by simpa using hw)) ⟨.bl _,H,I,rfl,?_⟩
  rw[show its.toArray.any (rV x)=its.any (rV x) by simp,iy r fs]
  exact q
 ·obtain⟨its,r,pl,hz⟩:=I.tuple hq;refine SeqAt.notIn_tupleAt (rV x) pl (fun w hw=>fR rx fx r fs w (by simpa using hw)) ⟨.bl _,H,I,rfl,?_⟩
  rw[show its.toArray.any (rV x)=its.any (rV x) by simp,iy r fs]
  exact q
theorem nX:CallR X (.type "list") (fun xs H Q=>∃ p ys,xs=[.ref p]/\(SqL X.K H p ys\/SqT X.K H p ys)/\∀ l,H l=none->Q (.ref l) (cb H l (.lst ys))):=by
 intro pins s σ H xs us Q I r h;obtain⟨p,ys,rfl,hq,q⟩:=h;obtain⟨u,rfl,rx⟩:=mH r;cases rx;have fin:∀ (its:List Value),Vals ys its->ys.length<=sizeLine->∀ (h':Heap) (c':Nat),(∀ b o',s.heap.get? b=some o'->h'.get? b=some o')->
   h'.get? s.heap.objs.size=some { cls:=.type "list",dict:=none,data:=.seq its.toArray c',slots:=#[] }->EP X pins σ Q (.ref s.heap.objs.size) { s with heap:=h' }:=fun its r' hz h' c' kp e=>
  ⟨.ref s.heap.objs.size,_,I.laid (t':=s.toks) kp (Ip _) (show ObjOk X.prog X.w _ h' _ (.lst ys)from⟨hz,its,c',r',e⟩),rfl,q _ (I.hok.fresh (Ip _))⟩
 rcases hq with hq|hq
 ·obtain⟨its,r',pl,hz⟩:=I.list hq;have hlen:=r'.length;obtain⟨o,ho,hc,n,hd⟩:=pl.isList;exact call_list_seq p (.inl rfl) ho hc hd (fun h' c' kp e=>fin its r' hz h' c' kp e) (by simp only[List.size_toArray] <;> omega)
 ·obtain⟨its,r',pl,hz⟩:=I.tuple hq;have hlen:=r'.length;obtain⟨o,ho,hc,n,hd⟩:=pl;exact call_list_seq p (.inr rfl) ho hc hd (fun h' c' kp e=>fin its r' hz h' c' kp e) (by simp only[List.size_toArray] <;> omega)
theorem gP:CallR X (.type "tuple") (fun xs H Q=>∃ p ys,xs=[.ref p]/\((SqL X.K H p ys/\∀ l,H l=none->Q (.ref l) (cb H l (.tup ys)))\/(SqT X.K H p ys/\Q (.ref p) H))):=by
 intro pins s σ H xs us Q I r h;obtain⟨p,ys,rfl,h⟩:=h;obtain⟨u,rfl,rx⟩:=mH r;cases rx;rcases h with⟨hq,q⟩|⟨hq,q⟩
 ·obtain⟨its,r',pl,hz⟩:=I.list hq;have hlen:=r'.length;refine call_tuple_list pl.isList (fun h' kp=>?_) (by simp only[List.size_toArray] <;> omega)
  have I1:Inv X pins σ H { s with heap:=h' }:=I.kept (t':=s.toks) kp
  have I2:Inv X pins σ (cb H h'.objs.size (.tup ys)) { s with heap:=h'.push { cls:=.type "tuple",data:=.seq its.toArray } }:=
   I1.laid (t':=s.toks) (fun b o e=>Ik _ e) (Ip _) (show ObjOk X.prog X.w _ _ _ (.tup ys)from⟨hz,its,r',IsTup.new _ _⟩)
  exact⟨.ref h'.objs.size,_,I2,rfl,q _ (I1.hok.fresh (Ip _))⟩
 ·obtain⟨its,r',pl,hz⟩:=I.tuple hq;exact call_tuple_same pl ⟨.ref p,H,I,rfl,q⟩
noncomputable def G3 (K:PySem.W.Frag)(T:String)(x:V)(H:Hp):Prop:=match x with
 | .str _=>T = "str"
 | .int _=>T = "int"
 | .ref p=>(T = "list"/\∃ xs,SqL K H p xs)\/(T = "tuple"/\∃ o,K.lookup p=some o/\o.cls=.type "tuple"/\o.dict=none)\/
   (T = "dict"/\((∃ kvs,H p=some (.dK kvs))\/∃ kvs,H p=some (.dT kvs)))\/(T = "set"/\∃ S n,H p=some (.set S n))
 | _=>False
theorem wy {pins:List (Addr×Obj)}{σ:St}{H:Hp}{s:Shared}{T:String}{x:V}{v:Value}(I:Inv X pins σ H s)(r:RelV x v)(ty:G3 X.K T x H) :
  s.TypeIs v T/\∀ a,v=.ref a->∃ ob,s.heap.get? a=some ob/\ob.dict=none:=by
 cases x with
 | str z=>
  obtain⟨t,rfl⟩:=r;cases(show T = "str" from ty)
  exact⟨typeIs_str s z t,fun _ e=>nomatch e⟩
 | int i=>
  obtain⟨t,rfl⟩:=r;cases(show T = "int" from ty)
  exact⟨typeIs_int s i t,fun _ e=>nomatch e⟩
 | ref p=>
  cases r;rcases ty with⟨rfl,xs,hq⟩|⟨rfl,o,hk,hc,hd⟩|⟨rfl,hk⟩|⟨rfl,S,n,hk⟩
  ·obtain⟨its,_,pl,_⟩:=I.list hq;refine⟨pl.isList.typeIs,fun a e=>?_⟩
   cases e;obtain⟨o,n,e,c,hd,_⟩:=pl;exact⟨o,e,hd⟩
  ·refine⟨⟨o,I.kIn p o hk,hc⟩,fun a e=>?_⟩
   cases e;exact⟨o,I.kIn _ o hk,hd⟩
  ·have z:∃ o,s.heap.get? p=some o/\o.ExactDict:=by
    rcases hk with⟨kvs,hk⟩|⟨kvs,hk⟩
    ·obtain⟨_,_,_,_,o,_,_,e,ex,_⟩:=I.hok p _ hk;exact⟨o,e,ex⟩
    ·obtain⟨_,_,_,_,o,_,_,e,ex,_⟩:=I.hok p _ hk;exact⟨o,e,ex⟩
   obtain⟨o,e,ex⟩:=z;refine⟨⟨o,e,ex.1⟩,fun a e2=>?_⟩
   cases e2;exact⟨o,e,ex.2.1⟩
  ·obtain⟨o,_,_,_,e,ex,_⟩:=I.hok p _ hk;refine⟨⟨o,e,ex.1⟩,fun a e2=>?_⟩
   cases e2;exact⟨o,e,ex.2.1⟩
 | _=>exact False.elim ty
variable {o e:Expr} {es:List Expr} {to:TE} {t:TA} {name:Str} {apos cpos:Pos} {T id:String} {r:V->List V->Hp->VK->Prop}
end
noncomputable def G4 (X:Cx)(id:String)(r:V->List V->Hp->VK->Prop):Prop:=
 ∀ (pins:List (Addr×Obj)) (s:Shared) (σ:St) (H:Hp) (x:V) (xs:List V) (v:Value) (us:List Value) (Q:VK),Inv X pins σ H s->RelV x v->Vals xs us->r x xs H Q->
  wpAny (model X.prog X.w) X.A (call (.builtin id) (v::us)) (EP X pins σ Q) X.xe s
theorem Vals.one:∀ {x:V} {us:List Value},Vals [x] us->∃ u,us=[u]/\RelV x u
 | _,_,.cons r .nil=>⟨_,rfl,r⟩
theorem Vals.eraseIdx:∀ {xs:List V} {us:List Value} (i:Nat),Vals xs us->Vals (xs.eraseIdx i) (us.eraseIdx i)
 | _,_,_,.nil=>.nil
 | _,_,0,.cons _ t=>t
 | _,_,i+1,.cons r t=>.cons r (Vals.eraseIdx i t)
theorem Vals.rep {xs:List V}{us:List Value}(h:Vals xs us):∀ k:Nat,Vals (List.replicate k xs).flatten (List.replicate k us).flatten
 | 0=>.nil
 | k+1=>by
  rw[(JA),(JA),(J6),(J6)];exact Vals.append h (Vals.rep h k)
theorem mN {α:Type}:∀ (l:List α) (i:Nat),(l.eraseIdx i).length<=l.length
 | [],_=>Ip _
 | _::_,0=>JT _
 | _::r,i+1=>Nat.succ_le_succ (mN r i)
theorem mO (its:List Value):∀ (k:Nat) (acc:List Value),
  List.foldl (fun x1 x2=>x1++x2) acc.toArray (List.replicate k its.toArray)=(acc++(List.replicate k its).flatten).toArray
 | 0,acc=>by simp
 | k+1,acc=>by
  have e:acc.toArray++its.toArray=(acc++its).toArray:=by simp
  have e2:(acc++its)++(List.replicate k its).flatten=acc++(List.replicate (k+1) its).flatten:=by
   rw[(JA),(J6),(JK)]
  rw[<- e2,<- mO its k (acc++its),<- e,(JA),List.foldl_cons]
section
variable {X:Cx} {pins:List (Addr×Obj)} {σ:St} {H:Hp} {s:Shared} {l b:Addr} {xs ys zs:List V}
theorem Inv.lset {its its':List Value}{n:Nat}{f:Array Value->Array Value}{t':Nat}(I:Inv X pins σ H s)(hH:H l=some (.lst xs))
  (e:s.heap.get? l=some { cls:=.type "list",data:=.seq its.toArray n }) (hf:f its.toArray=its'.toArray) (hv:Vals ys its') (hz:ys.length<=sizeLine) :
  Inv X pins σ (cb H l (.lst ys)) { s with heap:=s.heap.update l (Obj.mapSeq f),toks:=t' }:=by
 have q:=PySem.IsL.update e f;rw[hf]at q;refine I.write (x:=l) (e:=l) (by rw[hH]; exact trivial) (.inl rfl) (fun b' u hb hu=>(IM s.heap (Obj.mapSeq f) (Ne.symm hb)).trans hu) ⟨_,q⟩ ?_
 exact⟨hz,its',_,hv,q⟩
theorem Inv.lnew {its:List Value}{t':Nat}(I:Inv X pins σ H s)(hv:Vals ys its)(hz:ys.length<=sizeLine) :
  Inv X pins σ (cb H s.heap.objs.size (.lst ys)) { s with heap:=s.heap.push { cls:=.type "list",data:=.seq its.toArray },toks:=t' }:=
 I.laid (fun _ _ q=>Ik _ q) (Ip _) ⟨hz,its,0,hv,Ix _ rfl⟩
theorem Inv.fresh (I:Inv X pins σ H s):H s.heap.objs.size=none:=I.hok.fresh (Ip _)
theorem Inv.lstM (I:Inv X pins σ H s)(hH:H l=some (.lst xs)):xs.length<=sizeLine/\∃ (its:List Value) (n:Nat),Vals xs its/\xs.length=its.length/\s.heap.get? l=some { cls:=.type "list",data:=.seq its.toArray n }:=by
 obtain⟨z,its,n,r,e⟩:=I.hok l _ hH;exact⟨z,its,n,r,r.length,e⟩
theorem pQ {n:Nat}(h:n<=sizeLine):Builtin.List.listTooLong n=false:=by
 unfold Builtin.List.listTooLong;exact Jr (by omega)
end
section
variable {X:Cx}
noncomputable def zX:V->List V->Hp->VK->Prop:=fun x vs H Q=>∃ l xs y,x=.ref l/\vs=[y]/\H l=some (.lst xs)/\xs.length < sizeLine/\Q .non (cb H l (.lst (xs++[y])))
theorem uN:G4 X "list.append" zX:=by
 intro pins s σ H x vs v us Q I rx rv h;obtain⟨l,xs,y,rfl,rfl,hH,hz,q⟩:=h;cases rx;obtain⟨u,rfl,ru⟩:=rv.one;obtain⟨z,its,n,r,hl,e⟩:=I.lstM hH;refine call_meets F.slot_list_append ⟨_,e,rfl⟩ F.entry_list_append (F.args_list_append_2 _ _) (PySem.list_append l its.toArray n u (by rw[(IE)]; omega)) ⟨e,?_⟩
 refine⟨.non,_,I.lset (its':=its++[u]) hH e (by simp) (r.append (.cons ru .nil)) ?_,rfl,q⟩
 rw[(Iv),(JC)];omega
noncomputable def zY:V->List V->Hp->VK->Prop:=fun x vs H Q=>∃ l b xs zs,x=.ref l/\vs=[.ref b]/\H l=some (.lst xs)/\H b=some (.lst zs)/\xs.length+zs.length<=sizeLine/\Q .non (cb H l (.lst (xs++zs)))
theorem uO:G4 X "list.extend" zY:=by
 intro pins s σ H x vs v us Q I rx rv h;obtain⟨l,b,xs,zs,rfl,rfl,hH,hB,hz,q⟩:=h;cases rx;obtain⟨u,rfl,ru⟩:=rv.one;cases ru;obtain⟨z,its,n,r,hl,e⟩:=I.lstM hH;obtain⟨z2,its2,n2,r2,hl2,e2⟩:=I.lstM hB;have hsz:its.toArray.size+its2.toArray.size<=sizeLine:=by rw[(IE),(IE)]; omega
 have hlong:¬ (!its.toArray.isEmpty&&Builtin.List.listTooLong (its.toArray.size+its2.toArray.size))=true:=by
  rw[pQ hsz,Bool.and_false];exact Je
 refine call_meets F.slot_list_extend ⟨_,e,rfl⟩ F.entry_list_extend (F.args_list_extend_2 _ _)
  (AutoSeq1.list_extend_list_list_0 l its.toArray n b its2.toArray n2 hlong (by rw[(IE)]; omega) (by omega)) ⟨e,e2,?_⟩
 refine⟨.non,_,I.lset (its':=its++its2) hH e (by simp) (r.append r2) ?_,rfl,q⟩
 rw[(Iv)];omega
noncomputable def C0:V->List V->Hp->VK->Prop:=fun x vs H Q=>∃ l xs i k y,x=.ref l/\vs=[.int i]/\H l=some (.lst xs)/\-(2 ^ 63)<=i/\i < 2 ^ 63/\seqIndex? i xs.length=some k/\xs[k]?=some y/\Q y (cb H l (.lst (xs.eraseIdx k)))
theorem wz:G4 X "list.pop" C0:=by
 intro pins s σ H x vs v us Q I rx rv h;obtain⟨l,xs,i,k,y,rfl,rfl,hH,h1,h2,hk,hy,q⟩:=h;cases rx;obtain⟨u,rfl,ru⟩:=rv.one;obtain⟨t,rfl⟩:=ru;obtain⟨z,its,n,r,hl,e⟩:=I.lstM hH;obtain⟨w,hw,rw'⟩:=r.get hy;refine call_meets F.slot_list_pop ⟨_,e,rfl⟩ F.entry_list_pop (F.args_list_pop_2 _ _)
  (MeetsSeq.list_pop_at l its.toArray n i t k w (fitsIndex_both h1 h2) (by rw[(IE),<- hl]; exact hk) (by rw[<- (Jl)]; exact hw) (by rw[(IE)]; omega)) ⟨e,?_⟩
 refine⟨y,_,I.lset (its':=its.eraseIdx k) hH e ?_ (r.eraseIdx k) ?_,rw',q⟩
 ·show its.toArray.eraseIdxIfInBounds k=(its.eraseIdx k).toArray;rw[List.eraseIdxIfInBounds_toArray]
 ·have:=mN xs k;omega
noncomputable def G5:R2:=fun x y H Q=>∃ l b xs zs,x=.ref l/\y=.ref b/\H l=some (.lst xs)/\H b=some (.lst zs)/\xs.length+zs.length<=sizeLine/\∀ p,H p=none->Q (.ref p) (cb H p (.lst (xs++zs)))
theorem C1:OpR X (binaryOp .Add) G5:=by
 intro pins s σ H x y v u Q I rx ry h;obtain⟨l,b,xs,zs,rfl,rfl,hH,hB,hz,q⟩:=h;cases rx;cases ry;obtain⟨z,its,n,r,hl,e⟩:=I.lstM hH;obtain⟨z2,its2,n2,r2,hl2,e2⟩:=I.lstM hB;refine PySem.P.add_list e e2 ?_ (by rw[(IE),(IE)]; omega)
 have ea:its.toArray++its2.toArray=(its++its2).toArray:=by simp
 rw[ea];exact⟨.ref _,_,I.lnew (t':=s.toks) (r.append r2) (by rw[(Iv)]; omega),rfl,q _ I.fresh⟩
noncomputable def G6:R2:=fun x y H Q=>∃ l k xs,x=.ref l/\y=.int k/\H l=some (.lst xs)/\-(2 ^ 63)<=k/\k < 2 ^ 63/\xs.length*k.toNat<=sizeLine/\
 ∀ p,H p=none->Q (.ref p) (cb H p (.lst (List.replicate k.toNat xs).flatten))
theorem zZ {α:Type}(xs:List α)(k:Nat):(List.replicate k xs).flatten.length=k*xs.length:=by
 induction k with
 | zero=>simp
 | succ k ih=>rw[(JA),(J6),(Iv),ih,Nat.succ_mul,Nat.add_comm]
theorem C2:OpR X (binaryOp .Mult) G6:=by
 intro pins s σ H x y v u Q I rx ry h;obtain⟨l,k,xs,rfl,rfl,hH,h1,h2,hz,q⟩:=h;cases rx;obtain⟨t,rfl⟩:=ry;obtain⟨z,its,n,r,hl,e⟩:=I.lstM hH;have hlen:its.toArray.size*k.toNat<=sizeLine:=by rw[(IE),<- hl]; exact hz
 have hcap:¬ its.toArray.size*k.toNat > (2 ^ 63 - 1) / 8:=by
  have:(sizeLine:Nat)<=(2 ^ 63 - 1) / 8:=by decide
  omega
 have hfit:¬ (!Builtin.List.listFitsIndex k)=true:=by
  rw[fitsIndex_both h1 h2];exact Je
 have hlong:¬ Builtin.List.listTooLong (its.toArray.size*k.toNat)=true:=by
  rw[pQ hlen];exact Je
 have hnew:List.foldl (fun x1 x2=>x1++x2) #[] (List.replicate (if its.toArray.isEmpty=true then 0 else k.toNat) its.toArray)=(List.replicate k.toNat its).flatten.toArray:=by
  have f0:∀ m:Nat,List.foldl (fun x1 x2=>x1++x2) #[] (List.replicate m its.toArray)=(List.replicate m its).flatten.toArray:=fun m=>by
   have:=mO its m [];rw[List.nil_append]at this;exact this
  rw[f0];cases its with
  | nil=>simp
  | cons a r'=>rw[if_neg (by simp)]
 refine wpAny_binaryOp_repeat_ref (T:="list") (U:="int") (by decide) ⟨_,e,rfl⟩ (fun s'=>typeIs_int s' k t) noFill_list_mul F.fills_int_mul F.slot_int_rmul repeat_list F.slot_int_index.lookup
  (call_meets F.slot_int_rmul (typeIs_int s k t) F.entry_int_rmul (F.args_int_rmul_2 _ _) (int___rmul___int_list k t l its.toArray n)
   ⟨e,rfl,⟨_,e,rfl⟩,call_meets F.slot_list_mul ⟨_,e,rfl⟩ F.entry_list_mul (F.args_list_mul_2 _ _) (AutoListH.list___mul___list_int_3 l its.toArray n k t hfit hcap hlong) ⟨e,?_⟩⟩)
 rw[hnew];exact⟨.ref _,_,I.lnew (t':=s.toks) (r.rep k.toNat) (by rw[zZ,(KF)]; exact hz),rfl,q _ I.fresh⟩
end
section
variable {prog:Program} {w:World} {A:Around} {E:Value->Shared->Prop} {s:Shared}
end
section
variable {X:Cx}
end
section
variable {κ:Type} [DecidableEq κ]
end
section
variable {P:Program} {w:World} {H:Hp} {h:Heap} {a:Addr}
end
section
variable {X:Cx} {pins:List (Addr×Obj)} {σ:St} {H:Hp} {s:Shared} {a:Addr} {y v:V} {u r:Value} {o:Option V} {A:Around} {E:Value->Shared->Prop}
theorem Inv.big (I:Inv X pins σ H s):sysModules < s.heap.objs.size:=by
 have h:mainGlobals < s.heap.objs.size:=(I.mod.glob.keeps I.bk).lt;exact Nat.lt_trans (by decide) h
theorem nY {h':Heap}{t':Nat}{ob:HO}(I:Inv X pins σ H s)(mu:Eo (H a))(hs:Heap.SameBut a s.heap h')(he:∃ q,h'.get? a=some q)(new:ObjOk X.prog X.w (cb H a ob) h' a ob) :
  Inv X pins σ (cb H a ob) { s with heap:=h',toks:=t' }:=
 I.write (x:=a) (e:=a) mu (.inl rfl) (fun b q hb z=>(hs.2 b hb).trans z) he new
end
section
variable {X:Cx} {pins:List (Addr×Obj)} {σ:St} {H:Hp} {s:Shared} {a:Addr} {kvs:List (nO×V)} {k:nO} {u:Value} {A:Around} {E:Value->Shared->Prop}
end
section
variable {X:Cx} {o i e value:Expr} {pos pos' tpos:Pos} {td ty tv:TE}
end
section
variable {X:Cx} {pos:Pos}
end
noncomputable abbrev VV:List (V×V)->List (Value×Value)->Prop:=Paired fun p q=>RelV p.1 q.1/\RelV p.2 q.2
section
variable {X:Cx} {pins:List (Addr×Obj)} {σ:St} {H:Hp} {s:Shared} {a:Addr} {y d:V} {u r:Value} {o:Option V} {A:Around} {E:Value->Shared->Prop}
end
section
variable {X:Cx} {o e f:Expr} {apos cpos:Pos} {td ty tx:TE}
end
section
variable {X:Cx} {pins:List (Addr×Obj)} {σ:St} {H:Hp} {s:Shared} {a:Addr} {kvs:List (nO×V)} {A:Around} {E:Value->Shared->Prop}
end
section
variable {X:Cx} {pins:List (Addr×Obj)} {σ:St} {H:Hp} {s:Shared} {a:Addr} {y:V} {u:Value} {A:Around} {E:Value->Shared->Prop}
end
end L2
namespace Att
open PySem PySem.W PySem.Calls PyProof.Rows
theorem jZ {P:Params}{h:Heap}:∀ (ns:List Int) (vs:List Value),WellAll P h vs (ns.map WData.int)->IntsAre vs ns:=by
 intro ns
 induction ns with
 | nil=>
  intro vs w;rw[List.map_nil]at w;cases w;exact .nil
 | cons n ns ih=>
  intro vs w;rw[(JX)]at w;cases w with
  | cons a b=>
   cases a;exact .cons _ _ (ih _ b)
theorem uP {l:OpenLaw}{n:Nat}(hn:l.most=some n){P:Params}{h:Heap}{args:List WData}{vals:List Value}
  (hpre:l.row.toRowW.claim.pre args=true) (hwl:WellAll P h vals args) :
  ∃ a vs ns,vals=[Value.ref a]/\args=[WData.list (ns.map WData.int)]/\h.get? a=some { cls:=.type "list",data:=.seq vs.toArray }/\IntsAre vs ns/\ns.length<=n:=by
 have hsh:WShape.hasAll [] args [.list .int]=true:=(pre_splitW hpre).1;have hc:l.pre.holds [] { args:=args }=true:=(pre_splitW hpre).2;obtain⟨d,r,rfl,h1,h2⟩:=hasAllW_cons hsh;obtain rfl:=hasAllW_nil h2;obtain⟨xs,rfl,h3⟩:=hasW_list h1;obtain⟨ns,rfl⟩:=items_int h3;have hlen:ns.length<=n:=by
  unfold OpenLaw.pre at hc;have h4:(WTm.not (.lt (.lit (.int (n:Int))) (.len (.arg 0)))).holds [] { args:=[.list (ns.map .int)] }=true:=by
   have h4:=(holds_andW hc).1;rw[hn]at h4;exact h4
  have h5:=condW_of h4 (w_not (w_lt w_lit (w_len_list (w_arg rfl))));rw[(Im)]at h5;refine Nat.le_of_not_lt fun q=>?_
  have q':(n:Int) < ((ns.length:Nat):Int):=by omega
  first
   | (rw[decide_eq_true q']at h5; exact absurd h5 (by decide))
   | (simp at h5; omega)
 cases hwl with
 | cons w1 w2=>
  cases w2;cases w1 with
  | list ho hall=>exact⟨_,_,ns,rfl,rfl,ho,jZ ns _ hall,hlen⟩
theorem uQ (l:OpenLaw)(args:List WData):l.row.toRowW.claim.post args (.bool true) args=true:=
 postW_of (r:=l.row.toRowW) (X:=(true==true))
  (show WShape.has [] (.bool true) .bool=true by first|rfl|decide|simp[WShape.has,WShape.arms,WShape.armsAll])
  (show(WTm.eq .res (.lit (.bool true))).value [] { args:=args,res:=some (.bool true),after:=args }=some (.bool (true==true))from w_eq_bool (w_res rfl) w_lit) rfl
theorem attach_call {l:OpenLaw}{n:Nat}{q:Program}{loose:List Str}{XP:(Str->Option Value)->Heap->Prop}{YP:World->Heap->Prop}{d:DefRec}
  (hn:l.most=some n) (hdf:d.params.defaults=[])
  (call:∀ (w:World) (s₀ s₁:Shared) (mg mb:Str->Option Value) (fa:Addr) (o:Obj) (pm cd doc:Value) (a:Addr) (vs:List Value) (ns:List Int),
   Ground q loose [] XP w s₀ mg mb s₁.heap->YP w s₁.heap->
   s₁.heap.get? fa=some o->o.data=.func (docDef d.name d.params d.body d.scope pm cd doc)->s₁.heap.CodeRec cd d.name->mg d.name=some (.ref fa)->
   s₁.heap.get? a=some { cls:=.type "list",data:=.seq vs.toArray }->IntsAre vs ns->ns.length<=n->s₁.gens=#[]->
   codeAny (model l.prog w) callerA (.call (.ref fa) ⟨[.ref a],[]⟩) (fun r s'=>r=.ok (.ret (.bool true))/\OldK s₁.heap s'.heap/\s'.os=s₁.os/\AllBare s'.gens) s₁) :
  WalkO q loose XP YP l.row.toRowW d [] (fun f vs=>PySem.call f vs):=by
 intro w s₀ s₁ mg mb G Y fa o pm cd doc dV kV ho hd hcd hD hmg hg args vals as hpre hlay hrd hwl hlo;obtain rfl:dV=.none:=Dflts.none hD hdf;obtain rfl:kV=.none:=Dflts.noKw hD;obtain⟨a,vs,ns,rfl,rfl,hobj,hints,hlen⟩:=uP hn hpre hwl;refine enter_call (Kw (call w s₀ s₁ mg mb fa o pm cd doc a vs ns G Y ho (fd_plain hd) hcd hmg hobj hints hlen hg) fun r s' hq=>?_)
 obtain⟨rfl,h2,h3,h4⟩:=hq;exact⟨.inl ⟨.bool true,.bool true,[],rfl,fun _=>rfl,.bool true,uQ l _,fun _=>⟨List.Pairwise.nil,fun _ hm=>(nomatch hm)⟩⟩,h2,h3,h4⟩
section
variable {prog:Program} {w:World} {A:Around} {E:Value->Shared->Prop} {s:Shared} {K:Frag}
end
end Att
namespace L2
open PySem PySem.Spec PyProof.Rows
theorem mP:∀ {vs:List Value} {ns:List Int},IntsAre vs ns->Vals (ns.map V.int) vs
 | _,_,.nil=>.nil
 | _,_,.cons n t h=>.cons ⟨t,rfl⟩ (mP h)
noncomputable def wD (H:Hp):Prop:=∀ b,H b=none\/∃ o xs,H b=some (.frz o (.lst xs))
theorem wF {P:Program}{w:World}{K:PySem.W.Frag}{mg mb:Str->Option Value}{CX:wn}{k:Nat}{fa a:Addr}{fd:FuncData}{x:Str}{sp:Sp}{s₁:Shared}{vs:List Value}{ns:List Int}
  (KX:K.In s₁.heap) (hns:s₁.heap.Ns mainGlobals mg) (hb:s₁.heap.Ns builtinsNs mb) (hbb:∀ x:Str,x≠"__name__"->mb x=bootBuiltins x) (hlim:s₁.heap.NoLimit) (hg:s₁.gens=#[])
  (ha:s₁.heap.get? a=some { cls:=.type "list",data:=.seq vs.toArray }) (hi:IntsAre vs ns) (hl:ns.length<=sizeLine) (hr:Room k callerA)
  (F:∀ base:Heap,K.In base->base.Ns mainGlobals mg->FnOk P w K mg base CX k fa fd [x] sp) (hbind:∀ (s:Shared) (u:Value),BindsTo s fd ⟨[u],[]⟩ [(x,u)])
  (hsp:∀ H:Hp,wD H->SqL K H a (ns.map V.int)->sp [.ref a] H (fun v _=>v=.bl true) fun _ _ _=>False)
  (hCX:∀ H e s',CX [] H s₁ (fun _ _ _=>False) e s'->False) :
  codeAny (model P w) callerA (.call (.ref fa) ⟨[.ref a],[]⟩) (fun r s'=>r=.ok (.ret (.bool true))/\OldK s₁.heap s'.heap/\s'.os=s₁.os/\AllBare s'.gens) s₁:=by
 have rv:=mP hi;have lenV:=hi.length;have core:∀ H:Hp,wD H->SqL K H a (ns.map V.int)->HOk P w H s₁.heap->(∀ b,H b≠none->b=a)->(H a≠none->K.lookup a=none)->
   codeAny (model P w) callerA (.call (.ref fa) ⟨[.ref a],[]⟩) (fun r s'=>r=.ok (.ret (.bool true))/\OldK s₁.heap s'.heap/\s'.os=s₁.os/\AllBare s'.gens) s₁:=by
  intro H hO hS hok hA hK;have base_of:∀ {b:Addr} {o:Obj},s₁.heap.get? b=some o->H b=none->(nQ s₁.heap H).get? b=some o:=fun e n=>vY e n
  have noA:∀ {b:Addr} {o:Obj} {es:Array DictEntry} {ep:Nat},s₁.heap.get? b=some o->o.data=.dict es ep->H b=none:=fun {b o es ep} e d=>by
   cases q:H b with
   | none=>rfl
   | some u=>
    have e':b=a:=hA b (by rw[q]; simp)
    subst e';rw[ha]at e; cases e
    have d':Data.seq vs.toArray _=Data.dict es ep:=d;cases d'
  have nsK:∀ {b:Addr} {m:Str->Option Value},s₁.heap.Ns b m->(nQ s₁.heap H).Ns b m:=fun {b m} ⟨o,es,ep,e,d,r⟩=>⟨o,es,ep,base_of e (noA e d),d,r⟩
  have hKb:K.In (nQ s₁.heap H):=fun b o e=>base_of (KX b o e) (by
   cases q:H b with
   | none=>rfl
   | some u=>
    have e':b=a:=hA b (by rw[q]; simp)
    subst e';rw[hK (by rw[q]; simp)]at e; cases e)
  have hM:Mod K mg (nQ s₁.heap H):=⟨hKb,nsK hns,⟨mb,nsK hb,hbb⟩,let ⟨mc,h1,h2⟩:=hlim; ⟨mc,nsK h1,h2⟩⟩
  have e0:Env0 P w K mg (nQ s₁.heap H) callerA [] s₁ H:=⟨rfl,hM,fun b o e=>zy e,Nat.le_of_eq (uE _ _),trivial,fun b hb=>absurd (show b∈([]:List Addr)from hb) (by simp),hok,.of_eq hg⟩
  refine Kw ((F _ hKb (nsK hns)).run callerA [] s₁ H ⟨[.ref a],[]⟩ [.ref a] [.ref a] _ _ hr e0 (hbind s₁ (.ref a)) (.cons rfl .nil) (hsp H hO hS)) fun r s' h=>?_
  cases r with
  | error e=>exact(hCX H e s' h).elim
  | ok fl=>
   cases fl with
   | next=>exact False.elim h
   | brk=>exact False.elim h
   | cont=>exact False.elim h
   | ret u=>
    obtain⟨v,H',os,bare,un,hok',r',q⟩:=h;have q':v=.bl true:=q;subst q';obtain rfl:u=Value.bool true:=r';refine⟨rfl,OldK.of_keep fun b o e=>?_,os,bare⟩
    cases q:H b with
    | none=>exact un.keep b o e q (by intro z; exact absurd (show b∈([]:List Addr)from z) (by simp)) (by simp)
    | some u=>
     rcases hO b with z|⟨ob,xs,z⟩
     ·rw[q]at z; cases z
     ·have z2:=un.frzs b ob _ z;obtain⟨e1,_⟩:=hok b _ z;obtain⟨e2,_⟩:=hok' b _ z2;rw[e]at e1; cases e1
      exact e2
 cases hk:K.lookup a with
 | some o=>
  have e:=KX a o hk;rw[ha]at e;cases e;refine core (fun _=>none) (fun _=>.inl rfl) (.inr ⟨_,vs.toArray,_,hk,rfl,rfl,rfl,by rw[(IE),lenV]; exact hl,by simpa using rv⟩) (fun b u z=>by have z':(none:Option HO)=some u:=z; cases z') (fun b z=>absurd rfl z) fun z=>absurd rfl z
 | none=>
  refine core (fun b=>if b=a then some (.frz { cls:=.type "list",data:=.seq vs.toArray } (.lst (ns.map V.int)))else none) (fun b=>?_) (.inl (.inr ⟨{ cls:=.type "list",data:=.seq vs.toArray },if_pos rfl⟩)) (fun b u z=>?_) (fun b z=>?_) fun _=>hk
  ·by_cases hb:b=a
   ·exact .inr ⟨_,_,if_pos hb⟩
   ·exact .inl (if_neg hb)
  ·by_cases hb:b=a
   ·have z':=(if_pos hb).symm.trans z;cases z';subst hb;exact⟨ha,by rw[(Im)]; exact hl,vs,_,rv,ha⟩
   ·have z':=(if_neg hb).symm.trans z;cases z'
  ·by_cases hb:b=a
   ·exact hb
   ·exact absurd (if_neg hb) z
theorem Aa {l:PySem.W.OpenLaw}{n k:Nat}{q:Program}{loose:List Str}{XP:(Str->Option Value)->Heap->Prop}{YP:World->Heap->Prop}{d:DefRec}{K:Params->PySem.W.Frag}{CX:World->wn}{sp:World->Sp}{x:Str}
  (hn:l.most=some n) (hn2:n<=sizeLine) (hdf:d.params.defaults=[]) (hr:Room k callerA)
  (hY:∀ (w:World) (h:Heap),YP w h->(K w.params).In h)
  (F:∀ (w:World) (mg:Str->Option Value) (fa:Addr) (h:Heap),(K w.params).In h->h.Ns mainGlobals mg->mg d.name=some (.ref fa)->
   ∃ fd:FuncData,(∀ (s:Shared) (u:Value),BindsTo s fd ⟨[u],[]⟩ [(x,u)])/\
    ∀ base:Heap,(K w.params).In base->base.Ns mainGlobals mg->FnOk l.prog w (K w.params) mg base (CX w) k fa fd [x] (sp w))
  (hsp:∀ (w:World) (H:Hp) (a:Addr) (ns:List Int),ns.length<=n->wD H->SqL (K w.params) H a (ns.map V.int)->sp w [.ref a] H (fun v _=>v=.bl true) fun _ _ _=>False)
  (hCX:∀ (w:World) (H:Hp) (s:Shared) (e:Value) (s':Shared),CX w [] H s (fun _ _ _=>False) e s'->False) :
  PySem.W.WalkO q loose XP YP l.row.toRowW d [] (fun f vs=>PySem.call f vs):=by
 refine Att.attach_call hn hdf fun w s₀ s₁ mg mb fa o pm cd doc a vs ns G Y ho hd hcd hmg hobj hints hlen hg=>?_
 have KX:=hY w _ Y;obtain⟨fd,hb,hF⟩:=F w mg fa _ KX G.T.g hmg;exact wF KX G.T.g G.T.b G.T.builtins G.T.nolimit hg hobj hints (IC hlen hn2) hr hF hb (fun H hO hS=>hsp w H a ns hlen hO hS) fun H e s'=>hCX w H s₁ e s'
noncomputable def dM (s:Stmt):Arguments:=match s with
 | .FunctionDef _ a _ _ _ _ _ _ _ _=>a
 | _=>{ posonlyargs:=[],args:=[],vararg:=none,kwonlyargs:=[],kw_defaults:=[],kwarg:=none,defaults:=[] }
noncomputable def cR (s:Stmt):List Stmt:=match s with
 | .FunctionDef _ _ b _ _ _ _ _ _ _=>b
 | _=>[]
noncomputable def ah (s:Stmt):Scope:=match s with
 | .FunctionDef _ _ _ _ _ _ sc _ _ _=>sc
 | _=>{ kind:=.function,names:=[],isGenerator:=false,isCoroutine:=false }
noncomputable abbrev vV:wn:=fun _ _ _ _ _ _=>False
noncomputable abbrev E0:XK:=fun _ _ _=>False
theorem BU {X:Cx}:nS vV X E0:=fun _ _ _ _ _ _ _ h=>h.elim
structure Fun (K:PySem.W.Frag)(x qual:Str)(st:Stmt)(f:Addr)(fd:FuncData):Prop where
 ex:∃ (oc:Value) (od:Option Addr) (kV doc pm:Value) (an:Option Addr) (cdv ct:Value) (osl:Array (Option Value)),
  fd=PySem.W.fnOf x qual (dM st) (cR st) (ah st) .none kV doc pm an cdv ct/\K.lookup f=some ⟨oc,od,.func fd,osl⟩/\PySem.W.codeIn K cdv qual=true
 kp:PySem.W.keepIn K (.ref f)=true
section
variable {P:Program} {w:World} {K:PySem.W.Frag} {mg:Str->Option Value} {base:Heap}
theorem Fun.ok {x qual:Str}{st:Stmt}{f:Addr}{fd:FuncData}{N ps:List Str}{k:Nat}{sp:Sp}(F:Fun K x qual st f fd)(S:FnScope N ps (ah st))(len:∀ vs H Q E,sp vs H Q E->vs.length=ps.length)
  (hbody:∀ (cdv:Value) (A:Around) (outer:List Env) (s:Shared) (H:Hp) (vs:List V) (Q:VK) (E:XK),Room k (A.deeper (envOfC qual (ah st) s.heap.objs.size f cdv))->sp vs H Q E->
   ∃ t,PSs (rQ vV P w K mg base N qual (ah st) f cdv A outer s H E).nox (cR st) t/\t { nx:=fun _ H'=>Q .non H',rt:=Q } (fQ N vs) H):FnOk P w K mg base vV (k+1) f fd ps sp:=by
 obtain⟨oc,od,kV,doc,pm,an,cdv,ct,osl,rfl,lk,hcd⟩:=F.ex;refine ER lk hcd S len fun A outer s H vs Q E hr hsp=>?_
 obtain⟨t,h,q⟩:=hbody cdv A outer s H vs Q E hr hsp;exact⟨t,h.nox,q⟩
theorem Fun.binds {x qual:Str}{st:Stmt}{f:Addr}{fd:FuncData}{ps:List Str}(F:Fun K x qual st f fd)
  (h:∀ (kV doc pm:Value) (an:Option Addr) (cdv ct:Value) (us:List Value),us.length=ps.length->bindArgs (PySem.W.fnOf x qual (dM st) (cR st) (ah st) .none kV doc pm an cdv ct) ⟨us,[]⟩=pure (ps.zip us)):Binds K fd ps []:=by
 obtain⟨oc,od,kV,doc,pm,an,cdv,ct,osl,rfl,lk,hcd⟩:=F.ex;exact .all (h kV doc pm an cdv ct)
theorem wH {x qual:Str}{st:Stmt}{f:Addr}{oc:Value}{od an:Option Addr}{osl:Array (Option Value)}{kV doc pm cdv ct:Value}(l:K.lookup f=some ⟨oc,od,.func (PySem.W.fnOf x qual (dM st) (cR st) (ah st) .none kV doc pm an cdv ct),osl⟩)
  (c:PySem.W.codeIn K cdv qual=true) (k:PySem.W.keepIn K (.ref f)=true):Fun K x qual st f (PySem.W.fnOf x qual (dM st) (cR st) (ah st) .none kV doc pm an cdv ct):=⟨⟨oc,od,kV,doc,pm,an,cdv,ct,osl,rfl,l,c⟩,k⟩
end
section
variable {X:Cx}
theorem pv (i:Nat){x:Str}{pos:Pos}(hN:X.N[i]?=some x:=by rfl)(hv:Ge X.env.scope x:=by first|exact Or.inl rfl|exact Or.inr (Or.inl rfl)|exact Or.inr (Or.inr rfl))(hd:(x==("__debug__" : Str))=false:=by decide)
  (hcd:(x==("__classdict__" : Str))=false:=by decide):PE X (.Name x pos) (Cn i):=vZ hN hv hd hcd
end
end L2
namespace Mi
open PySem PySem.Spec PyProof.Rows L2
noncomputable def fw (t:SetTable)(n:Nat):Bool:=decide (SetTable.below t.place 0=0)&&(List.range n).all fun i=>decide (SetTable.below t.place (t.place.getD i 0+1)=i+1)
noncomputable def eT (w:World):Bool:=w.params.followText "set-order"
section
variable {prog:Program} {w:World} {A:Around} {E:Value->Shared->Prop} {s:Shared} {xs:List Str} {es:Array (Int×Value)} {t:SetTable}
end
inductive W where
 | non|bl (b:Bool)|int (i:Int)|str (x:Str)|tup (xs:List W)|ref (i:Nat)
inductive T where
 | int (i:Int)|str (x:Str)|tup (xs:List T)
mutual
noncomputable def T.beq:T->T->Bool
 | .int i,.int j=>i==j
 | .str x,.str y=>x==y
 | .tup xs,.tup ys=>T.beqs xs ys
 | _,_=>false
noncomputable def T.beqs:List T->List T->Bool
 | [],[]=>true
 | x::xs,y::ys=>T.beq x y&&T.beqs xs ys
 | _,_=>false
end
mutual
theorem T.beq_iff:∀ x y:T,T.beq x y=true↔x=y
 | .int i,.int j=>by simp[T.beq]
 | .str x,.str y=>by simp[T.beq]
 | .tup xs,.tup ys=>by simp[T.beq,T.beqs_iff xs ys]
 | .int _,.str _|.int _,.tup _|.str _,.int _|.str _,.tup _|.tup _,.int _|.tup _,.str _=>by simp[T.beq]
theorem T.beqs_iff:∀ xs ys:List T,T.beqs xs ys=true↔xs=ys
 | [],[]=>by simp[T.beqs]
 | x::xs,y::ys=>by simp[T.beqs,T.beq_iff x y,T.beqs_iff xs ys]
 | [],_::_|_::_,[]=>by simp[T.beqs]
end
noncomputable instance:DecidableEq T:=fun x y=>decidable_of_iff (T.beq x y=true) (T.beq_iff x y)
mutual
noncomputable def T.w:T->W
 | .int i=>.int i
 | .str x=>.str x
 | .tup xs=>.tup (T.ws xs)
noncomputable def T.ws:List T->List W
 | []=>[]
 | x::xs=>T.w x::T.ws xs
end
mutual
noncomputable def W.t:W->Option T
 | .int i=>some (.int i)
 | .str x=>some (.str x)
 | .tup xs=>(W.ts xs).map .tup
 | _=>none
noncomputable def W.ts:List W->Option (List T)
 | []=>some []
 | x::xs=>match W.t x,W.ts xs with
  | some y,some ys=>some (y::ys)
  | _,_=>none
end
mutual
theorem W.t_w:∀ {w:W} {k:T},W.t w=some k->k.w=w
 | .int i,_,h=>by cases h; rfl
 | .str x,_,h=>by cases h; rfl
 | .tup xs,_,h=>by
  simp only[W.t,Option.map_eq_some_iff]at h;obtain⟨ks,h1,h2⟩:=h;subst h2;simp only[T.w,W.ts_w h1]
 | .non,_,h|.bl _,_,h|.ref _,_,h=>by cases h
theorem W.ts_w:∀ {ws:List W} {ks:List T},W.ts ws=some ks->T.ws ks=ws
 | [],_,h=>by cases h; rfl
 | w::ws,_,h=>by
  simp only[W.ts]at h;split at h
  ·rename_i y ys h1 h2;cases h;simp only[T.ws,W.t_w h1,W.ts_w h2]
  ·cases h
end
mutual
theorem T.w_t:∀ k:T,W.t k.w=some k
 | .int _=>rfl
 | .str _=>rfl
 | .tup xs=>by simp only[T.w,W.t,T.ws_ts xs,Option.map_some]
theorem T.ws_ts:∀ ks:List T,W.ts (T.ws ks)=some ks
 | []=>rfl
 | x::xs=>by simp only[T.ws,W.ts,T.w_t x,T.ws_ts xs]
end
mutual
noncomputable def T.depth:T->Nat
 | .tup xs=>T.depths xs+1
 | _=>0
noncomputable def T.depths:List T->Nat
 | []=>0
 | x::xs=>max (T.depth x) (T.depths xs)
end
mutual
noncomputable def T.draws:T->Nat
 | .tup xs=>T.drawss xs+1
 | _=>1
noncomputable def T.drawss:List T->Nat
 | []=>0
 | x::xs=>T.draws x+T.drawss xs
end
mutual
noncomputable def eC (wd:World):T->Int
 | .int i=>hashInt i
 | .str x=>hashStr wd x
 | .tup xs=>reduceHash (Builtin.Tuple.tupleHashOf (gZ wd xs))
noncomputable def gZ (wd:World):List T->List Int
 | []=>[]
 | x::xs=>eC wd x::gZ wd xs
end
noncomputable def T.isTup:T->Bool
 | .tup _=>true
 | _=>false
noncomputable def aE:Nat:=6
inductive O where
 | lst (xs:List W)
 | fro (xs:List W)
 | stt (ks:List T)
 | rng (lo hi:Int)
 | dic (kvs:List (T×W))
 | frd (kvs:List (T×W))
noncomputable abbrev aa:=List O
noncomputable abbrev Fm:=List (Option W)
section
variable (K:PySem.W.Frag) (A:List Addr) (H:Hp)
mutual
inductive Rel:W->V->Prop
 | non:Rel .non .non
 | bl {b:Bool}:Rel (.bl b) (.bl b)
 | int {i:Int}:Rel (.int i) (.int i)
 | str {x:Str}:Rel (.str x) (.str x)
 | tup {ws:List W} {a:Addr} {vs:List V}:SqT K H a vs->RelL ws vs->Rel (.tup ws) (.ref a)
 | ref {i:Nat} {a:Addr}:A[i]?=some a->Rel (.ref i) (.ref a)
inductive RelL:List W->List V->Prop
 | nil:RelL [] []
 | cons {w:W} {v:V} {ws:List W} {vs:List V}:Rel w v->RelL ws vs->RelL (w::ws) (v::vs)
end
end
section
variable {K:PySem.W.Frag} {A A' A'':List Addr} {H H' H'':Hp}
structure Ext (K:PySem.W.Frag)(A:List Addr)(H:Hp)(A':List Addr)(H':Hp):Prop where
 ad:∀ (i:Nat) (a:Addr),A[i]?=some a->A'[i]?=some a
 tp:∀ (a:Addr) (vs:List V),SqT K H a vs->SqT K H' a vs
 fz:∀ (a:Addr) (o:Obj) (u:HO),H a=some (.frz o u)->H' a=some (.frz o u)
theorem Ext.refl:Ext K A H A H:=⟨fun _ _ h=>h,fun _ _ h=>h,fun _ _ _ h=>h⟩
theorem Ext.trans (e:Ext K A H A' H')(f:Ext K A' H' A'' H''):Ext K A H A'' H'':=⟨fun i a h=>f.ad i a (e.ad i a h),fun a vs h=>f.tp a vs (e.tp a vs h),fun a o u h=>f.fz a o u (e.fz a o u h)⟩
mutual
theorem Rel.mono (e:Ext K A H A' H'):∀ {w:W} {v:V},Rel K A H w v->Rel K A' H' w v
 | _,_,.non=>.non
 | _,_,.bl=>.bl
 | _,_,.int=>.int
 | _,_,.str=>.str
 | _,_,.tup h r=>.tup (e.tp _ _ h) (RelL.mono e r)
 | _,_,.ref h=>.ref (e.ad _ _ h)
theorem RelL.mono (e:Ext K A H A' H'):∀ {ws:List W} {vs:List V},RelL K A H ws vs->RelL K A' H' ws vs
 | _,_,.nil=>.nil
 | _,_,.cons r t=>.cons (Rel.mono e r) (RelL.mono e t)
end
theorem RelL.length:∀ {ws:List W} {vs:List V},RelL K A H ws vs->ws.length=vs.length
 | _,_,.nil=>rfl
 | _,_,.cons _ t=>by simp[RelL.length t]
theorem RelL.get:∀ {ws:List W} {vs:List V} {i:Nat} {w:W},RelL K A H ws vs->ws[i]?=some w->∃ v,vs[i]?=some v/\Rel K A H w v
 | _,_,_,_,.nil,e=>by simp at e
 | _,_,0,_,.cons r _,e=>by simp at e; subst e; exact⟨_,rfl,r⟩
 | _,_,i+1,w,.cons _ t,e=>by
  obtain⟨u,h1,h2⟩:=RelL.get (i:=i) (w:=w) t (by simpa using e)
  exact⟨u,by simpa using h1,h2⟩
theorem RelL.append:∀ {xs ys:List W} {us ws:List V},RelL K A H xs us->RelL K A H ys ws->RelL K A H (xs++ys) (us++ws)
 | _,_,_,_,.nil,s=>s
 | _,_,_,_,.cons r t,s=>.cons r (RelL.append t s)
theorem RelL.take:∀ {xs:List W} {us:List V} (n:Nat),RelL K A H xs us->RelL K A H (xs.take n) (us.take n)
 | _,_,0,_=>.nil
 | _,_,_+1,.nil=>.nil
 | _,_,n+1,.cons r t=>.cons r (RelL.take n t)
theorem RelL.drop:∀ {xs:List W} {us:List V} (n:Nat),RelL K A H xs us->RelL K A H (xs.drop n) (us.drop n)
 | _,_,0,r=>r
 | _,_,_+1,.nil=>.nil
 | _,_,n+1,.cons _ t=>RelL.drop n t
theorem RelL.set {x:W}{u:V}(r:Rel K A H x u):∀ {xs:List W} {us:List V} (i:Nat),RelL K A H xs us->RelL K A H (xs.set i x) (us.set i u)
 | _,_,_,.nil=>.nil
 | _,_,0,.cons _ t=>.cons r t
 | _,_,i+1,.cons q t=>.cons q (RelL.set r i t)
theorem RelL.rep {xs:List W}{us:List V}(h:RelL K A H xs us):∀ k:Nat,RelL K A H (List.replicate k xs).flatten (List.replicate k us).flatten
 | 0=>.nil
 | k+1=>by
  rw[(JA),(JA),(J6),(J6)];exact RelL.append h (RelL.rep h k)
theorem RelL.eraseIdx:∀ {xs:List W} {us:List V} (i:Nat),RelL K A H xs us->RelL K A H (xs.eraseIdx i) (us.eraseIdx i)
 | _,_,_,.nil=>.nil
 | _,_,0,.cons _ t=>t
 | _,_,i+1,.cons r t=>.cons r (RelL.eraseIdx i t)
noncomputable def FroL (K:PySem.W.Frag)(H:Hp)(a:Addr)(vs:List V):Prop:=
 (∃ o,H a=some (.frz o (.lst vs)))\/
  ∃ (o:Obj) (its:Array Value) (n:Nat),K.lookup a=some o/\o.cls=.type "list"/\o.dict=none/\o.data=.seq its n/\its.size<=sizeLine/\Vals vs its.toList
theorem FroL.sq {a:Addr}{vs:List V}(h:FroL K H a vs):SqL K H a vs:=by
 rcases h with⟨o,h⟩|h
 ·exact .inl (.inr ⟨o,h⟩)
 ·exact .inr h
noncomputable def wI (wd:World)(x:T×Addr×Value):DictEntry:=⟨eC wd x.1,.ref x.2.1,x.2.2⟩
noncomputable def DicAt (wd:World)(a:Addr)(xs:List (T×Addr×Value))(h:Heap):Prop:=
 xs.length<=sizeLine/\(a==sysModules)=false/\(xs.map (·.1)).Nodup/\∃ o es ep,h.get? a=some o/\o.ExactDict/\o.data=.dict es ep/\es.toList=xs.map (wI wd)
noncomputable def d0 (wd:World)(a:Addr)(xs:List (T×Addr×Value)):HO:=.ext (DicAt wd a xs)
noncomputable def KRel (K:PySem.W.Frag)(A:List Addr)(H:Hp):List (T×W)->List (T×Addr×Value)->Prop:=
 Paired fun(p:T×W) (q:T×Addr×Value)=>p.1=q.1/\p.1.isTup=true/\p.1.depth<=aE/\Rel K A H p.1.w (.ref q.2.1)/\∃ v,Rel K A H p.2 v/\RelV v q.2.2
theorem KRel.mono (e:Ext K A H A' H'){kvs:List (T×W)}{xs:List (T×Addr×Value)}(h:KRel K A H kvs xs):KRel K A' H' kvs xs:=
 Paired.mapP h fun _ _ ⟨h1,h2,h3,h4,v,h5,h6⟩=>⟨h1,h2,h3,h4.mono e,v,h5.mono e,h6⟩
variable {wd:World}
noncomputable def Ab (wd:World)(as:List Addr)(o:Obj):Prop:=o.ExactSet/\∃ es ep t,o.data=.set es ep t/\es.size<=sizeLine/\t.fits es.size=true/\t.led=(!eT wd)/\(t.plain=true->es.size=0\/fw t es.size=true)/\es.toList.map (·.2)=as.map Value.ref
noncomputable def ObjRel (wd:World)(K:PySem.W.Frag)(A:List Addr)(H:Hp)(a:Addr):O->Prop
 | .lst ws=>∃ vs,H a=some (.lst vs)/\RelL K A H ws vs
 | .fro ws=>∃ vs,FroL K H a vs/\RelL K A H ws vs
 | .stt ks=>∃ o φ as,H a=some (.frz o (.ext φ))/\Ab wd as o/\RelL K A H (T.ws ks) (as.map V.ref)
 | .rng lo hi=>H a=some (.rng lo hi)
 | .dic kvs=>∃ xs,H a=some (d0 wd a xs)/\KRel K A H kvs xs
 | .frd kvs=>∃ o xs,H a=some (.frz o (d0 wd a xs))/\KRel K A H kvs xs
noncomputable def O.mut:O->Bool
 | .fro _=>false
 | .stt _=>false
 | .rng _ _=>false
 | .frd _=>false
 | _=>true
structure StoreOk (wd:World)(K:PySem.W.Frag)(A:List Addr)(H:Hp)(S:aa):Prop where
 len:A.length=S.length
 nd:∀ (i j:Nat) (a:Addr) (o u:O),S[i]?=some o->o.mut=true->S[j]?=some u->u.mut=true->A[i]?=some a->A[j]?=some a->i=j
 obj:∀ (i:Nat) (o:O) (a:Addr),S[i]?=some o->A[i]?=some a->ObjRel wd K A H a o
noncomputable def EnvRel (K:PySem.W.Frag)(A:List Addr)(H:Hp)(ρ:Fm)(σ:L2.St):Prop:=
 ρ.length=σ.length/\∀ (i:Nat) (w:W),ρ[i]?=some (some w)->∃ v,σ[i]?=some (some v)/\Rel K A H w v
theorem EnvRel.mono {ρ:Fm}{σ:L2.St}(e:Ext K A H A' H')(h:EnvRel K A H ρ σ):EnvRel K A' H' ρ σ:=
 ⟨h.1,fun i w q=>let ⟨v,a,b⟩:=h.2 i w q; ⟨v,a,b.mono e⟩⟩
theorem EnvRel.set {ρ:Fm}{σ:L2.St}{w:W}{v:V}(h:EnvRel K A H ρ σ)(r:Rel K A H w v)(i:Nat):EnvRel K A H (ρ.set i (some w)) (σ.set i (some v)):=by
 refine⟨by simp[h.1],fun j w' q=>?_⟩
 rw[(JL)]at q ⊢
 by_cases e:i=j
 ·subst e;rw[if_pos rfl]at q ⊢
  by_cases hl:i < ρ.length
  ·rw[if_pos hl]at q;rw[if_pos (h.1 ▸ hl)];cases q;exact⟨v,rfl,r⟩
  ·rw[if_neg hl]at q; cases q
 ·rw[if_neg e]at q ⊢;exact h.2 j w' q
noncomputable def Wr (H:Hp)(p:Addr):Prop:=H p=none\/(∃ xs,H p=some (.lst xs))\/(∃ φ,H p=some (.ext φ))\/∃ ks,H p=some (.dK ks)
theorem Wr.lst {p:Addr}{xs:List V}(h:H p=some (.lst xs)):Wr H p:=.inr (.inl ⟨xs,h⟩)
theorem Wr.ext {p:Addr}{φ:Heap->Prop}(h:H p=some (.ext φ)):Wr H p:=.inr (.inr (.inl ⟨φ,h⟩))
theorem Wr.ne_tup {p a:Addr}{xs:List V}(hp:Wr H p)(h:H a=some (.tup xs)):a≠p:=by
 intro e; subst e
 rcases hp with q|⟨xs,q⟩|⟨φ,q⟩|⟨ks,q⟩ <;> (rw[h]at q; cases q)
theorem Wr.ne_frz {p a:Addr}{o:Obj}{u:HO}(hp:Wr H p)(h:H a=some (.frz o u)):a≠p:=by
 intro e; subst e
 rcases hp with q|⟨xs,q⟩|⟨φ,q⟩|⟨ks,q⟩ <;> (rw[h]at q; cases q)
theorem Wr.ne_rng {p a:Addr}{lo hi:Int}(hp:Wr H p)(h:H a=some (.rng lo hi)):a≠p:=by
 intro e; subst e
 rcases hp with q|⟨xs,q⟩|⟨φ,q⟩|⟨ks,q⟩ <;> (rw[h]at q; cases q)
theorem sS {p:Addr}{o:HO}(hp:Wr H p){a:Addr}{vs:List V}(h:SqT K H a vs):SqT K (cb H p o) a vs:=by
 rcases h with(h|⟨o',h⟩)|h
 ·exact .inl (.inl (by rw[aP (hp.ne_tup h)]; exact h))
 ·exact .inl (.inr ⟨o',by rw[aP (hp.ne_frz h)]; exact h⟩)
 ·exact .inr h
theorem wJ {p:Addr}{o:HO}(hp:Wr H p){a:Addr}{vs:List V}(h:FroL K H a vs):FroL K (cb H p o) a vs:=by
 rcases h with⟨o',h⟩|h
 ·exact .inl ⟨o',by rw[aP (hp.ne_frz h)]; exact h⟩
 ·exact .inr h
theorem dN {p:Addr}{o:HO}(hp:Wr H p):Ext K A H A (cb H p o):=⟨fun _ _ h=>h,fun _ _ h=>sS hp h,fun _ _ _ h=>by rw[aP (hp.ne_frz h)]; exact h⟩
theorem cU {p:Addr}{o:HO}(hp:H p=none):Ext K A H (A++[p]) (cb H p o):=
 ⟨fun i a h=>by rw[List.getElem?_append_left (List.getElem?_eq_some_iff.mp h).1]; exact h,fun _ _ h=>sS (.inl hp) h,fun _ _ _ h=>by rw[aP (Wr.ne_frz (.inl hp) h)]; exact h⟩
theorem ObjRel.keep {p a:Addr}{o:HO}{b:O}(hp:Wr H p)(hne:b.mut=true->a≠p)(e:Ext K A H A' (cb H p o))(h:ObjRel wd K A H a b):ObjRel wd K A' (cb H p o) a b:=by
 cases b with
 | lst ws=>
  obtain⟨vs,q,r⟩:=h;exact⟨vs,by rw[aP (hne rfl)]; exact q,r.mono e⟩
 | fro ws=>
  obtain⟨vs,q,r⟩:=h;exact⟨vs,wJ hp q,r.mono e⟩
 | stt ks=>
  obtain⟨ob,φ,as,q,r1,r2⟩:=h;exact⟨ob,φ,as,by rw[aP (hp.ne_frz q)]; exact q,r1,r2.mono e⟩
 | rng lo hi=>
  have h:H a=some (.rng lo hi):=h;show cb H p o a=some (.rng lo hi);rw[aP (hp.ne_rng h)];exact h
 | dic kvs=>
  obtain⟨xs,q,r⟩:=h;exact⟨xs,by rw[aP (hne rfl)]; exact q,r.mono e⟩
 | frd kvs=>
  obtain⟨ob,xs,q,r⟩:=h;exact⟨ob,xs,by rw[aP (hp.ne_frz q)]; exact q,r.mono e⟩
theorem ObjRel.there {a:Addr}{b:O}(h:ObjRel wd K A H a b)(hm:b.mut=true):H a≠none:=by
 cases b with
 | lst ws=>obtain⟨vs,q,r⟩:=h; rw[q]; intro z; cases z
 | fro ws=>cases hm
 | stt ws=>cases hm
 | rng lo hi=>cases hm
 | dic kvs=>obtain⟨vs,q,r⟩:=h; rw[q]; intro z; cases z
 | frd ws=>cases hm
theorem ObjRel.wr {a:Addr}{b:O}(h:ObjRel wd K A H a b)(hm:b.mut=true):Wr H a:=by
 cases b with
 | lst ws=>obtain⟨vs,q,r⟩:=h; exact .lst q
 | fro ws=>cases hm
 | stt ws=>cases hm
 | rng lo hi=>cases hm
 | dic kvs=>obtain⟨vs,q,r⟩:=h; exact .ext q
 | frd ws=>cases hm
theorem StoreOk.lay {S:aa}{p:Addr}{o:HO}(h:StoreOk wd K A H S)(hp:H p=none):StoreOk wd K A (cb H p o) S:=
 ⟨h.len,h.nd,fun i b a e ea=>(h.obj i b a e ea).keep (.inl hp) (fun hm z=>(h.obj i b a e ea).there hm (z ▸ hp)) (dN (.inl hp))⟩
theorem StoreOk.pushO {S:aa}{p:Addr}{n:O}{u:HO}(h:StoreOk wd K A H S)(hp:H p=none)(r:ObjRel wd K (A++[p]) (cb H p u) p n):StoreOk wd K (A++[p]) (cb H p u) (S++[n]):=by
 have ex:Ext K A H (A++[p]) (cb H p u):=cU hp;have old:∀ {i:Nat} {o:O} {a:Addr},(S++[n])[i]?=some o->(A++[p])[i]?=some a->i < S.length->S[i]?=some o/\A[i]?=some a:=fun {i o a} e ea hl=>by
  rw[List.getElem?_append_left hl]at e;rw[List.getElem?_append_left (h.len ▸ hl)]at ea;exact⟨e,ea⟩
 have new:∀ {i:Nat} {o:O} {a:Addr},(S++[n])[i]?=some o->(A++[p])[i]?=some a->¬ i < S.length->i=S.length/\o=n/\a=p:=fun {i o a} e ea hl=>by
  have hi:i=S.length:=by
   have:=(Ir.mp e).1;simp at this;omega
  subst hi;simp at e;rw[<- h.len]at ea;simp at ea;exact⟨rfl,e.symm,ea.symm⟩
 refine⟨by simp[h.len],fun i j a o u e1 m1 e2 m2 a1 a2=>?_,fun i o a e ea=>?_⟩
 ·by_cases hi:i < S.length <;> by_cases hj:j < S.length
  ·obtain⟨x1,y1⟩:=old e1 a1 hi;obtain⟨x2,y2⟩:=old e2 a2 hj;exact h.nd i j a o u x1 m1 x2 m2 y1 y2
  ·obtain⟨x1,y1⟩:=old e1 a1 hi;obtain⟨_,_,z⟩:=new e2 a2 hj;subst z;exact absurd hp ((h.obj i o a x1 y1).there m1)
  ·obtain⟨x2,y2⟩:=old e2 a2 hj;obtain⟨_,_,z⟩:=new e1 a1 hi;subst z;exact absurd hp ((h.obj j u a x2 y2).there m2)
  ·rw[(new e1 a1 hi).1,(new e2 a2 hj).1]
 ·by_cases hi:i < S.length
  ·obtain⟨x1,y1⟩:=old e ea hi;exact(h.obj i o a x1 y1).keep (.inl hp) (fun hm z=>(h.obj i o a x1 y1).there hm (z ▸ hp)) ex
  ·obtain⟨_,rfl,rfl⟩:=new e ea hi;exact r
theorem StoreOk.push {S:aa}{p:Addr}{ws:List W}{vs:List V}(h:StoreOk wd K A H S)(hp:H p=none)(r:RelL K A H ws vs):StoreOk wd K (A++[p]) (cb H p (.lst vs)) (S++[.lst ws]):=
 h.pushO hp ⟨vs,bx,r.mono (cU hp)⟩
theorem StoreOk.writeO {S:aa}{i:Nat}{p:Addr}{o0 n:O}{u:HO}(h:StoreOk wd K A H S)(e:S[i]?=some o0)(m0:o0.mut=true)(ea:A[i]?=some p)(r:ObjRel wd K A (cb H p u) p n) :
  StoreOk wd K A (cb H p u) (S.set i n)/\Ext K A H A (cb H p u):=by
 have hw:Wr H p:=(h.obj i _ p e ea).wr m0;have ex:Ext K A H A (cb H p u):=dN hw;have hl:i < S.length:=(Ir.mp e).1;refine⟨⟨by simp[h.len],fun j k a o u e1 m1 e2 m2 a1 a2=>?_,fun j o a e1 a1=>?_⟩,ex⟩
 ·have get:∀ {j:Nat} {o:O},(S.set i n)[j]?=some o->o.mut=true->∃ o',S[j]?=some o'/\o'.mut=true:=fun {j o} q m=>by
   rw[(JL)]at q
   by_cases z:i=j
   ·subst z; exact⟨_,e,m0⟩
   ·rw[if_neg z]at q; exact⟨o,q,m⟩
  obtain⟨o',x1,m1'⟩:=get e1 m1;obtain⟨u',x2,m2'⟩:=get e2 m2;exact h.nd j k a o' u' x1 m1' x2 m2' a1 a2
 ·rw[(JL)]at e1
  by_cases z:i=j
  ·subst z;rw[if_pos rfl,if_pos hl]at e1;cases e1;rw[ea]at a1; cases a1
   exact r
  ·rw[if_neg z]at e1;exact(h.obj j o a e1 a1).keep hw (fun hm q=>z (h.nd i j p _ o e m0 e1 hm ea (q ▸ a1))) ex
theorem StoreOk.write {S:aa}{i:Nat}{p:Addr}{ws:List W}{us:List V}{ws0:List W}(h:StoreOk wd K A H S)(e:S[i]?=some (.lst ws0))(ea:A[i]?=some p)(r:RelL K A H ws us) :
  StoreOk wd K A (cb H p (.lst us)) (S.set i (.lst ws))/\Ext K A H A (cb H p (.lst us)):=
 h.writeO e rfl ea ⟨us,bx,r.mono (dN ((h.obj i _ p e ea).wr rfl))⟩
end
noncomputable def iz (S:aa)(i:Nat):Option (List W):=match S[i]? with
 | some (.lst xs)=>some xs
 | some (.fro xs)=>some xs
 | _=>none
noncomputable def pH (S:aa)(i:Nat):Option (List W):=match S[i]? with
 | some (.lst xs)=>some xs
 | _=>none
noncomputable def lY (S:aa)(xs:List W):Option (W×aa):=if xs.length<=sizeLine then some (.ref S.length,S++[.lst xs])else none
noncomputable def rW (S:aa)(xs:List W):Option (W×aa):=if xs.length<=sizeLine then some (.tup xs,S)else none
noncomputable def Ac (j:Int):Bool:=decide (0 < j)&&decide (j < 1073741824)
noncomputable def uR (i j:Int):Bool:=(decide (-(2 ^ 64) < i)&&decide (i < 2 ^ 64))||(decide (-(2 ^ 64) < j)&&decide (j < 2 ^ 64))
noncomputable def EW (i j:Int):Bool:=decide (0<=j)&&decide (j<=1000000)&&decide (i.natAbs < 2 ^ 64)
inductive BOp where|add|sub|mul|fdiv|mod|pow
 deriving DecidableEq
noncomputable def zu (c:Int->Int->Bool)(f:Int->Int->Int)(x y:W)(S:aa):Option (W×aa):=match x,y with
 | .int i,.int j=>if c i j then some (.int (f i j),S)else none
 | _,_=>none
noncomputable def uS (x y:W)(S:aa):Option (W×aa):=match x with
 | .int i=>match y with
  | .int j=>some (.int (i+j),S)
  | _=>none
 | .str x=>match y with
  | .str y=>if x.length+y.length<=sizeLine then some (.str (x++y),S)else none
  | _=>none
 | .tup xs=>match y with
  | .tup ys=>rW S (xs++ys)
  | _=>none
 | .ref i=>match y with
  | .ref j=>match pH S i,pH S j with
   | some xs,some ys=>lY S (xs++ys)
   | _,_=>none
  | _=>none
 | _=>none
noncomputable def wK (x y:W)(S:aa):Option (W×aa):=match x with
 | .str x=>match y with
  | .int k=>if k < 2 ^ 24/\-(2 ^ 24)<=k/\x.length*k.toNat<=sizeLine then some (.str (Txt.mul x k),S)else none
  | _=>none
 | .ref i=>match y with
  | .int k=>match pH S i with
   | some xs=>if k < 2 ^ 24/\-(2 ^ 24)<=k/\xs.length*k.toNat<=sizeLine then lY S (List.replicate k.toNat xs).flatten else none
   | none=>none
  | _=>none
 | x=>zu uR (· * ·) x y S
noncomputable def fS:BOp->W->W->aa->Option (W×aa)
 | .add,x,y,S=>uS x y S
 | .sub,x,y,S=>zu (fun _ _=>true) (· - ·) x y S
 | .mul,x,y,S=>wK x y S
 | .fdiv,x,y,S=>zu (fun _ j=>Ac j) (· / ·) x y S
 | .mod,x,y,S=>zu (fun _ j=>decide (0 < j)) (· % ·) x y S
 | .pow,x,y,S=>zu EW (fun i j=>i ^ j.toNat) x y S
noncomputable def BOp.py:BOp->Operator
 | .add=>.Add|.sub=>.Sub|.mul=>.Mult|.fdiv=>.FloorDiv|.mod=>.Mod|.pow=>.Pow
section
variable (X:Cx)
noncomputable def dI (pins:List (Addr×Obj))(σ:L2.St)(A:List Addr)(H:Hp)(S':aa)(w:W)(u:Value)(s':Shared):Prop:=
 ∃ v H' A',Inv X pins σ H' s'/\RelV v u/\Ext X.K A H A' H'/\StoreOk X.w X.K A' H' S'/\Rel X.K A' H' w v
noncomputable abbrev FE:=Fm->aa->Option (W×aa)
noncomputable def LOp (f:Value->Value->Sem Value)(g:W->W->aa->Option (W×aa)):Prop:=
 ∀ (pins:List (Addr×Obj)) (s:Shared) (σ:L2.St) (H:Hp) (A:List Addr) (S:aa) (x y:W) (a b:V) (u v:Value) (w:W) (S':aa),Inv X pins σ H s->StoreOk X.w X.K A H S->
  Rel X.K A H x a->RelV a u->Rel X.K A H y b->RelV b v->g x y S=some (w,S')->wpAny (model X.prog X.w) X.A (f u v) (dI X pins σ A H S' w) X.xe s
end
section
variable {X:Cx}
theorem kO {S:aa}{i:Nat}{xs:List W}(h:pH S i=some xs):S[i]?=some (.lst xs):=by
 unfold pH at h;split at h
 ·cases h; assumption
 ·cases h
theorem eM {A:List Addr}{H:Hp}{S:aa}{i:Nat}{xs:List W}{a:Addr}(so:StoreOk X.w X.K A H S)(h:pH S i=some xs)(ea:A[i]?=some a):∃ vs,H a=some (.lst vs)/\RelL X.K A H xs vs:=
 so.obj i _ a (kO h) ea
theorem cw {A:List Addr}{H:Hp}{S:aa}{i:Nat}{xs:List W}{a:Addr}(so:StoreOk X.w X.K A H S)(h:iz S i=some xs)(ea:A[i]?=some a):∃ vs,SqL X.K H a vs/\RelL X.K A H xs vs:=by
 unfold iz at h;split at h
 ·cases h;obtain⟨vs,q,r⟩:=so.obj i _ a (by assumption) ea
  exact⟨vs,.of q,r⟩
 ·cases h;obtain⟨vs,q,r⟩:=so.obj i _ a (by assumption) ea
  exact⟨vs,q.sq,r⟩
 ·cases h
theorem ko {S S':aa}{xs:List W}{w:W}(h:lY S xs=some (w,S')):xs.length<=sizeLine/\w=.ref S.length/\S'=S++[.lst xs]:=by
 unfold lY at h;split at h
 ·cases h; exact⟨by assumption,rfl,rfl⟩
 ·cases h
theorem sT {S S':aa}{xs:List W}{w:W}(h:rW S xs=some (w,S')):xs.length<=sizeLine/\w=.tup xs/\S'=S:=by
 unfold rW at h;split at h
 ·cases h; exact⟨by assumption,rfl,rfl⟩
 ·cases h
theorem Ad {A:List Addr}{H:Hp}{S:aa}{ws:List W}{vs:List V}{Q:VK}{p:Addr}(so:StoreOk X.w X.K A H S)(r:RelL X.K A H ws vs)(hp:H p=none)
  (q:∀ v H' A',Ext X.K A H A' H'->StoreOk X.w X.K A' H' (S++[.lst ws])->Rel X.K A' H' (.ref S.length) v->Q v H'):Q (.ref p) (cb H p (.lst vs)):=
 q _ _ (A++[p]) (cU hp) (so.push hp r) (.ref (by rw[<- so.len]; simp))
theorem Ae {A:List Addr}{H:Hp}{S:aa}{ws:List W}{vs:List V}{Q:VK}{p:Addr}(so:StoreOk X.w X.K A H S)(r:RelL X.K A H ws vs)(hp:H p=none)
  (q:∀ v H' A',Ext X.K A H A' H'->StoreOk X.w X.K A' H' S->Rel X.K A' H' (.tup ws) v->Q v H'):Q (.ref p) (cb H p (.tup vs)):=
 q _ _ A (dN (.inl hp)) (so.lay hp) (.tup (.of bx) (r.mono (dN (.inl hp))))
noncomputable def EX (K:PySem.W.Frag):R2:=fun x y H Q=>∃ a b xs ys,x=.ref a/\y=.ref b/\SqT K H a xs/\SqT K H b ys/\xs.length+ys.length<=sizeLine/\
 (xs=[]->Q (.ref b) H)/\(ys=[]->Q (.ref a) H)/\(∀ p,H p=none->Q (.ref p) (cb H p (.tup (xs++ys))))
theorem Ag:OpR X (binaryOp .Add) (EX X.K):=by
 intro pins s σ H x y v u Q I rx ry h;obtain⟨a,b,xs,ys,rfl,rfl,ha,hb,hz,q0,q1,q2⟩:=h;cases rx;cases ry;obtain⟨its,r1,p1,_⟩:=I.tuple ha;obtain⟨its2,r2,p2,_⟩:=I.tuple hb
 by_cases hx:xs=[]
 ·obtain⟨⟨cls,dd,data,sl⟩,ho,hc,n,hd⟩:=id p1;obtain⟨⟨cls2,dd2,data2,sl2⟩,ho2,hc2,n2,hd2⟩:=id p2;simp only at hc hd hc2 hd2;subst hc hd hc2 hd2;exact concat_meets ⟨_,ho,rfl⟩ ⟨_,ho2,rfl⟩ noFill_tuple_add seq_tuple_add PySem.F.slot_tuple_add PySem.F.entry_tuple_add (Kq _ _)
   (tuple_addW0 a b its.toArray its2.toArray n n2 dd dd2 sl sl2 (by simp[r1.nil_iff.mpr hx])) ⟨ho,ho2,⟨.ref b,H,I,rfl,q0 hx⟩⟩
 ·refine HT.zO p1 p2 (fun z=>hx (r1.nil_iff.mp z)) (fun z=>⟨.ref a,H,I,rfl,q1 (r2.nil_iff.mp z)⟩) (fun z=>?_) (by rw[<- r1.length,<- r2.length]; exact hz)
  refine⟨.ref s.heap.objs.size,_,I.laid (t':=s.toks) (o:=.tup (xs++ys)) (fun b ob q=>Ik _ q) (Ip _) ?_,rfl,q2 _ (I.hok.fresh (Ip _))⟩
  exact⟨by rw[(Iv)]; exact hz,_,r1.append r2,IsTup.new _ _⟩
theorem RelL.nil_iff {K:PySem.W.Frag}{A:List Addr}{H:Hp}{ws:List W}{vs:List V}(r:RelL K A H ws vs):vs=[]↔ws=[]:=by
 cases r <;> simp
theorem rX:OpR X (binaryOp .Mult) (fun x y H Q=>∃ z k,x=.str z/\y=.int k/\MulOk z k/\Q (.str (Txt.mul z k)) H):=by
 intro pins s σ H x y v u Q I rx ry h;obtain⟨z,k,rfl,rfl,ok,q⟩:=h;obtain⟨t,rfl⟩:=rx;obtain⟨t',rfl⟩:=ry;exact SB.mul ok fun t2 k2=>⟨.str _,H,I.tok _,⟨_,rfl⟩,q⟩
theorem wL {x:Str}{k:Int}(h1:k < 16777216)(h2 : -16777216<=k)(h3:x.length*k.toNat<=sizeLine):MulOk x k:=by
 have hs:sizeLine=16777216:=Ja;rw[hs]at h3;refine⟨?_,fun a b=>?_,fun _ _=>?_⟩
 ·rw[Bool.or_eq_false_iff];exact⟨Jr (by omega),Jr (by omega)⟩
 ·have hk:0 < k:=by omega
  have e:(x.length:Int)*k=((x.length*k.toNat:Nat):Int):=by
   rw[Int.natCast_mul,Int.toNat_of_nonneg (by omega)]
  intro hgt;have h4:(2 ^ 63 - 1:Int) < (x.length:Int)*k:=(Int.ediv_lt_iff_lt_mul hk).mp hgt;rw[e]at h4;generalize x.length*k.toNat=z at h3 h4;omega
 ·unfold PySem.Builtin.Str.tooLong;rw[hs];exact Jr (by omega)
noncomputable def EndV (wd:World)(K:PySem.W.Frag)(A:List Addr)(H:Hp)(S':aa)(w:W):VK:=fun v H'=>∃ A',Ext K A H A' H'/\StoreOk wd K A' H' S'/\Rel K A' H' w v
theorem EndV.here {A:List Addr}{H:Hp}{S:aa}{w:W}{v:V}(so:StoreOk X.w X.K A H S)(r:Rel X.K A H w v):EndV X.w X.K A H S w v H:=⟨A,.refl,so,r⟩
theorem EndV.lst {A:List Addr}{H:Hp}{S:aa}{ws:List W}{vs:List V}{p:Addr}(so:StoreOk X.w X.K A H S)(r:RelL X.K A H ws vs)(hp:H p=none):EndV X.w X.K A H (S++[.lst ws]) (.ref S.length) (.ref p) (cb H p (.lst vs)):=
 Ad (Q:=EndV X.w X.K A H (S++[.lst ws]) (.ref S.length)) so r hp fun v H' A' a b c=>⟨A',a,b,c⟩
theorem EndV.tup {A:List Addr}{H:Hp}{S:aa}{ws:List W}{vs:List V}{p:Addr}(so:StoreOk X.w X.K A H S)(r:RelL X.K A H ws vs)(hp:H p=none):EndV X.w X.K A H S (.tup ws) (.ref p) (cb H p (.tup vs)):=
 Ae (Q:=EndV X.w X.K A H S (.tup ws)) so r hp fun v H' A' a b c=>⟨A',a,b,c⟩
theorem EP.post {pins:List (Addr×Obj)}{σ:L2.St}{A:List Addr}{H:Hp}{S':aa}{w:W}{u:Value}{s':Shared}(h:EP X pins σ (EndV X.w X.K A H S' w) u s'):dI X pins σ A H S' w u s':=by
 obtain⟨v,H',I',r,A',x,y,z⟩:=h;exact⟨v,H',A',I',r,x,y,z⟩
theorem OpR.go {f:Value->Value->Sem Value}{r:R2}(h:OpR X f r){pins:List (Addr×Obj)}{σ:L2.St}{A:List Addr}{H:Hp}{S':aa}{w:W}{s:Shared}{a b:V}{u v:Value}(I:Inv X pins σ H s)(ru:RelV a u)(rv:RelV b v)
  (q:r a b H (EndV X.w X.K A H S' w)):wpAny (model X.prog X.w) X.A (f u v) (dI X pins σ A H S' w) X.xe s:=bS (h pins s σ H a b u v _ I ru rv q) fun _ _=>EP.post
theorem Ah:LOp X (binaryOp .Add) (fS .add):=by
 intro pins s σ H A S x y a b u v w S' I so rx ru ry rv e;cases rx with
 | int=>cases ry with
  | int=>cases e; exact OpR.go CJ I ru rv ⟨_,_,rfl,rfl,.here so .int⟩
  | _=>cases e
 | str=>cases ry with
  | str=>
   simp only[fS,uS]at e;split at e
   ·cases e; exact OpR.go rP I ru rv ⟨_,_,rfl,rfl,by assumption,.here so .str⟩
   ·cases e
  | _=>cases e
 | tup h1 r1=>cases ry with
  | tup h2 r2=>
   obtain⟨hl,rfl,rfl⟩:=sT (show rW S _=_ from e)
   rw[(Iv),r1.length,r2.length]at hl;refine OpR.go Ag I ru rv ⟨_,_,_,_,rfl,rfl,h1,h2,hl,fun z=>?_,fun z=>?_,fun p hp=>.tup so (r1.append r2) hp⟩
   ·have z':=r1.nil_iff.mp z;subst z';exact .here so (.tup h2 r2)
   ·have z':=r2.nil_iff.mp z;subst z';rw[(Jy)];exact .here so (.tup h1 r1)
  | _=>cases e
 | ref h1=>cases ry with
  | ref h2=>
   simp only[fS,uS]at e;split at e
   ·obtain⟨hl,rfl,rfl⟩:=ko e;obtain⟨vs,q1,r1⟩:=eM so (by assumption) h1
    obtain⟨us,q2,r2⟩:=eM so (by assumption) h2
    rw[(Iv),r1.length,r2.length]at hl;exact OpR.go C1 I ru rv ⟨_,_,_,_,rfl,rfl,q1,q2,hl,fun p hp=>.lst so (r1.append r2) hp⟩
   ·cases e
  | _=>cases e
 | _=>cases e
theorem pR {f:Value->Value->Sem Value}{c:Int->Int->Bool}{g:Int->Int->Int}{r:R2}(h:OpR X f r)(hr:∀ i j H Q,c i j=true->Q (.int (g i j)) H->r (.int i) (.int j) H Q):LOp X f (zu c g):=by
 intro pins s σ H A S x y a b u v w S' I so rx ru ry rv e;cases rx with
 | int=>cases ry with
  | int=>
   unfold zu at e;dsimp only at e;split at e
   ·cases e; exact OpR.go h I ru rv (hr _ _ _ _ (by assumption) (.here so .int))
   ·cases e
  | _=>cases e
 | _=>cases e
theorem Ai:LOp X (binaryOp .Sub) (fS .sub):=pR CK fun _ _ _ _ _ q=>⟨_,_,rfl,rfl,q⟩
theorem Aj {i j:Int}(h:uR i j=true):CMul i j:=by
 unfold uR at h;rw[(KD),(Iq),(Iq),(Jc),(Jc),(Jc),(Jc)]at h;exact h
theorem Ak:LOp X (binaryOp .Mult) (fS .mul):=by
 have hI:LOp X (binaryOp .Mult) (zu uR (· * ·)):=pR CL fun _ _ _ _ h q=>⟨_,_,rfl,rfl,Aj h,q⟩
 intro pins s σ H A S x y a b u v w S' I so rx ru ry rv e;cases x with
 | str z=>
  cases rx with
  | str=>cases ry with
   | int=>
    simp only[fS,wK]at e;split at e
    ·rename_i hc;cases e; exact OpR.go rX I ru rv ⟨_,_,rfl,rfl,wL (by omega) (by omega) hc.2.2,.here so .str⟩
    ·cases e
   | _=>cases e
 | ref z=>
  cases rx with
  | ref h1=>cases ry with
   | int=>
    simp only[fS,wK]at e;split at e
    ·split at e
     ·rename_i hc;obtain⟨hl,rfl,rfl⟩:=ko e;obtain⟨vs,q1,r1⟩:=eM so (by assumption) h1
      rw[r1.length]at hc;exact OpR.go C2 I ru rv ⟨_,_,_,rfl,rfl,q1,by omega,by omega,hc.2.2,fun p hp=>.lst so (r1.rep _) hp⟩
     ·cases e
    ·cases e
   | _=>cases e
 | _=>exact hI _ _ _ _ _ _ _ _ _ _ _ _ _ _ I so rx ru ry rv e
theorem wM:LOp X (binaryOp .FloorDiv) (fS .fdiv):=pR zJ fun _ _ _ _ h q=>⟨_,_,rfl,rfl,by
 unfold Ac at h;rw[(Iq),(Jc),(Jc)]at h;exact h,q⟩
theorem Al:LOp X (binaryOp .Mod) (fS .mod):=pR CM fun _ _ _ _ h q=>⟨_,_,rfl,rfl,IK h,q⟩
theorem Am:LOp X (binaryOp .Pow) (fS .pow):=pR CN fun _ _ _ _ h q=>⟨_,_,rfl,rfl,by
 unfold EW at h;rw[(Iq),(Iq),(Jc),(Jc),(Jc)]at h;exact⟨h.1.1,h.1.2,h.2⟩,q⟩
theorem sU (o:BOp):LOp X (binaryOp o.py) (fS o):=by
 cases o
 ·exact Ah
 ·exact Ai
 ·exact Ak
 ·exact wM
 ·exact Al
 ·exact Am
end
noncomputable def g7 (f:W->W->Option Bool):List W->List W->Option Bool
 | [],[]=>some true
 | [],_::_=>some false
 | _::_,[]=>some false
 | x::xs,y::ys=>match f x y,g7 f xs ys with
  | some a,some b=>some (a&&b)
  | _,_=>none
noncomputable def b2 (b:Bool):Int:=if b then 1 else 0
noncomputable def ja (S:aa):Nat->W->W->Option Bool
 | _,.non,y=>match y with
  | .non=>some true
  | _=>none
 | _,.bl a,y=>match y with
  | .bl b=>some (a==b)
  | _=>none
 | _,.int a,y=>match y with
  | .int b=>some (a==b)
  | _=>none
 | _,.str a,y=>match y with
  | .str b=>some (a==b)
  | _=>none
 | 0,_,_=>none
 | d+1,.tup xs,y=>match y with
  | .tup ys=>g7 (ja S d) xs ys
  | _=>none
 | d+1,.ref i,y=>match y with
  | .ref j=>match pH S i,pH S j with
   | some xs,some ys=>if xs.length=ys.length then g7 (ja S d) xs ys else some false
   | _,_=>none
  | _=>none
section
variable {X:Cx} {pins:List (Addr×Obj)} {σ:L2.St} {H:Hp} {s:Shared} {A:List Addr} {S:aa}
noncomputable def RU (K:PySem.W.Frag)(A:List Addr)(H:Hp)(w:W)(u:Value):Prop:=∃ v,Rel K A H w v/\RelV v u
theorem sV {ws:List W}{vs:List V}{us:List Value}(r:RelL X.K A H ws vs)(q:Vals vs us):∀ (j:Nat) (h1:j < ws.length) (h2:j < us.length),RU X.K A H ws[j] us[j]:=by
 induction ws generalizing vs us with
 | nil=>intro j h1; simp at h1
 | cons w ws ih=>
  cases r with
  | cons r1 rr=>
   cases q with
   | cons q1 qq=>
    intro j h1 h2;cases j with
    | zero=>exact⟨_,r1,q1⟩
    | succ j=>exact ih rr qq j (by simpa using h1) (by simpa using h2)
theorem wQ {ws:List W}{u:Value}(I:Inv X pins σ H s)(h:RU X.K A H (.tup ws) u):∃ a its,u=.ref a/\IsTup s.heap a its/\its.size=ws.length/\ws.length<=sizeLine/\∀ (j:Nat) (h1:j < ws.length) (h2:j < its.size),RU X.K A H ws[j] its[j]:=by
 obtain⟨v,r,q⟩:=h;cases r with
 | tup sq rl=>
  obtain⟨its,rv,ht,hz⟩:=I.tuple sq;refine⟨_,its.toArray,q,ht,by rw[(IE),<- rv.length,rl.length],by rw[rl.length]; exact hz,fun j h1 h2=>?_⟩
  have:=sV rl rv j h1 (by simpa using h2)
  simpa using this
theorem wR {i:Nat}{ws:List W}{u:Value}(I:Inv X pins σ H s)(so:StoreOk X.w X.K A H S)(e:pH S i=some ws)(h:RU X.K A H (.ref i) u):∃ a its,u=.ref a/\A[i]?=some a/\s.heap.IsList a its/\its.size=ws.length/\ws.length<=sizeLine/\∀ (j:Nat) (h1:j < ws.length) (h2:j < its.size),RU X.K A H ws[j] its[j]:=by
 obtain⟨v,r,q⟩:=h;cases r with
 | ref ea=>
  obtain⟨vs,hq,rl⟩:=eM so e ea;obtain⟨its,rv,ht,hz⟩:=I.list (.of hq);refine⟨_,its.toArray,q,ea,ht.isList,by rw[(IE),<- rv.length,rl.length],by rw[rl.length]; exact hz,fun j h1 h2=>?_⟩
  have:=sV rl rv j h1 (by simpa using h2)
  simpa using this
theorem kP {f:W->W->Option Bool}:∀ {xs ys:List W} {k:Bool},g7 f xs ys=some k->∃ e:Nat->Bool,(∀ (j:Nat) (h1:j < xs.length) (h2:j < ys.length),f xs[j] ys[j]=some (e j))/\
  k=((List.range (min xs.length ys.length)).all e&&xs.length==ys.length)
 | [],[],k,h=>⟨fun _=>true,fun j h1=>by simp at h1,by cases h; rfl⟩
 | [],_::_,k,h=>⟨fun _=>true,fun j h1=>by simp at h1,by cases h; simp⟩
 | _::_,[],k,h=>⟨fun _=>true,fun j h1 h2=>by simp at h2,by cases h; simp⟩
 | x::xs,y::ys,k,h=>by
  simp only[g7]at h;split at h
  ·rename_i a b ha hb;cases h;obtain⟨e,h1,h2⟩:=kP hb;refine⟨fun j=>match j with|0=>a|j+1=>e j,fun j hj1 hj2=>?_,?_⟩
   ·cases j with
    | zero=>exact ha
    | succ j=>exact h1 j (by simpa using hj1) (by simpa using hj2)
   ·subst h2;simp only[List.length_cons,Nat.add_min_add_right,List.range_succ_eq_map,List.all_cons,List.all_map,Bool.and_assoc];congr 2;simp
  ·cases h
theorem An (I:Inv X pins σ H s)(so:StoreOk X.w X.K A H S):∀ (d:Nat) {x y:W} {v:V} {k:Bool},Rel X.K A H x v->Rel X.K A H y v->ja S d x y=some k->k=true:=by
 intro d
 induction d with
 | zero=>
  intro x y v k rx ry e;cases rx with
  | non=>cases ry; cases e; rfl
  | bl=>cases ry; cases e; exact Jh _
  | int=>cases ry; cases e; exact Jh _
  | str=>cases ry; cases e; exact Jh _
  | tup _ _=>cases e
  | ref _=>cases e
 | succ d ih=>
  have lists:∀ {xs ys:List W} {vs:List V} {k:Bool},RelL X.K A H xs vs->RelL X.K A H ys vs->g7 (ja S d) xs ys=some k->k=true:=by
   intro xs
   induction xs with
   | nil=>
    intro ys vs k r1 r2 e;cases r1; cases r2; cases e; rfl
   | cons x xs ihx=>
    intro ys vs k r1 r2 e;cases r1 with
    | cons p1 q1=>
     cases r2 with
     | cons p2 q2=>
      simp only[g7]at e;split at e
      ·rename_i a b ha hb;cases e;rw[ih p1 p2 ha,ihx q1 q2 hb];rfl
      ·cases e
  intro x y v k rx ry e;cases rx with
  | non=>cases ry; cases e; rfl
  | bl=>cases ry; cases e; exact Jh _
  | int=>cases ry; cases e; exact Jh _
  | str=>cases ry; cases e; exact Jh _
  | tup h1 r1=>
   cases ry with
   | tup h2 r2=>
    rw[I.tuple_inj h1 h2]at r1;exact lists r1 r2 e
   | ref ea=>cases e
  | ref ea=>
   cases ry with
   | tup h2 r2=>cases e
   | ref eb=>
    simp only[ja]at e;split at e
    ·rename_i xs ys hx hy;have:=so.nd _ _ _ _ _ (kO hx) rfl (kO hy) rfl ea eb;subst this;rw[hx]at hy; cases hy
     rw[if_pos rfl]at e;obtain⟨vs,q,r⟩:=eM so hx ea;exact lists r r e
    ·cases e
theorem bm (A:Around):A.in1.units=A.units+1:=rfl
noncomputable abbrev Eh (B:Around)(s:Shared)(u v:Value)(k:Bool):Prop:=SeqAt.RcAt B s u v k/\SeqAt.RcNeAt B s u v (!k)/\SeqAt.EqAt B s u v k
open SeqAt in
theorem BV (I:Inv X pins σ H s)(so:StoreOk X.w X.K A H S):∀ (d:Nat) (B:Around) {x y:W} {u v:Value} {k:Bool},B.units+d < cLine->RU X.K A H x u->RU X.K A H y v->ja S d x y=some k->Eh B s u v k:=by
 have non:∀ {B:Around} {y:W} {u v:Value} {k:Bool} {d:Nat},RU X.K A H .non u->RU X.K A H y v->ja S d .non y=some k->Eh B s u v k:=by
  intro B y u v k d ⟨_,rx,ra⟩ ⟨_,ry,rb⟩ e;cases rx;cases(show u=Value.none from ra)
  cases y with
  | non=>
   have e:some (true)=some k:=by cases d <;> exact e
   cases e;cases ry;cases(show v=Value.none from rb)
   exact⟨.none_none,.none_none,.same _⟩
  | _=>cases d <;> cases e
 have bl:∀ {B:Around} {b:Bool} {y:W} {u v:Value} {k:Bool} {d:Nat},RU X.K A H (.bl b) u->RU X.K A H y v->ja S d (.bl b) y=some k->Eh B s u v k:=by
  intro B b y u v k d ⟨_,rx,ra⟩ ⟨_,ry,rb⟩ e;cases rx;cases(show u=Value.bool _ from ra)
  cases y with
  | bl c=>
   have e:some (b==c)=some k:=by cases d <;> exact e
   cases e;cases ry;cases(show v=Value.bool _ from rb)
   exact⟨.bool_bool _ _,.bool_bool _ _,.bool_bool _ _⟩
  | _=>cases d <;> cases e
 have int:∀ {B:Around} {b:Int} {y:W} {u v:Value} {k:Bool} {d:Nat},RU X.K A H (.int b) u->RU X.K A H y v->ja S d (.int b) y=some k->Eh B s u v k:=by
  intro B b y u v k d ⟨_,rx,ra⟩ ⟨_,ry,rb⟩ e;cases rx;obtain⟨t0,rfl⟩ : ∃ t,u=Value.int _ t:=ra;cases y with
  | int c=>
   have e:some (b==c)=some k:=by cases d <;> exact e
   cases e;cases ry;obtain⟨t,rfl⟩ : ∃ t,v=Value.int _ t:=rb;exact⟨.int_int _ _ _ _,.int_int _ _ _ _,.int_int _ _ _ _⟩
  | _=>cases d <;> cases e
 have str:∀ {B:Around} {b:Str} {y:W} {u v:Value} {k:Bool} {d:Nat},RU X.K A H (.str b) u->RU X.K A H y v->ja S d (.str b) y=some k->Eh B s u v k:=by
  intro B b y u v k d ⟨_,rx,ra⟩ ⟨_,ry,rb⟩ e;cases rx;obtain⟨t0,rfl⟩ : ∃ t,u=Value.str _ t:=ra;cases y with
  | str c=>
   have e:some (b==c)=some k:=by cases d <;> exact e
   cases e;cases ry;obtain⟨t,rfl⟩ : ∃ t,v=Value.str _ t:=rb;exact⟨.str_str _ _ _ _,.str_str _ _ _ _,.str_str _ _ _ _⟩
  | _=>cases d <;> cases e
 intro d
 induction d with
 | zero=>
  intro B x y u v k hu rx ry e;cases x with
  | non=>exact non rx ry e
  | bl b=>exact bl rx ry e
  | int b=>exact int rx ry e
  | str b=>exact str rx ry e
  | _=>cases e
 | succ d ih=>
  intro B x y u v k hu rx ry e;have hu0:B.units < cLine:=by omega
  have hu1:B.in1.units+d < cLine:=by rw[bm]; omega
  have rx0:=rx;have ry0:=ry;have fin:∀ {a b:Addr},u=.ref a->v=.ref b->RcAt B s u v k->RcNeAt B s u v (!k)->Eh B s u v k:=by
   intro a b ea eb h1 h2;subst ea eb;refine⟨h1,h2,?_⟩
   by_cases hab:a=b
   ·subst hab;obtain⟨v1,q1,z1⟩:=rx0;obtain⟨v2,q2,z2⟩:=ry0;have e12:v1=v2:=z1.inj z2;subst e12;have:=An I so (d+1) q1 q2 e;subst this;exact EqAt.same _
   ·exact EqAt.of_refs hab h1
  cases x with
  | non=>exact non rx ry e
  | bl b=>exact bl rx ry e
  | int b=>exact int rx ry e
  | str b=>exact str rx ry e
  | tup xs=>
   cases y with
   | tup ys=>
    obtain⟨a,its,rfl,ht,hs,_,hi⟩:=wQ I rx;obtain⟨b,its2,rfl,ht2,hs2,_,hi2⟩:=wQ I ry;obtain⟨f,h1,h2⟩:=kP (show g7 (ja S d) xs ys=some k from e)
    have he:∀ j (h1:j < its.size) (h2:j < its2.size),EqAt B.in1 s its[j] its2[j] (f j):=fun j j1 j2=>
     (ih B.in1 hu1 (hi j (hs ▸ j1) j1) (hi2 j (hs2 ▸ j2) j2) (h1 j (hs ▸ j1) (hs2 ▸ j2))).2.2
    rw[<- hs,<- hs2]at h2;subst h2;exact fin rfl rfl (RcAt.tuples ht ht2 hu0 he) (RcNeAt.tuples ht ht2 hu0 he)
   | _=>cases e
  | ref i=>
   cases y with
   | ref j=>
    simp only[ja]at e;split at e
    ·rename_i ws ws2 hw hw2;obtain⟨a,its,rfl,_,hl,hs,_,hi⟩:=wR I so hw rx;obtain⟨b,its2,rfl,_,hl2,hs2,_,hi2⟩:=wR I so hw2 ry;split at e
     ·rename_i hlen;obtain⟨f,h1,h2⟩:=kP e;have he:∀ j (h1:j < its.size) (h2:j < its2.size),EqAt B.in1 s its[j] its2[j] (f j):=fun j j1 j2=>
       (ih B.in1 hu1 (hi j (hs ▸ j1) j1) (hi2 j (hs2 ▸ j2) j2) (h1 j (hs ▸ j1) (hs2 ▸ j2))).2.2
      have hk:k=(List.range its.size).all f:=by rw[h2,hs,hlen]; simp
      subst hk;exact fin rfl rfl (RcAt.lists hl hl2 (by rw[hs,hs2,hlen]) hu0 he) (RcNeAt.lists hl hl2 (by rw[hs,hs2,hlen]) hu0 he)
     ·rename_i hlen;cases e;have hb:(its.size != its2.size)=true:=by rw[hs,hs2]; simpa using hlen
      exact fin rfl rfl (RcAt.lists_lengths hl hl2 hb hu0) (RcNeAt.lists_lengths hl hl2 hb hu0)
    ·cases e
   | _=>cases e
end
noncomputable def BW (fe fl:W->W->Option Bool):List W->List W->Option Bool
 | [],[]=>some false
 | [],_::_=>some true
 | _::_,[]=>some false
 | x::xs,y::ys=>match fe x y with
  | some true=>BW fe fl xs ys
  | some false=>fl x y
  | none=>none
noncomputable def HW (S:aa):Nat->W->W->Option Bool
 | _,.int a,.int b=>some (decide (a < b))
 | _,.str a,.str b=>some (decide (a.cps.toList < b.cps.toList))
 | d+1,.tup xs,.tup ys=>BW (ja S d) (HW S d) xs ys
 | _,_,_=>none
noncomputable def LtAt (B:Around)(s:Shared)(u v:Value)(k:Bool):Prop:=
 ∀ (prog:Program) (w:World) (E:Value->Shared->Prop) (Q:Value->Shared->Prop),Q (.bool k) s->wpAny (model prog w) B (richCompare .Lt u v) Q E s
inductive LexR (B:Around)(s:Shared):List Value->List Value->Bool->Prop
 | nn:LexR B s [] [] false
 | nc {v:Value} {vs:List Value}:LexR B s [] (v::vs) true
 | cn {v:Value} {vs:List Value}:LexR B s (v::vs) [] false
 | eq {u v:Value} {us vs:List Value} {k:Bool}:SeqAt.EqAt B s u v true->LexR B s us vs k->LexR B s (u::us) (v::vs) k
 | ne {u v:Value} {us vs:List Value} {k:Bool}:SeqAt.EqAt B s u v false->LtAt B s u v k->LexR B s (u::us) (v::vs) k
section
open PySem.SeqAt
open PySem.AutoSeq1 (wpAny_loadPart')
open PySem.MeetsSeq PySem.MeetsSeq2 PySem.MeetsSeq3
theorem nZ (l b:Addr)(items items2:Array Value)(n n2:Nat)(dd dd2:Option Addr)(sl sl2:Array (Option Value))(k:Bool) :
  Meets (Builtin.«tuple.__lt__» ⟨[.ref l,.ref b],[]⟩)
   (fun B R s=>s.heap.get? l=some { cls:=.type "tuple",dict:=dd,data:=.seq items n,slots:=sl }/\s.heap.get? b=some { cls:=.type "tuple",dict:=dd2,data:=.seq items2 n2,slots:=sl2 }/\
    LexR B.in1 s items.toList items2.toList k/\R (.ok (.ret (.bool k))) s):=
 .of_wp fun prog w A R s h=>by
  obtain⟨hp,g,d,tk,os⟩:=s; obtain⟨hl,hb,hx,h⟩:=h
  have f2:=AutoSeq1.sub_tuple_tuple;have z1:items.toList.length=items.size:=by simp
  have z2:items2.toList.length=items2.size:=by simp
  wp_walk using wpAny_loadPart' hl,wpAny_loadPart' hb,Kg _ (fun bT b s'=>b.1=none/\s'=⟨hp,g,d,tk,os⟩/\∃ (vs ws:List Value),bT=vs.zip ws/\
   LexR A.in1 ⟨hp,g,d,tk,os⟩ vs ws k/\vs.length+items2.size=ws.length+items.size) _
  case turn=>
   rintro⟨y,x⟩ bT b s' ⟨hb',rfl,vs,ws,hz,hlx,hlen⟩;cases hlx with
   | nn=>rw[List.zip_nil_left]at hz; cases hz
   | nc=>rw[List.zip_nil_left]at hz; cases hz
   | cn=>rw[List.zip_nil_right]at hz; cases hz
   | eq he hr=>
    rw[(Ki)]at hz;injection hz with hyx hrest
    injection hyx with hy hx
    subst hy hx;simp only[List.length_cons]at hlen;refine Ij (he prog w _ _ ?_)
    wp_walk
    exact⟨rfl,rfl,_,_,hrest,hr,by omega⟩
   | ne he hr=>
    rw[(Ki)]at hz;injection hz with hyx hrest
    injection hyx with hy hx
    subst hy hx;refine Ij (he prog w _ _ ?_);have hri:=hr prog w
    wp_walk using hri
    exact⟨_,rfl,by simpa using h⟩
  case fin=>
   rintro⟨b1,b2⟩ s' ⟨hb',rfl,vs,ws,hz,hlx,hlen⟩;simp only at hb';subst hb';have hv:k=decide (items.size < items2.size):=by
    cases hlx with
    | nn=>simp only[List.length_nil]at hlen; exact(Jr (by omega)).symm
    | nc=>simp only[List.length_nil,List.length_cons]at hlen; exact(Kx (by omega)).symm
    | cn=>simp only[List.length_nil,List.length_cons]at hlen; exact(Jr (by omega)).symm
    | eq _ _=>rw[(Ki)]at hz; cases hz
    | ne _ _=>rw[(Ki)]at hz; cases hz
   subst hv
   wp_walk
   exact⟨_,rfl,by simpa [Builtin.Tuple.tupleCompareSizes]using h⟩
  case h=>
   exact⟨rfl,rfl,items.toList,items2.toList,rfl,hx,by omega⟩
end
theorem LtAt.tuples {B:Around}{s:Shared}{l b:Addr}{items items2:Array Value}{k:Bool}(hl:IsTup s.heap l items)(hb:IsTup s.heap b items2)(hu:B.units < cLine)(hx:LexR B.in1 s items.toList items2.toList k) :
  LtAt B s (.ref l) (.ref b) k:=fun prog w E Q h=>by
 obtain⟨⟨cls,dd,data,sl⟩,ho,hc,n,hd⟩:=id hl;obtain⟨⟨cls2,dd2,data2,sl2⟩,ho2,hc2,n2,hd2⟩:=id hb;simp only at hc hd hc2 hd2;subst hc hd hc2 hd2;exact richCompare_meets_room (op:=.Lt) ⟨_,ho,rfl⟩ ⟨_,ho2,rfl⟩ PySem.F.slot_tuple_lt PySem.F.entry_tuple_lt (PySem.F.args_tuple_lt_2 _ _) (nZ l b items items2 n n2 dd dd2 sl sl2 k)
  ⟨ho,ho2,hx,show Value.bool k≠Value.notImplemented/\Q (.bool k) s from⟨(fun x=>nomatch x),h⟩⟩ hu
section
variable {X:Cx} {pins:List (Addr×Obj)} {σ:L2.St} {H:Hp} {s:Shared} {A:List Addr} {S:aa}
end
inductive COp where|eq|ne|lt|le|gt|ge|isin|notin|is|isnot
 deriving DecidableEq
noncomputable def COp.py:COp->CmpOp
 | .eq=>.Eq|.ne=>.NotEq|.lt=>.Lt|.le=>.LtE|.gt=>.Gt|.ge=>.GtE|.isin=>.In|.notin=>.NotIn|.is=>.Is|.isnot=>.IsNot
noncomputable def cv:W->Bool
 | .non=>true
 | .bl _=>true
 | .int _=>true
 | .str _=>true
 | _=>false
noncomputable def zv:W->W->Bool
 | .non,.non=>true
 | .bl a,.bl b=>a==b
 | .bl a,.int b=>b2 a==b
 | .int a,.bl b=>a==b2 b
 | .int a,.int b=>a==b
 | .str a,.str b=>a==b
 | _,_=>false
noncomputable def eW (S:aa):W->Option (List W)
 | .tup xs=>some xs
 | .ref i=>iz S i
 | _=>none
noncomputable abbrev g8:Nat:=20
noncomputable def BX (x y:W)(S:aa):Option Bool:=match eW S y with
 | some ys=>if cv x&&ys.all cv then some (ys.any fun z=>zv z x)else none
 | none=>none
noncomputable def wW:W->Bool
 | .non=>true
 | _=>false
noncomputable def wX (f:Int->Int->Bool):W->W->Option Bool
 | .int i,.int j=>some (f i j)
 | _,_=>none
noncomputable def Ei:COp->W->W->aa->Option Bool
 | .eq,x,y,S=>ja S g8 x y
 | .ne,x,y,S=>(ja S g8 x y).map (!·)
 | .lt,x,y,_=>wX (fun i j=>decide (i < j)) x y
 | .le,x,y,_=>wX (fun i j=>decide (i<=j)) x y
 | .gt,x,y,_=>wX (fun i j=>decide (j < i)) x y
 | .ge,x,y,_=>wX (fun i j=>decide (j<=i)) x y
 | .isin,x,y,S=>BX x y S
 | .notin,x,y,S=>(BX x y S).map (!·)
 | .is,x,y,_=>if wW y then some (wW x)else none
 | .isnot,x,y,_=>if wW y then some (!wW x)else none
noncomputable def jd (o:COp)(x y:W)(S:aa):Option (W×aa):=(Ei o x y S).map fun k=>(.bl k,S)
section
variable {X:Cx}
theorem sW {pins:List (Addr×Obj)}{σ:L2.St}{H:Hp}{s:Shared}{A:List Addr}{S:aa}{k:Bool}(I:Inv X pins σ H s)(so:StoreOk X.w X.K A H S):dI X pins σ A H S (.bl k) (.bool k) s:=
 ⟨.bl k,H,A,I,rfl,.refl,so,.bl⟩
theorem Ao {o:COp}{x y w:W}{S S':aa}(h:jd o x y S=some (w,S')):∃ k,Ei o x y S=some k/\w=.bl k/\S'=S:=by
 unfold jd at h;rw[(Io)]at h;obtain⟨k,h1,h2⟩:=h;cases h2;exact⟨k,h1,rfl,rfl⟩
theorem pS {A:List Addr}{H:Hp}{w:W}{v:V}(r:Rel X.K A H w v)(f:cv w=true):gO v=true:=by
 cases r <;> first|rfl|cases f
theorem mQ {A:List Addr}{H:Hp}:∀ {ws:List W} {vs:List V},RelL X.K A H ws vs->ws.all cv=true->vs.all gO=true
 | _,_,.nil,_=>rfl
 | _,_,.cons r t,f=>by
  rw[(Jk),(Iq)]at f ⊢;exact⟨pS r f.1,mQ t f.2⟩
theorem Ap {A:List Addr}{H:Hp}{x y:W}{u v:V}(r:Rel X.K A H x u)(q:Rel X.K A H y v)(fx:cv x=true)(fy:cv y=true):zW u v=zv x y:=by
 cases r <;> cases q <;> first|rfl|cases fx|cases fy
theorem sX {A:List Addr}{H:Hp}{y:W}{v:V}(q:Rel X.K A H y v)(fy:cv y=true):∀ {ws:List W} {vs:List V},RelL X.K A H ws vs->ws.all cv=true->Gi v vs=ws.any fun z=>zv z y
 | _,_,.nil,_=>rfl
 | _,_,.cons r t,f=>by
  rw[(Jk),(Iq)]at f;have:=sX q fy t f.2;unfold Gi at this ⊢;rw[(Kd),(Kd),Ap r q f.1 fy,this]
theorem n0 {pins:List (Addr×Obj)}{σ:L2.St}{H:Hp}{s:Shared}{A:List Addr}{S:aa}{y:W}{b:V}{ys:List W}(so:StoreOk X.w X.K A H S)(r:Rel X.K A H y b)(e:eW S y=some ys):∃ p vs,b=.ref p/\(SqL X.K H p vs\/SqT X.K H p vs)/\RelL X.K A H ys vs:=by
 cases r with
 | tup h1 r1=>cases e; exact⟨_,_,rfl,.inr h1,r1⟩
 | ref ea=>
  obtain⟨vs,h1,r1⟩:=cw so e ea;exact⟨_,vs,rfl,.inl h1,r1⟩
 | _=>cases e
theorem wY {neg:Bool}{o:CmpOp}(ho:OpR X (compareOp o) (G2 X.K neg)){pins:List (Addr×Obj)}{σ:L2.St}{H:Hp}{s:Shared}{A:List Addr}{S:aa}{x y:W}{a b:V}{u v:Value}{ys:List W}(I:Inv X pins σ H s)(so:StoreOk X.w X.K A H S)
  (rx:Rel X.K A H x a) (ru:RelV a u) (ry:Rel X.K A H y b) (rv:RelV b v) (e:eW S y=some ys) (f:(cv x&&ys.all cv)=true) :
  wpAny (model X.prog X.w) X.A (compareOp o u v) (dI X pins σ A H S (.bl (if neg then !ys.any fun z=>zv z x else ys.any fun z=>zv z x))) X.xe s:=by
 obtain⟨p,vs,rfl,hq,rl⟩:=n0 (pins:=pins) (σ:=σ) (s:=s) so ry e;rw[(Iq)]at f;refine OpR.go ho I ru rv ⟨p,vs,rfl,hq,pS rx f.1,mQ rl f.2,?_⟩;rw[sX rx f.1 rl f.2];exact .here so .bl
theorem Aq (hu:X.A.units+g8 < cLine)(o:COp):LOp X (compareOp o.py) (jd o):=by
 intro pins s σ H A S x y a b u v w S' I so rx ru ry rv e;obtain⟨k,ek,e1,e2⟩:=Ao e;subst e1;subst e2;clear e
 rename aa=>S
 have twoI:∀ {f:Int->Int->Bool},wX f x y=some k->∃ i j,x=.int i/\y=.int j/\k=f i j:=by
  intro f h;cases x with
  | int i=>cases y with
   | int j=>cases h; exact⟨i,j,rfl,rfl,rfl⟩
   | _=>cases h
  | _=>cases h
 have hu1:X.A.units+1 < cLine:=by have:g8=20:=rfl; omega
 have ofSq:∀ {c:Bool},BX x y S=some c->(∃ ys,eW S y=some ys/\(cv x&&ys.all cv)=true/\c=ys.any fun z=>zv z x):=by
  intro c h;unfold BX at h;split at h
  ·split at h
   ·cases h; exact⟨_,by assumption,by assumption,rfl⟩
   ·cases h
  ·cases h
 have ofN:∀ {c:Bool},(if wW y then some c else none)=some k->y=.non/\k=c:=by
  intro c h;cases y with
  | non=>cases h; exact⟨rfl,rfl⟩
  | _=>cases h
 cases o with
 | eq=>exact(BV I so g8 X.A hu ⟨a,rx,ru⟩ ⟨b,ry,rv⟩ ek).1 _ _ _ _ (sW I so)
 | ne=>
  obtain⟨k',h1,rfl⟩:=Io.mp ek;exact(BV I so g8 X.A hu ⟨a,rx,ru⟩ ⟨b,ry,rv⟩ h1).2.1 _ _ _ _ (sW I so)
 | lt=>
  obtain⟨i,j,rfl,rfl,rfl⟩:=twoI ek;cases rx; cases ry
  exact OpR.go EJ I ru rv ⟨_,_,rfl,rfl,.here so .bl⟩
 | le=>
  obtain⟨i,j,rfl,rfl,rfl⟩:=twoI ek;cases rx; cases ry
  exact OpR.go EK I ru rv ⟨_,_,rfl,rfl,.here so .bl⟩
 | gt=>
  obtain⟨i,j,rfl,rfl,rfl⟩:=twoI ek;cases rx; cases ry
  exact OpR.go EL I ru rv ⟨_,_,rfl,rfl,.here so .bl⟩
 | ge=>
  obtain⟨i,j,rfl,rfl,rfl⟩:=twoI ek;cases rx; cases ry
  exact OpR.go EM I ru rv ⟨_,_,rfl,rfl,.here so .bl⟩
 | isin=>
  obtain⟨ys,h1,h2,rfl⟩:=ofSq ek;exact wY (neg:=false) uM I so rx ru ry rv h1 h2
 | notin=>
  obtain⟨c,h,rfl⟩:=Io.mp ek;obtain⟨ys,h1,h2,rfl⟩:=ofSq h;exact wY (neg:=true) nW I so rx ru ry rv h1 h2
 | is=>
  obtain⟨rfl,rfl⟩:=ofN ek;cases ry;refine OpR.go CP I ru rv ⟨rfl,?_⟩;cases rx <;> exact .here so .bl
 | isnot=>
  obtain⟨rfl,rfl⟩:=ofN ek;cases ry;refine OpR.go zK I ru rv ⟨rfl,?_⟩;cases rx <;> exact .here so .bl
end
end Mi
namespace HT
open PySem PyProof.Rows
section
variable {prog:Program} {w:World} {A:Around} {E:Value->Shared->Prop} {s:Shared}
theorem gC {t sl:Addr}{items:Array Value}{vl vu:Value}{lo hi:Option Int}{Q:Value->Shared->Prop}(ht:IsTup s.heap t items)(hs:s.heap.IsSliceOf sl vl vu .none)(pl:IsPart vl lo)(pu:IsPart vu hi)
  (hw:cx items.size 0 lo=0/\cx items.size items.size hi=items.size) (h:Q (.ref t) s):wpAny (model prog w) A (getItem (.ref t) (.ref sl)) Q E s:=by
 obtain⟨os,hos,hcs,hds⟩:=id hs;have hTs:s.TypeIs (.ref sl) "slice":=⟨os,hos,hcs⟩;unfold getItem
 try with_reducible refine IW ?_
 first|refine Ij (Il ?_)|skip
 refine Ij (wpAny_sequenceKey ht.typeIs (by decide) ?_)
 refine Ij (Jw (name:=Str.ofString "__getitem__") ht.typeIs JD
  (Ji JD ht.typeIs entry_tuple_getitem ?_ (args_tuple_getitem _ _)))
 show wpAny _ _ (Builtin.Tuple.tupleItemsOf (.ref t) >>= _) _ _ s;refine Ij (tupleItemsOf_ ht ?_);refine Ij (J3 hTs ?_);rw[if_pos (by decide)]
 refine Ij (eS hs pl pu ?_);have hyes:((((cx items.size 0 lo:Nat):Int)==0&&(1:Int)==1&&(cx items.size items.size hi - cx items.size 0 lo)==items.size)=true):=by
  rw[hw.1,hw.2];simp
 show wpAny _ _ (if (((cx items.size 0 lo:Nat):Int)==0&&(1:Int)==1&&(cx items.size items.size hi - cx items.size 0 lo)==items.size)=true then _ else _) _ _ s
 rw[if_pos hyes];unfold Builtin.Tuple.tupleIsExact;refine Ij (Ij (J3 ht.typeIs (Il ?_)));rw[if_pos (by decide)]
 exact Ij (wpAny_rule (Ij (Il (Il ⟨_,rfl,Il h⟩))))
end
end HT
namespace Mi
open PySem PySem.Spec PyProof.Rows L2
noncomputable def uT (x y:W)(S:aa):Option (W×aa):=match x,y with
 | .tup xs,.int i=>(pP xs i).map fun w=>(w,S)
 | .ref r,.int i=>match iz S r with
  | some xs=>(pP xs i).map fun w=>(w,S)
  | none=>none
 | .str x,.int i=>if x.length<=sizeLine then(pP x.cps.toList i).map fun c=>(.str ⟨#[c]⟩,S)else none
 | _,_=>none
noncomputable def je (xs:List W)(lo hi:Option Int):List W:=(xs.drop (HT.cx xs.length 0 lo)).take (HT.cx xs.length xs.length hi - HT.cx xs.length 0 lo)
noncomputable def w6 (x:W)(lo hi:Option Int)(S:aa):Option (W×aa):=match x with
 | .tup xs=>some (.tup (je xs lo hi),S)
 | .ref r=>match iz S r with
  | some xs=>some (.ref S.length,S++[.lst (je xs lo hi)])
  | none=>none
 | _=>none
noncomputable def uU (o i v:W)(S:aa):Option aa:=match o,i with
 | .ref r,.int k=>match pH S r with
  | some xs=>match sQ xs.length k with
   | some j=>some (S.set r (.lst (xs.set j v)))
   | none=>none
  | none=>none
 | _,_=>none
section
variable (X:Cx)
noncomputable def LIx (g:W->W->aa->Option (W×aa)):Prop:=
 ∀ (value slice:Expr) (pins:List (Addr×Obj)) (s:Shared) (σ:L2.St) (H:Hp) (A:List Addr) (S:aa) (x y:W) (a b:V) (u v:Value) (w:W) (S':aa),Inv X pins σ H s->StoreOk X.w X.K A H S->
  Rel X.K A H x a->RelV a u->Rel X.K A H y b->RelV b v->g x y S=some (w,S')->subscripted slice false u v=operate [u,v] (getItem u v)->wpAny (model X.prog X.w) X.A (subscriptTail value slice u v) (dI X pins σ A H S' w) X.xe s
noncomputable def LSl (g:W->Option Int->Option Int->aa->Option (W×aa)):Prop:=
 ∀ (pins:List (Addr×Obj)) (s:Shared) (σ:L2.St) (H:Hp) (A:List Addr) (S:aa) (x:W) (a:V) (v vl vu:Value) (lo hi:Option Int) (sl:Addr) (w:W) (S':aa),Inv X pins σ H s->StoreOk X.w X.K A H S->
  Rel X.K A H x a->RelV a v->s.heap.IsSliceOf sl vl vu .none->IsPart vl lo->IsPart vu hi->g x lo hi S=some (w,S')->
  ∃ T id,typeLookup (.type T) "__getitem__" = pure (some (.builtin id))/\s.TypeIs v T/\wpAny (model X.prog X.w) X.A (getItem v (.ref sl)) (dI X pins σ A H S' w) X.xe s
noncomputable def LSet (g:W->W->W->aa->Option aa):Prop:=
 ∀ (pins:List (Addr×Obj)) (s:Shared) (σ:L2.St) (H:Hp) (A:List Addr) (S:aa) (o i x:W) (ao ai ax:V) (uo ui ux:Value) (S':aa),Inv X pins σ H s->StoreOk X.w X.K A H S->
  Rel X.K A H o ao->RelV ao uo->Rel X.K A H i ai->RelV ai ui->Rel X.K A H x ax->RelV ax ux->g o i x S=some S'->
  wpAny (model X.prog X.w) X.A (setItem uo ui ux) (fun _ s'=>∃ H' A',Inv X pins σ H' s'/\Ext X.K A H A' H'/\StoreOk X.w X.K A' H' S') X.xe s
noncomputable def LCall (f:Value)(g:List W->aa->Option (W×aa)):Prop:=
 ∀ (pins:List (Addr×Obj)) (s:Shared) (σ:L2.St) (H:Hp) (A:List Addr) (S:aa) (xs:List W) (vs:List V) (us:List Value) (w:W) (S':aa),Inv X pins σ H s->StoreOk X.w X.K A H S->
  RelL X.K A H xs vs->Vals vs us->g xs S=some (w,S')->wpAny (model X.prog X.w) X.A (call f us) (dI X pins σ A H S' w) X.xe s
noncomputable def LMeth (id:String)(g:W->List W->aa->Option (W×aa)):Prop:=
 ∀ (pins:List (Addr×Obj)) (s:Shared) (σ:L2.St) (H:Hp) (A:List Addr) (S:aa) (x:W) (a:V) (u:Value) (xs:List W) (vs:List V) (us:List Value) (w:W) (S':aa),Inv X pins σ H s->StoreOk X.w X.K A H S->
  Rel X.K A H x a->RelV a u->RelL X.K A H xs vs->Vals vs us->g x xs S=some (w,S')->wpAny (model X.prog X.w) X.A (call (.builtin id) (u::us)) (dI X pins σ A H S' w) X.xe s
end
section
variable {X:Cx} {pins:List (Addr×Obj)} {σ:L2.St} {H:Hp} {s:Shared} {A:List Addr} {S:aa}
theorem IxR.go {r:R2}(h:IxR X r){S':aa}{w:W}{a b:V}{u v:Value}{value slice:Expr}(I:Inv X pins σ H s)(ru:RelV a u)(rv:RelV b v)(q:r a b H (EndV X.w X.K A H S' w))(hs:subscripted slice false u v=operate [u,v] (getItem u v)) :
  wpAny (model X.prog X.w) X.A (subscriptTail value slice u v) (dI X pins σ A H S' w) X.xe s:=bS (h value slice pins s σ H a b u v _ I ru rv q hs) fun _ _=>EP.post
theorem CallR.go {f:Value}{r:List V->Hp->VK->Prop}(h:CallR X f r){S':aa}{w:W}{vs:List V}{us:List Value}(I:Inv X pins σ H s)(rv:Vals vs us)(q:r vs H (EndV X.w X.K A H S' w)) :
  wpAny (model X.prog X.w) X.A (call f us) (dI X pins σ A H S' w) X.xe s:=bS (h pins s σ H vs us _ I rv q) fun _ _=>EP.post
theorem MtR.go {id:String}{r:V->List V->Hp->VK->Prop}(h:MtR X id r){S':aa}{w:W}{a:V}{u:Value}{vs:List V}{us:List Value}(I:Inv X pins σ H s)(ru:RelV a u)(rv:Vals vs us)(q:r a vs H (EndV X.w X.K A H S' w)) :
  wpAny (model X.prog X.w) X.A (call (.builtin id) (u::us)) (dI X pins σ A H S' w) X.xe s:=bS (h pins s σ H a vs u us _ I ru rv q) fun _ _=>EP.post
theorem sY {xs:List W}{vs:List V}{i:Int}{w:W}(r:RelL X.K A H xs vs)(e:pP xs i=some w):∃ v,pP vs i=some v/\Rel X.K A H w v:=by
 unfold pP at e ⊢;rw[r.length]at e;cases q:sQ vs.length i with
 | none=>rw[q]at e; cases e
 | some j=>
  rw[q]at e;obtain⟨v,h1,h2⟩:=r.get (show xs[j]?=some w from e)
  exact⟨v,h1,h2⟩
theorem HX (hu:X.A.units+10 < cLine):LIx X uT:=by
 intro value slice pins s σ H A S x y a b u v w S' I so rx ru ry rv e hs;cases rx with
 | tup h1 r1=>cases ry with
  | int=>
   simp only[uT,Option.map_eq_some_iff]at e;obtain⟨w',e1,e2⟩:=e;cases e2;obtain⟨z,h2,r2⟩:=sY r1 e1;exact IxR.go CW I ru rv ⟨_,_,_,_,rfl,rfl,h1,h2,.here so r2⟩ hs
  | _=>cases e
 | ref ea=>cases ry with
  | int=>
   simp only[uT]at e;split at e
   ·rename_i ws hw;rw[(Io)]at e;obtain⟨w',e1,e2⟩:=e;cases e2;obtain⟨vs,h1,r1⟩:=cw so hw ea;obtain⟨z,h2,r2⟩:=sY r1 e1;exact IxR.go zS I ru rv ⟨_,_,_,_,rfl,rfl,h1,h2,.here so r2⟩ hs
   ·cases e
  | _=>cases e
 | str=>cases ry with
  | int=>
   simp only[uT]at e;split at e
   ·rw[(Io)]at e;obtain⟨c,e1,e2⟩:=e;cases e2;exact IxR.go CY I ru rv ⟨_,_,_,rfl,rfl,by assumption,e1,.here so .str⟩ hs
   ·cases e
  | _=>cases e
 | _=>cases ry <;> cases e
theorem n6 {xs:List W}{vs:List V}{lo hi:Option Int}(r:RelL X.K A H xs vs):RelL X.K A H (je xs lo hi) (kN vs lo hi):=by
 unfold je kN;rw[r.length];exact(r.drop _).take _
theorem Ar:ET X (fun x lo hi H Q=>∃ a xs,x=.ref a/\SqT X.K H a xs/\(kN xs lo hi=xs->Q (.ref a) H)/\∀ p,H p=none->Q (.ref p) (cb H p (.tup (kN xs lo hi)))):=by
 intro pins s σ H x v vl vu lo hi sl Q I rx hs pl pu h;obtain⟨a,xs,rfl,hx,q0,q⟩:=h
 by_cases hw:(HT.cx xs.length 0 lo=0/\HT.cx xs.length xs.length hi=xs.length)
 ·cases rx;obtain⟨its,r,ht,hz⟩:=I.tuple hx;have hlen:its.toArray.size=xs.length:=by rw[(IE)]; exact r.length.symm
  refine⟨"tuple",_,PyProof.Rows.slot_tuple_getitem.lookup,ht.typeIs,?_⟩;refine HT.gC ht hs pl pu (by rw[hlen]; exact hw) ⟨.ref a,H,I,rfl,q0 ?_⟩
  unfold kN;rw[hw.1,hw.2];simp
 ·exact CV pins s σ H (.ref a) v vl vu lo hi sl Q I rx hs pl pu ⟨a,xs,rfl,hx,hw,q⟩
theorem HY:LSl X w6:=by
 intro pins s σ H A S x a v vl vu lo hi sl w S' I so rx rv hs pl pu e;cases rx with
 | tup h1 r1=>
  cases e;obtain⟨T,id,z1,z2,z3⟩:=Ar pins s σ H _ v vl vu lo hi sl (EndV X.w X.K A H S (.tup (je _ lo hi))) I rv hs pl pu ⟨_,_,rfl,h1,fun q=>.here so (.tup h1 (by have:=n6 (lo:=lo) (hi:=hi) r1; rw[q]at this; exact this)),fun p hp=>.tup so (n6 r1) hp⟩
  exact⟨T,id,z1,z2,bS z3 fun _ _=>EP.post⟩
 | ref ea=>
  simp only[w6]at e;split at e
  ·rename_i ws hw;cases e;obtain⟨vs,h1,r1⟩:=cw so hw ea;obtain⟨T,id,z1,z2,z3⟩:=zU pins s σ H _ v vl vu lo hi sl (EndV X.w X.K A H (S++[.lst (je ws lo hi)]) (.ref S.length)) I rv hs pl pu ⟨_,_,rfl,h1,fun p hp=>.lst so (n6 r1) hp⟩
   exact⟨T,id,z1,z2,bS z3 fun _ _=>EP.post⟩
  ·cases e
 | _=>cases e
theorem lset (hu:X.A.units+10 < cLine):LSet X uU:=by
 intro pins s σ H A S o i x ao ai ax uo ui ux S' I so ro ruo ri rui rx rux e;cases ro with
 | ref ea=>cases ri with
  | int=>
   simp only[uU]at e;split at e
   ·rename_i ws hw;split at e
    ·rename_i j hj;cases e;obtain⟨vs,h1,r1⟩:=eM so hw ea;rw[r1.length]at hj;obtain⟨so',ex⟩:=so.write (kO hw) ea (r1.set rx j);exact bS (ww pins s σ H _ _ _ uo ui ux (fun H'=>H'=cb H _ (.lst (vs.set j ax))) I ruo rui rux ⟨_,_,_,_,rfl,rfl,h1,hj,rfl⟩) fun _ s' ⟨H',I',e'⟩=>⟨_,A,e' ▸ I',ex,so'⟩
    ·cases e
   ·cases e
  | _=>cases e
 | _=>cases ri <;> cases e
noncomputable def rY (xs:List W)(S:aa):Option (W×aa):=match xs with
 | [.tup ys]=>some (.int ys.length,S)
 | [.str y]=>if y.length<=sizeLine then some (.int y.length,S)else none
 | [.ref i]=>(iz S i).map fun ys=>(.int ys.length,S)
 | _=>none
theorem uV:LCall X (.builtin "len") rY:=by
 intro pins s σ H A S xs vs us w S' I so rl rv e;cases rl with
 | nil=>cases e
 | cons r t=>
  cases t with
  | cons _ _=>cases r <;> cases e
  | nil=>
   cases r with
   | tup h1 r1=>cases e; rw[r1.length]; exact CallR.go kK I rv ⟨_,_,rfl,.inr ⟨_,h1,rfl⟩,.here so .int⟩
   | str=>
    simp only[rY]at e;split at e
    ·cases e; exact CallR.go kK I rv ⟨_,_,rfl,⟨by assumption,rfl⟩,.here so .int⟩
    ·cases e
   | ref ea=>
    simp only[rY,Option.map_eq_some_iff]at e;obtain⟨ws,hw,e2⟩:=e;cases e2;obtain⟨vs',h1,r1⟩:=cw so hw ea;rw[r1.length];exact CallR.go kK I rv ⟨_,_,rfl,.inl ⟨_,h1,rfl⟩,.here so .int⟩
   | _=>cases e
noncomputable def iA (xs:List W)(S:aa):Option (W×aa):=match xs with
 | [x]=>match eW S x with
  | some ys=>some (.ref S.length,S++[.lst ys])
  | none=>none
 | _=>none
theorem g9:LCall X (.type "list") iA:=by
 intro pins s σ H A S xs vs us w S' I so rl rv e;cases rl with
 | nil=>cases e
 | cons r t=>
  cases t with
  | cons _ _=>cases e
  | nil=>
   simp only[iA]at e;split at e
   ·rename_i ys hy;cases e;obtain⟨p,vs',rfl,hq,r1⟩:=n0 (pins:=pins) (σ:=σ) (s:=s) so r hy;exact CallR.go nX I rv ⟨p,vs',rfl,hq,fun l hl=>.lst so r1 hl⟩
   ·cases e
noncomputable def kQ (xs:List W)(S:aa):Option (W×aa):=match xs with
 | [.tup ys]=>some (.tup ys,S)
 | [.ref i]=>match iz S i with
  | some ys=>some (.tup ys,S)
  | none=>none
 | _=>none
theorem jM:LCall X (.type "tuple") kQ:=by
 intro pins s σ H A S xs vs us w S' I so rl rv e;cases rl with
 | nil=>cases e
 | cons r t=>
  cases t with
  | cons _ _=>cases r <;> cases e
  | nil=>
   cases r with
   | tup h1 r1=>cases e; exact CallR.go gP I rv ⟨_,_,rfl,.inr ⟨h1,.here so (.tup h1 r1)⟩⟩
   | ref ea=>
    simp only[kQ]at e;split at e
    ·rename_i ys hy;cases e;obtain⟨vs',h1,r1⟩:=cw so hy ea;exact CallR.go gP I rv ⟨_,_,rfl,.inl ⟨h1,fun l hl=>.tup so r1 hl⟩⟩
    ·cases e
   | _=>cases e
noncomputable def EY (xs:List W)(S:aa):Option (W×aa):=match xs with
 | [.int i]=>some (.int i,S)
 | [.bl b]=>some (.int (if b then 1 else 0),S)
 | _=>none
theorem uW:LCall X (.type "int") EY:=by
 intro pins s σ H A S xs vs us w S' I so rl rv e;cases rl with
 | nil=>cases e
 | cons r t=>
  cases t with
  | cons _ _=>cases r <;> cases e
  | nil=>
   cases r with
   | int=>cases e; exact CallR.go mI I rv (.inl ⟨_,rfl,.here so .int⟩)
   | bl=>cases e; exact CallR.go mI I rv (.inr ⟨_,rfl,.here so .int⟩)
   | _=>cases e
noncomputable def iB (x:W)(xs:List W)(S:aa):Option (W×aa):=match x,xs with
 | .ref i,[y]=>match pH S i with
  | some ys=>if ys.length < sizeLine then some (.non,S.set i (.lst (ys++[y])))else none
  | none=>none
 | _,_=>none
theorem jf {i:Nat}{p:Addr}{ws ws0:List W}{us:List V}(so:StoreOk X.w X.K A H S)(e:pH S i=some ws0)(ea:A[i]?=some p)(r:RelL X.K A H ws us){w:W}{v:V}(rw':Rel X.K A H w v) :
  EndV X.w X.K A H (S.set i (.lst ws)) w v (cb H p (.lst us)):=by
 obtain⟨so',ex⟩:=so.write (kO e) ea r;exact⟨A,ex,so',rw'.mono ex⟩
theorem n8:LMeth X "list.append" iB:=by
 intro pins s σ H A S x a u xs vs us w S' I so rx ru rl rv e;cases rx with
 | ref ea=>
  cases rl with
  | nil=>cases e
  | cons r t=>
   cases t with
   | cons _ _=>cases e
   | nil=>
    simp only[iB]at e;split at e
    ·rename_i ys hy;split at e
     ·rename_i hl;cases e;obtain⟨vs',h1,r1⟩:=eM so hy ea;rw[r1.length]at hl;exact MtR.go uN I ru rv ⟨_,_,_,rfl,rfl,h1,hl,jf so hy ea (r1.append (.cons r .nil)) .non⟩
     ·cases e
    ·cases e
 | _=>cases e
noncomputable def iC (x:W)(xs:List W)(S:aa):Option (W×aa):=match x,xs with
 | .ref i,[.ref j]=>match pH S i,pH S j with
  | some ys,some zs=>if ys.length+zs.length<=sizeLine then some (.non,S.set i (.lst (ys++zs)))else none
  | _,_=>none
 | _,_=>none
theorem og:LMeth X "list.extend" iC:=by
 intro pins s σ H A S x a u xs vs us w S' I so rx ru rl rv e;cases rx with
 | ref ea=>
  cases rl with
  | nil=>cases e
  | cons r t=>
   cases t with
   | cons _ _=>cases r <;> cases e
   | nil=>
    cases r with
    | ref eb=>
     simp only[iC]at e;split at e
     ·rename_i ys zs hy hz;split at e
      ·rename_i hl;cases e;obtain⟨vs',h1,r1⟩:=eM so hy ea;obtain⟨vs2,h2,r2⟩:=eM so hz eb;rw[r1.length,r2.length]at hl;exact MtR.go uO I ru rv ⟨_,_,_,_,rfl,rfl,h1,h2,hl,jf so hy ea (r1.append r2) .non⟩
      ·cases e
     ·cases e
    | _=>cases e
 | _=>cases e
noncomputable def As (x:W)(xs:List W)(S:aa):Option (W×aa):=match x,xs with
 | .ref i,[.int k]=>match pH S i with
  | some ys=>if -(2 ^ 63)<=k/\k < 2 ^ 63 then match seqIndex? k ys.length with
   | some j=>match ys[j]? with
    | some y=>some (y,S.set i (.lst (ys.eraseIdx j)))
    | none=>none
   | none=>none
   else none
  | none=>none
 | _,_=>none
theorem uX:LMeth X "list.pop" As:=by
 intro pins s σ H A S x a u xs vs us w S' I so rx ru rl rv e;cases rx with
 | ref ea=>
  cases rl with
  | nil=>cases e
  | cons r t=>
   cases t with
   | cons _ _=>cases r <;> cases e
   | nil=>
    cases r with
    | int=>
     simp only[As]at e;split at e
     ·rename_i ys hy;split at e
      ·rename_i hk;split at e
       ·rename_i j hj;split at e
        ·rename_i y hyj;cases e;obtain⟨vs',h1,r1⟩:=eM so hy ea;obtain⟨v',h2,r2⟩:=r1.get hyj;rw[r1.length]at hj;exact MtR.go wz I ru rv ⟨_,_,_,_,_,rfl,rfl,h1,hk.1,hk.2,hj,h2,jf so hy ea (r1.eraseIdx j) r2⟩
        ·cases e
       ·cases e
      ·cases e
     ·cases e
    | _=>cases e
 | _=>cases e
noncomputable def jg:List W->Option (List Str)
 | []=>some []
 | .str x::xs=>(jg xs).map (x :: ·)
 | _::_=>none
noncomputable def sZ (x:W)(xs:List W)(S:aa):Option (W×aa):=match x,xs with
 | .str x,[y]=>match eW S y with
  | some ys=>match jg ys with
   | some zs=>if (zs.map (·.length)).sum+zs.length*x.length<=16777216 then some (.str (Txt.join x zs),S)else none
   | none=>none
  | none=>none
 | _,_=>none
theorem kR:∀ {ws:List W} {vs:List V} {us:List Value} {zs:List Str},RelL X.K A H ws vs->Vals vs us->jg ws=some zs->StrsAre us zs
 | _,_,_,zs,.nil,.nil,e=>by cases e; exact .nil
 | _,_,_,zs,.cons r t,.cons q p,e=>by
  cases r with
  | str=>
   simp only[jg,Option.map_eq_some_iff]at e;obtain⟨z,e1,e2⟩:=e;subst e2;obtain⟨tk,rfl⟩ : ∃ t,_=Value.str _ t:=q;exact .cons _ tk (kR t p e1)
  | _=>cases e
theorem rZ:LMeth X "str.join" sZ:=by
 intro pins s σ H A S x a u xs vs us w S' I so rx ru rl rv e;cases rx with
 | str=>
  cases rl with
  | nil=>cases e
  | cons r t=>
   cases t with
   | cons _ _=>cases e
   | nil=>
    simp only[sZ]at e;split at e
    ·rename_i ys hy;split at e
     ·rename_i zs hz;split at e
      ·rename_i hl;cases e;obtain⟨p,vs',rfl,hq,r1⟩:=n0 (pins:=pins) (σ:=σ) (s:=s) so r hy;obtain⟨t0,rfl⟩ : ∃ t,u=Value.str _ t:=ru;obtain⟨u1,rfl,ru1⟩:=mH rv;have ru1':u1=Value.ref p:=ru1;subst ru1';rcases hq with hq|hq
       ·obtain⟨its,rr,pl,hz'⟩:=I.list hq;exact join_list pl.isList (by simpa using kR r1 rr hz) hl fun t' k=>⟨.str _,H,A,I.tok _,⟨_,rfl⟩,.refl,so,.str⟩
       ·obtain⟨its,rr,pl,hz'⟩:=I.tuple hq;exact join_tuple pl (by simpa using kR r1 rr hz) hl fun t' k=>⟨.str _,H,A,I.tok _,⟨_,rfl⟩,.refl,so,.str⟩
      ·cases e
     ·cases e
    ·cases e
 | _=>cases e
noncomputable def gD (S:aa):W->Option Bool
 | .non=>some false
 | .bl b=>some b
 | .int i=>some (i != 0)
 | .str y=>if y.length<=sizeLine then some ((y.length:Int) != 0)else none
 | .tup xs=>some (!xs.isEmpty)
 | .ref i=>(iz S i).map fun xs=>!xs.isEmpty
theorem jN {ws:List W}{vs:List V}(r:RelL X.K A H ws vs):(!ws.isEmpty) = !vs.isEmpty:=by cases r <;> rfl
theorem G7 {x:W}{a:V}{u:Value}{k:Bool}{Q:Bool->Shared->Prop}(I:Inv X pins σ H s)(so:StoreOk X.w X.K A H S)(rx:Rel X.K A H x a)(ru:RelV a u)(e:gD S x=some k)(hq:∀ s',Inv X pins σ H s'->Q k s') :
  wpAny (model X.prog X.w) X.A (truthy u) Q X.xe s:=by
 refine bS (CQ pins s σ H a u (fun b H'=>b=k/\H'=H) I ru ⟨k,?_,rfl,rfl⟩) fun b s' ⟨H',I',e1,e2⟩=>?_
 ·cases rx with
  | non=>cases e; rfl
  | bl=>cases e; rfl
  | int=>cases e; rfl
  | str=>
   simp only[gD]at e;split at e
   ·cases e; exact⟨by assumption,rfl⟩
   ·cases e
  | tup h1 r1=>cases e; exact .inr (.inl ⟨_,h1,jN r1⟩)
  | ref ea=>
   simp only[gD,Option.map_eq_some_iff]at e;obtain⟨ws,hw,e2⟩:=e;subst e2;obtain⟨vs,h1,r1⟩:=cw so hw ea;exact .inl ⟨_,h1,jN r1⟩
 ·subst e1 e2;exact hq s' I'
end
noncomputable def cC (w:World):Obj:={ cls:=.type "set",dict:=none,data:=.set #[] 0 (.fresh 0 0 (!eT w)) }
section
variable {prog:Program} {w:World} {A:Around} {E:Value->Shared->Prop} {s:Shared} {R:Result->Shared->Prop} {I:Addr} {fp wr:List Addr} {G:Array GenState->Array GenState->Prop} {n:Nat} {P:Nat->Value->Prop} {St:Nat->Shared->Prop}
theorem w8 (a:Value){Q₁:Value->Shared->Prop}(h:Q₁ (.ref s.heap.objs.size) { s with heap:=s.heap.push (cC w) }):codeAny (model prog w) A (.call (.builtin "set.__new__") ⟨[.type "set",a],[]⟩) (wants Q₁ E) s:=by
 refine codeAny_of_tree ?_;show wpAny _ A.in1 (checkBuiltinCall "set.__new__" ⟨[.type "set",a],[]⟩ >>= fun _=>again (.builtin "set.__new__" ⟨[.type "set",a],[]⟩)) _ _ s
 refine Ij (KH (F.newCall_set_1 a) (Il ⟨Jz F.plain_set_new _,IY F.entry_set_new ?_⟩));rw[Around.under_plainId F.plain_set_new _];unfold Builtin.«set.__new__» Builtin.Frozenset.newClass;have hsub:=PySem.sub_set_self;obtain⟨hp,g,d,tk,os⟩:=s;dsimp only
 wp_walk
 refine J0 (Il ?_);dsimp only;simp only[newObj];exact Ij (wpAny_alloc (Il (Il h)))
end
theorem fT:Slot "set_iterator" "__next__" "set_iterator.__next__":=.of (owner:="set_iterator") (n:="__next__") (by rw[typeLookup_type,builtinLookup_eq_fast]; kernel_rfl) (by decide +kernel) (by decide +kernel) (by decide +kernel) (by first|exact .inl (by decide +kernel)|exact .inr (by decide +kernel)) (by rw[isSubtype_type]; kernel_rfl)
theorem pT:Slot "set_iterator" "__iter__" "set_iterator.__iter__":=.of (owner:="set_iterator") (n:="__iter__") (by rw[typeLookup_type,builtinLookup_eq_fast]; kernel_rfl) (by decide +kernel) (by decide +kernel) (by decide +kernel) (by first|exact .inl (by decide +kernel)|exact .inr (by decide +kernel)) (by rw[isSubtype_type]; kernel_rfl)
theorem uY:entryFor table "set_iterator.__next__" = some Builtin.«set_iterator.__next__»:=entryFor_of_tree (by kernel_rfl)
theorem r0:entryFor table "set.__iter__" = some Builtin.«frozenset.__iter__»:=entryFor_alias (id':="frozenset.__iter__") (by kernel_rfl) rfl (by decide +kernel) (by kernel_rfl)
theorem w9 (a:Value):argsOk "set_iterator.__next__" ⟨[a],[]⟩:=by unfold argsOk; kernel_rfl
section
variable {α:Type} {prog:Program} {w:World} {A:Around} {E:Value->Shared->Prop} {s:Shared}
theorem uZ {src:Source}{n:Nat}{Q:Nat->Shared->Prop}(hn:n≠0)(h:∀ i dr,i < n->Q i { s with drawn:=dr }):wpAny (model prog w) A (choose src n) Q E s:=fun _ _ _=>⟨hn,h _ _ (Nat.mod_lt _ (Nat.pos_of_ne_zero hn))⟩
theorem iD:∀ {l:List α} {i:Nat} (h:i < l.length),(l[i]::l.eraseIdx i).Perm l
 | x::l,0,_=>.refl _
 | x::l,i+1,h=>(List.Perm.swap _ _ _).trans ((iD (l:=l) (i:=i) (by simpa using h)).cons x)
theorem kS:∀ (n:Nat) (xs:List α) {s:Shared} {Q:List α->Shared->Prop},xs.length=n->(∀ ys dr,ys.Perm xs->Q ys { s with drawn:=dr })->wpAny (model prog w) A (drawOrder n xs) Q E s
 | 0,xs,s,Q,hl,h=>by
  obtain rfl:=JJ.mp hl;exact Il (h [] s.drawn .nil)
 | n+1,[],s,Q,hl,h=>by cases hl
 | n+1,x::xs,s,Q,hl,h=>by
  unfold drawOrder;refine Ij (uZ (by simp) fun i dr hi=>?_)
  rw[List.getElem?_eq_getElem hi];dsimp only;refine Ij (kS n _ (by rw[List.length_eraseIdx_of_lt hi,hl]; rfl) fun ys dr' hp=>Il (h _ dr' ?_))
  exact(hp.cons _).trans (iD hi)
theorem tf {next:Nat->Nat}:∀ (f k:Nat) (left:List α) (out:Array α),f=left.length->(pickOrder.go next f k left out).toList.Perm (out.toList++left)
 | 0,k,left,out,h=>by
  obtain rfl:=JJ.mp h.symm;simp[pickOrder.go]
 | f+1,k,left,out,h=>by
  unfold pickOrder.go;have hp:0 < left.length:=by omega
  have hi:next k % left.length < left.length:=Nat.mod_lt _ hp;rw[List.getElem?_eq_getElem hi];dsimp only;refine(tf f (k+1) _ _ (by rw[List.length_eraseIdx_of_lt hi]; omega)).trans ?_
  rw[Array.toList_push,(JK)];exact(iD hi).append_left _
theorem gq {next:Nat->Nat}{xs:Array α}:(pickOrder next xs).toList.Perm xs.toList:=by
 have:=tf (next:=next) xs.size 0 xs.toList #[] (by simp)
 simpa [pickOrder]using this
noncomputable def SIt (I:Addr)(f r:Value)(i n ep:Nat)(h:Heap):Prop:=h.get? I=some { cls:=.type "set_iterator",data:=.fields #[f,.int i 0,r,.int n 0,.int ep 0] }
theorem SIt.type {I:Addr}{f r:Value}{i n ep:Nat}(x:SIt I f r i n ep s.heap):s.TypeIs (.ref I) "set_iterator":=⟨_,x,rfl⟩
theorem pU {I:Addr}{Q:Option Value->Shared->Prop}{f r:Value}{i n ep:Nat}(x:SIt I f r i n ep s.heap)(h:wpAny (model prog w) A.in1 (Builtin.«set_iterator.__next__» ⟨[.ref I],[]⟩) (fun fin s'=>∃ v,fin=.done (.ret v)/\Q (some v) s') (fun e s'=>wpAny (model prog w) A (do if <- isInstance e (.type "StopIteration")then pure none else throw e) Q E s') s):wpAny (model prog w) A (pyNext (.ref I)) Q E s:=by
 unfold pyNext;refine Ij (wpAny_attempt (Jw (name:=Str.ofString "__next__") x.type fT (Ji fT x.type uY ?_ (w9 _))));exact Jt h (fun _ _ ⟨v,e,q⟩=>⟨v,e,Il q⟩) fun _ _ q=>q
noncomputable def EZ (prog:Program)(w:World)(A:Around)(Q:Option Value->Shared->Prop)(E:Value->Shared->Prop)(e:Value)(s':Shared):Prop:=wpAny (model prog w) A (do if <- isInstance e (.type "StopIteration")then pure none else throw e) Q E s'
theorem pV {Q:Option Value->Shared->Prop}{Q2:PySem.Fin->Shared->Prop}(hh:A.handled=none)(h:∀ h',(∀ b o,s.heap.get? b=some o->h'.get? b=some o)->Q none { s with heap:=h' }):wpAny (model prog w) A.in1 (newExc (.type "StopIteration") [] >>= fun x=>raiseNew x) Q2 (EZ prog w A Q E) s:=by
 refine Ij ?_;simp only[newExc,newTuple];refine Ij (IP ?_ (by size_fits))
 refine Ij (m:=firstArgMember _ _) (KH (a:=Value.none) (by first|rfl|(simp only[firstArgMember]; rfl)) ?_)
 refine IP ?_ (by size_fits)
 simp only[raiseNew];refine Ij (wpAny_handled ?_);rw[show A.in1.handled=none from hh]
 refine Ij (Il (wpAny_throw ?_));refine Ij (wpAny_isInstance (T:="StopIteration") (b:=true) ⟨_,Ix _ rfl,rfl⟩ isSubtype_stop ?_);exact Il (h _ fun b o e=>Ik _ (Ik _ e))
section
variable {I a:Addr} {f r:Value} {i n ep sl:Nat} {o:Obj} {es:Array (Int×Value)} {t:SetTable} {Q:Option Value->Shared->Prop}
theorem gr {Q:Unit->Shared->Prop}{vs:Array Value}{k:Nat}{v:Value}(x:s.heap.get? I=some { cls:=.type "set_iterator",data:=.fields vs })(hk:k < vs.size)(h:∀ h',h'.get? I=some { cls:=.type "set_iterator",data:=.fields (vs.setIfInBounds k v) }->Heap.SameBut I s.heap h'->Q () { s with heap:=h' }):wpAny (model prog w) A (setField (.ref I) k v) Q E s:=wpAny_setField_rec x hk h
theorem gv (x:SIt I (.int sl 0) (.ref a) i n ep s.heap)(ho:s.heap.get? a=some o)(hd:o.data=.set es ep t)(hf:t.fits es.size=true)(hn:es.size=n)(hh:A.handled=none){rs:Option (Value×Nat)}
  (hx:∀ Q':Option (Value×Nat)->Shared->Prop,Q' rs s->wpAny (model prog w) A.in1 (setNext a sl i ep) Q' (EZ prog w A Q E) s)
  (h1:∀ v sl',rs=some (v,sl')->∀ h',SIt I (.int sl' 0) (.ref a) (i+1) n ep h'->(∀ b o,b≠I->s.heap.get? b=some o->h'.get? b=some o)->Q (some v) { s with heap:=h' })
  (h2:rs=none->∀ h',(∀ b o,b≠I->s.heap.get? b=some o->h'.get? b=some o)->Q none { s with heap:=h' }):wpAny (model prog w) A (pyNext (.ref I)) Q E s:=by
 refine pU x ?_;refine Ij (Il ?_);show wpAny _ _ (fieldsOf (.ref I) >>= _) _ _ s;refine Ij (wpAny_fieldsOf x rfl ?_);refine Ij (wpAny_setEntries_of ho hd hf ?_);rw[if_neg (by simp[hn])]
 refine Ij (hx _ ?_);cases rs with
 | some p=>
  obtain⟨v,sl'⟩:=p;dsimp only;refine Ij (gr x (by simp) fun h' x' sb'=>?_)
  refine Ij (gr x' (by simp) fun h2 x2 sb2=>?_)
  refine Il ⟨v,rfl,h1 v sl' rfl h2 ?_ fun b o hb e=>?_⟩
  ·simpa [SIt,rawInt]using x2
  ·rw[sb2.2 b hb,sb'.2 b hb]; exact e
 | none=>
  dsimp only;refine Ij (gr x (by simp) fun h' x' sb'=>?_)
  refine pV hh fun h'' k=>h2 rfl h'' fun b o hb e=>k b o (by rw[sb'.2 b hb]; exact e)
theorem mR {tp:Addr}{ps:List Nat}(x:SIt I (.ref tp) (.ref a) i n ep s.heap)(ho:s.heap.get? a=some o)(hd:o.data=.set es ep t)(hf:t.fits es.size=true)(hn:es.size=n)(hh:A.handled=none)
  (ht:s.heap.get? tp=some { cls:=.type "tuple",data:=.seq (ps.map fun k=>rawInt (k:Nat)).toArray 0 })
  (h1:∀ p e,ps[i]?=some p->es[p]?=some e->∀ h',SIt I (.ref tp) (.ref a) (i+1) n ep h'->(∀ b o,b≠I->s.heap.get? b=some o->h'.get? b=some o)->Q (some e.2) { s with heap:=h' })
  (hp:∀ p,ps[i]?=some p->∃ e,es[p]?=some e)
  (h2:ps[i]?=none->∀ h',(∀ b o,b≠I->s.heap.get? b=some o->h'.get? b=some o)->Q none { s with heap:=h' }):wpAny (model prog w) A (pyNext (.ref I)) Q E s:=by
 refine pU x ?_;refine Ij (Il ?_);show wpAny _ _ (fieldsOf (.ref I) >>= _) _ _ s;refine Ij (wpAny_fieldsOf x rfl ?_);refine Ij (wpAny_setEntries_of ho hd hf ?_);rw[if_neg (by simp[hn])]
 refine Ij (J1 ht rfl ?_);dsimp only;have hg:(ps.map fun k=>rawInt (k:Nat)).toArray[(i:Int).toNat]?=(ps[i]?).map fun k=>rawInt (k:Nat):=by simp
 rw[hg];cases q:ps[i]? with
 | some p=>
  obtain⟨e,he⟩:=hp p q;show wpAny _ _ (setNextDrawn a (p:Int).toNat (ep:Int).toNat >>= _) _ _ s;unfold setNextDrawn;refine Ij (Ij (Jd ho hd hf ?_));dsimp only;rw[if_neg (by simp)]
  simp only[Int.toNat_natCast,he];refine Il ?_;refine Ij (gr x (by simp) fun h' x' sb'=>?_)
  refine Il ⟨e.2,rfl,h1 p e q he h' ?_ fun b o hb z=>?_⟩
  ·simpa [SIt,rawInt]using x'
  ·rw[sb'.2 b hb]; exact z
 | none=>
  dsimp only[Option.map_none];refine Ij (gr x (by simp) fun h' x' sb'=>?_)
  refine Ij (gr x' (by simp) fun h3 x3 sb3=>?_)
  refine pV hh fun h'' k=>h2 q h'' fun b o hb e=>k b o (by rw[sb3.2 b hb,sb'.2 b hb]; exact e)
theorem mS {E:Value->Shared->Prop}{Q:Option (Value×Nat)->Shared->Prop}(ho:s.heap.get? a=some o)(hd:o.data=.set es ep t)(hf:t.fits es.size=true)(hb:eT w=true)(h:Q ((((pickOrder (w.params.setOrder a ep) es).toList.map (·.2))[i]?).map fun v=>(v,sl)) s):wpAny (model prog w) A (setNext a sl i ep) Q E s:=by
 unfold setNext;refine Ij (Jd ho hd hf ?_);dsimp only;have ask1:∀ {Q:Bool->Shared->Prop},Q true s->wpAny (model prog w) A setsByText Q E s:=fun {Q} hq=>by
  unfold setsByText;refine Ij (J0 (Il ?_));show Q (eT w) s;rw[hb]; exact hq
 refine Ij (ask1 ?_);rw[if_pos rfl,if_neg (by simp)]
 refine Ij ?_;unfold setWalk;refine Ij (Jd ho hd hf ?_);dsimp only;refine Ij (ask1 ?_);rw[if_pos rfl];refine Ij (J0 (Il (Il ?_)));have e:(((pickOrder (w.params.setOrder a ep) es)[i]?).map fun e=>(e.2,sl))=((((pickOrder (w.params.setOrder a ep) es).toList.map (·.2))[i]?).map fun v=>(v,sl)):=by
  rw[(Iu),(Jl),Option.map_map]; rfl
 show Q (((pickOrder (w.params.setOrder a ep) es)[i]?).map fun e=>(e.2,sl)) s
 rw[e]; exact h
theorem pW {E:Value->Shared->Prop}{Q:Option (Value×Nat)->Shared->Prop}(ho:s.heap.get? a=some o)(hd:o.data=.set es ep t)(hf:t.fits es.size=true)(hb:eT w=false)(hl:t.led=true)(h1:es.size<=1)(hi:i=0/\sl=0\/i=es.size/\sl=(t.place.getD 0 0)+1)
  (h:Q (((es.toList.map (·.2))[i]?).map fun v=>(v,t.place.getD 0 0+1)) s):wpAny (model prog w) A (setNext a sl i ep) Q E s:=by
 unfold setNext;refine Ij (Jd ho hd hf ?_);dsimp only;have ask1:∀ {Q:Bool->Shared->Prop},Q false s->wpAny (model prog w) A setsByText Q E s:=fun {Q} hq=>by
  unfold setsByText;refine Ij (J0 (Il ?_));show Q (eT w) s;rw[hb]; exact hq
 refine Ij (ask1 ?_);rw[if_neg Bool.false_ne_true];refine J5 (fun hc=>absurd hc (by show ¬ ((!t.plain&&decide (es.size > 1))=true); simp; omega)) (fun _=>?_)
 refine Ij ?_;show wpAny _ _ (if (!t.led && !es.isEmpty)=true then unsupported "set:maker-not-led" else pure ()) _ _ s
 rw[if_neg (by simp[hl])]
 refine Il (Il ?_);obtain⟨es⟩:=es;obtain⟨mk,pl,dm,fg,ld,mv,pn⟩:=t;obtain⟨pl⟩:=pl;simp only[SetTable.fits,Bool.and_eq_true,beq_iff_eq]at hf
 match es,pl,hf.1,h1 with
 | [],[],_,_=>
  have:i=0:=by rcases hi with z|z <;> simpa using z.1
  subst this;exact h
 | [e],[j],_,_=>
  rcases hi with⟨rfl,rfl⟩|⟨rfl,rfl⟩
  ·exact h
  ·have e1:SetTable.below #[j] (j+1)=1:=by
    show SetTable.below.go #[j] (j+1) 1 0 1=1;simp[SetTable.below.go]
   have e2:(({ mask:=mk,place:=#[j],dummies:=dm,finger:=fg,led:=ld,moves:=mv,plain:=pn }:SetTable).place.getD 0 0)=j:=rfl;show Q (match (#[e]:Array (Int×Value))[SetTable.below #[j] (j+1)]?,(#[j]:Array Nat)[SetTable.below #[j] (j+1)]? with|some (_,x),some j=>some (x,j+1)|_,_=>none) s
   rw[e1];exact h
 | e::e'::es,_,_,z=>simp at z
 | [],_::_,z,_=>simp at z
 | [_],[],z,_=>simp at z
 | [_],_::_::_,z,_=>simp at z
theorem kT {E:Value->Shared->Prop}{Q:Option (Value×Nat)->Shared->Prop}(ho:s.heap.get? a=some o)(hd:o.data=.set es ep t)(hf:t.fits es.size=true)(hb:eT w=false)(hl:t.led=true)(hp:t.plain=true)(hw:SetTable.below t.place sl=i)
  (h:Q (((es.toList.map (·.2))[i]?).map fun v=>(v,t.place.getD i 0+1)) s):wpAny (model prog w) A (setNext a sl i ep) Q E s:=by
 unfold setNext;refine Ij (Jd ho hd hf ?_);dsimp only;have ask1:∀ {Q:Bool->Shared->Prop},Q false s->wpAny (model prog w) A setsByText Q E s:=fun {Q} hq=>by
  unfold setsByText;refine Ij (J0 (Il ?_));show Q (eT w) s;rw[hb]; exact hq
 refine Ij (ask1 ?_);rw[if_neg Bool.false_ne_true];refine J5 (fun hc=>absurd hc (by show ¬ ((!t.plain&&decide (es.size > 1))=true); simp[hp])) (fun _=>?_)
 refine Ij ?_;show wpAny _ _ (if (!t.led && !es.isEmpty)=true then unsupported "set:maker-not-led" else pure ()) _ _ s
 rw[if_neg (by simp[hl])]
 refine Il (Il ?_);rw[hw];have hz:t.place.size=es.size:=by
  simp only[SetTable.fits,Bool.and_eq_true,beq_iff_eq]at hf;exact hf.1
 rw[(Iu),(Jl)]at h
 by_cases hi:i < es.size
 ·have e1:es[i]?=some es[i]:=by simp[hi]
  have e2:t.place[i]?=some (t.place.getD i 0):=by simp[Array.getD,hz,hi]
  rw[e1]at h ⊢;rw[e2];exact h
 ·have e1:es[i]?=none:=by simp; omega
  rw[e1]at h ⊢;exact h
end
end
theorem u4:entryFor table "set_iterator.__iter__" = some Builtin.«dict_keyiterator.__iter__»:=entryFor_alias (id':="dict_keyiterator.__iter__") (by kernel_rfl) rfl (by decide +kernel) (by kernel_rfl)
theorem xa (a:Value):argsOk "set_iterator.__iter__" ⟨[a],[]⟩:=by unfold argsOk; kernel_rfl
section
variable {prog:Program} {w:World} {A:Around} {E:Value->Shared->Prop} {s:Shared} {I a tp:Addr} {f r:Value} {i n ep sl:Nat} {o:Obj} {es:Array (Int×Value)} {t:SetTable}
theorem iE {Q:Value->Shared->Prop}(x:SIt I f r i n ep s.heap)(h:Q (.ref I) s):wpAny (model prog w) A (pyIter (.ref I)) Q E s:=by
 refine wpAny_pyIter_slot x.type pT (Ji pT x.type u4 ?_ (xa _));show wpAny _ _ (ret (.ref I)) _ _ s;exact Il ⟨_,rfl,"set_iterator",_,x.type,fT.lookup,h⟩
theorem pX {b x y:Addr}(h:b∉[x]):b≠x:=fun z=>h (by simp[z])
theorem r4 (hh:A.handled=none)(hne:a≠I)(hd:o.data=.set es ep t)(hf:t.fits es.size=true)(hb:eT w=true) :
  Walks prog w A I [I,a] [I] es.size (fun i v=>((pickOrder (w.params.setOrder a ep) es).toList.map (·.2))[i]?=some v) (fun i h=>SIt I (.int 0 0) (.ref a) i es.size ep h/\h.get? a=some o) where
 sub:=fun b hb=>by simp at hb; simp[hb]
 frame:=fun _ _ _ st hk=>⟨hk I (by simp) _ st.1,hk a (by simp) _ st.2⟩
 item:=fun i s Q E hi st hQ=>by
  have hl:((pickOrder (w.params.setOrder a ep) es).toList.map (·.2)).length=es.size:=by rw[(Im),gq.length_eq,(Iz)]
  refine gv (sl:=0) st.1 st.2 hd hf rfl hh (fun Q' hq=>mS st.2 hd hf hb hq) (fun v sl' e h' x' k=>?_) fun e h' k=>?_
  ·obtain⟨v',q,e⟩:=Io.mp e;cases e;exact hQ v h' s.toks q ⟨x',k a _ hne st.2⟩ fun b o hb e=>k b o (pX (y:=b) hb) e
  ·rw[Option.map_eq_none_iff,(Jj)]at e;omega
 done:=fun s Q E st hQ=>by
  have hl:((pickOrder (w.params.setOrder a ep) es).toList.map (·.2)).length=es.size:=by rw[(Im),gq.length_eq,(Iz)]
  refine gv (sl:=0) st.1 st.2 hd hf rfl hh (fun Q' hq=>mS st.2 hd hf hb hq) (fun v sl' e h' x' k=>?_) fun e h' k=>hQ h' s.toks fun b o hb e=>k b o (pX (y:=b) hb) e
  obtain⟨v',q,e⟩:=Io.mp e;have:=(Ir.mp q).1;omega
 self:=fun _ _ _ _ st hQ=>iE st.1 hQ
theorem u5 (hh:A.handled=none)(hne:a≠I)(hd:o.data=.set es ep t)(hf:t.fits es.size=true)(hb:eT w=false)(hl:t.led=true)(h1:es.size<=1) :
  Walks prog w A I [I,a] [I] es.size (fun i v=>(es.toList.map (·.2))[i]?=some v) (fun i h=>SIt I (.int ((if i=0 then 0 else t.place.getD 0 0+1:Nat):Int) 0) (.ref a) i es.size ep h/\h.get? a=some o) where
 sub:=fun b hb=>by simp at hb; simp[hb]
 frame:=fun _ _ _ st hk=>⟨hk I (by simp) _ st.1,hk a (by simp) _ st.2⟩
 item:=fun i s Q E hi st hQ=>by
  have i0:i=0:=by omega
  subst i0;refine gv st.1 st.2 hd hf rfl hh (fun Q' hq=>pW st.2 hd hf hb hl h1 (.inl ⟨rfl,rfl⟩) hq) (fun v sl' e h' x' k=>?_) fun e h' k=>?_
  ·obtain⟨v',q,e⟩:=Io.mp e;cases e;exact hQ v h' s.toks q ⟨x',k a _ hne st.2⟩ fun b o hb e=>k b o (pX (y:=b) hb) e
  ·rw[Option.map_eq_none_iff,(Jj),(Im),(Iz)]at e;omega
 done:=fun s Q E st hQ=>by
  refine gv st.1 st.2 hd hf rfl hh (fun Q' hq=>pW st.2 hd hf hb hl h1 ?_ hq) (fun v sl' e h' x' k=>?_) fun e h' k=>hQ h' s.toks fun b o hb e=>k b o (pX (y:=b) hb) e
  ·by_cases h0:es.size=0
   ·exact .inl ⟨h0,by rw[if_pos h0]⟩
   ·exact .inr ⟨rfl,by rw[if_neg h0]⟩
  ·obtain⟨v',q,e⟩:=Io.mp e;have:=(Ir.mp q).1;rw[(Im),(Iz)]at this;omega
 self:=fun _ _ _ _ st hQ=>iE st.1 hQ
theorem pY (hh:A.handled=none)(hne:a≠I)(hd:o.data=.set es ep t)(hf:t.fits es.size=true)(hb:eT w=false)(hl:t.led=true)(hp:t.plain=true)(hw:fw t es.size=true) :
  Walks prog w A I [I,a] [I] es.size (fun i v=>(es.toList.map (·.2))[i]?=some v) (fun i h=>SIt I (.int ((if i=0 then 0 else t.place.getD (i - 1) 0+1:Nat):Int) 0) (.ref a) i es.size ep h/\h.get? a=some o):=by
 have go:∀ i,i<=es.size->SetTable.below t.place (if i=0 then 0 else t.place.getD (i - 1) 0+1)=i:=fun i hi=>by
  simp only[fw,Bool.and_eq_true,decide_eq_true_eq,List.all_eq_true,List.mem_range]at hw
  by_cases h0:i=0
  ·rw[if_pos h0,h0]; exact hw.1
  ·rw[if_neg h0,hw.2 (i - 1) (by omega)]; omega
 exact {
  sub:=fun b hb=>by simp at hb; simp[hb]
  frame:=fun _ _ _ st hk=>⟨hk I (by simp) _ st.1,hk a (by simp) _ st.2⟩
  item:=fun i s Q E hi st hQ=>by
   refine gv st.1 st.2 hd hf rfl hh (fun Q' hq=>kT st.2 hd hf hb hl hp (go i (by omega)) hq) (fun v sl' e h' x' k=>?_) fun e h' k=>?_
   ·obtain⟨v',q,e⟩:=Io.mp e;cases e;exact hQ v h' s.toks q ⟨by rw[if_neg (Nat.succ_ne_zero i)]; exact x',k a _ hne st.2⟩ fun b o hb e=>k b o (pX (y:=b) hb) e
   ·rw[Option.map_eq_none_iff,(Jj),(Im),(Iz)]at e;omega
  done:=fun s Q E st hQ=>by
   refine gv st.1 st.2 hd hf rfl hh (fun Q' hq=>kT st.2 hd hf hb hl hp (go _ (Ip _)) hq) (fun v sl' e h' x' k=>?_) fun e h' k=>hQ h' s.toks fun b o hb e=>k b o (pX (y:=b) hb) e
   obtain⟨v',q,e⟩:=Io.mp e;have:=(Ir.mp q).1;rw[(Im),(Iz)]at this;omega
  self:=fun _ _ _ _ st hQ=>iE st.1 hQ }
theorem pZ {ps:List Nat}(hh:A.handled=none)(hne:a≠I)(hnt:tp≠I)(hd:o.data=.set es ep t)(hf:t.fits es.size=true)(hp:ps.Perm (List.range es.size)) :
  Walks prog w A I [I,a,tp] [I] es.size (fun i v=>(ps.map fun p=>(es.getD p (0,.none)).2)[i]?=some v) (fun i h=>SIt I (.ref tp) (.ref a) i es.size ep h/\h.get? a=some o/\h.get? tp=some { cls:=.type "tuple",data:=.seq (ps.map fun k=>rawInt (k:Nat)).toArray 0 }) where
 sub:=fun b hb=>by simp at hb; simp[hb]
 frame:=fun _ _ _ st hk=>⟨hk I (by simp) _ st.1,hk a (by simp) _ st.2.1,hk tp (by simp) _ st.2.2⟩
 item:=fun i s Q E hi st hQ=>by
  have lt:∀ {p},ps[i]?=some p->p < es.size:=fun q=>IU.mp (hp.mem_iff.mp (IA q))
  refine mR st.1 st.2.1 hd hf rfl hh st.2.2 (fun p e q qe h' x' k=>?_) (fun p q=>⟨es[p]'(lt q),by simp[lt q]⟩) fun e h' k=>?_
  ·refine hQ e.2 h' s.toks ?_ ⟨x',k a _ hne st.2.1,k tp _ hnt st.2.2⟩ fun b o hb e=>k b o (pX (y:=b) hb) e
   rw[(Iu),q];simp[Array.getD,lt q];rw[Array.getElem?_eq_getElem (lt q)]at qe;cases qe; rfl
  ·rw[(Jj),hp.length_eq,(IS)]at e;omega
 done:=fun s Q E st hQ=>by
  refine mR st.1 st.2.1 hd hf rfl hh st.2.2 (fun p e q qe h' x' k=>?_) (fun p q=>?_) fun e h' k=>hQ h' s.toks fun b o hb e=>k b o (pX (y:=b) hb) e
  ·have:=(Ir.mp q).1;rw[hp.length_eq,(IS)]at this;omega
  ·have:=(Ir.mp q).1;rw[hp.length_eq,(IS)]at this;omega
 self:=fun _ _ _ _ st hQ=>iE st.1 hQ
end
section
variable {prog:Program} {w:World} {A:Around} {E:Value->Shared->Prop} {s:Shared} {a:Addr} {o:Obj} {xs:List Str} {es:Array (Int×Value)} {ep:Nat} {t:SetTable}
structure SetWalk (prog:Program)(w:World)(A:Around)(s:Shared)(a:Addr)(es:Array (Int×Value))(I:Addr)(h':Heap):Prop where
 ex:∃ (fp:List Addr) (St:Nat->Heap->Prop) (us:List Value) (n:Nat),us.Perm (es.toList.map (·.2))/\us.length=n/\Walks prog w A I fp [I] n (fun i v=>us[i]?=some v) St/\St 0 h'/\∀ b∈fp,b=a\/s.heap.objs.size<=b/\b < h'.objs.size
 new:s.heap.objs.size<=I
 keep:∀ b u,s.heap.get? b=some u->h'.get? b=some u
theorem xb {Q:Value->Shared->Prop}(hh:A.handled=none)(ho:s.heap.get? a=some o)(hex:o.ExactSet)(hd:o.data=.set es ep t)(hz:es.size<=sizeLine)(fit:t.fits es.size=true)(led:t.led = !eT w)(pl:t.plain=true->es.size=0\/fw t es.size=true)(h:∀ I h' dr,SetWalk prog w A s a es I h'->Q (.ref I) { s with heap:=h',drawn:=dr }):wpAny (model prog w) A (pyIter (.ref a)) Q E s:=by
 have hT:s.TypeIs (.ref a) "set":=⟨o,ho,hex.1⟩;have ha:a < s.heap.objs.size:=Iy ho;refine wpAny_pyIter_slot hT F.slot_set_iter (Ji F.slot_set_iter hT r0 ?_ (F.args_set_iter_1 _));unfold Builtin.«frozenset.__iter__»;refine Ij (Ij (Il ?_));show wpAny _ _ (pure a) _ _ s;refine Il ?_;unfold Builtin.Frozenset.sizeOf setDrawn;refine Ij (Ij (wpAny_setEntries_of ho hd fit (Il ?_)));refine Ij (Ij (Jd ho hd fit ?_));dsimp only;unfold setsByText;refine Ij (Ij (J0 (Il (Il ?_))));have oI:∀ (f:Value) (h0:Heap),(h0.push { cls:=.type "set_iterator",data:=.fields #[f,rawInt 0,.ref a,rawInt es.size,rawInt ep] }).get? h0.objs.size=some { cls:=.type "set_iterator",data:=.fields #[f,rawInt 0,.ref a,rawInt es.size,rawInt ep] }:=fun f h0=>Ix _ rfl
 refine J5 (fun hc=>?_) (fun hc=>?_)
 ·refine Ij (kS es.size _ IS fun ps dr hp=>?_)
  refine Ij (wpAny_newTuple ?_ (by rw[(Im),hp.length_eq,(IS)]; exact hz))
  have o1:=Ik (seqObj "tuple" (ps.map fun k=>rawInt (k:Nat)).toArray 0) ho
  refine Ij (wpAny_setEpoch_of o1 hd fit ?_);refine Ij (IP (Il ⟨_,rfl,"set_iterator",_,⟨_,oI _ _,rfl⟩,fT.lookup,?_⟩));have z1:(s.heap.push (seqObj "tuple" (ps.map fun k=>rawInt (k:Nat)).toArray 0)).objs.size=s.heap.objs.size+1:=Kr ..
  have W:=pZ (prog:=prog) (w:=w) (A:=A) (a:=a) (I:=(s.heap.push (seqObj "tuple" (ps.map fun k=>rawInt (k:Nat)).toArray 0)).objs.size) (tp:=s.heap.objs.size) (ps:=ps) hh (by rw[z1]; exact ID (JU ha)) (by rw[z1]; exact ID (Jx _)) hd fit hp
  have eL:(ps.map fun p=>(es.getD p (0,Value.none)).2).length=es.size:=by rw[(Im),hp.length_eq,(IS)]
  refine h _ _ dr ⟨⟨_,_,ps.map fun p=>(es.getD p (0,Value.none)).2,_,?_,eL,W,⟨oI _ _,Ik _ o1,Ik _ (Ix _ rfl)⟩,fun b hb=>?_⟩,by rw[z1]; exact JT _,fun b u e=>Ik _ (Ik _ e)⟩
  ·refine(hp.map _).trans ?_;have e:((List.range es.size).map fun p=>(es.getD p (0,Value.none)).2)=es.toList.map fun e=>e.2:=by
    apply Kh
    ·simp
    ·intro k h1 h2;simp only[List.length_map,List.length_range]at h1;simp[Array.getD,h1]
   rw[e]
  ·rw[(Kr),z1];simp only[List.mem_cons,List.not_mem_nil,or_false]at hb;rcases hb with rfl|rfl|rfl
   ·exact .inr ⟨by rw[z1]; exact JT _,by rw[z1]; exact Jx _⟩
   ·exact .inl rfl
   ·exact .inr ⟨Ip _,JU (Jx _)⟩
 ·refine Ij (Il (Ij (wpAny_setEpoch_of ho hd fit ?_)));refine Ij (IP (Il ⟨_,rfl,"set_iterator",_,⟨_,oI _ _,rfl⟩,fT.lookup,?_⟩));have near:∀ b∈[s.heap.objs.size,a],b=a\/s.heap.objs.size<=b/\b < (s.heap.push { cls:=.type "set_iterator",data:=.fields #[rawInt 0,rawInt 0,.ref a,rawInt es.size,rawInt ep] }).objs.size:=fun b hb=>by
   rw[(Kr)];simp only[List.mem_cons,List.not_mem_nil,or_false]at hb;rcases hb with rfl|rfl
   ·exact .inr ⟨Ip _,Jx _⟩
   ·exact .inl rfl
  cases hb:eT w with
  | true=>
   have W:=r4 (prog:=prog) (A:=A) (I:=s.heap.objs.size) hh (ID ha) hd fit hb;have eL:((pickOrder (w.params.setOrder a ep) es).toList.map (·.2)).length=es.size:=by rw[(Im),gq.length_eq,(Iz)]
   refine h _ _ s.drawn ⟨⟨[s.heap.objs.size,a],_,(pickOrder (w.params.setOrder a ep) es).toList.map (·.2),_,gq.map _,eL,W,⟨oI _ _,Ik _ ho⟩,near⟩,Ip _,fun b u e=>Ik _ e⟩
  | false=>
   have hl:t.led=true:=by rw[led,hb]; rfl
   have eL:(es.toList.map (·.2)).length=es.size:=by rw[(Im),(Iz)]
   by_cases hpw:t.plain=true/\fw t es.size=true
   ·have W:=pY (prog:=prog) (A:=A) (I:=s.heap.objs.size) hh (ID ha) hd fit hb hl hpw.1 hpw.2;refine h _ _ s.drawn ⟨⟨[s.heap.objs.size,a],_,es.toList.map (·.2),_,.refl _,eL,W,⟨oI _ _,Ik _ ho⟩,near⟩,Ip _,fun b u e=>Ik _ e⟩
   have h1:es.size<=1:=by
    cases hp:t.plain with
    | true=>
     rcases pl hp with z|z
     ·rw[z]; exact Jn _
     ·exact absurd ⟨hp,z⟩ hpw
    | false=>
     refine Nat.le_of_not_lt fun z=>hc ?_
     show((!eT w)&&((!t.plain)&&decide (es.size > 1)))=true;rw[hb,hp]
     simpa using z
   have W:=u5 (prog:=prog) (A:=A) (I:=s.heap.objs.size) hh (ID ha) hd fit hb hl h1;refine h _ _ s.drawn ⟨⟨[s.heap.objs.size,a],_,es.toList.map (·.2),_,.refl _,eL,W,⟨oI _ _,Ik _ ho⟩,near⟩,Ip _,fun b u e=>Ik _ e⟩
theorem xc {Q:Bool->Shared->Prop}(hT:s.TypeIs (.ref a) "set")(h:Q false s):wpAny (model prog w) A (Builtin.List.listLengthHint (.ref a)) Q E s:=by
 unfold Builtin.List.listLengthHint;refine Ij (wpAny_specialOf hT F.slot_set_len.lookup ?_);generalize hid:("set.__len__" : String)=k0
 wp_delta
 rw[show splitId k0=some ("set","__len__")from by subst hid; decide +kernel]
 subst hid;refine Ij (wpAny_isInstance (T:="set") (b:=true) hT PySem.sub_set_self ?_);refine J5 (fun z=>absurd z (by decide)) (fun _=>J5 (fun _=>?_) (fun z=>absurd (by decide +kernel) z))
 exact Ij (J3 hT (Il h))
theorem p4 {Q:List Value->Shared->Prop}(hh:A.handled=none)(ho:s.heap.get? a=some o)(hex:o.ExactSet)(hd:o.data=.set es ep t)(hz:es.size<=sizeLine)(fit:t.fits es.size=true)(led:t.led = !eT w)(pl:t.plain=true->es.size=0\/fw t es.size=true)
  (hQ:∀ h' tk dr us,(∀ b u,s.heap.get? b=some u->h'.get? b=some u)->s.heap.objs.size<=h'.objs.size->us.Perm (es.toList.map (·.2))->Q us { s with heap:=h',toks:=tk,drawn:=dr }):wpAny (model prog w) A (collect (.ref a)) Q E s:=by
 have ha:a < s.heap.objs.size:=Iy ho;unfold collect;refine Ij (Ky (IY F.entry_proto_collect ?_));rw[Around.under_plainId F.plain_proto_collect _];show wpAny _ A.in1 (newList [] >>= fun l=>again (.builtin "list.__iadd__" ⟨[l,.ref a],[]⟩)) _ _ s
 refine Ij (IP ?_);have oL:(s.heap.push { cls:=.type "list",data:=.seq ([]:List Value).toArray }).get? s.heap.objs.size=some { cls:=.type "list",data:=.seq #[] 0 }:=Ix _ rfl;have o1:=Ik { cls:=.type "list",data:=.seq ([]:List Value).toArray } ho;have z1:(s.heap.push { cls:=.type "list",data:=.seq ([]:List Value).toArray }).objs.size=s.heap.objs.size+1:=Kr ..;refine Il ⟨Jz F.plain_list_iadd _,IY F.entry_list_iadd ?_⟩;rw[Around.under_plainId F.plain_list_iadd _];show wpAny _ A.in1 (Builtin.List.listExtendWith (.ref s.heap.objs.size) (.ref a) (.ref s.heap.objs.size)) _ _ _;unfold Builtin.List.listExtendWith;refine Ij (J3 (T:="set") ⟨o,o1,hex.1⟩ ?_);have n1:Builtin.List.listSameRef (.ref s.heap.objs.size) (.ref a)=false:=by
  have:s.heap.objs.size≠a:=J2 ha;simp[Builtin.List.listSameRef,this]
 have n2:(Value.type "set" == Value.type "list")=false:=by decide
 have n3:(Value.type "set" == Value.type "tuple")=false:=by decide
 simp only[n1,n2,n3,Bool.or_false,Bool.false_eq_true,if_false];refine Ij (xb (A:=A.in1) (by simp[hh]) o1 hex hd hz fit led pl fun I h' dr W=>?_)
 obtain⟨⟨fp,St,us,n,hP,hn,W,st,hfp⟩,hI,kp⟩:=W;rw[z1]at hI;have oa:=kp a o o1;refine Ij (IW (xc ⟨o,oa,hex.1⟩ ?_));have oL1:=kp _ _ oL;have hD:s.heap.objs.size∉fp:=fun z=>by
  rcases hfp _ z with e|⟨e,_⟩
  ·exact J2 ha e
  ·rw[z1]at e; exact Nat.not_succ_le_self _ e
 refine J5 (fun _=>?_) (fun z=>absurd (by decide +kernel) z)
 refine Ij (wpAny_rule (Ij ?_));show wpAny _ _ (updateSeq s.heap.objs.size (·.push .none) >>= fun _=>updateSeq s.heap.objs.size (·.pop)) _ _ _
 refine Ij (Ks oL1 rfl ?_);have oL2:=JF (Obj.mapSeq (·.push Value.none)) oL1 rfl
 refine Ks (hz:=by seq_fits) oL2 rfl ?_
 have oL3:=JF (Obj.mapSeq (·.pop)) oL2 rfl
 have hnl:n<=sizeLine:=by rw[<- hn,hP.length_eq,(Im),(Iz)]; exact hz
 refine Il ⟨Jz PySem.F.plain_extend_loop _,codeAny_extend_loopS W.toS hnl s.heap.objs.size hD (.ref s.heap.objs.size) n 0 _ #[] _ rfl (Jn _) (W.frame 0 _ _ st fun b hb u e=>?_) oL3 (ItemsOf.nil _) fun s' acc c' mv oS hacc=>?_⟩
 ·have hb':b≠s.heap.objs.size:=fun z=>hD (z ▸ hb)
  exact(IM _ _ (Ne.symm hb')).trans ((IM _ _ (Ne.symm hb')).trans e)
 ·rw[Moved.eq_with mv];show wpAny (model prog w) A (do
    let o <- load s.heap.objs.size
    match o.data with
    | .seq xs _=>pure xs.toList
    | _=>unsupported "internal:collect") Q E _
  refine Ij (wpAny_load oS (Il ?_));have eU:acc.toList=us:=by
   apply List.ext_getElem?;intro i
   by_cases hi:i < n
   ·have h1:i < acc.size:=by rw[hacc.1]; exact hi
    have:=hacc.2 i acc[i] (by simp[h1])
    rw[this,(Jl)]; simp[h1]
   ·rw[List.getElem?_eq_none (by rw[Array.length_toList,hacc.1]; omega),List.getElem?_eq_none (by omega)]
  rw[eU];refine hQ _ _ dr us (fun b u e=>?_) (Kf (Iy oS)) hP
  have hb:=Iy e;have hb':b≠s.heap.objs.size:=ID hb;refine mv.heap b u (fun z=>?_) ((IM _ _ (Ne.symm hb')).trans ((IM _ _ (Ne.symm hb')).trans (kp b u (Ik _ e))))
  simp only[List.mem_cons,List.not_mem_nil,or_false]at z;rcases z with z|z
  ·exact hb' z
  ·rw[z]at hb; exact Jp _ (IH (JU hb) hI)
end
noncomputable def u6 (S:aa)(i:Nat):Option (Int×Int):=match S[i]? with
 | some (.rng lo hi)=>some (lo,hi)
 | _=>none
noncomputable def jh (xs:List W)(S:aa):Option (W×aa):=match xs with
 | [.int j]=>if -(2 ^ 62)<=j/\j < 2 ^ 62 then some (.ref S.length,S++[.rng 0 j])else none
 | _=>none
noncomputable def At (lo:Int)(n:Nat):List W:=(List.range n).map fun(k:Nat)=>.int (lo+(k:Int))
noncomputable def jO (xs:List W)(S:aa):Option (W×aa):=match xs with
 | [.ref i]=>match u6 S i with
  | some (lo,hi)=>if -(2 ^ 62)<=lo/\lo < 2 ^ 62/\-(2 ^ 62)<=hi/\hi < 2 ^ 62/\(hi - lo).toNat<=sizeLine then some (.ref S.length,S++[.lst (At lo (hi - lo).toNat)])else none
  | none=>iA [.ref i] S
 | xs=>iA xs S
section
variable {X:Cx} {pins:List (Addr×Obj)} {σ:L2.St} {H:Hp} {s:Shared} {A:List Addr} {S:aa}
theorem Inv.drawn (I:Inv X pins σ H s)(d:Drawn):Inv X pins σ H { s with drawn:=d }:=⟨I.ok,I.os,I.bare,I.base,I.loc,I.cell,I.free,I.freeC,I.pin,I.hok,I.len⟩
theorem iF {h':Heap}{tk:Nat}{dr:Drawn}{D:Addr}{n:O}{u:HO}(I:Inv X pins σ H s)(so:StoreOk X.w X.K A H S)(hk:∀ b o,s.heap.get? b=some o->h'.get? b=some o)(hD:s.heap.objs.size<=D)(new:ObjOk X.prog X.w (cb H D u) h' D u)
  (r:H D=none->ObjRel X.w X.K (A++[D]) (cb H D u) D n):dI X pins σ A H (S++[n]) (.ref S.length) (.ref D) { s with heap:=h',toks:=tk,drawn:=dr }:=by
 have hn:H D=none:=I.hok.fresh hD;refine⟨.ref D,_,A++[D],Mi.Inv.drawn (I.laid (a:=D) (o:=u) (t':=tk) hk hD new) dr,rfl,cU hn,so.pushO hn (r hn),.ref ?_⟩;rw[<- so.len]; simp
theorem oh:∀ {vs:List V} {us:List Value},vs.length=us.length->(∀ (i:Nat) v u,vs[i]?=some v->us[i]?=some u->L2.RelV v u)->Vals vs us
 | [],[],_,_=>.nil
 | v::vs,u::us,hl,h=>.cons (h 0 v u rfl rfl) (oh (by simpa using hl) fun i v u a b=>h (i+1) v u (by simpa using a) (by simpa using b))
 | [],_::_,hl,_=>by cases hl
 | _::_,[],hl,_=>by cases hl
theorem ol {K:PySem.W.Frag}{lo:Int}:∀ (l:List Nat),RelL K A H (l.map fun(k:Nat)=>W.int (lo+(k:Int))) (l.map fun(k:Nat)=>V.int (lo+(k:Int)))
 | []=>.nil
 | _::l=>.cons .int (ol l)
theorem kq {xs:List W}{vs:List V}{us:List Value}{i:Nat}(rl:RelL X.K A H [.ref i] vs)(rv:Vals vs us):∃ a,A[i]?=some a/\us=[.ref a]:=by
 cases rl with
 | cons r t=>
  cases t;cases r with
  | @ref _ a ea=>
   cases rv with
   | cons ru rv=>
    cases rv;obtain rfl:_=Value.ref a:=ru;exact⟨a,ea,rfl⟩
theorem p7:LCall X (.type "range") jh:=by
 intro pins s σ H A S xs vs us w S' I so rl rv e;unfold jh at e;split at e
 ·rename_i j;split at e
  ·rename_i hb;cases e;cases rl with
   | cons r t=>
    cases t;cases r;cases rv with
    | cons ru rv=>
     cases rv;obtain⟨tk,rfl⟩:=ru;exact call_range_1 (iF (dr:=s.drawn) (u:=.rng 0 j) I so (fun b o e=>Ik _ e) (Ip _) ⟨_,_,_,Ix _ rfl⟩ fun _=>bx)
  ·cases e
 ·cases e
theorem p8 (hh:X.A.handled=none):LCall X (.type "list") jO:=by
 intro pins s σ H A S xs vs us w S' I so rl rv e;unfold jO at e;split at e
 ·rename_i i;split at e
  ·rename_i lo hi hr;split at e
   ·rename_i hb;cases e;obtain⟨a,ea,rfl⟩:=kq (xs:=[]) rl rv;obtain⟨b1,b2,b3,b4,b5⟩:=hb;have hH:H a=some (.rng lo hi):=by
     unfold u6 at hr;split at hr
     ·rename_i hx; cases hr; exact so.obj i _ a hx ea
     ·cases hr
    obtain⟨t,u,v,ho⟩:=I.hok a _ hH;have hn:Builtin.Range.rangeSize lo hi 1=((hi - lo).toNat:Nat):=by rw[rangeSize_one]; split <;> omega
    refine call_list_range hh ho (small_one b1 b2 b3 b4) hn b5 fun h' tk acc c hk hD hacc=>?_
    have hv:Vals ((List.range (hi - lo).toNat).map fun(k:Nat)=>V.int (lo+(k:Int))) acc.toList:=by
     refine oh (by rw[(Im),(IS),(Iz),hacc.1]) fun i v u e1 e2=>?_
     rw[(Iu),(Io)]at e1;obtain⟨k,e1,rfl⟩:=e1;obtain⟨hk,rfl⟩:=Ir.mp e1;obtain⟨t,rfl⟩:=hacc.2 i u (by rw[<- (Jl)]; exact e2)
     exact⟨t,by simp⟩
    refine iF (dr:=s.drawn) (u:=.lst ((List.range (hi - lo).toNat).map fun(k:Nat)=>V.int (lo+(k:Int)))) I so hk (Ip _) ⟨by simpa using b5,acc.toList,c,hv,by simpa using hD⟩ fun hn=>⟨_,bx,?_⟩
    exact ol _
   ·cases e
  ·exact g9 pins s σ H A S _ vs us w S' I so rl rv e
 ·exact g9 pins s σ H A S _ vs us w S' I so rl rv e
end
mutual
inductive IsT (h:Heap):T->Value->Prop
 | int {i:Int} {t:Tok}:IsT h (.int i) (.int i t)
 | str {x:Str} {t:Tok}:IsT h (.str x) (.str x t)
 | tup {ks:List T} {a:Addr} {o:Obj} {items:Array Value} {n:Nat}:h.get? a=some o->o.cls=.type "tuple"->o.data=.seq items n->IsTs h ks items.toList->IsT h (.tup ks) (.ref a)
inductive IsTs (h:Heap):List T->List Value->Prop
 | nil:IsTs h [] []
 | cons {k:T} {v:Value} {ks:List T} {vs:List Value}:IsT h k v->IsTs h ks vs->IsTs h (k::ks) (v::vs)
end
mutual
theorem IsT.inj {h:Heap}:∀ {x y:T} {v:Value},IsT h x v->IsT h y v->x=y
 | _,_,_,.int,h2=>by cases h2; rfl
 | _,_,_,.str,h2=>by cases h2; rfl
 | _,_,_,.tup a1 _ d1 t1,h2=>by
  cases h2 with
  | tup a2 _ d2 t2=>
   rw[a1]at a2; cases a2
   rw[d1]at d2; cases d2
   rw[IsTs.inj t1 t2]
theorem IsTs.inj {h:Heap}:∀ {x y:List T} {v:List Value},IsTs h x v->IsTs h y v->x=y
 | _,_,_,.nil,h2=>by cases h2; rfl
 | _,_,_,.cons a b,h2=>by
  cases h2 with
  | cons c d=>rw[IsT.inj a c,IsTs.inj b d]
end
mutual
theorem IsT.keeps {h h':Heap}{d:Addr}{o:Obj}{es:Array DictEntry}{ep:Nat}(ho:h.get? d=some o)(hd:o.data=.dict es ep)(hs:Heap.SameBut d h h'):∀ {x:T} {v:Value},IsT h x v->IsT h' x v
 | _,_,.int=>.int
 | _,_,.str=>.str
 | _,_,.tup (a:=a) a1 c1 d1 t1=>by
  have hne:a≠d:=by
   rintro rfl;rw[a1]at ho; cases ho
   rw[d1]at hd; cases hd
  exact .tup ((hs.2 a hne).trans a1) c1 d1 (IsTs.keeps ho hd hs t1)
theorem IsTs.keeps {h h':Heap}{d:Addr}{o:Obj}{es:Array DictEntry}{ep:Nat}(ho:h.get? d=some o)(hd:o.data=.dict es ep)(hs:Heap.SameBut d h h'):∀ {x:List T} {v:List Value},IsTs h x v->IsTs h' x v
 | _,_,.nil=>.nil
 | _,_,.cons a b=>.cons (IsT.keeps ho hd hs a) (IsTs.keeps ho hd hs b)
end
theorem IsTs.length {h:Heap}:∀ {x:List T} {v:List Value},IsTs h x v->x.length=v.length
 | _,_,.nil=>rfl
 | _,_,.cons _ b=>by simp[IsTs.length b]
theorem IsTs.get {h:Heap}:∀ {x:List T} {v:List Value},IsTs h x v->∀ (j:Nat) (h1:j < x.length) (h2:j < v.length),IsT h x[j] v[j]
 | _,_,.cons a _,0,_,_=>a
 | _,_,.cons _ b,j+1,h1,h2=>IsTs.get b j (by simpa using h1) (by simpa using h2)
theorem cy:∀ {ks:List T} (j:Nat) (h:j < ks.length),(ks[j]).depth<=T.depths ks
 | k::ks,0,_=>by simp only[T.depths,List.getElem_cons_zero]; omega
 | k::ks,j+1,h=>by
  have:=cy (ks:=ks) j (by simpa using h)
  simp only[T.depths,List.getElem_cons_succ]; omega
section
variable {prog:Program} {w:World} {E:Value->Shared->Prop}
mutual
theorem p9:∀ (k:T) (v:Value) (A:Around) (s:Shared) (Q:Int->Shared->Prop),IsT s.heap k v->A.units+k.depth < cLine->Q (eC w k) { s with toks:=s.toks+k.draws }->wpAny (model prog w) A (pyHash v) Q E s
 | .int i,_,A,s,Q,x,_,h=>by cases x; exact wpAny_pyHash_int h
 | .str y,_,A,s,Q,x,_,h=>by cases x; exact wpAny_pyHash_str h
 | .tup ks,_,A,s,Q,x,hu,h=>by
  cases x with
  | @tup _ a o items n hg hc hd hw=>
   simp only[T.depth]at hu;refine PySem.W.pyHash_slot (T:="tuple") ⟨_,hg,hc⟩ F.slot_tuple_hash F.entry_tuple_hash (F.args_tuple_hash_1 _) (beq_builtin_none _) (.inr (by omega)) ?_
   show wpAny _ _ (Builtin.Tuple.tupleItemsOf (.ref a) >>= _) _ _ s;refine Ij (wpAny_tupleItemsOf hg hd ?_);refine Ij ?_;rw[<- Array.forIn_toList];refine kU ks items.toList A.in1 s #[] _ hw (by rw[bm]; omega) fun b hb=>?_
   show wpAny _ _ (retInt (Builtin.Tuple.tupleHashOf b.toList)) _ _ _;rw[hb];refine Ij (wpAny_mkInt (Il ⟨_,_,rfl,?_⟩))
   simpa [T.draws,Nat.add_assoc,eC]using h
theorem kU:∀ (ks:List T) (vs:List Value) (A:Around) (s:Shared) (b:Array Int) (Q:Array Int->Shared->Prop),IsTs s.heap ks vs->A.units+T.depths ks < cLine->
  (∀ b',b'.toList=b.toList++gZ w ks->Q b' { s with toks:=s.toks+T.drawss ks })->
  wpAny (model prog w) A (forIn vs b fun x r=>do let h <- pyHash x; pure PUnit.unit; pure (ForInStep.yield (r.push h))) Q E s
 | [],_,A,s,b,Q,x,_,h=>by cases x; exact Il (h b (by simp[gZ]))
 | k::ks,_,A,s,b,Q,x,hu,h=>by
  cases x with
  | cons x1 x2=>
   simp only[T.depths]at hu;rw[List.forIn_cons];refine Ij (Ij (p9 k _ A s _ x1 (by omega) ?_))
   refine Ij (Il (Il ?_));refine kU ks _ A _ _ Q x2 (by omega) fun b' hb=>?_
   have:=h b' (by simp[hb,gZ])
   simpa [T.drawss,Nat.add_assoc]using this
end
open SeqAt in
theorem xf:∀ (d:Nat) (x y:T) (u v:Value) (B:Around) (s:Shared),x.depth<=d->IsT s.heap x u->IsT s.heap y v->B.units+d < cLine->B.units+y.depth < cLine->EqAt B s u v (decide (x=y))
 | d,.int i,y,_,_,B,s,_,h1,h2,hu,hv=>by
  cases h1;cases h2 with
  | int=>
   rename_i j t2;have:decide (T.int i=T.int j)=(i==j):=by by_cases e:i=j <;> simp[e]
   rw[this]; exact .int_int _ _ _ _
  | str=>rw[decide_eq_false (by simp)]; exact .int_str _ _ _ _
  | tup a c dd t=>rw[decide_eq_false (by simp)]; exact .int_tuple _ _ ⟨_,a,c,_,dd⟩ (by simp only[T.depth]at hv; omega)
 | d,.str z,y,_,_,B,s,_,h1,h2,hu,hv=>by
  cases h1;cases h2 with
  | int=>rw[decide_eq_false (by simp)]; exact .str_int _ _ _ _
  | str=>
   rename_i z2 t2;have:decide (T.str z=T.str z2)=(z==z2):=by by_cases e:z=z2 <;> simp[e]
   rw[this]; exact .str_str _ _ _ _
  | tup a c dd t=>rw[decide_eq_false (by simp)]; exact .str_tuple _ _ ⟨_,a,c,_,dd⟩ (by simp only[T.depth]at hv; omega)
 | 0,.tup ks,y,_,_,B,s,hd,h1,h2,hu,hv=>by simp[T.depth]at hd
 | d+1,.tup ks,y,_,_,B,s,hd,h1,h2,hu,hv=>by
  have h1':=h1;cases h1 with
  | @tup _ a o items n a1 c1 d1 t1=>
   have hT:s.heap.IsTuple a items:=⟨_,a1,c1,_,d1⟩;simp only[T.depth]at hd;cases h2 with
   | int=>rw[decide_eq_false (by simp)]; exact .tuple_int _ _ hT (by omega)
   | str=>rw[decide_eq_false (by simp)]; exact .tuple_str _ _ hT (by omega)
   | @tup ks2 b o2 items2 n2 a2 c2 d2 t2=>
    have hT2:s.heap.IsTuple b items2:=⟨_,a2,c2,_,d2⟩
    by_cases hab:a=b
    ·subst hab;have:T.tup ks=T.tup ks2:=h1'.inj (.tup a2 c2 d2 t2);rw[decide_eq_true this];exact EqAt.same _
    ·refine EqAt.of_refs hab ?_;simp only[T.depth]at hv;have l1:items.size=ks.length:=by rw[<- (Iz),t1.length]
     have l2:items2.size=ks2.length:=by rw[<- (Iz),t2.length]
     let e:Nat->Bool:=fun j=>if h:j < ks.length/\j < ks2.length then decide (ks[j]'h.1=ks2[j]'h.2)else true
     have he:∀ j (h1:j < items.size) (h2:j < items2.size),EqAt B.in1 s items[j] items2[j] (e j):=fun j j1 j2=>by
      have g1:=t1.get j (l1 ▸ j1) (by simpa using j1)
      have g2:=t2.get j (l2 ▸ j2) (by simpa using j2)
      have q1:=cy (ks:=ks) j (l1 ▸ j1);have q2:=cy (ks:=ks2) j (l2 ▸ j2);have:=xf d _ _ _ _ B.in1 s (by omega) g1 g2 (by rw[bm]; omega) (by rw[bm]; omega)
      show EqAt B.in1 s items[j] items2[j] (if h:j < ks.length/\j < ks2.length then decide (ks[j]'h.1=ks2[j]'h.2)else true)
      rw[dif_pos ⟨l1 ▸ j1,l2 ▸ j2⟩]
      simpa using this
     have:=RcAt.tuples hT hT2 (by omega) he
     have hk:((List.range (min items.size items2.size)).all e&&items.size==items2.size)=decide (T.tup ks=T.tup ks2):=by
      rw[l1,l2]
      by_cases hl:ks.length=ks2.length
      ·by_cases hq:ks=ks2
       ·subst hq;simp only[Nat.min_self,beq_self_eq_true,Bool.and_true,decide_true,List.all_eq_true,List.mem_range];intro j hj;show(if h:j < ks.length/\j < ks.length then decide (ks[j]'h.1=ks[j]'h.2)else true)=true
        rw[dif_pos ⟨hj,hj⟩]; simp
       ·rw[decide_eq_false (by simpa using hq)]
        have:∃ j,∃ h:j < ks.length,ks[j]≠ks2[j]'(hl ▸ h):=by
         apply Classical.byContradiction;intro hn;exact hq (Kh hl fun j h1 h2=>Classical.byContradiction fun z=>hn ⟨j,h1,z⟩)
        obtain⟨j,hj,hne⟩:=this;rw[Bool.and_eq_false_iff];left;rw[List.all_eq_false];refine⟨j,by rw[(IU),<- hl,Nat.min_self]; exact hj,?_⟩
        show ¬ (if h:j < ks.length/\j < ks2.length then decide (ks[j]'h.1=ks2[j]'h.2)else true)=true
        rw[dif_pos ⟨hj,hl ▸ hj⟩]
        simpa using hne
      ·rw[decide_eq_false (by simp; intro z; exact hl (by rw[z])),Bool.and_eq_false_iff]
       right
       simpa using hl
     rw[hk]at this;exact this
theorem mT {n:Nat}{v:Value}(h:∀ a,v≠.ref a):eqIsQuiet n v=pure true:=by
 cases v with
 | ref a=>exact absurd rfl (h a)
 | _=>first|rfl|simp[eqIsQuiet]|(unfold eqIsQuiet; rfl)
theorem kw:∀ (d:Nat) (k:T) (v:Value) (A:Around) (s:Shared) (Q:Bool->Shared->Prop),k.depth<=d->IsT s.heap k v->Q true s->wpAny (model prog w) A (eqIsQuiet d v) Q E s
 | d,.int i,_,A,s,Q,_,x,h=>by cases x; rw[mT (fun a=>by simp)]; exact Il h
 | d,.str i,_,A,s,Q,_,x,h=>by cases x; rw[mT (fun a=>by simp)]; exact Il h
 | 0,.tup ks,_,A,s,Q,hd,x,h=>by simp[T.depth]at hd
 | d+1,.tup ks,_,A,s,Q,hd,x,h=>by
  cases x with
  | @tup _ a o items n ho hc hdt hi=>
   simp only[T.depth]at hd;have hT:s.TypeIs (.ref a) "tuple":=⟨_,ho,hc⟩;unfold eqIsQuiet;refine Ij (wpAny_specialOf hT F.slot_tuple_eq.lookup ?_);show wpAny _ _ (isInstance (.ref a) (.type "tuple") >>= _) _ _ s;refine Ij (wpAny_isInstance hT isSubtype_tuple_tuple ?_);simp only[Bool.not_true,Bool.false_eq_true,if_false];refine Ij (J1 ho hdt ?_);refine Ij ?_;show wpAny _ _ (forIn items _ _) _ _ s;rw[<- Array.forIn_toList];refine Kg _ (fun bT r s'=>r.1=none/\s'=s/\∃ kk,IsTs s.heap kk bT/\T.depths kk<=d) _ ?_ ?_ _ _ ⟨rfl,rfl,ks,hi,by omega⟩
   ·rintro v bT r s' ⟨hr,rfl,kk,hall,hdk⟩;cases hall with
    | cons q1 q2=>
     simp only[T.depths]at hdk;refine Ij (kw d _ v _ _ _ (by omega) q1 ?_)
     simp only[Bool.not_true,Bool.false_eq_true,if_false];exact Il ⟨rfl,rfl,_,q2,by omega⟩
   ·rintro⟨r1,r2⟩ s' ⟨hr,rfl,_⟩;simp only at hr;subst hr;exact Il h
end
noncomputable def bC (prog:Program)(w:World):HeapKind prog w T where
 is:=fun h k a=>IsT h k (.ref a)/\k.depth<=aE
 hash:=eC w
 draws:=T.draws
 room:=fun A=>A.units+aE < cLine
 inj:=fun hx hy=>hx.1.inj hy.1
 keeps:=fun x ho hd hs=>⟨x.1.keeps ho hd hs,x.2⟩
 pyHash:=fun hu hk h=>p9 _ _ _ _ _ hk.1 (by have:=hk.2; omega) h
 eqBool:=fun hu hx hy h=>xf aE _ _ _ _ _ _ hx.2 hx.1 hy.1 hu (by have:=hy.2; omega) _ _ _ _ h
 quiet:=fun hk h=>kw 8 _ _ _ _ _ (by have:=hk.2; unfold aE at this; omega) hk.1 h
section
variable {prog:Program} {w:World} {E:Value->Shared->Prop}
theorem mU {n:Nat}{v:Value}(h:∀ a,v≠.ref a):ofAClassStatement n v=pure false:=by
 cases v with
 | ref a=>exact absurd rfl (h a)
 | _=>first|rfl|simp[ofAClassStatement]|(unfold ofAClassStatement; rfl)
theorem om:∀ (d:Nat) (k:T) (v:Value) (A:Around) (s:Shared) (Q:Bool->Shared->Prop),k.depth<=d->IsT s.heap k v->Q false s->wpAny (model prog w) A (ofAClassStatement d v) Q E s
 | d,.int i,_,A,s,Q,_,x,h=>by cases x; rw[mU (fun a=>by simp)]; exact Il h
 | d,.str i,_,A,s,Q,_,x,h=>by cases x; rw[mU (fun a=>by simp)]; exact Il h
 | 0,.tup ks,_,A,s,Q,hd,x,h=>by simp[T.depth]at hd
 | d+1,.tup ks,_,A,s,Q,hd,x,h=>by
  cases x with
  | @tup _ a o items n ho hc hdt hi=>
   simp only[T.depth]at hd;have hT:s.TypeIs (.ref a) "tuple":=⟨_,ho,hc⟩;unfold ofAClassStatement;refine Ij (J3 hT ?_);dsimp only;rw[if_pos (show("tuple" == "tuple")=true by decide)]
   refine Ij (Il ?_);simp only[Bool.not_true,Bool.false_eq_true,if_false];refine Ij (J1 ho hdt ?_);refine Ij ?_;show wpAny _ _ (forIn items _ _) _ _ s;rw[<- Array.forIn_toList];refine Kg _ (fun bT r s'=>r.1=none/\s'=s/\∃ kk,IsTs s.heap kk bT/\T.depths kk<=d) _ ?_ ?_ _ _ ⟨rfl,rfl,ks,hi,by omega⟩
   ·rintro v bT r s' ⟨hr,rfl,kk,hall,hdk⟩;cases hall with
    | cons q1 q2=>
     simp only[T.depths]at hdk;refine Ij (om d _ v _ _ _ (by omega) q1 ?_)
     simp only[Bool.false_eq_true,if_false];exact Il ⟨rfl,rfl,_,q2,by omega⟩
   ·rintro⟨r1,r2⟩ s' ⟨hr,rfl,_⟩;simp only at hr;subst hr;exact Il h
theorem xg {A:Around}{s:Shared}{Q:Bool->Shared->Prop}{x:T}{b:Addr}{ys:List Value}(hx:IsT s.heap x (.ref b))(hdx:x.depth<=aE)(hy:∀ v∈ys,∃ y c,v=.ref c/\IsT s.heap y (.ref c)/\y.depth<=aE)(h:Q false s):wpAny (model prog w) A (searchCouldBeSeen (.ref b) ys) Q E s:=by
 unfold searchCouldBeSeen;refine Ij ?_;refine Kg _ (fun bT r s'=>r.1=none/\s'=s/\∀ v∈bT,∃ y c,v=.ref c/\IsT s.heap y (.ref c)/\y.depth<=aE) _ ?_ ?_ _ _ ⟨rfl,rfl,hy⟩
 ·rintro v bT r s' ⟨hr,rfl,hall⟩;obtain⟨y,c,rfl,q,hdy⟩:=hall v (.head _);have hrest:∀ v∈bT,∃ y c,v=.ref c/\IsT s'.heap y (.ref c)/\y.depth<=aE:=fun v hv=>hall v (.tail _ hv)
  have k6:aE<=8:=by unfold aE; decide
  dsimp only;split
  ·exact Il ⟨rfl,rfl,hrest⟩
  ·refine Ij (kw 8 _ _ _ _ _ (by omega) hx ?_)
   simp only[Bool.not_true,Bool.false_eq_true,if_false];refine Ij (kw 8 _ _ _ _ _ (by omega) q ?_)
   simp only[Bool.not_true,Bool.false_eq_true,if_false];refine Ij (om 8 _ _ _ _ _ (by omega) hx ?_)
   simp only[Bool.false_eq_true,if_false];refine Ij (om 8 _ _ _ _ _ (by omega) q ?_)
   simp only[Bool.false_eq_true,if_false];exact Il ⟨rfl,rfl,hrest⟩
 ·rintro⟨r1,r2⟩ s' ⟨hr,rfl,_⟩;simp only at hr;subst hr;exact Il h
end
inductive Sf where|there|free (slot:Nat)
noncomputable def dO (es:Array (Int×T))(t:SetTable)(x:T)(h:Int):Nat->Option SetTable.Probe->Option Sf
 | 0,_=>none
 | f+1,stand=>match t.probe (fun i=>(es[i]?.map (·.1)).getD 0) h (stand.getD (t.probeStart h))with
  | none=>none
  | some (.empty j none)=>some (.free j)
  | some (.empty _ (some _))=>none
  | some (.candidate j i next)=>match es[i]? with
   | none=>none
   | some (_,y)=>if y=x then some .there else if t.slot j=.live i then dO es t x h f (some next)else none
structure SE (h:Heap)(es0:Array (Int×T))(es:Array (Int×Value)):Prop where
 size:es0.size=es.size
 ent:∀ (i:Nat) (hh:Int) (y:T),es0[i]?=some (hh,y)->∃ b:Addr,es[i]?=some (hh,Value.ref b)/\IsT h y (.ref b)/\y.depth<=aE
theorem SE.hash {h:Heap}{es0:Array (Int×T)}{es:Array (Int×Value)}(R:SE h es0 es):(fun(i:Nat)=>(es0[i]?.map (fun p=>p.1)).getD 0)=fun(i:Nat)=>(es[i]?.map (fun p=>p.1)).getD 0:=by
 funext i
 cases e:es0[i]? with
 | none=>
  have:es[i]?=none:=by rw[Array.getElem?_eq_none_iff]at e ⊢; rw[<- R.size]; exact e
  rw[this]; rfl
 | some p=>
  obtain⟨b,e2,_⟩:=R.ent i p.1 p.2 e;rw[e2]; rfl
theorem SE.vals {h:Heap}{es0:Array (Int×T)}{es:Array (Int×Value)}(R:SE h es0 es):∀ e∈es.toList,∃ y c,e.2=.ref c/\IsT h y (.ref c)/\y.depth<=aE:=fun e he=>by
 obtain⟨i,hi,rfl⟩:=List.mem_iff_getElem.mp he;rw[(Iz)]at hi;have hi0:i < es0.size:=by rw[R.size]; exact hi
 obtain⟨b,e2,q⟩:=R.ent i es0[i].1 es0[i].2 (Array.getElem?_eq_getElem hi0);rw[Array.getElem?_eq_getElem hi]at e2;refine⟨_,b,?_,q⟩;rw[Array.getElem_toList,Option.some.inj e2]
section
variable {prog:Program} {w:World} {E:Value->Shared->Prop} {A:Around} {s:Shared}
theorem xh {a b:Addr}{o:Obj}{es0:Array (Int×T)}{es:Array (Int×Value)}{ep:Nat}{t:SetTable}{x:T}{h:Int}{Q:SetFound->Shared->Prop}(ho:s.heap.get? a=some o)(hd:o.data=.set es ep t)(hf:t.fits es.size=true)(hg:t.gaveWay=false)(R:SE s.heap es0 es)
    (hx:IsT s.heap x (.ref b)) (hdx:x.depth<=aE) (hu:(bC prog w).room A):∀ (f F:Nat) (stand:Option SetTable.Probe) (r:Sf),dO es0 t x h f stand=some r->f<=F->(r=.there->Q (.there none) s)->(∀ j,r=.free j->Q (.free j false) s)->
    wpAny (model prog w) A (setSearchFrom a (.ref b) h true F stand) Q E s:=by
  intro f
  induction f with
  | zero=>intro F stand r e; cases e
  | succ f ih=>
    intro F stand r e hF h1 h2;obtain⟨F,rfl⟩ : ∃ F',F=F'+1:=⟨F - 1,by omega⟩
    unfold setSearchFrom;refine Ij (Jd ho hd hf ?_);dsimp only;rw[hg];simp only[Bool.false_eq_true,if_false];unfold dO at e;rw[R.hash]at e;split
    · rename_i met hm
      have hm:t.probe (fun i=>(es[i]?.map (·.1)).getD 0) h (stand.getD (t.probeStart h))=some met:=hm
      rw[hm]at e;cases met with
      | empty j dm=>
        cases dm with
        | none=>cases e; exact Il (h2 j rfl)
        | some d=>cases e
      | candidate j i next=>
        dsimp only at e ⊢;cases ei:es0[i]? with
        | none=>rw[ei]at e; cases e
        | some p=>
          obtain⟨hh,y⟩:=p;rw[ei]at e;dsimp only at e;obtain⟨c,ec,qy,hdy⟩:=R.ent i hh y ei;rw[ec];dsimp only;have sm:t.sameMemory t.moves t.mask=some true:=by unfold SetTable.sameMemory; rw[if_pos (beq_self_eq_true _)]
          have hv:∀ v∈List.map (fun x=>x.snd) (Array.filter (fun x=>x.fst==h) es).toList,∃ y c,v=Value.ref c/\IsT s.heap y (.ref c)/\y.depth<=aE:=fun v hv=>by
            obtain⟨p,hp,rfl⟩:=IF.mp hv;rw[Array.toList_filter]at hp;exact R.vals p (JE.mp hp).1
          cases hl:t.led
          · simp only[Bool.not_false,if_true]
            refine Ij (xg hx hdx hv ?_);simp only[Bool.false_eq_true,if_false];refine Ij (IW ((bC prog w).eqBool hu ⟨qy,hdy⟩ ⟨hx,hdx⟩ ?_));refine Ij (Jd ho hd hf ?_)
            by_cases hyx:y=x
            · rw[if_pos hyx]at e
              cases e;simp only[hyx,decide_true,Bool.and_true,if_true];exact Il (h1 rfl)
            · rw[if_neg hyx]at e
              split at e
              · rename_i hsl
                simp only[hyx,decide_false,Bool.and_false,Bool.false_eq_true,if_false,sm,if_true,hsl,ec];refine Ij (wpAny_isSame_ref_self ?_);refine Ij (Il ?_);simp only[if_true];exact ih F (some next) r e (by omega) h1 h2
              · cases e
          · simp only[Bool.not_true,Bool.false_eq_true,if_false]
            refine Ij (IW ((bC prog w).eqBool hu ⟨qy,hdy⟩ ⟨hx,hdx⟩ ?_));refine Ij (Jd ho hd hf ?_)
            by_cases hyx:y=x
            · rw[if_pos hyx]at e
              cases e;simp only[hyx,decide_true,Bool.and_true,if_true];exact Il (h1 rfl)
            · rw[if_neg hyx]at e
              split at e
              · rename_i hsl
                simp only[hyx,decide_false,Bool.and_false,Bool.false_eq_true,if_false,sm,if_true,hsl,ec];refine Ij (wpAny_isSame_ref_self ?_);refine Ij (Il ?_);simp only[if_true];exact ih F (some next) r e (by omega) h1 h2
              · cases e
    · rename_i hm
      have hm:t.probe (fun i=>(es[i]?.map (·.1)).getD 0) h (stand.getD (t.probeStart h))=none:=by
        first|exact hm|(cases hp:t.probe (fun i=>(es[i]?.map (·.1)).getD 0) h (stand.getD (t.probeStart h))with
          | none=>rfl
          | some m=>exact absurd hp (hm m))
      rw[hm]at e;cases e
end
mutual
noncomputable def fA:T->Bool
 | .int _=>true
 | .str _=>false
 | .tup xs=>de xs
noncomputable def de:List T->Bool
 | []=>true
 | x::xs=>fA x&&de xs
end
section
variable {prog:Program} {w:World} {E:Value->Shared->Prop}
theorem tj:∀ (d:Nat) (k:T) (v:Value) (A:Around) (s:Shared) (Q:Bool->Shared->Prop),fA k=true->k.depth<=d->IsT s.heap k v->Q true s->wpAny (model prog w) A (hashByValue d v) Q E s
 | d,.int i,_,A,s,Q,_,_,x,h=>by
  cases x;have:∀ t,hashByValue d (.int i t)=pure true:=fun t=>by cases d <;> rfl
  rw[this]; exact Il h
 | d,.str i,_,A,s,Q,hn,_,x,h=>by cases hn
 | 0,.tup ks,_,A,s,Q,_,hd,x,h=>by simp[T.depth]at hd
 | d+1,.tup ks,_,A,s,Q,hn,hd,x,h=>by
  cases x with
  | @tup _ a o items n ho hc hdt hi=>
   simp only[T.depth]at hd;have hn:de ks=true:=hn;have hT:s.TypeIs (.ref a) "tuple":=⟨_,ho,hc⟩;unfold hashByValue;refine Ij (wpAny_specialOf hT F.slot_tuple_hash.lookup ?_);refine Ij (J1 ho hdt ?_);refine Ij ?_;show wpAny _ _ (forIn items _ _) _ _ s;rw[<- Array.forIn_toList];refine Kg _ (fun bT r s'=>r.1=none/\s'=s/\∃ kk,IsTs s.heap kk bT/\T.depths kk<=d/\de kk=true) _ ?_ ?_ _ _ ⟨rfl,rfl,ks,hi,by omega,hn⟩
   ·rintro v bT r s' ⟨hr,rfl,kk,hall,hdk,hnk⟩;cases hall with
    | cons q1 q2=>
     simp only[T.depths]at hdk;simp only[de,Bool.and_eq_true]at hnk;refine Ij (tj d _ v _ _ _ hnk.1 (by omega) q1 ?_)
     simp only[Bool.not_true,Bool.false_eq_true,if_false];exact Il ⟨rfl,rfl,_,q2,by omega,hnk.2⟩
   ·rintro⟨r1,r2⟩ s' ⟨hr,rfl,_⟩;simp only at hr;subst hr;exact Il h
end
noncomputable abbrev Ze:=Int×T×Addr
noncomputable def zT (z:Ze):Int×T:=(z.1,z.2.1)
noncomputable def zV (z:Ze):Int×Value:=(z.1,.ref z.2.2)
noncomputable def ZOk (h:Heap)(zs:Array Ze):Prop:=∀ z∈zs.toList,IsT h z.2.1 (.ref z.2.2)/\z.2.1.depth<=aE
theorem ZOk.se {h:Heap}{zs:Array Ze}(k:ZOk h zs):SE h (zs.map zT) (zs.map zV):=⟨by simp,fun i hh y e=>by
 rw[Array.getElem?_map,(Io)]at e;obtain⟨z,hz,e⟩:=e;cases e;exact⟨z.2.2,by rw[Array.getElem?_map,hz]; rfl,k z (by rw[(Kl)]; exact Array.mem_of_getElem? hz)⟩⟩
theorem iG {α β:Type}{f:α->β}{xs:Array α}{p:Nat}{x:α}:SetTable.insertAt (xs.map f) p (f x)=(SetTable.insertAt xs p x).map f:=by
 unfold SetTable.insertAt;simp[Array.map_extract]
noncomputable def dz (t:SetTable)(n:Nat):Bool:=t.fits n && !t.gaveWay&&decide (n<=1000)
noncomputable def bO (hf:T->Int)(st:Array (Int×T)×SetTable)(x:T):Option (Array (Int×T)×SetTable):=
 match dO st.1 st.2 x (hf x) 100 none with
 | none=>none
 | some .there=>some st
 | some (.free slot)=>
  if dz (st.2.put slot).1 (SetTable.insertAt st.1 (st.2.put slot).2 (hf x,x)).size then
   if (st.2.put slot).1.tooFull then
    if SetTable.sizeAbove (SetTable.grown (st.1.size+1))<=sizeLine then
     match (st.2.put slot).1.relaid ((SetTable.insertAt st.1 (st.2.put slot).2 (hf x,x)).map (·.1)) (SetTable.grown (st.1.size+1))with
     | none=>none
     | some (t2,order)=>
      if (order.filterMap ((SetTable.insertAt st.1 (st.2.put slot).2 (hf x,x))[·]?)).size=(SetTable.insertAt st.1 (st.2.put slot).2 (hf x,x)).size/\dz t2 (order.filterMap ((SetTable.insertAt st.1 (st.2.put slot).2 (hf x,x))[·]?)).size=true then some (order.filterMap ((SetTable.insertAt st.1 (st.2.put slot).2 (hf x,x))[·]?),t2)else none
    else none
   else some (SetTable.insertAt st.1 (st.2.put slot).2 (hf x,x),(st.2.put slot).1)
  else none
theorem filterMap_map {α β:Type}{f:α->β}{xs:Array α}{order:Array Nat}:order.filterMap ((xs.map f)[·]?)=(order.filterMap (xs[·]?)).map f:=by
 rw[Array.map_filterMap];congr 1
 funext i
 exact Array.getElem?_map ..
theorem r6 {b:Addr}{es:Array (Int×Value)}:byScan (.ref b) es=false:=rfl
theorem kW {t:SetTable}{n:Nat}(h:dz t n=true):t.fits n=true/\t.gaveWay=false/\n<=1000:=by
 unfold dz at h;simp only[Bool.and_eq_true,Bool.not_eq_true',decide_eq_true_eq]at h;exact⟨h.1.1,h.1.2,h.2⟩
section
variable {prog:Program} {w:World} {E:Value->Shared->Prop} {A:Around} {s:Shared}
theorem r8 {a:Addr}{o:Obj}{es es1:Array (Int×Value)}{ep:Nat}{t t1:SetTable}{Q:Unit->Shared->Prop}(ho:s.heap.get? a=some o)(hd:o.data=.set es ep t)(hz:es1.size<=1000)
  (h:∀ h',Heap.SameBut a s.heap h'->h'.get? a=some { o with data:=.set es1 (ep+1) t1 }->Q () { s with heap:=h' }):wpAny (model prog w) A (storeSet a es1 t1) Q E s:=by
 refine wpAny_storeSet_of ho hd (h _ (Heap.SameBut.update ..) ?_) (IC hz (by rw[(Ja)]; decide))
 have:=JF (Obj.putSet es1 t1) ho (by rw[putSet_of es1 t1 hd]; rfl)
 rw[putSet_of es1 t1 hd]at this;exact this
theorem E1 {a b:Addr}{o:Obj}{zs:Array Ze}{ep:Nat}{t:SetTable}{x:T}{hf:T->Int}{es1:Array (Int×T)}{t1:SetTable}{Q:Bool->Shared->Prop}(ho:s.heap.get? a=some o)(hd:o.data=.set (zs.map zV) ep t)(hft:dz t zs.size=true)(hz:ZOk s.heap zs)
  (hx:IsT s.heap x (.ref b)) (hdx:x.depth<=aE) (hnx:fA x=true) (hu:(bC prog w).room A) (e:bO hf (zs.map zT,t) x=some (es1,t1))
  (k:∀ (bb:Bool) (h':Heap) (zs':Array Ze) (ep':Nat),zs'.map zT=es1->dz t1 zs'.size=true->Heap.SameBut a s.heap h'->h'.get? a=some { o with data:=.set (zs'.map zV) ep' t1 }->(∀ z∈zs'.toList,z∈zs.toList\/z=(hf x,x,b))->Q bb { s with heap:=h' }) :
  wpAny (model prog w) A (setAddHashed a (.ref b) (hf x)) Q E s:=by
 obtain⟨f1,f2,f3⟩:=kW hft;have f1':t.fits (zs.map zV).size=true:=by rw[(Js)]; exact f1
 unfold setAddHashed setAddHashedIn;refine IW (Ij (Jd ho hd f1' ?_));dsimp only;rw[r6];simp only[Bool.false_eq_true,if_false];unfold bO at e;cases hs:dO (zs.map zT) t x (hf x) 100 none with
 | none=>rw[hs]at e; cases e
 | some r=>
  rw[hs]at e;dsimp only at e;refine Ij ?_;unfold setSearch;refine xh ho hd f1' f2 hz.se hx hdx hu 100 100000 none r hs (by decide) (fun hr=>?_) fun slot hr=>?_
  ·subst hr;cases e;exact Il (k false s.heap zs ep rfl hft (Heap.SameBut.refl ..) (by rw[<- hd]; exact ho) fun z h=>.inl h)
  ·subst hr;dsimp only at e ⊢;refine Ij (Jd ho hd f1' ?_);dsimp only;split at e
   ·rename_i hok1;have eI:SetTable.insertAt (zs.map zT) (t.put slot).2 (hf x,x)=(SetTable.insertAt zs (t.put slot).2 (hf x,x,b)).map zT:=iG (f:=zT) (x:=(hf x,x,b));have eV:SetTable.insertAt (zs.map zV) (t.put slot).2 (hf x,.ref b)=(SetTable.insertAt zs (t.put slot).2 (hf x,x,b)).map zV:=iG (f:=zV) (x:=(hf x,x,b));have hmem:∀ z∈(SetTable.insertAt zs (t.put slot).2 (hf x,x,b)).toList,z∈zs.toList\/z=(hf x,x,b):=fun z h=>by
     unfold SetTable.insertAt at h;simp only[Array.toList_append,Array.toList_push,List.mem_append,List.mem_singleton]at h;rcases h with(h|h)|h
     ·rw[(Ku)]at h;exact .inl (by rw[List.extract_eq_take_drop]at h; exact Kb (JV h))
     ·exact .inr h
     ·rw[(Ku)]at h;exact .inl (by rw[List.extract_eq_take_drop]at h; exact Kb (JV h))
    rw[eI]at e hok1;rw[(Js)]at hok1;obtain⟨g1,g2,g3⟩:=kW hok1;rw[eV];have hfst:∀ z1:Array Ze,Array.map (fun x=>x.fst) (Array.map zV z1)=Array.map (fun x=>x.fst) (Array.map zT z1):=fun z1=>by
     rw[Array.map_map,Array.map_map]; rfl
    simp only[Array.size_map]at e ⊢;generalize(t.put slot).1=tt at e hok1 g1 g2 ⊢;generalize SetTable.insertAt zs (t.put slot).2 (hf x,x,b)=z1 at e hok1 g1 g3 hmem ⊢;clear eI eV;have k8:x.depth<=8:=IC hdx (by unfold aE; decide)
    have g1v:tt.fits (Array.map zV z1).size=true:=by rw[(Js)]; exact g1
    have tail:∀ h1:Heap,Heap.SameBut a s.heap h1->h1.get? a=some { o with data:=.set (Array.map zV z1) (ep+1) tt }->wpAny (model prog w) A (if (!false&&tt.tooFull)=true then do setRelay a (SetTable.grown (zs.size+1)); pure true else pure true) Q E { s with heap:=h1 }:=by
     intro h1 sb1 q1;cases htf:tt.tooFull with
     | false=>
      rw[htf]at e;simp only[Bool.false_eq_true,if_false]at e;cases e;simp only[Bool.not_false,Bool.and_false,Bool.false_eq_true,if_false];exact Il (k true h1 z1 (ep+1) rfl hok1 sb1 q1 hmem)
     | true=>
      rw[htf]at e;simp only[if_true]at e;simp only[Bool.not_false,Bool.and_true,if_true];split at e
      ·rename_i hle;cases hrel:tt.relaid (Array.map (fun x=>x.fst) (Array.map zT z1)) (SetTable.grown (zs.size+1))with
       | none=>rw[hrel]at e; cases e
       | some p=>
        obtain⟨t2,order⟩:=p;rw[hrel]at e;dsimp only at e;rw[filterMap_map,(Js)]at e;split at e
        ·rename_i hc;cases e;obtain⟨c1,c2⟩:=hc;obtain⟨d1,d2,d3⟩:=kW c2;unfold setRelay;refine Ij (Ij (Jd q1 rfl g1v ?_));dsimp only;rw[if_neg (Nat.not_lt.mpr hle)];rw[hfst,hrel];refine Ij (KH (a:=(Array.map zV (Array.filterMap (fun x=>z1[x]?) order),t1)) ?_ ?_)
         ·show(if ((Array.filterMap (fun x=>(Array.map zV z1)[x]?) order).size != (Array.map zV z1).size)=true then _ else _)=_
          rw[filterMap_map,(Js),(Js),c1];rw[if_neg (by simp)]
         ·dsimp only;refine r8 (s:={ s with heap:=h1 }) q1 rfl (by rw[(Js)]; exact d3) fun h2 sb2 q2=>Il (k true h2 _ (ep+1+1) rfl c2 (sb1.trans sb2) q2 fun z hz=>hmem z ?_)
          obtain⟨i,hi,e⟩:=Array.mem_filterMap.mp (Kl.mp hz);exact Kl.mpr (Array.mem_of_getElem? e)
        ·cases e
      ·cases e
    cases hp:tt.plain with
    | false=>
     simp only[Bool.false_eq_true,if_false];refine Ij (Il ?_);simp only[if_true];exact Ij (r8 ho hd (by rw[(Js)]; exact g3) fun h1 sb1 q1=>tail h1 sb1 q1)
    | true=>
     simp only[if_true];refine Ij (tj 8 _ _ _ _ _ hnx k8 hx ?_);simp only[if_true];exact Ij (r8 ho hd (by rw[(Js)]; exact g3) fun h1 sb1 q1=>tail h1 sb1 q1)
   ·cases e
end
noncomputable def gw (h h':Heap):Prop:=∀ c o,h.get? c=some o->o.cls=.type "tuple"->h'.get? c=some o
mutual
theorem IsT.stay {h h':Heap}(k:gw h h'):∀ {x:T} {v:Value},IsT h x v->IsT h' x v
 | _,_,.int=>.int
 | _,_,.str=>.str
 | _,_,.tup a b c d=>.tup (k _ _ a b) b c (IsTs.stay k d)
theorem IsTs.stay {h h':Heap}(k:gw h h'):∀ {x:List T} {v:List Value},IsTs h x v->IsTs h' x v
 | _,_,.nil=>.nil
 | _,_,.cons a b=>.cons (IsT.stay k a) (IsTs.stay k b)
end
theorem ZOk.stay {h h':Heap}{zs:Array Ze}(k:gw h h')(z:ZOk h zs):ZOk h' zs:=fun y hy=>⟨(z y hy).1.stay k,(z y hy).2⟩
section
variable {prog:Program} {w:World} {A:Around} {E:Value->Shared->Prop} {s:Shared} {R:Result->Shared->Prop} {I:Addr} {fp wr:List Addr} {G:Array GenState->Array GenState->Prop} {n:Nat} {P:Nat->Value->Prop} {St:Nat->Shared->Prop}
noncomputable def kX (w:World)(zs:Array Ze)(ep:Nat)(t:SetTable):Obj:={ cC w with data:=.set (zs.map zV) ep t }
theorem u7 (W:WalksS prog w A.in1 I fp wr G n P St){D:Addr}(hD:D∉fp)(hwr:∀ i s b o,St i s->b∈wr->s.heap.get? b=some o->o.cls≠.type "tuple"){ks:List T}{res:Array (Int×T)×SetTable}{Y:T->Addr->Prop}(hl:ks.length=n)(hk:∀ x∈ks,fA x=true/\x.depth<=aE)(hP:∀ i v,P i v->∃ x b,ks[i]?=some x/\v=.ref b/\Y x b)(hu:(bC prog w).room A.in1) :
  ∀ (k i:Nat) (s:Shared) (zs:Array Ze) (ep:Nat) (t:SetTable),n - i=k->i<=n->St i s->s.heap.get? D=some (kX w zs ep t)->dz t zs.size=true->ZOk s.heap zs->(∀ z∈zs.toList,Y z.2.1 z.2.2)->(∀ j v x,P j v->ks[j]?=some x->IsT s.heap x v)->(ks.drop i).foldlM (bO (eC w)) (zs.map zT,t)=some res->
   (∀ s' zs' ep',Moved (D::wr) G s s'->s'.heap.get? D=some (kX w zs' ep' res.2)->zs'.map zT=res.1->dz res.2 zs'.size=true->ZOk s'.heap zs'->(∀ z∈zs'.toList,Y z.2.1 z.2.2)->R (.ok (.ret .none)) s')->codeAny (model prog w) A (.builtin "set.update.loop" ⟨[.ref D,.ref I],[]⟩) R s:=by
 have hw:D∉wr:=fun z=>hD (W.sub _ z)
 have up:∀ b∈wr,b∈D::wr:=fun b z=>Jm _ z
 intro k
 induction k with
 | zero=>
  intro i s zs ep t hk' hi st ho hok hz hy hT hsim hR;obtain rfl:i=n:=by omega
  refine IY F.entry_set_update_loop ?_;rw[Around.under_plainId F.plain_set_update_loop _];show wpAny _ A.in1 (pyNext (.ref I) >>= _) _ _ s;refine Ij (W.done s _ _ st fun s' mv=>?_)
  rw[List.drop_of_length_le (by omega)]at hsim
  cases hsim;have ts:gw s.heap s'.heap:=fun c o q hc=>mv.heap c o (fun z=>hwr _ _ _ _ st z q hc) q
  exact Il (hR s' zs ep (mv.mono up) (mv.heap D _ hw ho) rfl hok (hz.stay ts) hy)
 | succ k ih=>
  intro i s zs ep t hk' hi st ho hok hz hy hT hsim hR;have hlt:i < n:=by omega
  refine IY F.entry_set_update_loop ?_;rw[Around.under_plainId F.plain_set_update_loop _];show wpAny _ A.in1 (pyNext (.ref I) >>= _) _ _ s;refine Ij (W.item i s _ _ hlt st fun v s1 pv st1 mv=>?_)
  obtain⟨x,b,hx,rfl,yx⟩:=hP i v pv;have ts1:gw s.heap s1.heap:=fun c o q hc=>mv.heap c o (fun z=>hwr _ _ _ _ st z q hc) q
  obtain⟨hn,hdp⟩:=hk x (IA hx);have isx:IsT s1.heap x (.ref b):=(hT i _ x pv hx).stay ts1;have o1:s1.heap.get? D=some (kX w zs ep t):=mv.heap D _ hw ho;have hd1:ks.drop i=x::ks.drop (i+1):=by
   obtain⟨h1,h2⟩:=Ir.mp hx;rw[List.drop_eq_getElem_cons h1,h2]
  rw[hd1,(Ke)]at hsim;cases hs:bO (eC w) (zs.map zT,t) x with
  | none=>rw[hs]at hsim; cases hsim
  | some aZ=>
   obtain⟨es1,t1⟩:=aZ;rw[hs]at hsim;have hsim:(ks.drop (i+1)).foldlM (bO (eC w)) (es1,t1)=some res:=hsim;show wpAny _ A.in1 (holding [Value.ref b] (setAdd D (.ref b)) >>= _) _ _ s1;refine Ij (IW ?_);unfold setAdd;refine IW (Ij ((bC prog w).pyHash hu ⟨isx,hdp⟩ ?_));refine E1 (s:={ s1 with toks:=s1.toks+x.draws }) (hf:=eC w) o1 rfl hok (hz.stay ts1) isx hdp hn hu hs fun bb h' zs' ep' e1 hok' sb ho' hmem=>?_
   have ts2:gw s1.heap h':=fun c o q hc=>by
    refine sb.extBut c o (fun z=>?_) q
    subst z;rw[o1]at q;cases q;exact absurd hc (by show ¬ (Value.type "set" = Value.type "tuple"); simp)
   have hz':ZOk h' zs':=fun z hzm=>by
    rcases hmem z hzm with h|rfl
    ·exact((hz.stay ts1).stay ts2) z h
    ·exact⟨isx.stay ts2,hdp⟩
   refine Il ⟨Jz F.plain_set_update_loop _,ih (i+1) { s1 with heap:=h',toks:=s1.toks+x.draws } zs' ep' t1 (by omega) hlt (W.frame _ s1 _ _ st1 (Nat.le_add_right _ _) fun c hc u q=>?_) ho' hok' hz' (fun z hzm=>by
    rcases hmem z hzm with h|rfl
    ·exact hy z h
    ·exact yx) (fun j v y pj hy=>((hT j v y pj hy).stay ts1).stay ts2) (by rw[e1]; exact hsim) fun s2 zs2 ep2 mv2 ho2 e2 hok2 hz2 hy2=>?_⟩
   ·rw[sb.2 c fun z=>hD (z ▸ hc)]; exact q
   ·refine hR s2 zs2 ep2 (Moved.trans W.gtrans ((mv.mono up).then_heap (Nat.le_add_right _ _) fun c u hc q=>?_) mv2) ho2 e2 hok2 hz2 hy2
    rw[sb.2 c fun z=>hc (z ▸ List.mem_cons_self)]
    exact q
end
section
variable {prog:Program} {w:World} {A:Around} {E:Value->Shared->Prop} {s:Shared}
theorem xi (l:Bool):dz (.fresh 0 0 l) (#[]:Array Ze).size=true:=by cases l <;> decide
set_option maxHeartbeats 4000000 in
theorem u8 {l:Addr}{its:Array Value}{ks:List T}{res:Array (Int×T)×SetTable}{Q:Value->Shared->Prop}(hh:A.handled=none)(hl:s.heap.IsList l its)(hi:IsTs s.heap ks its.toList)(hk:∀ x∈ks,fA x=true/\x.depth<=aE)(hrf:∀ (i:Nat) (v:Value),its[i]?=some v->∃ b,v=.ref b)(hu:(bC prog w).room A.in1.in1.in1)(hsim:ks.foldlM (bO (eC w)) (#[],.fresh 0 0 (!eT w))=some res)
  (h:∀ (h':Heap) (tk:Nat) (zs:Array Ze) (ep:Nat),h'.get? s.heap.objs.size=some (kX w zs ep res.2)->zs.map zT=res.1->dz res.2 zs.size=true->ZOk h' zs->(∀ z∈zs.toList,∃ i:Nat,ks[i]?=some z.2.1/\its[i]?=some (Value.ref z.2.2))->(∀ b u,s.heap.get? b=some u->h'.get? b=some u)->Q (.ref s.heap.objs.size) { s with heap:=h',toks:=tk }):wpAny (model prog w) A (call (.type "set") [.ref l]) Q E s:=by
 obtain⟨c,tl,hmro⟩:=F.called_set.mro;have hmade:=F.called_set.made;have hsub:=F.called_set.sub;have hn1:=F.called_set.notType;have hn2:=F.called_set.canCreate;have hct:=F.typeCall_set_1 (.ref l);refine wpAny_call (codeAny_of_tree ?_);show wpAny _ _ (callAny (.type "set") _) _ _ _;refine Il ⟨Code.quiet_builtin _ (by decide +kernel),IY F.entry_type_call ?_⟩
 rw[Around.under_plain (weight_type_call_type "set" [.ref l] []) rfl]
 repeat (any_goals (first|assumption|wp_step))
 refine Kw (w8 (w:=w) (.ref l) (E:=E) (Q₁:=fun obj s1=>obj=.ref s.heap.objs.size/\s1={ s with heap:=s.heap.push (cC w) }) ⟨rfl,rfl⟩) fun r s1 hr=>?_
 match r,hr with
 | .ok (.ret obj),hr=>
  obtain⟨rfl,rfl⟩:=hr;have oS:(s.heap.push (cC w)).get? s.heap.objs.size=some (cC w):=Ix _ rfl;have tS:Shared.TypeIs { s with heap:=s.heap.push (cC w) } (.ref s.heap.objs.size) "set":=⟨_,oS,rfl⟩
  have hli:=F.called_set.init.lookup;have hbi:=F.called_set.init.bind (.ref s.heap.objs.size)
  repeat (any_goals (first|assumption|wp_step))
  refine Kw (codeAny_call_builtin (R:=wants (fun r s2=>r=.none/\∃ h' tk zs ep,s2={ s with heap:=h',toks:=tk }/\h'.get? s.heap.objs.size=some (kX w zs ep res.2)/\zs.map zT=res.1/\dz res.2 zs.size=true/\ZOk h' zs/\(∀ z∈zs.toList,∃ i:Nat,ks[i]?=some z.2.1/\its[i]?=some (Value.ref z.2.2))/\∀ b u,s.heap.get? b=some u->h'.get? b=some u) E) F.called_set.init.plain F.entry_set_init (check_set_init_1 tS ?_)) fun r2 s2 hr2=>?_
  ·obtain⟨⟨oc,od,ot,osl⟩,hol,hcl,nl,hdl⟩:=id hl;simp only at hcl hdl;subst hcl hdl;have hol1:=Ik (cC w) hol;have l1:(s.heap.push (cC w)).IsList l its:=⟨_,hol1,rfl,nl,rfl⟩;have e1:=F.sub_list_set;have e2:=F.sub_list_frozenset;have e3:(Value.type "list" == Value.type "dict")=false:=by decide
   unfold Builtin.«set.__init__» noKeywords Builtin.Frozenset.updateFrom;generalize hPI:pyIter=PI
   wp_walk
   subst hPI;refine Kz l1 (Ij (Ky ?_));have ls:l < s.heap.objs.size:=Iy hol;have sz:(s.heap.push (cC w)).objs.size=s.heap.objs.size+1:=Kr ..;have ne:l≠(s.heap.push (cC w)).objs.size:=by rw[sz]; exact ID (JU ls)
   have oS':(s.heap.push (cC w)).get? s.heap.objs.size=some (kX w #[] 0 (.fresh 0 0 (!eT w))):=by
    rw[oS]; unfold kX cC; simp
   have len:ks.length=its.size:=by rw[hi.length,(Iz)]
   refine u7 ((Walks.list (A:=A.in1.in1.in1) (by simp[hh]) _ l ne its).toS) (D:=s.heap.objs.size) (ks:=ks) (res:=res) (Y:=fun x b=>∃ i:Nat,ks[i]?=some x/\its[i]?=some (Value.ref b)) (by rw[sz]; simp only[List.mem_cons,List.not_mem_nil,or_false,not_or]; exact⟨ID (Jx _),J2 ls⟩) (fun i s b o st hb q=>?_) len hk (fun i v q=>?_) hu _ 0 _ #[] 0 (.fresh 0 0 (!eT w)) rfl (Jn _)
    ⟨⟨_,Ix _ rfl,rfl,rfl⟩,l1.push _⟩ (Ik _ oS') (xi _) (fun z hz=>by simp at hz) (fun z hz=>by simp at hz) (fun j v x q hx=>?_) (by rw[List.drop_zero,show Array.map zT #[]=#[] by simp]; exact hsim) fun s3 zs3 ep3 mv ho3 e3 hok3 hz3 hy3=>?_
   ·obtain⟨⟨o',e,hc,_⟩,_⟩:=st;rw[List.mem_singleton.mp hb]at q;rw[q]at e;cases e;rw[hc];simp
   ·obtain⟨b,rfl⟩:=hrf i v q;have hi':i < ks.length:=by rw[len]; exact(Jo.mp q).1
    exact⟨ks[i],b,Iw hi',rfl,i,Iw hi',q⟩
   ·have hj:=(Ir.mp hx);have q':=(Jo.mp q);obtain⟨h1,rfl⟩:=hj;obtain⟨h2,rfl⟩:=q';have:=hi.get j h1 (by rw[(Iz)]; exact h2)
    rw[Array.getElem_toList]at this;exact this.stay fun c o q hc=>Ik _ (Ik _ q)
   ·rw[Moved.eq_with mv];refine Il (Il ⟨rfl,s3.heap,s3.toks,zs3,ep3,rfl,ho3,e3,hok3,hz3,hy3,fun b u q=>?_⟩)
    have hb:=Iy q;exact mv.heap b u (by rw[sz]; simp only[List.mem_cons,List.not_mem_nil,or_false,not_or]; exact⟨ID hb,ID (JU hb)⟩) (Ik _ (Ik _ q))
  ·match r2,hr2 with
   | .ok (.ret r),hr2=>
    obtain⟨rfl,h',tk,zs,ep,rfl,g1,g2,g3,g4,g5,g6⟩:=hr2
    repeat (any_goals (first|assumption|wp_step))
    exact h h' tk zs ep g1 g2 g3 g4 g5 g6
   | .ok .next,hr2=>exact hr2.elim
   | .ok .brk,hr2=>exact hr2.elim
   | .ok .cont,hr2=>exact hr2.elim
   | .error e,hr2=>exact hr2
 | .ok .next,hr=>exact hr.elim
 | .ok .brk,hr=>exact hr.elim
 | .ok .cont,hr=>exact hr.elim
 | .error e,hr=>exact hr
end
noncomputable def jP (S:aa)(i:Nat):Option (List (T×W)):=match S[i]? with
 | some (.dic kvs)=>some kvs
 | some (.frd kvs)=>some kvs
 | _=>none
noncomputable def on (S:aa)(i:Nat):Option (List (T×W)):=match S[i]? with
 | some (.dic kvs)=>some kvs
 | _=>none
noncomputable def cL (kvs:List (T×W))(k:T):Option W:=(kvs.find? fun p=>decide (p.1=k)).map (·.2)
noncomputable def eN (kvs:List (T×W))(k:T)(v:W):List (T×W):=
 if (kvs.any fun p=>decide (p.1=k))=true then kvs.map (fun p=>if p.1=k then(p.1,v)else p)else kvs++[(k,v)]
noncomputable def gE (w:W):Option T:=match W.t w with
 | some k=>if k.isTup=true/\k.depth<=aE then some k else none
 | none=>none
theorem dW {w:W}{k:T}(h:gE w=some k):k.w=w/\k.isTup=true/\k.depth<=aE:=by
 unfold gE at h;split at h
 ·rename_i k' hk;split at h
  ·rename_i hc;cases h;exact⟨W.t_w hk,hc.1,hc.2⟩
  ·cases h
 ·cases h
theorem dA (kvs:List (T×W))(k:T)(v:W):(eN kvs k v).length<=kvs.length+1:=by
 unfold eN;split
 ·rw[(Im)]; omega
 ·rw[(Iv),(JN),List.length_nil]; omega
section
variable {X:Cx} {pins:List (Addr×Obj)} {σ:L2.St} {H:Hp} {s:Shared} {A:List Addr} {S:aa}
mutual
theorem oo (I:Inv X pins σ H s):∀ (k:T) {v:V} {u:Value},Rel X.K A H k.w v->RelV v u->IsT s.heap k u
 | .int i,_,_,r,q=>by
  cases r;obtain⟨t,rfl⟩ : ∃ t,_=Value.int _ t:=q;exact .int
 | .str x,_,_,r,q=>by
  cases r;obtain⟨t,rfl⟩ : ∃ t,_=Value.str _ t:=q;exact .str
 | .tup ks,_,_,r,q=>by
  simp only[T.w]at r;cases r with
  | tup sq rl=>
   obtain⟨its,rv,⟨o,h1,h2,n,h3⟩,hz⟩:=I.tuple sq;obtain rfl:_=Value.ref _:=q;exact .tup h1 h2 h3 (fB I ks rl (by simpa using rv))
theorem fB (I:Inv X pins σ H s):∀ (ks:List T) {vs:List V} {us:List Value},RelL X.K A H (T.ws ks) vs->Vals vs us->IsTs s.heap ks us
 | [],_,_,r,q=>by
  simp only[T.ws]at r;cases r; cases q; exact .nil
 | k::ks,_,_,r,q=>by
  simp only[T.ws]at r;cases r with
  | cons r1 r2=>
   cases q with
   | cons q1 q2=>exact .cons (oo I k r1 q1) (fB I ks r2 q2)
end
theorem ji (I:Inv X pins σ H s){k:T}{b:Addr}(r:Rel X.K A H k.w (.ref b))(hd:k.depth<=aE):(bC X.prog X.w).is s.heap k b:=⟨oo I k r rfl,hd⟩
theorem iH {w:W}{k:T}{v:V}{u:Value}(hk:gE w=some k)(r:Rel X.K A H w v)(q:RelV v u):∃ b,v=.ref b/\u=.ref b/\Rel X.K A H k.w (.ref b):=by
 obtain⟨h1,h2,h3⟩:=dW hk;subst h1;cases k with
 | tup ks=>
  simp only[T.w]at r;cases r with
  | tup a b=>exact⟨_,rfl,q,by simp only[T.w]; exact .tup a b⟩
 | _=>cases h2
theorem KRel.is {kvs:List (T×W)}{xs:List (T×Addr×Value)}(I:Inv X pins σ H s)(r:KRel X.K A H kvs xs):∀ x∈xs,(bC X.prog X.w).is s.heap x.1 x.2.1:=by
 unfold KRel at r
 induction r with
 | nil=>intro x hx; exact nomatch hx
 | @cons p q ps qs h t ih=>
  intro x hx;rcases IR.mp hx with e|hx
  ·subst e;obtain⟨h1,h2,h3,h4,_⟩:=h;rw[h1]at h3 h4;exact ji I h4 h3
  ·exact ih x hx
theorem KRel.length {kvs:List (T×W)}{xs:List (T×Addr×Value)}(r:KRel X.K A H kvs xs):kvs.length=xs.length:=Paired.length r
theorem KRel.val {kvs:List (T×W)}{xs:List (T×Addr×Value)}(r:KRel X.K A H kvs xs)(k:T) :
  (∀ w,cL kvs k=some w->∃ p v,atKey xs k=some p/\Rel X.K A H w v/\RelV v p.2)/\(cL kvs k=none->atKey xs k=none):=by
 unfold KRel at r
 induction r with
 | nil=>exact⟨fun w h=>(nomatch h),fun _=>rfl⟩
 | @cons p q ps qs h t ih=>
  obtain⟨h1,_,_,_,v,h5,h6⟩:=h
  by_cases e:p.1=k
  ·have e':q.1=k:=h1.symm.trans e;have a1:cL (p::ps) k=some p.2:=by simp[cL,List.find?_cons,e]
   have a2:atKey (q::qs) k=some q.2:=by simp[atKey,List.find?_cons,e']
   rw[a1,a2];exact⟨fun w hw=>(by cases hw; exact⟨_,v,rfl,h5,h6⟩),fun h=>nomatch h⟩
  ·have e':¬ q.1=k:=fun z=>e (h1.trans z)
   have a1:cL (p::ps) k=cL ps k:=by simp[cL,List.find?_cons,e]
   have a2:atKey (q::qs) k=atKey qs k:=by simp[atKey,List.find?_cons,e']
   rw[a1,a2];exact ih
theorem KRel.repl {kvs:List (T×W)}{xs:List (T×Addr×Value)}(r:KRel X.K A H kvs xs)(k:T){w:W}{v:V}{u:Value}(rw':Rel X.K A H w v)(rv:RelV v u) :
  KRel X.K A H (kvs.map fun p=>if p.1=k then(p.1,w)else p) (xs.map (putAt k u)):=by
 unfold KRel at r ⊢
 induction r with
 | nil=>exact .nil
 | @cons p q ps qs h t ih=>
  rw[(JX),(JX)];refine .cons ?_ ih;obtain⟨h1,h2,h3,h4,h5⟩:=h;unfold putAt
  by_cases e:p.1=k
  ·rw[if_pos e,if_pos (h1.symm.trans e)]; exact⟨h1,h2,h3,h4,v,rw',rv⟩
  ·rw[if_neg e,if_neg (fun z=>e (h1.trans z))]; exact⟨h1,h2,h3,h4,h5⟩
theorem qa (k:T):∀ kvs:List (T×W),(kvs.any fun p=>decide (p.1=k))=(cL kvs k).isSome
 | []=>rfl
 | p::r=>by
  rw[(Kd)]
  by_cases e:p.1=k
  ·have a1:cL (p::r) k=some p.2:=by simp[cL,List.find?_cons,e]
   rw[a1,decide_eq_true e]; rfl
  ·have a1:cL (p::r) k=cL r k:=by simp[cL,List.find?_cons,e]
   rw[a1,decide_eq_false e,Bool.false_or]; exact qa k r
theorem KRel.put {kvs:List (T×W)}{xs:List (T×Addr×Value)}(r:KRel X.K A H kvs xs){k:T}{b:Addr}{w:W}{v:V}{u:Value}(h1:k.isTup=true)(h2:k.depth<=aE)(h3:Rel X.K A H k.w (.ref b))(rw':Rel X.K A H w v)(rv:RelV v u) :
  KRel X.K A H (eN kvs k w) (storedH xs k b u):=by
 have e:(kvs.any fun p=>decide (p.1=k))=(atKey xs k).isSome:=by
  rw[qa];cases q:cL kvs k with
  | none=>rw[(r.val k).2 q]; rfl
  | some x=>obtain⟨p,_,h,_⟩:=(r.val k).1 x q; rw[h]; rfl
 unfold eN storedH;rw[e]
 by_cases q:(atKey xs k).isSome=true
 ·rw[if_pos q,if_pos q]; exact r.repl k rw' rv
 ·rw[if_neg q,if_neg q]; exact Paired.snoc r ⟨rfl,h1,h2,h3,v,rw',rv⟩
theorem DicAt.of {h:Heap}{a:Addr}{xs:List (T×Addr×Value)}(hz:xs.length<=sizeLine)(hs:(a==sysModules)=false)(d:h.DictOfH (bC X.prog X.w) a xs):DicAt X.w a xs h:=
 let ⟨o,es,ep,h1,h2,h3,h4,_,h6⟩:=d; ⟨hz,hs,h6,o,es,ep,h1,h2,h3,h4⟩
theorem DicAt.stay {wd:World}{h h':Heap}{a:Addr}{xs:List (T×Addr×Value)}(d:DicAt wd a xs h)(k:∀ o,h.get? a=some o->h'.get? a=some o):DicAt wd a xs h':=
 let ⟨h0,hs,hn,o,es,ep,h1,h2⟩:=d; ⟨h0,hs,hn,o,es,ep,k _ h1,h2⟩
theorem DicAt.ok {P:Program}{h:Heap}{wd:World}{a:Addr}{xs:List (T×Addr×Value)}(d:DicAt wd a xs h):ObjOk P wd H h a (d0 wd a xs):=
 ⟨d,let ⟨_,_,_,o,_,_,h1,_⟩:=d; ⟨o,h1⟩,fun _ _ p k=>p.stay k⟩
theorem cD {a:Addr}{xs:List (T×Addr×Value)}(I:Inv X pins σ H s)(e:Rd H a (d0 X.w a xs)):DicAt X.w a xs s.heap:=(show ObjOk X.prog X.w H s.heap a (d0 X.w a xs)from e.ok I.hok).1
theorem DicAt.dict {kvs:List (T×W)}{a:Addr}{xs:List (T×Addr×Value)}(d:DicAt X.w a xs s.heap)(I:Inv X pins σ H s)(r:KRel X.K A H kvs xs):s.heap.DictOfH (bC X.prog X.w) a xs:=
 let ⟨_,_,hn,o,es,ep,h1,h2,h3,h4⟩:=d; ⟨o,es,ep,h1,h2,h3,h4,r.is I,hn⟩
theorem fU {i:Nat}{kvs:List (T×W)}{a:Addr}(so:StoreOk X.w X.K A H S)(e:jP S i=some kvs)(ea:A[i]?=some a):∃ xs,Rd H a (d0 X.w a xs)/\KRel X.K A H kvs xs:=by
 unfold jP at e;split at e
 ·rename_i k h;cases e;obtain⟨xs,q,r⟩:=so.obj i _ a h ea;exact⟨xs,.inl q,r⟩
 ·rename_i k h;cases e;obtain⟨o,xs,q,r⟩:=so.obj i _ a h ea;exact⟨xs,.inr ⟨o,q⟩,r⟩
 ·cases e
theorem iI {i:Nat}{kvs:List (T×W)}(e:on S i=some kvs):S[i]?=some (.dic kvs):=by
 unfold on at e;split at e
 ·rename_i h; cases e; exact h
 ·cases e
theorem tm {i:Nat}{kvs:List (T×W)}{a:Addr}(so:StoreOk X.w X.K A H S)(e:on S i=some kvs)(ea:A[i]?=some a):∃ xs,H a=some (d0 X.w a xs)/\KRel X.K A H kvs xs:=
 so.obj i _ a (iI e) ea
theorem qb {B:Around}(hu:B.units+10 < cLine):(bC X.prog X.w).room B.in1:=by
 show B.in1.units+aE < cLine;rw[bm]; unfold aE; omega
noncomputable def pI (x y:W)(S:aa):Option (W×aa):=match x,y with
 | .ref r,.tup ks=>match jP S r,gE (.tup ks)with
  | some kvs,some k=>(cL kvs k).map fun w=>(w,S)
  | _,_=>none
 | x,y=>uT x y S
theorem G8 (hu:X.A.units+10 < cLine):LIx X pI:=by
 intro value slice pins s σ H A S x y a b u v w S' I so rx ru ry rv e hs
 by_cases hxy:∃ r ks,x=.ref r/\y=.tup ks
 ·obtain⟨r,ks,rfl,rfl⟩:=hxy;simp only[pI]at e;split at e
  ·rename_i kvs k hk1 hk2;rw[(Io)]at e;obtain⟨w',e1,e2⟩:=e;cases e2;cases rx with
   | ref ea=>
    obtain⟨xs,rd,kr⟩:=fU so hk1 ea;have d:=cD I rd;have dd:=d.dict I kr;obtain⟨bk,rfl,rfl,rk⟩:=iH hk2 ry rv;obtain⟨p,vv,h1,h2,h3⟩:=(kr.val k).1 _ e1;obtain rfl:u=Value.ref _:=ru;refine subscriptTail_builtinR (x:=p.2) dd.typeIs slot_dict_getitem.lookup
     (wpAny_getItem_heap (Q:=fun r s'=>r=p.2/\dI X pins σ A H S w r s') (qb hu) (ji I rk (dW hk2).2.2) dd h1 ⟨rfl,vv,H,A,I.tok _,h3,.refl,so,h2⟩) hs
  ·cases e
 ·have:pI x y S=uT x y S:=by
   cases x <;> cases y <;> first|rfl|exact absurd ⟨_,_,rfl,rfl⟩ hxy
  rw[this]at e;exact HX hu value slice pins s σ H A S x y a b u v w S' I so rx ru ry rv e hs
noncomputable def iJ (o i v:W)(S:aa):Option aa:=match o,i with
 | .ref r,.tup ks=>match on S r,gE (.tup ks)with
  | some kvs,some k=>if kvs.length < sizeLine then some (S.set r (.dic (eN kvs k v)))else none
  | _,_=>none
 | o,i=>uU o i v S
theorem E2 (hu:X.A.units+10 < cLine):LSet X iJ:=by
 intro pins s σ H A S o i x ao ai ax uo ui ux S' I so ro ruo ri rui rx rux e
 by_cases hxy:∃ r ks,o=.ref r/\i=.tup ks
 ·obtain⟨r,ks,rfl,rfl⟩:=hxy;simp only[iJ]at e;split at e
  ·rename_i kvs k hk1 hk2;split at e
   ·rename_i hl;cases e;cases ro with
    | ref ea=>
     obtain⟨xs,hH,kr⟩:=tm so hk1 ea;have d:=cD I (.inl hH);have dd:=d.dict I kr;obtain⟨bk,rfl,rfl,rk⟩:=iH hk2 ri rui;obtain⟨q1,q2,q3⟩:=dW hk2;obtain rfl:uo=Value.ref _:=ruo;have hz:xs.length<=sizeLine:=by rw[<- kr.length]; omega
     refine wpAny_setItem_heap (hsz:=hz) (qb hu) (ji I rk q3) dd fun h' dd' hs=>?_
     have kr':=kr.put q2 q3 rk rx rux;have hz':(storedH xs k bk ux).length<=sizeLine:=by
      rw[<- kr'.length];have:=dA kvs k x;omega
     have dn:DicAt X.w _ (storedH xs k bk ux) h':=.of hz' d.2.1 dd';obtain⟨so',ex⟩:=so.writeO (iI hk1) rfl ea (u:=d0 X.w _ (storedH xs k bk ux)) (n:=.dic (eN kvs k x)) ⟨_,bx,kr'.mono (dN (.ext hH))⟩;exact⟨_,A,nY I (by rw[hH]; exact True.intro) hs (let ⟨q,_,_,hq,_⟩:=dd'; ⟨q,hq⟩) dn.ok,ex,so'⟩
   ·cases e
  ·cases e
 ·have:iJ o i x S=uU o i x S:=by
   cases o <;> cases i <;> first|rfl|exact absurd ⟨_,_,rfl,rfl⟩ hxy
  rw[this]at e;exact lset hu pins s σ H A S o i x ao ai ax uo ui ux S' I so ro ruo ri rui rx rux e
noncomputable def tq (x:W)(xs:List W)(S:aa):Option (W×aa):=match x,xs with
 | .ref r,[y,z]=>match jP S r,gE y with
  | some kvs,some k=>some ((cL kvs k).getD z,S)
  | _,_=>none
 | _,_=>none
theorem r9 (hu:X.A.units+10 < cLine):LMeth X "dict.get" tq:=by
 intro pins s σ H A S x a u xs vs us w S' I so rx ru rl rv e;cases rx with
 | ref ea=>
  cases rl with
  | nil=>cases e
  | cons r1 t1=>
   cases t1 with
   | nil=>cases e
   | cons r2 t2=>
    cases t2 with
    | cons _ _=>cases e
    | nil=>
     simp only[tq]at e;split at e
     ·rename_i kvs k hk1 hk2;cases e;obtain⟨xs,rd,kr⟩:=fU so hk1 ea;have d:=cD I rd;have dd:=d.dict I kr;cases rv with
      | cons v1 rv2=>
       cases rv2 with
       | cons v2 rv3=>
        cases rv3;obtain⟨bk,rfl,rfl,rk⟩:=iH hk2 r1 v1;obtain rfl:u=Value.ref _:=ru;refine call_meetsIn PySem.F.slot_dict_get dd.typeIs PySem.F.entry_dict_get (PySem.F.args_dict_get_3 _ _ _) (meetsH_dict_get_default (bC X.prog X.w) _ bk d.2.1 _) ⟨qb hu,k,xs,ji I rk (dW hk2).2.2,dd,?_⟩;cases q:cL kvs k with
        | none=>
         rw[(kr.val k).2 q];exact⟨_,H,A,I.tok _,v2,.refl,so,r2⟩
        | some w'=>
         obtain⟨p,vv,h1,h2,h3⟩:=(kr.val k).1 _ q;rw[h1];exact⟨vv,H,A,I.tok _,h3,.refl,so,h2⟩
     ·cases e
 | _=>cases e
noncomputable def Ej (x:W)(i:Nat)(S:aa):Option Bool:=match W.t x,iz S i with
 | some k,some ys=>match W.ts ys with
  | some ks=>if k.depth<=aE/\T.depths ks<=aE then some (decide (k∈ks))else none
  | none=>none
 | _,_=>none
theorem tu {h:Heap}:∀ {ks:List T} {vs:List Value},IsTs h ks vs->∀ v∈vs,∃ k∈ks,IsT h k v
 | _,_,.cons a b,v,hv=>by
  rcases IR.mp hv with rfl|hv
  ·exact⟨_,.head _,a⟩
  ·obtain⟨k,hk,q⟩:=tu b v hv;exact⟨k,.tail _ hk,q⟩
noncomputable def C3 (h:Heap)(k:T)(v:Value):Bool:=@decide (IsT h k v) (Classical.propDecidable _)
theorem xj {h:Heap}{k k':T}{v:Value}(x:IsT h k' v):C3 h k v=decide (k'=k):=by
 unfold C3
 by_cases e:k'=k
 ·subst e; simp[x]
 ·have:¬ IsT h k v:=fun y=>e (x.inj y)
  simp[e,this]
theorem tw {h:Heap}{k:T}:∀ {ks:List T} {vs:List Value},IsTs h ks vs->vs.any (C3 h k)=decide (k∈ks)
 | _,_,.nil=>by simp
 | _,_,.cons (k:=k') a b=>by
  rw[(Kd),xj a,tw b]
  by_cases e:k'=k
  ·simp[e]
  ·have:¬ k=k':=fun z=>e z.symm
   simp[e,this]
theorem qc:∀ {ks:List T} {k:T},k∈ks->k.depth<=T.depths ks
 | x::ks,k,h=>by
  simp only[T.depths];rcases IR.mp h with rfl|h
  ·omega
  ·have:=qc h; omega
theorem xk {x:W}{i:Nat}{a b:V}{u v:Value}{c:Bool}(hu:X.A.units+10 < cLine)(I:Inv X pins σ H s)(so:StoreOk X.w X.K A H S)(rx:Rel X.K A H x a)(ru:RelV a u)(ry:Rel X.K A H (.ref i) b)(rv:RelV b v)(e:Ej x i S=some c) :
  ∃ l its k ks,v=.ref l/\s.heap.IsList l its/\(∀ y,y∈its->SeqAt.EqAt X.A.in1 s y u (C3 s.heap k y))/\its.any (C3 s.heap k)=c/\c=decide (k∈(ks:List T)):=by
 unfold Ej at e;split at e
 ·rename_i k ys h1 h2;split at e
  ·rename_i ks h3;split at e
   ·rename_i h4;cases e;cases ry with
    | ref ea=>
     obtain⟨vs,g1,g2⟩:=cw so h2 ea;obtain⟨its,rv',p,_⟩:=I.list g1;obtain rfl:v=Value.ref _:=rv;have hT:IsTs s.heap ks its:=fB I ks ((W.ts_w h3).symm ▸ g2) rv';have hk:IsT s.heap k u:=oo I k ((W.t_w h1).symm ▸ rx) ru;refine⟨_,its.toArray,k,ks,rfl,p.isList,fun y hy=>?_,by rw[List.any_toArray]; exact tw hT,rfl⟩
     obtain⟨k',hk',q⟩:=tu hT y (by simpa using hy)
     rw[xj q];have:=qc hk';have kl:aE=6:=rfl;exact xf aE k' k _ _ _ _ (by omega) q hk (by rw[bm]; omega) (by rw[bm]; omega)
   ·cases e
  ·cases e
 ·cases e
noncomputable def dh (o:COp)(x y:W)(S:aa):Option (W×aa):=match o,y with
 | .isin,.ref i=>match jP S i with
  | some kvs=>(gE x).map fun k=>(.bl (cL kvs k).isSome,S)
  | none=>match x with
   | .tup xs=>(Ej (.tup xs) i S).map fun b=>(.bl (b),S)
   | x=>jd .isin x (.ref i) S
 | .notin,.ref i=>match jP S i with
  | some kvs=>(gE x).map fun k=>(.bl (!(cL kvs k).isSome),S)
  | none=>match x with
   | .tup xs=>(Ej (.tup xs) i S).map fun b=>(.bl (!b),S)
   | x=>jd .notin x (.ref i) S
 | o,y=>jd o x y S
theorem qg (hu:X.A.units+g8 < cLine)(o:COp):LOp X (compareOp o.py) (dh o):=by
 intro pins s σ H A S x y a b u v w S' I so rx ru ry rv e;have get:∀ {i:Nat} {kvs:List (T×W)} {k:T},y=.ref i->jP S i=some kvs->gE x=some k->∃ d c xs,v=.ref d/\u=.ref c/\(d==sysModules)=false/\(bC X.prog X.w).is s.heap k c/\s.heap.DictOfH (bC X.prog X.w) d xs/\(cL kvs k).isSome=(atKey xs k).isSome:=by
  intro i kvs k hy hk1 hk2;subst hy;cases ry with
  | ref ea=>
   obtain⟨xs,rd,kr⟩:=fU so hk1 ea;have d:=cD I rd;obtain⟨bk,rfl,rfl,rk⟩:=iH hk2 rx ru;obtain rfl:v=Value.ref _:=rv;refine⟨_,bk,xs,rfl,rfl,d.2.1,ji I rk (dW hk2).2.2,d.dict I kr,?_⟩;cases q:cL kvs k with
   | none=>rw[(kr.val k).2 q]; rfl
   | some w'=>obtain⟨p,_,h1,_⟩:=(kr.val k).1 _ q; rw[h1]; rfl
 have old:jd o x y S=some (w,S')->wpAny (model X.prog X.w) X.A (compareOp o.py u v) (dI X pins σ A H S' w) X.xe s:=fun h=>Aq hu o pins s σ H A S x y a b u v w S' I so rx ru ry rv h
 have hu':X.A.units+10 < cLine:=by have:g8=20:=rfl; omega
 unfold dh at e;split at e
 ·split at e
  ·rename_i kvs hk1;rw[(Io)]at e;obtain⟨k,hk2,e2⟩:=e;cases e2;obtain⟨d,c,xs,rfl,rfl,q1,q2,q3,q4⟩:=get rfl hk1 hk2;rw[q4];exact wpAny_in_heap (qb hu') q2 q1 q3 ⟨.bl _,H,A,I.tok _,rfl,.refl,so,.bl⟩
  ·split at e
   ·rw[(Io)]at e;obtain⟨c,hc,e⟩:=e;cases e;obtain⟨l,its,k,ks,rfl,p1,p2,p3,_⟩:=xk hu' I so rx ru ry rv hc;refine SeqAt.in_listAt (C3 s.heap k) p1 p2 ?_;rw[p3];exact⟨.bl _,H,A,I,rfl,.refl,so,.bl⟩
   ·exact old e
 ·split at e
  ·rename_i kvs hk1;rw[(Io)]at e;obtain⟨k,hk2,e2⟩:=e;cases e2;obtain⟨d,c,xs,rfl,rfl,q1,q2,q3,q4⟩:=get rfl hk1 hk2;rw[q4];exact wpAny_notIn_heap (qb hu') q2 q1 q3 ⟨.bl _,H,A,I.tok _,rfl,.refl,so,.bl⟩
  ·split at e
   ·rw[(Io)]at e;obtain⟨c,hc,e⟩:=e;cases e;obtain⟨l,its,k,ks,rfl,p1,p2,p3,_⟩:=xk hu' I so rx ru ry rv hc;refine SeqAt.notIn_listAt (C3 s.heap k) p1 p2 ?_;rw[p3];exact⟨.bl _,H,A,I,rfl,.refl,so,.bl⟩
   ·exact old e
 ·exact old e
end
noncomputable def RawD (d:Addr)(es:Array DictEntry)(ep:Nat)(h:Heap):Prop:=∃ o,h.get? d=some o/\o.ExactDict/\o.data=.dict es ep
theorem RawD.at {d:Addr}{es:Array DictEntry}{ep:Nat}{h h':Heap}(x:RawD d es ep h)(e:∀ o,h.get? d=some o->h'.get? d=some o):RawD d es ep h':=let ⟨o,ho,r⟩:=x; ⟨o,e _ ho,r⟩
theorem RawD.lt {d:Addr}{es:Array DictEntry}{ep:Nat}{h:Heap}(x:RawD d es ep h):d < h.objs.size:=let ⟨_,ho,_⟩:=x; Iy ho
theorem RawD.type {d:Addr}{es:Array DictEntry}{ep:Nat}{s:Shared}(x:RawD d es ep s.heap):s.TypeIs (.ref d) "dict":=let ⟨o,ho,hc,_⟩:=x; ⟨o,ho,hc.1⟩
section
variable {prog:Program} {w:World} {A:Around} {E:Value->Shared->Prop} {s:Shared} {it d:Addr} {i ep:Nat} {es:Array DictEntry}
theorem qh {Q:Value->Shared->Prop}(hd:(d==sysModules)=false)(hm:RawD d es ep s.heap)
  (hQ:Q (.ref s.heap.objs.size) { s with heap:=s.heap.push { cls:=.type "dict_keyiterator",data:=.fields #[.ref d,.int 0 0,.int es.size 0,.int ep 0] } }):wpAny (model prog w) A (pyIter (.ref d)) Q E s:=by
 have hT:=hm.type;obtain⟨o,ho,hc,hdat⟩:=id hm;refine wpAny_pyIter_slot hT F.slot_dict_iter (Ji F.slot_dict_iter hT F.entry_dict_iter ?_ (F.args_dict_iter_1 _));unfold Builtin.«dict.__iter__» Builtin.Dict.dictSlotNone;refine Ij (Ij (wpAny_notOrdered_dict hT ?_));show wpAny _ _ (pure (Value.ref d)) _ _ s;refine Il ?_;show wpAny _ _ (Builtin.Dict.showsAll d >>= _) _ _ s;unfold Builtin.Dict.showsAll;rw[if_neg (by rw[hd]; exact Je)]
 refine Ij (Il (Ij (KA ho hdat (Ij (wpAny_dictEpoch ho hdat ?_)))));refine Ij (IP (Il ⟨_,rfl,"dict_keyiterator",_,⟨_,Ix _ rfl,rfl⟩,F.slot_dict_keyiterator_next.lookup,?_⟩))
 simpa [rawInt]using hQ
theorem qi {Q:Option Value->Shared->Prop}(hit:s.heap.IsKeyIter it d i es.size ep)(hm:RawD d es ep s.heap)(hi:i < es.size)
  (hQ:∀ h',h'.IsKeyIter it d (i+1) es.size ep->Heap.SameBut it s.heap h'->Q (some es[i].key) { s with heap:=h' }):wpAny (model prog w) A (pyNext (.ref it)) Q E s:=by
 obtain⟨o,ho,hc,hd⟩:=id hit;obtain⟨od,hod,hcd,hdd⟩:=id hm;unfold pyNext;refine Ij (wpAny_attempt (Jw (name:=Str.ofString "__next__") hit.typeIs F.slot_dict_keyiterator_next
  (Ji F.slot_dict_keyiterator_next hit.typeIs F.entry_dict_keyiterator_next ?_ (F.args_dict_keyiterator_next_1 _))))
 refine Ij (Il (Ij (Ij ?_)))
 first|refine Ij (JG hit.typeIs (Il ?_))|refine Ij (JY hit.typeIs (Il ?_))
 refine Ij (wpAny_fieldsOf ho hd ?_);have hown:Builtin.Dict_items.ownsTuple "dict_keyiterator" = false:=by decide
 simp only[hown,Bool.false_eq_true,if_false];show wpAny _ _ (if (Value.ref d==Value.none)=true then _ else _) _ _ s
 rw[if_neg (show ¬ ((Value.ref d==Value.none)=true)from Bool.false_ne_true)]
 refine Ij (Il (Ij (KA hod hdd ?_)));rw[if_neg (by simp)]
 refine Ij (Il (Ij (wpAny_dictEpoch hod hdd ?_)));rw[if_neg (by simp)]
 refine Il ?_;simp only[show ¬ ((i:Int) < 0)from by omega,if_false,Int.toNat_natCast,Array.getElem?_eq_getElem hi]
 refine Ij ?_
 first|refine Ij (JG hit.typeIs (Il ?_))|refine Ij (JY hit.typeIs (Il ?_))
 refine Ij (wpAny_isOneOf_keyiter hit.typeIs ?_);show wpAny _ _ (setField (.ref it) 1 (rawInt ((i:Int)+1)) >>= _) _ _ s;refine Ij (wpAny_setField ho hd (by simp) ?_)
 have hit':(s.heap.update it (Obj.mapFields (·.setIfInBounds 1 (rawInt ((i:Int)+1))))).IsKeyIter it d (i+1) es.size ep:=
  ⟨_,JF _ ho (Obj.isFreed_of_fields (Obj.data_mapFields hd _)),(Obj.cls_mapFields ..).trans hc,by rw[Obj.data_mapFields hd]; simp[rawInt]⟩
 refine Ij (IW ?_);refine Ij (wpAny_isOneOf_keyiter (s:={ s with heap:=s.heap.update it (Obj.mapFields (·.setIfInBounds 1 (rawInt ((i:Int)+1)))) }) hit'.typeIs ?_)
 show wpAny _ _ (pure es[i].key) _ _ _;exact Il (Il ⟨_,rfl,Il (hQ _ hit' (Heap.SameBut.update ..))⟩)
theorem tz {Q:Option Value->Shared->Prop}(hh:A.handled=none)(hit:s.heap.IsKeyIter it d i es.size ep)(hm:RawD d es ep s.heap)(hge:es.size<=i)
  (hQ:∀ h',Heap.ExtBut it s.heap h'->Q none { s with heap:=h' }):wpAny (model prog w) A (pyNext (.ref it)) Q E s:=by
 obtain⟨o,ho,hc,hd⟩:=id hit;obtain⟨od,hod,hcd,hdd⟩:=id hm;unfold pyNext;refine Ij (wpAny_attempt (Jw (name:=Str.ofString "__next__") hit.typeIs F.slot_dict_keyiterator_next
  (Ji F.slot_dict_keyiterator_next hit.typeIs F.entry_dict_keyiterator_next ?_ (F.args_dict_keyiterator_next_1 _))))
 refine Ij (Il (Ij (Ij ?_)))
 first|refine Ij (JG hit.typeIs (Il ?_))|refine Ij (JY hit.typeIs (Il ?_))
 refine Ij (wpAny_fieldsOf ho hd ?_);have hown:Builtin.Dict_items.ownsTuple "dict_keyiterator" = false:=by decide
 simp only[hown,Bool.false_eq_true,if_false];show wpAny _ _ (if (Value.ref d==Value.none)=true then _ else _) _ _ s
 rw[if_neg (show ¬ ((Value.ref d==Value.none)=true)from Bool.false_ne_true)]
 refine Ij (Il (Ij (KA hod hdd ?_)));rw[if_neg (by simp)]
 refine Ij (Il (Ij (wpAny_dictEpoch hod hdd ?_)));rw[if_neg (by simp)]
 refine Il ?_;simp only[show ¬ ((i:Int) < 0)from by omega,if_false,Int.toNat_natCast,Array.getElem?_eq_none hge]
 refine Ij ?_
 first|refine Ij (JG hit.typeIs (Il ?_))|refine Ij (JY hit.typeIs (Il ?_))
 show wpAny _ _ (setField (.ref it) 0 .none >>= _) _ _ s;refine Ij (wpAny_setField ho hd (by simp) ?_)
 show wpAny _ _ (newExc (.type "StopIteration") [] >>= _) _ _ _;refine Ij ?_;simp only[newExc,newTuple];refine Ij (IP ?_ (by size_fits))
 refine Ij (m:=firstArgMember _ _) (KH (a:=Value.none) (by first|rfl|(simp only[firstArgMember]; rfl)) ?_)
 refine IP ?_ (by size_fits)
 simp only[raiseNew];refine Ij (wpAny_handled ?_);rw[show A.in1.handled=none from hh]
 refine Ij (Il (wpAny_throw ?_));refine Ij (wpAny_isInstance (T:="StopIteration") (b:=true) ⟨_,Ix _ rfl,rfl⟩ isSubtype_stop ?_);exact Il (hQ _ (((Heap.SameBut.update ..).extBut.push _).push _))
theorem u9 (hh:A.handled=none)(I d:Addr)(hne:d≠I)(es:Array DictEntry)(ep:Nat) :
  Walks prog w A I [I,d] [I] es.size (fun i v=>∃ e,es[i]?=some e/\e.key=v) (fun i h=>h.IsKeyIter I d i es.size ep/\RawD d es ep h) where
 sub:=fun b hb=>by simp at hb; simp[hb]
 frame:=fun _ _ _ st hk=>⟨st.1.at fun o e=>hk I (by simp) o e,st.2.at fun o e=>hk d (by simp) o e⟩
 item:=fun i s Q E hi st hQ=>
  qi st.1 st.2 hi fun h' hit' hs'=>hQ _ h' s.toks ⟨es[i],by simp[hi],rfl⟩ ⟨hit',st.2.at fun o e=>(hs'.2 d hne).trans e⟩ fun b o hb e=>hs'.extBut b o (fun h=>hb (by simp[h])) e
 done:=fun s Q E st hQ=>tz hh st.1 st.2 (Ip _) fun h' he'=>hQ h' s.toks fun b o hb e=>he' b o (fun h=>hb (by simp[h])) e
 self:=fun _ _ _ _ st hQ=>wpAny_pyIter_keyiter st.1 hQ
theorem tB (lo:(d==sysModules)=false):PySem.W.KdlSrc prog w "dict" d d es.size (fun i v=>∃ e,es[i]?=some e/\e.key=v) (RawD d es ep) where
 type:=fun _ hm=>hm.type
 there:=fun _ hm=>⟨hm.lt,hm.lt⟩
 keep:=fun _ _ hm hk=>hm.at fun o e=>hk d (.inl rfl) o e
 notList:=by decide
 notTuple:=by decide
 hint:=fun _ _ _ _ hm hq=>PySem.W.kdl_hint_dict hm.type hq
 iter:=fun _ _ hh hm=>⟨_,_,(fun _ _ hq=>qh lo hm hq),u9 hh _ d (ID hm.lt) es ep,⟨⟨_,Ix _ rfl,rfl,rfl⟩,hm.at fun o e=>Ik _ e⟩⟩
theorem xl {T:String}{r d S:Addr}{n:Nat}{P:Nat->Value->Prop}{OK:Heap->Prop}{R:Result->Shared->Prop}(K:PySem.W.KdlSrc prog w T r d n P OK)(hh:A.handled=none)(hok:OK s.heap)(hn:n<=sizeLine)(hSr:S≠r)(hSd:S≠d)
  (hS:s.heap.get? S=some { cls:=.type "list",data:=.seq #[] 0 })
  (hR:∀ h' tk acc' c',(∀ b o,b≠S->s.heap.get? b=some o->h'.get? b=some o)->h'.get? S=some { cls:=.type "list",dict:=none,data:=.seq acc' c',slots:=#[] }->ItemsOf P acc' n->R (.ok (.ret (.ref S))) { s with heap:=h',toks:=tk }) :
  codeAny (model prog w) A (.builtin "list.__iadd__" ⟨[.ref S,.ref r],[]⟩) R s:=by
 refine IY F.entry_list_iadd ?_;rw[Around.under_plainId F.plain_list_iadd _];show wpAny _ A.in1 (Builtin.List.listExtendWith (.ref S) (.ref r) (.ref S)) _ _ _;exact PySem.W.kdl_extend K hh hok S hSr hSd _ 0 hS hR hn
theorem qj {T:String}{r d:Addr}{n:Nat}{P:Nat->Value->Prop}{OK:Heap->Prop}{Q:List Value->Shared->Prop}(K:PySem.W.KdlSrc prog w T r d n P OK)(hh:A.handled=none)(hok:OK s.heap)(hn:n<=sizeLine)
  (hQ:∀ h' tk acc,(∀ b o,s.heap.get? b=some o->h'.get? b=some o)->s.heap.objs.size<=h'.objs.size->ItemsOf P acc n->Q acc.toList { s with heap:=h',toks:=tk }):wpAny (model prog w) A (collect (.ref r)) Q E s:=by
 unfold collect;refine Ij (Ky (IY F.entry_proto_collect ?_));rw[Around.under_plainId F.plain_proto_collect _];show wpAny _ A.in1 (newList [] >>= fun l=>again (.builtin "list.__iadd__" ⟨[l,.ref r],[]⟩)) _ _ s
 refine Ij (IP ?_);have hlt:=K.there _ hok;refine Il ⟨Jz F.plain_list_iadd _,xl (s:={ s with heap:=s.heap.push { cls:=.type "list",data:=.seq ([]:List Value).toArray } }) K hh (K.keep _ _ hok fun b _ o e=>Ik _ e) hn (J2 hlt.1) (J2 hlt.2) (Ix _ rfl) fun h' tk acc' c' hk hS' hacc=>?_⟩
 show wpAny (model prog w) A (do
   let o <- load s.heap.objs.size
   match o.data with
   | .seq xs _=>pure xs.toList
   | _=>unsupported "internal:collect") Q E { s with heap:=h',toks:=tk }
 refine Ij (wpAny_load hS' ?_);exact Il (hQ h' tk acc' (fun b o e=>hk b o (ID (Iy e)) (Ik _ e)) (Kf (Iy hS')) hacc)
end
mutual
noncomputable def lV:T->T->Option Bool
 | .int a,.int b=>some (decide (a < b))
 | .str a,.str b=>some (decide (a.cps.toList < b.cps.toList))
 | .tup xs,.tup ys=>fO xs ys
 | _,_=>none
noncomputable def fO:List T->List T->Option Bool
 | [],[]=>some false
 | [],_::_=>some true
 | _::_,[]=>some false
 | x::xs,y::ys=>if x=y then fO xs ys else lV x y
end
mutual
theorem IsT.kept {h h':Heap}(hk:∀ b o,o.cls=.type "tuple"->h.get? b=some o->h'.get? b=some o):∀ {x:T} {v:Value},IsT h x v->IsT h' x v
 | _,_,.int=>.int
 | _,_,.str=>.str
 | _,_,.tup a1 c1 d1 t1=>.tup (hk _ _ c1 a1) c1 d1 (IsTs.kept hk t1)
theorem IsTs.kept {h h':Heap}(hk:∀ b o,o.cls=.type "tuple"->h.get? b=some o->h'.get? b=some o):∀ {x:List T} {v:List Value},IsTs h x v->IsTs h' x v
 | _,_,.nil=>.nil
 | _,_,.cons a b=>.cons (IsT.kept hk a) (IsTs.kept hk b)
end
theorem E3 {B:Around}{s:Shared}{d:Nat}(hu:B.units+d < cLine)(hl:∀ (x y:T) (u v:Value) (k:Bool),x.depth<=d->y.depth<=d->IsT s.heap x u->IsT s.heap y v->lV x y=some k->LtAt B s u v k) :
  ∀ (xs ys:List T) (us vs:List Value) (k:Bool),T.depths xs<=d->T.depths ys<=d->IsTs s.heap xs us->IsTs s.heap ys vs->fO xs ys=some k->LexR B s us vs k
 | [],[],_,_,k,_,_,h1,h2,e=>by cases h1; cases h2; cases e; exact .nn
 | [],y::ys,_,_,k,_,_,h1,h2,e=>by cases h1; cases h2; cases e; exact .nc
 | x::xs,[],_,_,k,_,_,h1,h2,e=>by cases h1; cases h2; cases e; exact .cn
 | x::xs,y::ys,_,_,k,d1,d2,h1,h2,e=>by
  simp only[T.depths]at d1 d2;cases h1 with
  | cons p1 q1=>
   cases h2 with
   | cons p2 q2=>
    have he:=xf d x y _ _ B s (by omega) p1 p2 hu (by omega)
    simp only[fO]at e
    by_cases hxy:x=y
    ·rw[if_pos hxy]at e;rw[decide_eq_true hxy]at he;exact .eq he (E3 hu hl xs ys _ _ k (by omega) (by omega) q1 q2 e)
    ·rw[if_neg hxy]at e;rw[decide_eq_false hxy]at he;exact .ne he (hl x y _ _ k (by omega) (by omega) p1 p2 e)
theorem E4:∀ (d:Nat) (x y:T) (u v:Value) (B:Around) (s:Shared) (k:Bool),x.depth<=d->y.depth<=d->IsT s.heap x u->IsT s.heap y v->B.units+d < cLine->lV x y=some k->LtAt B s u v k:=by
 intro d
 induction d with
 | zero=>
  intro x y u v B s k d1 d2 h1 h2 hu e;cases h1 with
  | int=>cases h2 with
   | int=>cases e; exact fun prog w E Q h=>(PyProof.Rows.lt_int h:wpAny (model prog w) B (compareOp .Lt _ _) Q E s)
   | _=>cases e
  | str=>cases h2 with
   | str=>cases e; exact fun prog w E Q h=>(lt_str h:wpAny (model prog w) B (compareOp .Lt _ _) Q E s)
   | _=>cases e
  | tup _ _ _ _=>simp[T.depth]at d1
 | succ d ih=>
  intro x y u v B s k d1 d2 h1 h2 hu e;cases h1 with
  | int=>cases h2 with
   | int=>cases e; exact fun prog w E Q h=>(PyProof.Rows.lt_int h:wpAny (model prog w) B (compareOp .Lt _ _) Q E s)
   | _=>cases e
  | str=>cases h2 with
   | str=>cases e; exact fun prog w E Q h=>(lt_str h:wpAny (model prog w) B (compareOp .Lt _ _) Q E s)
   | _=>cases e
  | tup a1 c1 e1 t1=>cases h2 with
   | tup a2 c2 e2 t2=>
    simp only[T.depth]at d1 d2;have hu1:B.in1.units+d < cLine:=by rw[bm]; omega
    exact LtAt.tuples ⟨_,a1,c1,_,e1⟩ ⟨_,a2,c2,_,e2⟩ (by omega) (E3 hu1 (fun x y u v k q1 q2 q3 q4 q5=>ih x y u v B.in1 s k q1 q2 q3 q4 hu1 q5) _ _ _ _ k (by omega) (by omega) t1 t2 e)
   | _=>cases e
section
variable {prog:Program} {w:World} {A:Around} {R:Result->Shared->Prop} {I S:Addr} {fp wr:List Addr} {n:Nat} {P:Nat->Value->Prop} {St:Nat->Heap->Prop} {Ok:Heap->Prop} {bt:Nat->Nat->Bool}
noncomputable def xm (prog:Program)(w:World)(A:Around)(P:Nat->Value->Prop)(Ok:Heap->Prop)(bt:Nat->Nat->Bool):Prop:=
 ∀ i j vi vj (s:Shared) (Q:Value->Shared->Prop) (E:Value->Shared->Prop),Ok s.heap->P i vi->P j vj->Q (.bool (bt i j)) s->wpAny (model prog w) A (richCompare .Lt vi vj) Q E s
theorem xn (W:Walks prog w A.in1 I fp wr n P St)(hcmp:xm prog w A.in1 P Ok bt)(hSf:S∉fp)(hok:∀ h h',Ok h->(∀ b o,b∉wr->b≠S->h.get? b=some o->h'.get? b=some o)->Ok h') :
  ∀ (k j:Nat) (s:Shared) (vb:Value) (c:Nat),n - (j+1)=k->j < n->St (j+1) s.heap->P (argBest bt j) vb->Ok s.heap->s.heap.get? S=some { cls:=.type "list",dict:=none,data:=.seq #[vb,vb] c,slots:=#[] }->
  (∀ v h' tk,P (argBest bt (n - 1)) v->(∀ b o,b∉wr->b≠S->s.heap.get? b=some o->h'.get? b=some o)->R (.ok (.ret v)) { s with heap:=h',toks:=tk })->
  codeAny (model prog w) A (.builtin "min.loop" ⟨[.ref I,.none,.ref S],[]⟩) R s:=by
 have hSw:S∉wr:=fun h=>hSf (W.sub _ h)
 have hname:(toString "min" ++ toString ".loop" : String) = "min.loop":=by decide
 intro k
 induction k with
 | zero=>
  intro j s vb c hk hj hst hPb hO hS hR;have hin:j+1=n:=by omega
  refine IY F.entry_min_loop ?_;rw[Around.under_plainId F.plain_min_loop _];show wpAny _ A.in1 (seqItems? (.ref S) >>= _) _ _ s;refine Ij (J1 hS rfl ?_);show wpAny _ A.in1 (tryCatch (pyNext (.ref I)) _ >>= _) _ _ s;refine Ij (wpAny_tryCatch (W.done s _ _ (hin ▸ hst) fun h' tk hk'=>?_))
  have hS':=hk' S _ hSw hS;show wpAny _ A.in1 (updateSeq S (fun _=>#[]) >>= _) _ _ _
  refine Ij (Ks hS' rfl (Ij (wpAny_letGo (Il ?_))));have e:j=n - 1:=by omega
  exact hR vb _ tk (e ▸ hPb) fun b o hbw hbS e=>(IM _ _ (Ne.symm hbS)).trans (hk' b o hbw e)
 | succ k ih=>
  intro j s vb c hk hj hst hPb hO hS hR;have hlt:j+1 < n:=by omega
  refine IY F.entry_min_loop ?_;rw[Around.under_plainId F.plain_min_loop _];show wpAny _ A.in1 (seqItems? (.ref S) >>= _) _ _ s;refine Ij (J1 hS rfl ?_);show wpAny _ A.in1 (tryCatch (pyNext (.ref I)) _ >>= _) _ _ s;refine Ij (wpAny_tryCatch (W.item (j+1) s _ _ hlt hst fun v h' tk hP hst' hk'=>?_))
  have hS':=hk' S _ hSw hS;have hO':Ok h':=hok _ _ hO fun b o hb _ e=>hk' b o hb e
  show wpAny _ A.in1 (tryCatch (holding [v,v] (richCompare .Lt v vb >>= _)) _ >>= _) _ _ _;refine Ij (wpAny_tryCatch (IW (Ij (hcmp (j+1) (argBest bt j) v vb _ _ _ hO' hP hPb ?_))));refine Ij (IW (JI ?_));refine Ij (wpAny_letGo (Il ?_));cases hb:bt (j+1) (argBest bt j)with
  | true=>
   simp only[if_true];refine Ij (Ks hS' rfl (Ij (wpAny_letGo ?_)));rw[hname];refine Il ⟨Jz F.plain_min_loop _,ih (j+1) _ v _ (by omega) hlt (W.frame _ _ _ hst' fun b hbf o e=>?_) (by simp only[argBest,hb,if_true]; exact hP) (hok _ _ hO' fun b o _ hbS e=>(IM _ _ (Ne.symm hbS)).trans e) (JF _ hS' rfl)
    fun v' h'' tk'' hP' hk''=>?_⟩
   ·exact(IM _ _ (fun h:S=b=>hSf (by rw[h]; exact hbf))).trans e
   ·exact hR v' h'' tk'' hP' fun b o hbw hbS e=>hk'' b o hbw hbS ((IM _ _ (Ne.symm hbS)).trans (hk' b o hbw e))
  | false=>
   simp only[Bool.false_eq_true,if_false];refine Ij (wpAny_letGo ?_);rw[hname];refine Il ⟨Jz F.plain_min_loop _,ih (j+1) _ vb c (by omega) hlt hst' (by simp only[argBest,hb,Bool.false_eq_true,if_false]; exact hPb) hO' hS' fun v' h'' tk'' hP' hk''=>?_⟩
   exact hR v' h'' tk'' hP' fun b o hbw hbS e=>hk'' b o hbw hbS (hk' b o hbw e)
theorem vc (W:Walks prog w A.in1 I fp wr n P St)(hcmp:xm prog w A.in1 P Ok bt)(hSf:S∉fp)(hok:∀ h h',Ok h->(∀ b o,b∉wr->b≠S->h.get? b=some o->h'.get? b=some o)->Ok h')(hn:0 < n){s:Shared}{c:Nat}(hst:St 0 s.heap)(hO:Ok s.heap)
  (hS:s.heap.get? S=some { cls:=.type "list",dict:=none,data:=.seq #[] c,slots:=#[] })
  (hR:∀ v h' tk,P (argBest bt (n - 1)) v->(∀ b o,b∉wr->b≠S->s.heap.get? b=some o->h'.get? b=some o)->R (.ok (.ret v)) { s with heap:=h',toks:=tk }) :
  codeAny (model prog w) A (.builtin "min.loop" ⟨[.ref I,.none,.ref S],[]⟩) R s:=by
 have hSw:S∉wr:=fun h=>hSf (W.sub _ h)
 have hname:(toString "min" ++ toString ".loop" : String) = "min.loop":=by decide
 refine IY F.entry_min_loop ?_;rw[Around.under_plainId F.plain_min_loop _];show wpAny _ A.in1 (seqItems? (.ref S) >>= _) _ _ s;refine Ij (J1 hS rfl ?_);show wpAny _ A.in1 (tryCatch (pyNext (.ref I)) _ >>= _) _ _ s;refine Ij (wpAny_tryCatch (W.item 0 s _ _ hn hst fun v h' tk hP hst' hk'=>?_))
 have hS':=hk' S _ hSw hS;show wpAny _ A.in1 (updateSeq S (fun _=>#[v,v]) >>= _) _ _ _
 refine Ij (Ks hS' rfl ?_);rw[hname];have hO':Ok h':=hok _ _ hO fun b o hb _ e=>hk' b o hb e
 refine Il ⟨Jz F.plain_min_loop _,xn W hcmp hSf hok _ 0 _ v _ rfl hn (W.frame _ _ _ hst' fun b hbf o e=>?_) hP (hok _ _ hO' fun b o _ hbS e=>(IM _ _ (Ne.symm hbS)).trans e) (JF _ hS' rfl) fun v' h'' tk'' hP' hk''=>?_⟩
 ·exact(IM _ _ (fun h:S=b=>hSf (by rw[h]; exact hbf))).trans e
 ·exact hR v' h'' tk'' hP' fun b o hbw hbS e=>hk'' b o hbw hbS ((IM _ _ (Ne.symm hbS)).trans (hk' b o hbw e))
end
section
variable {prog:Program} {w:World} {A:Around} {E:Value->Shared->Prop} {s:Shared}
theorem xo {l:Addr}{items:Array Value}{bt:Nat->Nat->Bool}{Q:Value->Shared->Prop}(hh:A.handled=none)(hl:s.heap.IsList l items)(hn:0 < items.size)
  (hcmp:xm prog w A.in1 (fun i v=>items[i]?=some v) (fun h=>∀ b o,s.heap.get? b=some o->h.get? b=some o) bt)
  (hQ:∀ v h' tk,items[argBest bt (items.size - 1)]?=some v->(∀ b o,s.heap.get? b=some o->h'.get? b=some o)->Q v { s with heap:=h',toks:=tk }) :
  wpAny (model prog w) A (call (.builtin "min") [.ref l]) Q E s:=by
 have hname:(toString "min" ++ toString ".loop" : String) = "min.loop":=by decide
 refine call_function_tree F.kind_min F.plain_min F.entry_min (F.args_min1 _) ?_;show wpAny _ A.in1 (Builtin.Builtins.bindParams "min" ["key","default"] 0 ⟨[],[]⟩ >>= _) _ _ s;refine Ij (KH (show Builtin.Builtins.bindParams "min" ["key","default"] 0 ⟨[],[]⟩=pure [none,none]from rfl) ?_)
 refine Ij (Il ?_);refine Ij (Kz hl ?_);refine Ij (IP ?_);rw[hname];have hlt:l < s.heap.objs.size:=let ⟨_,ho,_⟩:=hl; Iy ho
 have hne:l≠s.heap.objs.size:=ID hlt;have W:=Walks.list (prog:=prog) (w:=w) (A:=A.in1) hh s.heap.objs.size l hne items;have hsz:∀ o:Obj,(s.heap.push o).objs.size=s.heap.objs.size+1:=fun o=>by simp[Heap.push]
 refine Il ⟨Jz F.plain_min_loop _,vc (A:=A) (Ok:=fun h=>∀ b o,s.heap.get? b=some o->h.get? b=some o) W hcmp (fun hm=>?_) (fun h h' ho hk b o e=>?_) hn ⟨?_,?_⟩ (fun b o e=>Ik _ (Ik _ e)) (Ix _ rfl) fun v h' tk hv hk=>?_⟩
 ·rcases IR.mp hm with e|hm
  ·exact absurd (show(s.heap.push _).objs.size=s.heap.objs.size from e) (by rw[hsz]; exact Nat.succ_ne_self _)
  ·have e:(s.heap.push _).objs.size=l:=IN.mp hm;rw[hsz]at e;exact absurd hlt (by rw[<- e]; exact Nat.not_lt.mpr (JT _))
 ·have hb:=Iy e;refine hk b o (fun z=>?_) (fun z=>?_) (ho b o e)
  ·rw[List.mem_singleton.mp z]at hb; exact Jp _ hb
  ·have z':b=(s.heap.push _).objs.size:=z;rw[hsz]at z';rw[z']at hb;exact absurd hb (Nat.not_lt.mpr (JT _))
 ·exact⟨_,Ik _ (Ix _ rfl),rfl,rfl⟩
 ·obtain⟨o,ho,hc⟩:=hl;exact⟨o,Ik _ (Ik _ ho),hc⟩
 ·refine hQ v h' tk hv fun b o e=>hk b o (fun z=>?_) (fun z=>?_) (Ik _ (Ik _ e))
  ·have hb:=Iy e;rw[List.mem_singleton.mp z]at hb; exact Jp _ hb
  ·have hb:=Iy e;have z':b=(s.heap.push _).objs.size:=z;rw[hsz]at z';rw[z']at hb;exact absurd hb (Nat.not_lt.mpr (JT _))
end
open PySem.W (KasT kas_sort kas_ask kas_cmp kas_item kas_asc kas_desc kas_tail3 kas_descPart kas_count kas_place kas_bin kas_rev)
noncomputable def b6 {α:Type}(lt:Nat->Nat->Bool):KasT α->α
 | .ret a=>a
 | .ask i j k=>b6 lt (k (lt i j))
noncomputable def OkK {α:Type}(n:Nat)(P:α->Prop):KasT α->Prop
 | .ret a=>P a
 | .ask i j k=>i < n/\j < n/\∀ b,OkK n P (k b)
theorem qk {α:Type}{n:Nat}{P:α->Prop}{lt:Nat->Nat->Bool}:∀ (t:KasT α),OkK n P t->P (b6 lt t)
 | .ret _,h=>h
 | .ask i j k,h=>qk (k (lt i j)) (h.2.2 _)
theorem oq {α:Type}{n:Nat}{P:α->Prop}{lt:Nat->Nat->Bool}{t:KasT α}(h:OkK n P t):P (b6 lt t):=qk t h
theorem OkK.bind {α β:Type}{n:Nat}{P:α->Prop}{P':β->Prop}{f:α->KasT β}:∀ {t:KasT α},OkK n P t->(∀ a,P a->OkK n P' (f a))->OkK n P' (t.bind f)
 | .ret a,h,hf=>hf a h
 | .ask _ _ _,h,hf=>⟨h.1,h.2.1,fun b=>OkK.bind (h.2.2 b) hf⟩
theorem mV {α:Type}{n:Nat}{P:α->Prop}{lt:Nat->Nat->Bool}{cmp:Nat->Nat->(Bool->Shared->Prop)->Shared->Prop}{Q:α->Shared->Prop}{s:Shared}(hc:∀ i j,i < n->j < n->∀ C:Bool->Shared->Prop,C (lt i j) s->cmp i j C s) :
  ∀ {t:KasT α},OkK n P t->Q (b6 lt t) s->t.kasWp cmp Q s
 | .ret _,_,h=>h
 | .ask i j k,h,hq=>hc i j h.1 h.2.1 _ (mV hc (h.2.2 _) hq)
noncomputable def Pm (n:Nat)(p:Array Nat):Prop:=p.toList.Perm (List.range n)
theorem Pm.size {n:Nat}{p:Array Nat}(h:Pm n p):p.size=n:=by rw[<- (Iz),h.length_eq,(IS)]
theorem Pm.lt {n:Nat}{p:Array Nat}(h:Pm n p)(hn:0 < n)(i:Nat):p.getD i 0 < n:=by
 by_cases hi:i < p.size
 ·have e:p.getD i 0=p[i]:=by simp[Array.getD,hi]
  rw[e];have:p[i]∈p.toList:=by simp
  exact IU.mp (h.mem_iff.mp this)
 ·have e:p.getD i 0=0:=by simp[Array.getD,hi]
  rw[e]; exact hn
theorem Pm.rev {n:Nat}{p:Array Nat}(h:Pm n p)(i j:Nat):Pm n (kas_rev p i j):=(Array.perm_iff_toList_perm.mp (mirror_perm p i j _)).trans h
theorem Pm.bub {n:Nat}{p:Array Nat}(h:Pm n p)(i j:Nat):Pm n (bubble p i j):=(Array.perm_iff_toList_perm.mp (bubble_perm p i j)).trans h
section
variable {n:Nat} (hn:0 < n)
include hn
theorem sa {p:Array Nat}(h:Pm n p):∀ (f m:Nat),OkK n (fun _=>True) (kas_asc p f m)
 | 0,_=>trivial
 | f+1,m=>⟨h.lt hn _,h.lt hn _,fun b=>by
  show OkK n _ (if b=true then _ else _)
  split
  ·trivial
  ·exact sa h f (m+1)⟩
theorem kz:∀ (f:Nat) (p:Array Nat) (m q:Nat),Pm n p->OkK n (fun r=>Pm n r.1) (kas_desc f p m q)
 | 0,p,m,q,h=>h
 | f+1,p,m,q,h=>⟨h.lt hn _,h.lt hn _,fun b=>by
  show OkK n _ (if b=true then _ else _)
  split
  ·split
   ·exact kz f _ _ _ (h.rev _ _)
   ·exact kz f _ _ _ h
  ·refine⟨h.lt hn _,h.lt hn _,fun c=>?_⟩
   show OkK n _ (if c=true then _ else _)
   split
   ·exact h
   ·exact kz f _ _ _ h⟩
theorem tD {p:Array Nat}(h:Pm n p)(m k:Nat):OkK n (fun r=>Pm n r.2) (kas_tail3 m k p):=by
 unfold kas_tail3;exact OkK.bind (sa hn (h.rev 0 m) _ _) fun a _=>h.rev 0 m
theorem jQ {p:Array Nat}(h:Pm n p)(m k:Nat):OkK n (fun r=>Pm n r.2) (kas_descPart m k p):=by
 unfold kas_descPart;refine OkK.bind (kz hn _ _ _ _ h) fun r hr=>?_
 split
 ·exact tD hn (hr.rev _ _) _ _
 ·exact tD hn hr _ _
theorem xp {p:Array Nat}(h:Pm n p)(k:Nat):OkK n (fun r=>Pm n r.2) (kas_count k p):=by
 unfold kas_count;refine OkK.bind (sa hn h _ _) fun m _=>?_
 split
 ·exact h
 ·split
  ·refine⟨h.lt hn _,h.lt hn _,fun c=>?_⟩
   show OkK n _ (if c=true then _ else _)
   split
   ·exact h
   ·exact jQ hn (h.rev _ _) _ _
  ·exact jQ hn h _ _
theorem kY {p:Array Nat}(h:Pm n p)(k:Nat):∀ (f l r:Nat),OkK n (fun _=>True) (kas_place p k f l r)
 | 0,_,_=>trivial
 | f+1,l,r=>by
  unfold kas_place;split
  ·trivial
  ·refine⟨h.lt hn _,h.lt hn _,fun c=>?_⟩
   show OkK n _ (if c=true then _ else _)
   split
   ·exact kY h k f _ _
   ·exact kY h k f _ _
theorem xq:∀ (f:Nat) (p:Array Nat) (k:Nat),Pm n p->OkK n (Pm n) (kas_bin f p k)
 | 0,p,k,h=>h
 | f+1,p,k,h=>by
  unfold kas_bin;exact OkK.bind (kY hn h k _ _ _) fun l _=>xq f _ _ (h.bub _ _)
theorem kA:OkK n (Pm n) (kas_sort n):=by
 unfold kas_sort;refine OkK.bind (xp hn (by unfold Pm; simp) _) fun r hr=>?_
 split
 ·exact xq hn _ _ _ hr
 ·exact hr
end
section
variable {prog:Program} {w:World} {A:Around} {E:Value->Shared->Prop} {s:Shared} {vs:List Value}
noncomputable def dB (lt:Nat->Nat->Bool){β:Type}(d:β)(vs:List β):List β:=if vs.length < 2 then vs else(b6 lt (kas_sort vs.length)).toList.map fun i=>vs.getD i d
theorem ql {lt:Nat->Nat->Bool}{β:Type}{d:β}{vs:List β}:(dB lt d vs).length=vs.length:=by
 unfold dB;split
 ·rfl
 ·rw[(Im),(Iz),(oq (lt:=lt) (kA (n:=vs.length) (by omega))).size]
theorem mW {a:Addr}{n:Nat}{lt:Nat->Nat->Bool}{κ:SortKind}{P:PySem.Fin->Shared->Prop}(ho:s.heap.get? a=some (seqObj "list" vs.toArray n))(h64:vs.length < 64)
  (hkind:2<=vs.length->∀ h',(∀ b o,b≠a->s.heap.get? b=some o->h'.get? b=some o)->∀ Q:SortKind->Shared->Prop,Q κ { s with heap:=h' }->wpAny (model prog w) A (keyKind' vs.toArray) Q (fun _ _=>False) { s with heap:=h' })
  (hlt:2<=vs.length->∀ h',(∀ b o,b≠a->s.heap.get? b=some o->h'.get? b=some o)->∀ i j,i < vs.length->j < vs.length->∀ Q:Bool->Shared->Prop,Q (lt i j) { s with heap:=h' }->
   wpAny (model prog w) A (keyLt' κ (vs.getD i Value.none) (vs.getD j Value.none)) Q (fun _ _=>False) { s with heap:=h' })
  (h:∀ h' c,(∀ b o,b≠a->s.heap.get? b=some o->h'.get? b=some o)->h'.get? a=some (seqObj "list" (dB lt Value.none vs).toArray c)->P (.done (.ret .none)) { s with heap:=h' }) :
  wpAny (model prog w) A (Builtin.«list.sort» ⟨[.ref a],[]⟩) P E s:=by
 have ha:a < s.heap.objs.size:=Iy ho;obtain⟨e1,ho1⟩ : ∃ e1,(s.heap.update a (Obj.mapSeq fun _=>(#[]:Array Value))).get? a=some (seqObj "list" #[] e1):=⟨_,get?_update_seq ho fun _=>#[]⟩
 have keep:∀ b o,b≠a->s.heap.get? b=some o->(((s.heap.update a (Obj.mapSeq fun _=>(#[]:Array Value))).push (seqObj "tuple" vs.toArray 0)).push (seqObj "list" #[] 0)).get? b=some o:=fun b o hb e=>
  Ik _ (Ik _ ((Km _ _ _ _ hb).trans e))
 have ho3:(((s.heap.update a (Obj.mapSeq fun _=>(#[]:Array Value))).push (seqObj "tuple" vs.toArray 0)).push (seqObj "list" #[] 0)).get? a=some (seqObj "list" #[] e1):=Ik _ (Ik _ ho1)
 have fin:∀ (out:List Value),out.length=vs.length->out=dB lt Value.none vs->P (.done (.ret .none)) { s with heap:=(((s.heap.update a (Obj.mapSeq fun _=>(#[]:Array Value))).push (seqObj "tuple" vs.toArray 0)).push (seqObj "list" #[] 0)).update a (Obj.mapSeq fun _=>out.toArray) }:=fun out hl e=>by
  obtain⟨c2,hc2⟩ : ∃ c2,((((s.heap.update a (Obj.mapSeq fun _=>(#[]:Array Value))).push (seqObj "tuple" vs.toArray 0)).push (seqObj "list" #[] 0)).update a (Obj.mapSeq fun _=>out.toArray)).get? a=some (seqObj "list" out.toArray c2):=⟨_,get?_update_seq ho3 fun _=>out.toArray⟩
  exact h _ c2 (fun b o hb q=>(Km _ _ _ _ hb).trans (keep b o hb q)) (e ▸ hc2)
 rw[list_sort_plain];refine Ij (listItems_at ho rfl ?_);refine Ij (listUpdate_at ho rfl ?_ (by rw[(IE),(Ja)]; omega) (Jn _))
 refine Ij (seqEpoch_at ho1 rfl ?_);refine Ij (wpAny_newTuple ?_ (by show vs.length<=_; rw[(Ja)]; omega))
 refine Ij (wpAny_newList ?_ (Jn _));refine IW ?_;show wpAny (model prog w) A _ P E { s with heap:=((s.heap.update a (Obj.mapSeq fun _=>(#[]:Array Value))).push (seqObj "tuple" vs.toArray 0)).push (seqObj "list" #[] 0) }
 dsimp only
 by_cases h2:vs.length < 2
 ·rw[if_pos (by rw[List.size_toArray]; exact h2),if_pos (by rw[(IE)]; exact h2)]
  refine Ij (Il (Ij ?_));rw[StateT.run_pure];refine Il ?_;dsimp only;refine Ij (seqEpoch_at ho3 rfl ?_);have hs:((arrOf (SortSt.mk' general' (vs.toArray.zip vs.toArray) #[] 7 none)).map (·.2))=vs.toArray:=by
   show(vs.toArray.zip vs.toArray).map (·.2)=vs.toArray
   apply Array.toList_inj.mp;rw[Array.toList_map,Array.toList_zip];exact List.map_snd_zip (Ip _)
  rw[hs];refine Ij (listUpdate_at ho3 rfl ?_ (Jn _) (by rw[(IE),(Ja)]; omega))
  simp only[bne_self_eq_false,Bool.false_eq_true,if_false];exact Il (fin vs rfl (by unfold dB; rw[if_pos h2]))
 ·have hn2:¬ vs.toArray.size < 2:=by rw[(IE)]; exact h2
  have h2':2<=vs.length:=by omega
  rw[if_neg hn2,if_neg hn2];refine Ij (Jt (hkind h2' _ keep (fun(k:SortKind) (s':Shared)=>k=κ/\s'={ s with heap:=((s.heap.update a (Obj.mapSeq fun _=>(#[]:Array Value))).push (seqObj "tuple" vs.toArray 0)).push (seqObj "list" #[] 0) }) ⟨rfl,rfl⟩) ?_ fun _ _ x=>x.elim)
  rintro _ _ ⟨rfl,rfl⟩;refine Ij (Jt (PySem.W.kat_run (Q:=fun st' s'=>∃ p:Array Nat,p.size=vs.length/\arrOf st'=p.map (kas_item (vs.toArray.zip vs.toArray))/\failedOf st'=none/\p=b6 lt (kas_sort vs.length)/\s'={ s with heap:=((s.heap.update a (Obj.mapSeq fun _=>(#[]:Array Value))).push (seqObj "tuple" vs.toArray 0)).push (seqObj "list" #[] 0) })
   (G:=fun p s'=>p=b6 lt (kas_sort vs.length)/\s'={ s with heap:=((s.heap.update a (Obj.mapSeq fun _=>(#[]:Array Value))).push (seqObj "tuple" vs.toArray 0)).push (seqObj "list" #[] 0) }) rfl h2' h64 (fun p' st' s' a1 a2 a3 a4=>⟨p',a1,a2,a3,a4⟩)
   (mV (lt:=lt) (fun i j hi hj C hC=>hlt h2' _ keep i j hi hj C hC) (kA (n:=vs.length) (by omega)) ⟨rfl,rfl⟩)) ?_ fun _ _ e=>e)
  rintro⟨⟨⟩,st'⟩ s' ⟨p,hp,har,hf,ep,rfl⟩;dsimp only;have hout:=PySem.W.kat_snds rfl har;have hsz:(p.toList.map fun i=>vs.getD i Value.none).length=vs.length:=by rw[(Im),(Iz),hp]
  rw[hout];refine Ij (seqEpoch_at ho3 rfl ?_);refine Ij (listUpdate_at ho3 rfl ?_ (Jn _) (by rw[(IE),hsz,(Ja)]; omega))
  rw[hf];simp only[bne_self_eq_false,Bool.false_eq_true,if_false];exact Il (fin _ hsz (by unfold dB; rw[if_neg h2,ep]))
theorem vd {x:Value}{lt:Nat->Nat->Bool}{κ:SortKind}{Q:Value->Shared->Prop}(h64:vs.length < 64)
  (hcol:∀ Q':List Value->Shared->Prop,(∀ h' tk,(∀ b o,s.heap.get? b=some o->h'.get? b=some o)->s.heap.objs.size<=h'.objs.size->Q' vs { s with heap:=h',toks:=tk })->wpAny (model prog w) A.in1 (collect x) Q' E s)
  (hkind:2<=vs.length->∀ h' tk,(∀ b o,s.heap.get? b=some o->h'.get? b=some o)->∀ Q:SortKind->Shared->Prop,Q κ { s with heap:=h',toks:=tk }->wpAny (model prog w) A.in1.in1 (keyKind' vs.toArray) Q (fun _ _=>False) { s with heap:=h',toks:=tk })
  (hlt:2<=vs.length->∀ h' tk,(∀ b o,s.heap.get? b=some o->h'.get? b=some o)->∀ i j,i < vs.length->j < vs.length->∀ Q:Bool->Shared->Prop,Q (lt i j) { s with heap:=h',toks:=tk }->
   wpAny (model prog w) A.in1.in1 (keyLt' κ (vs.getD i Value.none) (vs.getD j Value.none)) Q (fun _ _=>False) { s with heap:=h',toks:=tk })
  (h:∀ D h' tk c,(∀ b o,s.heap.get? b=some o->h'.get? b=some o)->s.heap.objs.size<=D->h'.get? D=some (seqObj "list" (dB lt Value.none vs).toArray c)->Q (.ref D) { s with heap:=h',toks:=tk }) :
  wpAny (model prog w) A (call (.builtin "sorted") [x]) Q E s:=by
 refine Kk kind_sorted plain_sorted entry_sorted (args_sorted1 _) ?_;unfold Builtin.«sorted»;refine Ij (m:=checkCount "sorted" 1 1 _) (Il ?_);refine Ij (hcol _ fun h1 tk1 hk1 hle=>?_)
 refine Ij (wpAny_newList ?_ (by rw[(Ja)]; omega))
 have hoL:(h1.push (seqObj "list" vs.toArray 0)).get? h1.objs.size=some (seqObj "list" vs.toArray 0):=Ix _ rfl;have kp:∀ b o,s.heap.get? b=some o->(h1.push (seqObj "list" vs.toArray 0)).get? b=some o:=fun b o e=>Ik _ (hk1 b o e)
 have hne:∀ b o,s.heap.get? b=some o->b≠h1.objs.size:=fun b o e=>ID (IH (Iy e) hle)
 show wpAny _ _ _ _ _ { s with heap:=h1.push (seqObj "list" vs.toArray 0),toks:=tk1 }
 refine Ij (IW (Ji slot_list_sort ⟨_,hoL,rfl⟩ entry_list_sort ?_ (args_list_sort _)));refine mW (s:={ s with heap:=h1.push (seqObj "list" vs.toArray 0),toks:=tk1 }) (lt:=lt) (κ:=κ) hoL h64 (fun h2 h' hk Q hq=>hkind h2 h' tk1 (fun b o e=>hk b o (hne b o e) (kp b o e)) Q hq)
  (fun h2 h' hk i j hi hj Q hq=>hlt h2 h' tk1 (fun b o e=>hk b o (hne b o e) (kp b o e)) i j hi hj Q hq) fun h' c hk hD=>?_
 exact⟨_,rfl,Il ⟨_,rfl,h _ h' tk1 c (fun b o e=>hk b o (hne b o e) (kp b o e)) hle hD⟩⟩
end
end Mi
namespace Mi
open PySem PySem.Spec PyProof.Rows L2
noncomputable def fK:T->String
 | .int _=>"int"|.str _=>"str"|.tup _=>"tuple"
noncomputable def bP:T->Option T
 | .tup (x::_)=>some x
 | _=>none
noncomputable def sd (ks:List T):Option Nat:=
 if ks.all (fun k=>fK k == "int")then some 0
 else if ks.all (fun k=>fK k == "str")then some 1
 else if ks.all (fun k=>(bP k).any fun f=>fK f == "int")then some 2
 else if ks.all (fun k=>(bP k).any fun f=>fK f == "str")then some 3
 else if ks.all (fun k=>(bP k).any fun f=>fK f == "tuple")then some 4
 else none
noncomputable def tF:Nat->SortKind
 | 0=>oneType'|1=>oneType'|2=>tuples' true|3=>tuples' true|_=>tuples' false
noncomputable def gQ (ks:List T):Bool:=ks.all fun x=>ks.all fun y=>(lV x y).isSome
noncomputable def qm (ks:List T)(i j:Nat):Bool:=(lV (ks.getD i (.int 0)) (ks.getD j (.int 0))).getD false
theorem d4 {ks:List T}(h:gQ ks=true){i j:Nat}(hi:i < ks.length)(hj:j < ks.length):lV (ks[i]) (ks[j])=some (qm ks i j):=by
 unfold gQ at h;rw[(IJ)]at h;have h1:=h ks[i] (IQ hi);rw[(IJ)]at h1;have h2:=h1 ks[j] (IQ hj);unfold qm;rw[show ks.getD i (.int 0)=ks[i] by simp[hi],show ks.getD j (.int 0)=ks[j] by simp[hj]]
 obtain⟨b,hb⟩:=IX.mp h2;rw[hb]; rfl
noncomputable def HL (c:Nat)(x y:T):Prop:=match c with|0=>fK x = "int"/\fK y = "int"|1=>fK x = "str"/\fK y = "str"|2=>∃ f g,bP x=some f/\bP y=some g/\fK f = "int"/\fK g = "int"|3=>∃ f g,bP x=some f/\bP y=some g/\fK f = "str"/\fK g = "str"|_=>∃ f g,bP x=some f/\bP y=some g
section
variable {prog:Program} {w:World} {A:Around} {E:Value->Shared->Prop} {s:Shared}
theorem tH {h:Heap}{k:T}{v:Value}(x:IsT h k v):PySem.W.Looks (model prog w) h (typeOf v) (.type (fK k)):=by
 cases x with
 | int=>exact .now
 | str=>exact .now
 | tup a c d t=>exact c ▸ ((PySem.W.Looks.ld a).andThen .now:PySem.W.Looks (model prog w) h (typeOf (.ref _)) _)
theorem IsTs.mem {h:Heap}:∀ {ks:List T} {vs:List Value},IsTs h ks vs->∀ v∈vs,∃ k∈ks,IsT h k v
 | _,_,.cons a b,v,hv=>by
  rcases IR.mp hv with rfl|hv
  ·exact⟨_,.head _,a⟩
  ·obtain⟨k,hk,q⟩:=IsTs.mem b v hv;exact⟨k,.tail _ hk,q⟩
theorem mX {h:Heap}{p:T->Bool}:∀ {ks:List T} {vs:List Value},IsTs h ks vs->ks.all (fun k=>(bP k).any p)=true->∃ fs,PySem.W.KatTups h vs fs/\fs.length=vs.length/\∀ v∈fs,∃ k,p k=true/\IsT h k v
 | _,_,.nil,_=>⟨[],.nil,rfl,fun v hv=>nomatch hv⟩
 | k::ks,_,.cons a b,hp=>by
  rw[(Jk),(Iq)]at hp;obtain⟨fs,h1,h2,h3⟩:=mX b hp.2;cases a with
  | int=>simp[bP]at hp
  | str=>simp[bP]at hp
  | @tup kk ad o items n a1 c1 d1 t1=>
   cases kk with
   | nil=>simp[bP]at hp
   | cons x xs=>
    have hx:p x=true:=by simpa [bP]using hp.1
    generalize hit:items.toList=its at t1;cases t1 with
    | @cons _ u _ us q1 q2=>
     refine⟨u::fs,.cons a1 c1 d1 (by rw[<- (Jl),hit]; rfl) h1,by simp[h2],fun v hv=>?_⟩
     rcases IR.mp hv with rfl|hv
     ·exact⟨x,hx,q1⟩
     ·exact h3 v hv
theorem xr {ks:List T}{vs:List Value}{c:Nat}{Q:SortKind->Shared->Prop}(h:IsTs s.heap ks vs)(h2:2<=vs.length)(hc:sd ks=some c)(hq:Q (tF c) s):wpAny (model prog w) A (keyKind' vs.toArray) Q E s:=by
 have one:∀ ty:String,(Value.type ty != Value.type "tuple")=true->ks.all (fun k=>fK k==ty)=true->Q oneType' s->wpAny (model prog w) A (keyKind' vs.toArray) Q E s:=fun ty hty hall hq=>
  PySem.W.kas_kind (T:=.type ty) h2 (fun v hv=>by
   obtain⟨k,hk,x⟩:=h.mem v hv;have:=eq_of_beq (IJ.mp hall k hk);exact this ▸ tH x) hty (by simp) hq
 have tup:∀ ty:String,ks.all (fun k=>(bP k).any fun f=>fK f==ty)=true->Q (tuples' (Value.type ty != Value.type "tuple")) s->wpAny (model prog w) A (keyKind' vs.toArray) Q E s:=fun ty hall hq=>by
  obtain⟨fs,h1,h3,h4⟩:=mX h hall;exact PySem.W.kat_kind (T:=.type ty) h1 (by omega) (fun v hv=>by
   obtain⟨k,hk,x⟩:=h4 v hv;have:=eq_of_beq hk;exact this ▸ tH x) (by simp) hq
 unfold sd at hc;split at hc
 ·cases hc; exact one "int" (by decide) (by assumption) hq
 ·split at hc
  ·cases hc; exact one "str" (by decide) (by assumption) hq
  ·split at hc
   ·cases hc; exact tup "int" (by assumption) hq
   ·split at hc
    ·cases hc; exact tup "str" (by assumption) hq
    ·split at hc
     ·cases hc; exact tup "tuple" (by assumption) hq
     ·cases hc
theorem qo {b:Bool}{Q:Bool->Shared->Prop}{d:Nat}(hu:A.units+d < cLine):∀ (xs ys:List T) (us vs:List Value) (i:Nat) (k:Bool),T.depths xs<=d->T.depths ys<=d->IsTs s.heap xs us->IsTs s.heap ys vs->fO xs ys=some k->
  (b=true->i=0->∀ x y,xs.head?=some x->ys.head?=some y->(fK x = "int"/\fK y = "int")\/(fK x = "str"/\fK y = "str"))->Q k s->PySem.W.KatLex prog w A b (decide (us.length < vs.length)) Q (us.zip vs) i s
 | [],[],_,_,i,k,_,_,h1,h2,e,hb,hq=>by cases h1; cases h2; cases e; exact PySem.W.kat_nil (by simpa using hq)
 | [],y::ys,_,_,i,k,_,_,h1,h2,e,hb,hq=>by cases h1; cases h2; cases e; exact PySem.W.kat_nil (by simpa using hq)
 | x::xs,[],_,_,i,k,_,_,h1,h2,e,hb,hq=>by cases h1; cases h2; cases e; exact PySem.W.kat_nil (by simpa using hq)
 | x::xs,y::ys,_,_,i,k,d1,d2,h1,h2,e,hb,hq=>by
  simp only[T.depths]at d1 d2;cases h1 with
  | @cons _ u _ us p1 q1=>
   cases h2 with
   | @cons _ v _ vs p2 q2=>
    have he:=xf d x y _ _ A s (by omega) p1 p2 hu (by omega)
    rw[(Ki)];refine PySem.W.kat_cons (he prog w _ _ ?_);simp only[fO]at e;have hlen:decide ((u::us).length < (v::vs).length)=decide (us.length < vs.length):=by simp
    rw[hlen]
    by_cases hxy:x=y
    ·rw[if_pos hxy]at e;rw[decide_eq_true hxy];exact PySem.W.kat_yes (qo hu xs ys us vs (i+1) k (by omega) (by omega) q1 q2 e (fun _ z=>absurd z (Nat.succ_ne_zero _)) hq)
    ·rw[if_neg hxy]at e;rw[decide_eq_false hxy];refine PySem.W.kat_no ?_
     by_cases hb0:b=true/\i=0
     ·obtain⟨rfl,rfl⟩:=hb0;rcases hb rfl rfl x y rfl rfl with⟨hx,hy⟩|⟨hx,hy⟩
      ·cases p1 with
       | int=>cases p2 with
        | int=>cases e; exact oneLt_int hq
        | _=>exact absurd hy (by simp[fK])
       | _=>exact absurd hx (by simp[fK])
      ·cases p1 with
       | str=>cases p2 with
        | str=>cases e; exact oneLt_str hq
        | _=>exact absurd hy (by simp[fK])
       | _=>exact absurd hx (by simp[fK])
     ·have hf:(b&&i==0)=false:=by
       cases b with
       | false=>rfl
       | true=>
        have:i≠0:=fun z=>hb0 ⟨rfl,z⟩
        simpa using this
      rw[hf];exact PySem.W.kat_one _ _ ((E4 d x y _ _ A s k (by omega) (by omega) p1 p2 hu e) prog w _ _ hq)
theorem tJ {c d:Nat}{x y:T}{u v:Value}{k:Bool}{Q:Bool->Shared->Prop}(hu:A.units+d < cLine)(d1:x.depth<=d)(d2:y.depth<=d)(h1:IsT s.heap x u)(h2:IsT s.heap y v)(e:lV x y=some k)
  (hc:HL c x y)
  (hq:Q k s):wpAny (model prog w) A (keyLt' (tF c) u v) Q E s:=by
 have tup:∀ b:Bool,(∃ f g,bP x=some f/\bP y=some g/\(b=true->(fK f = "int"/\fK g = "int")\/(fK f = "str"/\fK g = "str")))->wpAny (model prog w) A (keyLt' (tuples' b) u v) Q E s:=by
  rintro b ⟨f,g,hf,hg,hb⟩;cases h1 with
  | int=>cases hf
  | str=>cases hf
  | @tup xs a o items n a1 c1 e1 t1=>
   cases h2 with
   | int=>cases hg
   | str=>cases hg
   | @tup ys a' o' items' n' a2 c2 e2 t2=>
    simp only[T.depth]at d1 d2;refine PySem.W.kat_lt a1 e1 a2 e2 ?_;have:=qo (prog:=prog) (w:=w) (b:=b) (Q:=Q) hu xs ys items.toList items'.toList 0 k (by omega) (by omega) t1 t2 e (fun hb' _ p q hp hq'=>by
     cases xs with
     | nil=>cases hp
     | cons x0 xs=>cases ys with
      | nil=>cases hq'
      | cons y0 ys=>cases hp; cases hq'; cases hf; cases hg; exact hb hb') hq
    simpa using this
 match c,hc with
 | 0,⟨hx,hy⟩=>
  cases h1 with
  | int=>cases h2 with
   | int=>cases e; exact PySem.W.kat_lt_int hq
   | _=>exact absurd hy (by simp[fK])
  | _=>exact absurd hx (by simp[fK])
 | 1,⟨hx,hy⟩=>
  cases h1 with
  | str=>cases h2 with
   | str=>cases e; exact PySem.W.kas_lt_str hq
   | _=>exact absurd hy (by simp[fK])
  | _=>exact absurd hx (by simp[fK])
 | 2,⟨f,g,h1',h2',h3,h4⟩=>exact tup true ⟨f,g,h1',h2',fun _=>.inl ⟨h3,h4⟩⟩
 | 3,⟨f,g,h1',h2',h3,h4⟩=>exact tup true ⟨f,g,h1',h2',fun _=>.inr ⟨h3,h4⟩⟩
 | n+4,⟨f,g,h1',h2'⟩=>exact tup false ⟨f,g,h1',h2',fun z=>nomatch z⟩
end
theorem tK {ks:List T}{c:Nat}(h:sd ks=some c){x y:T}(hx:x∈ks)(hy:y∈ks) :
  HL c x y:=by
 have one:∀ {ty:String},ks.all (fun k=>fK k==ty)=true->fK x=ty/\fK y=ty:=fun ha=>⟨eq_of_beq (IJ.mp ha x hx),eq_of_beq (IJ.mp ha y hy)⟩
 have fst:∀ {ty:String},ks.all (fun k=>(bP k).any fun f=>fK f==ty)=true->∃ f g,bP x=some f/\bP y=some g/\fK f=ty/\fK g=ty:=fun {ty} ha=>by
  have h1:=IJ.mp ha x hx;have h2:=IJ.mp ha y hy;cases e1:bP x with
  | none=>rw[e1]at h1; cases h1
  | some f=>
   cases e2:bP y with
   | none=>rw[e2]at h2; cases h2
   | some g=>
    rw[e1]at h1; rw[e2]at h2
    exact⟨f,g,rfl,rfl,eq_of_beq (by simpa using h1),eq_of_beq (by simpa using h2)⟩
 unfold sd at h;split at h
 ·cases h; exact one (by assumption)
 ·split at h
  ·cases h; exact one (by assumption)
  ·split at h
   ·cases h; exact fst (by assumption)
   ·split at h
    ·cases h; exact fst (by assumption)
    ·split at h
     ·cases h;obtain⟨f,g,h1,h2,_⟩:=fst (by assumption)
      exact⟨f,g,h1,h2⟩
     ·cases h
noncomputable def d6 (S:aa):W->Option (List W)
 | .tup xs=>some xs
 | .ref i=>match iz S i with
  | some xs=>some xs
  | none=>(jP S i).map fun kvs=>kvs.map fun p=>p.1.w
 | _=>none
noncomputable def cF:Nat:=8
noncomputable def hE (ks:List T):Bool:=decide (ks.length < 64)&&decide (T.depths ks<=cF)&&(decide (ks.length < 2)||((sd ks).isSome&&gQ ks))
noncomputable def fD (xs:List W)(S:aa):Option (W×aa):=match xs with
 | [x]=>match d6 S x with
  | some ws=>match W.ts ws with
   | some ks=>if hE ks then some (.ref S.length,S++[.lst (dB (qm ks) .non ws)])else none
   | none=>none
  | none=>none
 | _=>none
noncomputable def mY (xs:List W)(S:aa):Option (W×aa):=match xs with
 | [.ref i]=>match jP S i with
  | some kvs=>some (.ref S.length,S++[.lst (kvs.map fun p=>p.1.w)])
  | none=>iA [.ref i] S
 | xs=>iA xs S
noncomputable def sf (xs:List W)(S:aa):Option (W×aa):=match xs with
 | [.ref i]=>match jP S i with
  | some kvs=>some (.int kvs.length,S)
  | none=>rY [.ref i] S
 | xs=>rY xs S
noncomputable def sg (ks:List T):Nat:=argBest (qm ks) (ks.length - 1)
noncomputable def Au (xs:List W)(S:aa):Option (W×aa):=match xs with
 | [.ref i]=>match iz S i with
  | some ws=>match W.ts ws with
   | some ks=>if T.depths ks<=cF/\gQ ks=true then(ws[sg ks]?).map fun w=>(w,S)else none
   | none=>none
  | none=>none
 | _=>none
noncomputable def hG:List W->Option (List Bool)
 | []=>some []
 | .bl b::ws=>(hG ws).map (b :: ·)
 | _::_=>none
noncomputable def Av (xs:List W)(S:aa):Option (W×aa):=match xs with
 | [.ref i]=>match iz S i with
  | some ws=>(hG ws).map fun bs=>(.bl (bs.all id),S)
  | none=>none
 | _=>none
section
variable {X:Cx} {pins:List (Addr×Obj)} {σ:L2.St} {H:Hp} {s:Shared} {A:List Addr} {S:aa}
theorem RelL.pick {K:PySem.W.Frag}{ws:List W}{vs:List V}(r:RelL K A H ws vs)(d:W)(d':V):∀ (is:List Nat),(∀ i∈is,i < ws.length)->RelL K A H (is.map fun i=>ws.getD i d) (is.map fun i=>vs.getD i d')
 | [],_=>.nil
 | i::is,h=>by
  have hi:=h i (.head _);obtain⟨v,h1,h2⟩:=r.get (Iw hi);refine .cons ?_ (RelL.pick r d d' is fun j hj=>h j (.tail _ hj))
  have e1:ws.getD i d=ws[i]:=by simp[hi]
  have e2:vs.getD i d'=v:=by simp[h1]
  show Rel K A H (ws.getD i d) (vs.getD i d');rw[e1,e2]; exact h2
theorem Vals.pick {vs:List V}{us:List Value}(r:Vals vs us)(d:V)(d':Value):∀ (is:List Nat),(∀ i∈is,i < vs.length)->Vals (is.map fun i=>vs.getD i d) (is.map fun i=>us.getD i d')
 | [],_=>.nil
 | i::is,h=>by
  have hi:=h i (.head _);obtain⟨v,h1,h2⟩:=L2.Vals.get r (Iw hi);refine .cons ?_ (Vals.pick r d d' is fun j hj=>h j (.tail _ hj))
  have e1:vs.getD i d=vs[i]:=by simp[hi]
  have e2:us.getD i d'=v:=by simp[h1]
  show L2.RelV (vs.getD i d) (us.getD i d');rw[e1,e2]; exact h2
theorem kB {n:Nat}{lt:Nat->Nat->Bool}(hn:0 < n):∀ i∈(b6 lt (PySem.W.kas_sort n)).toList,i < n:=fun i hi=>IU.mp ((oq (lt:=lt) (kA hn)).mem_iff.mp hi)
theorem xt {K:PySem.W.Frag}{lt:Nat->Nat->Bool}{ws:List W}{vs:List V}(r:RelL K A H ws vs):RelL K A H (dB lt .non ws) (dB lt .non vs):=by
 unfold dB;rw[r.length];split
 ·exact r
 ·exact r.pick _ _ _ fun i hi=>by rw[r.length]; exact kB (by omega) i hi
theorem ve {lt:Nat->Nat->Bool}{vs:List V}{us:List Value}(r:Vals vs us):Vals (dB lt .non vs) (dB lt .none us):=by
 unfold dB;rw[L2.Vals.length r];split
 ·exact r
 ·exact Vals.pick r _ _ _ fun i hi=>by rw[L2.Vals.length r]; exact kB (by omega) i hi
theorem qp {prog:Program}{w:World}{B:Around}{E:Value->Shared->Prop}{l:Addr}{vs:List Value}{Q:List Value->Shared->Prop}(hl:IsTup s.heap l vs.toArray)(hsz:vs.length<=sizeLine)
  (h:∀ h' tk,(∀ b o,s.heap.get? b=some o->h'.get? b=some o)->s.heap.objs.size<=h'.objs.size->Q vs { s with heap:=h',toks:=tk }):wpAny (model prog w) B (collect (.ref l)) Q E s:=by
 obtain⟨o,ho,hc,n,hd⟩:=id hl;unfold collect;refine Ij (Ky (IY entry_proto_collect' ?_));show wpAny _ _ (do again (.builtin "list.__iadd__" ⟨[<- newList [],.ref l],[]⟩)) _ _ s
 refine Ij (wpAny_newList (Il ⟨Code.quiet_builtin _ (by decide +kernel),IY entry_list_iadd' ?_⟩))
 show wpAny _ _ (Builtin.List.listExtendWith (.ref s.heap.objs.size) (.ref l) (.ref s.heap.objs.size)) _ _ { s with heap:=s.heap.push (seqObj "list" #[] 0) }
 unfold Builtin.List.listExtendWith;have ho':(s.heap.push (seqObj "list" #[] 0)).get? l=some o:=Ik _ ho;refine Ij (J3 (T:="tuple") ⟨o,ho',hc⟩ ?_);have ht:(Value.type "tuple" == Value.type "tuple")=true:=by rfl
 rw[if_pos (by rw[ht]; simp)]
 refine Ij (listItems_at ho' hd ?_);refine Ij (listItems_at (xs:=#[]) (n:=0) (Ix _ rfl) rfl ?_);rw[if_neg (by simp)]
 refine Ij (listUpdate_at (xs:=#[]) (n:=0) (Ix _ rfl) rfl ?_ (Jn _) (by show(#[]++vs.toArray).size<=sizeLine+1; simp only[Array.size_append,List.size_toArray,List.length_nil]; omega))
 refine Il ?_;show wpAny (model prog w) B (do
   let o <- load s.heap.objs.size
   match o.data with
   | .seq xs _=>pure xs.toList
   | _=>unsupported "internal:collect") Q E { s with heap:=(s.heap.push (seqObj "list" #[] 0)).update s.heap.objs.size (Obj.mapSeq (· ++ vs.toArray)) }
 refine Ij (wpAny_load (get?_update_seq (Ix _ rfl) _) ?_);show wpAny _ _ (pure ((#[]:Array Value)++vs.toArray).toList) Q E _;rw[show((#[]:Array Value)++vs.toArray).toList=vs by simp]
 refine Il (h _ s.toks (fun b o' e=>(Km _ _ _ _ (ID (Iy e))).trans (Ik _ e)) ?_)
 rw[Heap.size_update,size_push'];exact JT _
theorem DicAt.raw {wd:World}{a:Addr}{xs:List (T×Addr×Value)}{h:Heap}(d:DicAt wd a xs h):∃ es ep,RawD a es ep h/\es.toList=xs.map (wI wd):=
 let ⟨_,_,_,o,es,ep,h1,h2,h3,h4⟩:=d; ⟨es,ep,⟨o,h1,h2,h3⟩,h4⟩
theorem KRel.keysL {kvs:List (T×W)}{xs:List (T×Addr×Value)}(r:KRel X.K A H kvs xs):RelL X.K A H (kvs.map fun p=>p.1.w) (xs.map fun q=>V.ref q.2.1):=by
 unfold KRel at r
 induction r with
 | nil=>exact .nil
 | cons h t ih=>exact .cons h.2.2.2.1 ih
theorem mZ (xs:List (T×Addr×Value)):Vals (xs.map fun q=>V.ref q.2.1) (xs.map fun q=>Value.ref q.2.1):=by
 induction xs with
 | nil=>exact .nil
 | cons x xs ih=>exact .cons rfl ih
theorem kZ {wd:World}{es:Array DictEntry}{xs:List (T×Addr×Value)}(he:es.toList=xs.map (wI wd)){acc:Array Value}(ha:ItemsOf (fun i v=>∃ e,es[i]?=some e/\e.key=v) acc es.size):acc.toList=xs.map fun q=>Value.ref q.2.1:=by
 have hl:es.size=xs.length:=by rw[<- (Iz),he,(Im)]
 apply Kh
 ·rw[(Iz),ha.1,(Im),hl]
 ·intro i h1 h2;rw[(Iz)]at h1;obtain⟨e,q1,q2⟩:=ha.2 i acc[i] (by simp[h1])
  rw[<- (Jl),he,(Iu)]at q1;rw[(Im)]at h2;rw[List.getElem?_eq_getElem h2]at q1;simp only[Option.map_some,Option.some.injEq]at q1;subst q1;rw[List.getElem_map,Array.getElem_toList];exact q2.symm
theorem vf {x:W}{a:V}{u:Value}{ws:List W}(hh:X.A.handled=none)(I:Inv X pins σ H s)(so:StoreOk X.w X.K A H S)(rx:Rel X.K A H x a)(ru:RelV a u)(e:d6 S x=some ws):∃ vs us,RelL X.K A H ws vs/\Vals vs us/\us.length<=sizeLine/\
  ∀ (B:Around) (hB:B.handled=none) (E:Value->Shared->Prop) (Q':List Value->Shared->Prop),(∀ h' tk,(∀ b o,s.heap.get? b=some o->h'.get? b=some o)->s.heap.objs.size<=h'.objs.size->Q' us { s with heap:=h',toks:=tk })->wpAny (model X.prog X.w) B (collect u) Q' E s:=by
 cases rx with
 | tup h1 r1=>
  cases e;obtain⟨its,rv,ht,hz⟩:=I.tuple h1;obtain rfl:u=Value.ref _:=ru;exact⟨_,its,r1,rv,by rw[<- L2.Vals.length rv]; exact hz,fun B hB E Q' h=>qp ht (by rw[<- L2.Vals.length rv]; exact hz) h⟩
 | ref ea=>
  simp only[d6]at e;split at e
  ·rename_i xs hx;cases e;obtain⟨vs,h1,r1⟩:=cw so hx ea;obtain⟨its,rv,p,hz⟩:=I.list h1;obtain rfl:u=Value.ref _:=ru;refine⟨_,its,r1,rv,by rw[<- L2.Vals.length rv]; exact hz,fun B hB E Q' h=>collect_list p.isList (h _ s.toks (fun b o' e=>(Km _ _ _ _ (ID (Iy e))).trans (Ik _ e)) ?_) (by rw[<- L2.Vals.length rv]; exact hz)⟩
   rw[Heap.size_update,size_push'];exact JT _
  ·rw[(Io)]at e;obtain⟨kvs,hk,rfl⟩:=e;obtain⟨xs,rd,kr⟩:=fU so hk ea;have d:=cD I rd;obtain⟨es,ep,raw,he⟩:=d.raw;obtain rfl:u=Value.ref _:=ru;have hl:es.size=xs.length:=by rw[<- (Iz),he,(Im)]
   refine⟨_,_,kr.keysL,mZ xs,by rw[(Im)]; exact d.1,fun B hB E Q' h=>qj (tB d.2.1) hB raw (by rw[hl]; exact d.1) fun h' tk acc hk' hle ha=>?_⟩
   rw[kZ he ha];exact h h' tk hk' hle
 | _=>cases e
theorem na {h':Heap}{tk c:Nat}{D:Addr}{ws:List W}{vs:List V}{us:List Value}(I:Inv X pins σ H s)(so:StoreOk X.w X.K A H S)(r:RelL X.K A H ws vs)(rv:Vals vs us)(hz:us.length<=sizeLine)(hk:∀ b o,s.heap.get? b=some o->h'.get? b=some o)(hD:s.heap.objs.size<=D)
  (ho:h'.get? D=some { cls:=.type "list",data:=.seq us.toArray c }):dI X pins σ A H (S++[.lst ws]) (.ref S.length) (.ref D) { s with heap:=h',toks:=tk }:=by
 have hn:H D=none:=I.hok.fresh hD;refine⟨.ref D,_,A++[D],I.laid (a:=D) (o:=.lst vs) (t':=tk) hk hD ⟨by rw[L2.Vals.length rv]; exact hz,us,c,rv,ho⟩,rfl,cU hn,so.push hn r,.ref ?_⟩
 rw[<- so.len]; simp
theorem ou (hh:X.A.handled=none)(hu:X.A.units+12 < cLine):LCall X (.builtin "sorted") fD:=by
 intro pins s σ H A S xs vs us w S' I so rl rv e;cases rl with
 | nil=>cases e
 | cons r t=>
  cases t with
  | cons _ _=>cases e
  | nil=>
   cases rv with
   | cons ru rv2=>
    cases rv2;simp only[fD]at e;split at e
    ·rename_i ws hw;split at e
     ·rename_i ks hk;split at e
      ·rename_i hok;cases e;obtain⟨vs',us',r1,rv1,hz,hcol⟩:=vf hh I so r ru hw;simp only[hE,Bool.and_eq_true,decide_eq_true_eq]at hok;obtain⟨⟨h64,hd⟩,hok⟩:=hok;have hws:T.ws ks=ws:=W.ts_w hk;have hT:IsTs s.heap ks us':=fB I ks (hws ▸ r1) rv1;have hl:us'.length=ks.length:=hT.length.symm;have sk:2<=us'.length->(sd ks).isSome=true/\gQ ks=true:=fun h2=>by
        rcases KD _ _ ▸ hok with h|h
        ·simp only[decide_eq_true_eq]at h; omega
        ·simpa using h
       refine vd (vs:=us') (lt:=qm ks) (κ:=tF ((sd ks).getD 0)) (by omega) (fun Q' hQ'=>hcol X.A.in1 hh _ Q' hQ') (fun h2 h' tk hk' Q hq=>?_) (fun h2 h' tk hk' i j hi hj Q hq=>?_) fun D h' tk c hk' hD ho=>?_
       ·obtain⟨q1,q2⟩:=sk h2;obtain⟨c,hc⟩:=IX.mp q1;rw[hc]at hq;exact xr (s:={ s with heap:=h',toks:=tk }) (hT.kept fun b o _ e=>hk' b o e) h2 hc hq
       ·obtain⟨q1,q2⟩:=sk h2;obtain⟨c,hc⟩:=IX.mp q1;rw[hc];have hi':i < ks.length:=by omega
        have hj':j < ks.length:=by omega
        have g:=(hT.kept (h':=h') fun b o _ e=>hk' b o e)
        have e1:us'.getD i Value.none=us'[i]:=by simp[hi]
        have e2:us'.getD j Value.none=us'[j]:=by simp[hj]
        rw[e1,e2];have b1:=cy (ks:=ks) i hi';have b2:=cy (ks:=ks) j hj';exact tJ (s:={ s with heap:=h',toks:=tk }) (d:=cF) (c:=c) (by rw[bm,bm]; unfold cF; omega) (by omega) (by omega) (g.get i hi' hi) (g.get j hj' hj) (d4 q2 hi' hj') (tK hc (List.getElem_mem hi') (List.getElem_mem hj')) hq
       ·exact na I so (xt r1) (ve rv1) (by rw[ql]; exact hz) hk' hD ho
      ·cases e
     ·cases e
    ·cases e
theorem qr (hh:X.A.handled=none):LCall X (.type "list") mY:=by
 intro pins s σ H A S xs vs us w S' I so rl rv e
 by_cases hd:∃ i kvs,xs=[.ref i]/\jP S i=some kvs
 ·obtain⟨i,kvs,rfl,hk⟩:=hd;simp only[mY,hk]at e;cases e;cases rl with
  | cons r t=>
   cases t;cases rv with
   | cons ru rv2=>
    cases rv2;cases r with
    | ref ea=>
     obtain⟨xs,rd,kr⟩:=fU so hk ea;have d:=cD I rd;obtain⟨es,ep,raw,he⟩:=d.raw;obtain rfl:_=Value.ref _:=ru;have hl:es.size=xs.length:=by rw[<- (Iz),he,(Im)]
     refine PySem.W.kdl_call (tB d.2.1) hh raw (by rw[hl]; exact d.1) fun h' tk acc' c' hk' hD ha=>?_
     have ea':=kZ he ha;refine na (us:=acc'.toList) I so kr.keysL (ea' ▸ mZ xs) (by rw[ea',(Im)]; exact d.1) hk' (Ip _) (c:=c') ?_
     simpa using hD
 ·have:mY xs S=iA xs S:=by
   unfold mY;split
   ·rename_i i;split
    ·rename_i kvs hk;exact absurd ⟨i,kvs,rfl,hk⟩ hd
    ·rfl
   ·rfl
  rw[this]at e;exact g9 pins s σ H A S xs vs us w S' I so rl rv e
end
open PySem.W (KasT kas_sort kas_asc kas_desc kas_tail3 kas_descPart kas_count kas_place kas_bin kas_rev)
theorem dX {α β:Type}{lt:Nat->Nat->Bool}{f:α->KasT β}:∀ t:KasT α,b6 lt (t.bind f)=b6 lt (f (b6 lt t))
 | .ret _=>rfl
 | .ask i j k=>dX (k (lt i j))
structure Lin (n:Nat)(lt:Nat->Nat->Bool):Prop where
 tr:∀ i j k,i < n->j < n->k < n->lt i j=true->lt j k=true->lt i k=true
 as:∀ i j,i < n->j < n->lt i j=true->lt j i=false
 to:∀ i j,i < n->j < n->i≠j->lt j i=false->lt i j=true
noncomputable def gt (p:Array Nat)(i:Nat):Nat:=p.getD i 0
theorem jj {p:Array Nat}{i:Nat}:gt p i=(p[i]?).getD 0:=by unfold gt; simp[Array.getD_eq_getD_getElem?]
theorem Pm.inj {n:Nat}{p:Array Nat}(h:Pm n p){i j:Nat}(hi:i < n)(hj:j < n)(hne:i≠j):gt p i≠gt p j:=by
 have nd:p.toList.Nodup:=h.nodup_iff.mpr List.nodup_range;have hi':i < p.toList.length:=by rw[(Iz),h.size]; exact hi
 have hj':j < p.toList.length:=by rw[(Iz),h.size]; exact hj
 intro e;have e1:gt p i=p.toList[i]:=by unfold gt; simp[Array.getD,h.size,hi]
 have e2:gt p j=p.toList[j]:=by unfold gt; simp[Array.getD,h.size,hj]
 rw[e1,e2]at e;have pw:=Ko.mp nd;rcases Nat.lt_or_gt_of_ne hne with h|h
 ·exact pw i j hi' hj' h e
 ·exact pw j i hj' hi' h e.symm
noncomputable def Up (lt:Nat->Nat->Bool)(p:Array Nat)(m:Nat):Prop:=∀ i j,i < j->j < m->lt (gt p i) (gt p j)=true
section
variable {n:Nat} {lt:Nat->Nat->Bool} (L:Lin n lt)
include L
theorem Up.more {p:Array Nat}{a:Nat}(hp:Pm n p)(ha:1<=a)(han:a < n)(h:Up lt p a)(hl:lt (gt p (a - 1)) (gt p a)=true):Up lt p (a+1):=by
 have hn:0 < n:=by omega
 intro i j hij hj
 by_cases e:j=a
 ·subst e
  by_cases e2:i=j - 1
  ·subst e2; exact hl
  ·exact L.tr _ _ _ (hp.lt hn _) (hp.lt hn _) (hp.lt hn _) (h i (j - 1) (by omega) (by omega)) hl
 ·exact h i j hij (by omega)
theorem sh {p:Array Nat}(hp:Pm n p):∀ (f a:Nat),1<=a->a+f=n->Up lt p a->Up lt p (b6 lt (kas_asc p f a))/\a<=b6 lt (kas_asc p f a)/\b6 lt (kas_asc p f a)<=n/\(b6 lt (kas_asc p f a) < n->lt (gt p (b6 lt (kas_asc p f a))) (gt p (b6 lt (kas_asc p f a) - 1))=true)
 | 0,a,h1,h2,h=>⟨h,Ip _,by show a<=n; omega,fun z=>by have:a < n:=z; omega⟩
 | f+1,a,h1,h2,h=>by
  have hn:0 < n:=by omega
  have e:b6 lt (kas_asc p (f+1) a)=b6 lt (if lt (gt p a) (gt p (a - 1))=true then .ret a else kas_asc p f (a+1)):=rfl
  rw[e];cases c:lt (gt p a) (gt p (a - 1))with
  | true=>exact⟨h,Ip _,by show a<=n; omega,fun _=>c⟩
  | false=>
   have l:lt (gt p (a - 1)) (gt p a)=true:=L.to _ _ (hp.lt hn (a - 1)) (hp.lt hn a) (hp.inj (by omega) (by omega) (by omega)) c
   obtain⟨q1,q2,q3,q4⟩:=sh hp f (a+1) (by omega) (by omega) (Up.more L hp h1 (by omega) h l)
   exact⟨q1,by show a<=b6 lt (kas_asc p f (a+1)); omega,q3,q4⟩
noncomputable def Dn (lt:Nat->Nat->Bool)(p:Array Nat)(m:Nat):Prop:=∀ i j,i < j->j < m->lt (gt p j) (gt p i)=true
theorem tL {p:Array Nat}(hp:Pm n p):∀ (f a:Nat),1<=a->a+f=n->Dn lt p a->∃ m,b6 lt (kas_desc f p a 0)=(p,m,0)/\a<=m/\m<=n/\Dn lt p m
 | 0,a,h1,h2,h=>⟨a,rfl,Ip _,by omega,h⟩
 | f+1,a,h1,h2,h=>by
  have hn:0 < n:=by omega
  have e:b6 lt (kas_desc (f+1) p a 0)=b6 lt (if lt (gt p a) (gt p (a - 1))=true then(if 0 > 0 then kas_desc f (kas_rev p (a - (0+1)) a) (a+1) 0 else kas_desc f p (a+1) 0)else .ask (gt p (a - 1)) (gt p a) fun d=>if d=true then .ret (p,a,0)else kas_desc f p (a+1) (0+1)):=rfl
  rw[e];cases c:lt (gt p a) (gt p (a - 1))with
  | true=>
   obtain⟨m,q1,q2,q3,q4⟩:=tL hp f (a+1) (by omega) (by omega) fun i j hij hj=>by
    by_cases e:j=a
    ·subst e
     by_cases e2:i=j - 1
     ·subst e2; exact c
     ·exact L.tr _ _ _ (hp.lt hn _) (hp.lt hn _) (hp.lt hn _) c (h i (j - 1) (by omega) (by omega))
    ·exact h i j hij (by omega)
   exact⟨m,q1,by omega,q3,q4⟩
  | false=>
   have l:lt (gt p (a - 1)) (gt p a)=true:=L.to _ _ (hp.lt hn (a - 1)) (hp.lt hn a) (hp.inj (by omega) (by omega) (by omega)) c
   refine⟨a,?_,Ip _,by omega,h⟩
   show b6 lt (if lt (gt p (a - 1)) (gt p a)=true then .ret (p,a,0)else kas_desc f p (a+1) (0+1))=_
   rw[l]; rfl
omit L in
theorem C4 {p:Array Nat}{m:Nat}(hp:Pm n p)(hm:m<=n)(h:Dn lt p m):Up lt (kas_rev p 0 m) m:=by
 intro i j hij hj;have g:∀ k,k < m->gt (kas_rev p 0 m) k=gt p (m - 1 - k):=fun k hk=>by
  rw[jj,jj];show((mirror p 0 m ((m - 0) / 2))[k]?).getD 0=_;rw[getElem?_mirror_all (by rw[hp.size]; exact hm),if_pos ⟨Jn _,hk⟩,Nat.zero_add]
 rw[g i (by omega),g j hj]
 exact h _ _ (by omega) (by omega)
theorem xu {p:Array Nat}(hp:Pm n p)(hn:1<=n):∃ m p',b6 lt (kas_count n p)=(m,p')/\Pm n p'/\1<=m/\m<=n/\Up lt p' m:=by
 unfold kas_count;rw[dX];obtain⟨q1,q2,q3,q4⟩:=sh L hp (n - 1) 1 (Ip _) (by omega) fun i j hij hj=>by omega
 generalize b6 lt (kas_asc p (n - 1) 1)=m at q1 q2 q3 q4
 by_cases hm:m=n
 ·subst hm;rw[if_pos (beq_self_eq_true _)];exact⟨m,p,rfl,hp,q2,Ip _,q1⟩
 ·rw[if_neg (by simp[hm])]
  by_cases h1:m > 1
  ·rw[if_pos h1];have l:=q1 0 (m - 1) (by omega) (by omega)
   refine⟨m,p,?_,hp,q2,q3,q1⟩;show b6 lt (if lt (gt p 0) (gt p (m - 1))=true then .ret (m,p)else kas_descPart m n (kas_rev p 0 m))=_
   rw[l]; rfl
  ·rw[if_neg h1];obtain rfl:m=1:=by omega
   unfold kas_descPart;rw[dX];have l:=q4 (by omega)
   obtain⟨m,e,r1,r2,r3⟩:=tL L hp (n - (1+1)) (1+1) (by omega) (by omega) fun i j hij hj=>by
    obtain rfl:j=1:=by omega
    obtain rfl:i=0:=by omega
    exact l
   rw[e];dsimp only;rw[if_neg (by omega)]
   unfold kas_tail3;rw[dX];have hp':Pm n (kas_rev p 0 m):=hp.rev 0 m;obtain⟨z1,z2,z3,z4⟩:=sh L hp' (n - m) m (by omega) (by omega) (C4 hp r2 r3)
   exact⟨_,_,rfl,hp',by omega,z3,z1⟩
theorem la {p:Array Nat}{k:Nat}(hp:Pm n p)(hk:k < n)(hu:Up lt p k):∀ (f l r:Nat),l<=r->r<=k->r - l<=f->(∀ i,i < l->lt (gt p i) (gt p k)=true)->(∀ i,r<=i->i < k->lt (gt p k) (gt p i)=true)->
  ∃ m,b6 lt (kas_place p k f l r)=m/\m<=k/\(∀ i,i < m->lt (gt p i) (gt p k)=true)/\(∀ i,m<=i->i < k->lt (gt p k) (gt p i)=true)
 | 0,l,r,h1,h2,h3,ha,hb=>⟨l,rfl,by omega,ha,fun i hi=>hb i (by omega)⟩
 | f+1,l,r,h1,h2,h3,ha,hb=>by
  have hn:0 < n:=by omega
  unfold kas_place
  by_cases hge:l>=r
  ·rw[if_pos hge];exact⟨l,rfl,by omega,ha,fun i hi=>hb i (by omega)⟩
  ·rw[if_neg hge];show ∃ m,b6 lt (if lt (gt p k) (gt p ((l+r) / 2))=true then kas_place p k f l ((l+r) / 2)else kas_place p k f ((l+r) / 2+1) r)=m/\_
   cases c:lt (gt p k) (gt p ((l+r) / 2))with
   | true=>
    rw[if_pos rfl];refine la hp hk hu f l ((l+r) / 2) (by omega) (by omega) (by omega) ha fun i hi hik=>?_
    by_cases e:i=(l+r) / 2
    ·rw[e]; exact c
    ·exact L.tr _ _ _ (hp.lt hn _) (hp.lt hn _) (hp.lt hn _) c (hu _ _ (by omega) hik)
   | false=>
    rw[if_neg Bool.false_ne_true];have l':=L.to _ _ (hp.lt hn ((l+r) / 2)) (hp.lt hn k) (hp.inj (by omega) (by omega) (by omega)) c
    refine la hp hk hu f ((l+r) / 2+1) r (by omega) h2 (by omega) (fun i hi=>?_) hb
    by_cases e:i=(l+r) / 2
    ·rw[e]; exact l'
    ·exact L.tr _ _ _ (hp.lt hn _) (hp.lt hn _) (hp.lt hn _) (hu i ((l+r) / 2) (by omega) (by omega)) l'
theorem xv:∀ (f:Nat) (p:Array Nat) (k:Nat),Pm n p->k+f=n->Up lt p k->Pm n (b6 lt (kas_bin f p k))/\Up lt (b6 lt (kas_bin f p k)) n
 | 0,p,k,hp,h,hu=>by
  have:k=n:=by omega
  exact⟨hp,this ▸ hu⟩
 | f+1,p,k,hp,h,hu=>by
  unfold kas_bin;rw[dX];obtain⟨m,e,h1,ha,hb⟩:=la L hp (by omega) hu k 0 k (Jn _) (Ip _) (by omega) (fun i hi=>by omega) fun i h1 h2=>by omega
  rw[e];refine xv f _ (k+1) (hp.bub _ _) (by omega) fun i j hij hj=>?_
  have g:∀ i,gt (bubble p k (k - m)) i=if i=m then gt p k else if m < i/\i<=k then gt p (i - 1)else gt p i:=fun i=>by
   rw[jj,jj,jj,jj,getElem?_bubble (by rw[hp.size]; omega) _ (by omega),show k - (k - m)=m by omega]
   split
   ·rfl
   ·split <;> rfl
  rw[g,g]
  repeat' split
  all_goals first
   | (exfalso; omega)
   | exact ha _ (by omega)
   | exact hb _ (by omega) (by omega)
   | exact hu _ _ (by omega) (by omega)
theorem Aw (hn:1<=n):Pm n (b6 lt (kas_sort n))/\Up lt (b6 lt (kas_sort n)) n:=by
 unfold kas_sort;rw[dX];obtain⟨m,p',e,h1,h2,h3,h4⟩:=xu L (p:=(List.range n).toArray) (by unfold Pm; simp) hn
 rw[e];dsimp only
 by_cases hm:m < n
 ·rw[if_pos hm];have:max m 1=m:=by omega
  rw[this];exact xv L _ _ _ h1 (by omega) h4
 ·rw[if_neg hm];have:m=n:=by omega
  exact⟨h1,this ▸ h4⟩
end
end Mi
namespace Mi
open PySem PySem.Spec PyProof.Rows L2
mutual
theorem ow:∀ x y:T,fA x=true->lV x y=some true->lV y x=some false
 | .int a,.int b,_,h=>by
  simp only[lV,Option.some.injEq,decide_eq_true_eq]at h;simp only[lV,Option.some.injEq,decide_eq_false_iff_not];omega
 | .str _,_,h,_=>by cases h
 | .tup xs,.tup ys,hn,h=>tM xs ys hn h
 | .int _,.str _,_,h|.int _,.tup _,_,h|.tup _,.int _,_,h|.tup _,.str _,_,h=>by cases h
theorem tM:∀ xs ys:List T,de xs=true->fO xs ys=some true->fO ys xs=some false
 | [],[],_,h=>by cases h
 | [],_::_,_,_=>rfl
 | _::_,[],_,h=>by cases h
 | x::xs,y::ys,hn,h=>by
  simp only[de,Bool.and_eq_true]at hn;simp only[fO]at h ⊢
  by_cases e:x=y
  ·rw[if_pos e]at h;rw[if_pos e.symm];exact tM xs ys hn.2 h
  ·rw[if_neg e]at h;rw[if_neg (Ne.symm e)];exact ow x y hn.1 h
end
mutual
theorem xw:∀ x y:T,fA x=true->x≠y->lV y x=some false->lV x y=some true
 | .int a,.int b,_,hne,h=>by
  simp only[lV,Option.some.injEq,decide_eq_false_iff_not]at h;simp only[lV,Option.some.injEq,decide_eq_true_eq];have:a≠b:=fun e=>hne (e ▸ rfl)
  omega
 | .str _,_,h,_,_=>by cases h
 | .tup xs,.tup ys,hn,hne,h=>tN xs ys hn (fun e=>hne (e ▸ rfl)) h
 | .int _,.str _,_,_,h|.int _,.tup _,_,_,h|.tup _,.int _,_,_,h|.tup _,.str _,_,_,h=>by cases h
theorem tN:∀ xs ys:List T,de xs=true->xs≠ys->fO ys xs=some false->fO xs ys=some true
 | [],[],_,h,_=>absurd rfl h
 | [],_::_,_,_,_=>rfl
 | _::_,[],_,_,h=>by cases h
 | x::xs,y::ys,hn,hne,h=>by
  simp only[de,Bool.and_eq_true]at hn;simp only[fO]at h ⊢
  by_cases e:x=y
  ·rw[if_pos e.symm]at h;rw[if_pos e];exact tN xs ys hn.2 (fun z=>hne (by rw[e,z])) h
  ·rw[if_neg (Ne.symm e)]at h;rw[if_neg e];exact xw x y hn.1 e h
end
mutual
theorem xx:∀ x y z:T,fA x=true->fA y=true->lV x y=some true->lV y z=some true->lV x z=some true
 | .int a,.int b,.int c,_,_,h,h'=>by
  simp only[lV,Option.some.injEq,decide_eq_true_eq]at h h' ⊢;omega
 | .tup xs,.tup ys,.tup zs,hn,hn',h,h'=>tP xs ys zs hn hn' h h'
 | .str _,_,_,h,_,_,_=>by cases h
 | .int _,.str _,_,_,_,h,_|.int _,.tup _,_,_,_,h,_|.tup _,.int _,_,_,_,h,_|.tup _,.str _,_,_,_,h,_=>by cases h
 | .int _,.int _,.str _,_,_,_,h|.int _,.int _,.tup _,_,_,_,h|.tup _,.tup _,.int _,_,_,_,h|.tup _,.tup _,.str _,_,_,_,h=>by cases h
theorem tP:∀ xs ys zs:List T,de xs=true->de ys=true->fO xs ys=some true->fO ys zs=some true->fO xs zs=some true
 | [],[],_,_,_,h,_=>by cases h
 | _::_,[],_,_,_,h,_=>by cases h
 | _,_::_,[],_,_,_,h=>by cases h
 | [],_::_,_::_,_,_,_,_=>rfl
 | x::xs,y::ys,z::zs,hn,hn',h,h'=>by
  simp only[de,Bool.and_eq_true]at hn hn';simp only[fO]at h h' ⊢
  by_cases e:x=y
  ·subst e;rw[if_pos rfl]at h
   by_cases e':x=z
   ·rw[if_pos e']at h' ⊢;exact tP xs ys zs hn.2 hn'.2 h h'
   ·rw[if_neg e']at h' ⊢;exact h'
  ·rw[if_neg e]at h
   by_cases e':y=z
   ·subst e';rw[if_neg e];exact h
   ·rw[if_neg e']at h';have t:=xx x y z hn.1 hn'.1 h h';have e2:x≠z:=fun e2=>by
     subst e2;have:=ow x x hn.1 t;rw[t]at this; cases this
    rw[if_neg e2];exact t
end
noncomputable def Gj (ks:List T):Prop:=ks.Pairwise fun x y=>lV x y=some true
noncomputable def eD (ks:List T):List T:=dB (qm ks) (.int 0) ks
structure Nice (ks:List T):Prop where
 num:∀ x∈ks,fA x=true
 lt:gQ ks=true
 nd:ks.Nodup
theorem Nice.lin {ks:List T}(h:Nice ks):Lin ks.length (qm ks):=by
 have nm:∀ i (hi:i < ks.length),fA ks[i]=true:=fun i hi=>h.num _ (IQ hi)
 refine⟨fun i j k hi hj hk a b=>?_,fun i j hi hj a=>?_,fun i j hi hj hne a=>?_⟩
 ·have e1:=d4 h.lt hi hj;have e2:=d4 h.lt hj hk;have e3:=d4 h.lt hi hk;rw[a]at e1; rw[b]at e2
  rw[xx _ _ _ (nm i hi) (nm j hj) e1 e2]at e3;exact(Jb e3).symm
 ·have e1:=d4 h.lt hi hj;have e2:=d4 h.lt hj hi;rw[a]at e1;rw[ow _ _ (nm i hi) e1]at e2;exact(Jb e2).symm
 ·have e1:=d4 h.lt hj hi;have e2:=d4 h.lt hi hj;rw[a]at e1;have hne':ks[i]≠ks[j]:=fun e=>by
   have pw:=Ko.mp h.nd;rcases Nat.lt_or_gt_of_ne hne with q|q
   ·exact pw i j hi hj q e
   ·exact pw j i hj hi q e.symm
  rw[xw _ _ (nm i hi) hne' e1]at e2;exact(Jb e2).symm
theorem eX {α:Type}{lt:Nat->Nat->Bool}{d:α}{xs:List α}:(dB lt d xs).Perm xs:=by
 unfold dB;split
 ·exact .refl _
 ·have p:Pm xs.length (b6 lt (PySem.W.kas_sort xs.length)):=oq (kA (by omega))
  refine(List.Perm.map _ p).trans ?_;have:(List.range xs.length).map (fun i=>xs.getD i d)=xs:=by
   apply Kh
   ·simp
   ·intro k h1 h2; simp[h2]
  rw[this]
theorem iK {ks:List T}(h:Nice ks):Gj (eD ks):=by
 unfold eD dB Gj;split
 ·rename_i hl
  match ks,hl with
  | [],_=>exact .nil
  | [x],_=>simp
  | _::_::_,hl=>simp only[List.length_cons]at hl; omega
 ·rename_i hl;obtain⟨p,u⟩:=Aw h.lin (by omega)
  rw[(Ko)];intro i j hi hj hij;rw[(Im),(Iz),p.size]at hi hj;have hn:0 < ks.length:=by omega
  have l:=u i j hij hj;have e1:=d4 h.lt (p.lt hn i) (p.lt hn j);have g:∀ k (hk:k < ks.length),(b6 (qm ks) (PySem.W.kas_sort ks.length)).getD k 0=(b6 (qm ks) (PySem.W.kas_sort ks.length)).toList[k]'(by rw[(Iz),p.size]; exact hk):=fun k hk=>by simp[Array.getD,p.size,hk]
  have l':qm ks ((b6 (qm ks) (PySem.W.kas_sort ks.length)).getD i 0) ((b6 (qm ks) (PySem.W.kas_sort ks.length)).getD j 0)=true:=l;rw[l']at e1;have gd:∀ k (hk:k < ks.length),ks.getD k (.int 0)=ks[k]:=fun k hk=>by simp[hk]
  simp only[List.getElem_map];rw[<- g i hi,<- g j hj,gd _ (p.lt hn i),gd _ (p.lt hn j)];exact e1
theorem lb:∀ {a b:List T},(∀ x∈a,fA x=true)->a.Perm b->Gj a->Gj b->a=b
 | [],b,_,p,_,_=>(List.Perm.nil_eq p)
 | x::a,[],_,p,_,_=>absurd p.length_eq (by simp)
 | x::a,y::b,hn,p,h,h'=>by
  have e:x=y:=by
   rcases IR.mp (p.mem_iff.mp (Jg))with e|e
   ·exact e
   ·rcases IR.mp (p.mem_iff.mpr (Jg))with e'|e'
    ·exact e'.symm
    ·have l1:=List.rel_of_pairwise_cons h e';have l2:=List.rel_of_pairwise_cons h' e;have:=ow _ _ (hn x (.head _)) l1;rw[l2]at this; cases this
  subst e;rw[lb (fun z hz=>hn z (.tail _ hz)) ((List.perm_cons x).mp p) (List.pairwise_cons.mp h).2 (List.pairwise_cons.mp h').2]
theorem Nice.of_sub {ks us:List T}(h:Nice ks)(hs:∀ x∈us,x∈ks)(hd:us.Nodup):Nice us:=by
 refine⟨fun x hx=>h.num x (hs x hx),?_,hd⟩
 have:=h.lt;unfold gQ at this ⊢;rw[(IJ)]at this ⊢;intro x hx;have h2:=this x (hs x hx);rw[(IJ)]at h2 ⊢;exact fun y hy=>h2 y (hs y hy)
theorem vg {us ks:List T}(h:Nice ks)(p:us.Perm ks):eD us=eD ks:=by
 have hu:Nice us:=h.of_sub (fun x hx=>p.mem_iff.mp hx) (p.nodup_iff.mpr h.nd)
 have pu:(eD us).Perm us:=eX;have pk:(eD ks).Perm ks:=eX;exact lb (fun x hx=>hu.num x (pu.mem_iff.mp hx)) (pu.trans (p.trans pk.symm)) (iK hu) (iK h)
theorem xy {us ks:List T}(h:Nice ks)(p:us.Sublist (eD ks)):eD us=us:=by
 have pk:(eD ks).Perm ks:=eX;have hu:Nice us:=h.of_sub (fun x hx=>pk.mem_iff.mp (p.subset hx)) (p.nodup (pk.nodup_iff.mpr h.nd))
 have pu:(eD us).Perm us:=eX;exact lb (fun x hx=>hu.num x (pu.mem_iff.mp hx)) pu (iK hu) ((iK h).sublist p)
mutual
noncomputable def nb:T->Int
 | .int i=>hashInt i
 | .str _=>0
 | .tup xs=>reduceHash (Builtin.Tuple.tupleHashOf (ox xs))
noncomputable def ox:List T->List Int
 | []=>[]
 | x::xs=>nb x::ox xs
end
mutual
theorem qt {w:World}:∀ x:T,fA x=true->eC w x=nb x
 | .int _,_=>rfl
 | .str _,h=>by cases h
 | .tup xs,h=>by simp only[eC,nb]; rw[ng xs h]
theorem ng {w:World}:∀ xs:List T,de xs=true->gZ w xs=ox xs
 | [],_=>rfl
 | x::xs,h=>by
  simp only[de,Bool.and_eq_true]at h;simp only[gZ,ox];rw[qt x h.1,ng xs h.2]
end
theorem qu {w:World}:∀ (ks:List T) (st:Array (Int×T)×SetTable),(∀ x∈ks,fA x=true)->ks.foldlM (bO (eC w)) st=ks.foldlM (bO nb) st
 | [],_,_=>rfl
 | x::ks,st,h=>by
  rw[(Ke),(Ke)];have e:bO (eC w) st x=bO nb st x:=by unfold bO; rw[qt x (h x (.head _))]
  rw[e];congr 1
  funext st'
  exact qu ks st' fun y hy=>h y (.tail _ hy)
noncomputable def qv (l:Bool)(ks:List T):Option (Array (Int×T)×SetTable):=ks.foldlM (bO nb) (#[],.fresh 0 0 l)
noncomputable def jR (ks:List T):Option (List T):=match qv true ks with
 | some r=>if fw r.2 r.1.size then some (r.1.toList.map (·.2))else none
 | none=>none
noncomputable def fP (b:Bool)(t:SetTable):SetTable:={ t with led:=b }
theorem si {b:Bool}{t:SetTable}{ha:Nat->Int}{h:Int}:∀ (f:Nat) (p:SetTable.Probe),SetTable.probe.go (fP b t) ha h f p=SetTable.probe.go t ha h f p
 | 0,_=>rfl
 | f+1,p=>by
  unfold SetTable.probe.go;rw[show(fP b t).slot p.j=t.slot p.j from rfl]
  cases t.slot p.j with
  | empty=>rfl
  | dummy=>exact si f _
  | live i=>
   dsimp only;split
   ·rfl
   ·exact si f _
theorem jS {b:Bool}{es:Array (Int×T)}{t:SetTable}{x:T}{h:Int}:∀ (f:Nat) (st:Option SetTable.Probe),dO es (fP b t) x h f st=dO es t x h f st
 | 0,_=>rfl
 | f+1,st=>by
  unfold dO;have e:∀ p,(fP b t).probe (fun i=>(es[i]?.map (·.1)).getD 0) h p=t.probe (fun i=>(es[i]?.map (·.1)).getD 0) h p:=fun p=>si _ _
  rw[show(fP b t).probeStart h=t.probeStart h from rfl,e]
  split
  ·rfl
  ·rfl
  ·rfl
  ·rename_i j i next _;cases es[i]? with
   | none=>rfl
   | some q=>
    dsimp only;split
    ·rfl
    ·rw[show(fP b t).slot j=t.slot j from rfl]
     split
     ·exact jS f _
     ·rfl
theorem sj {b:Bool}{t:SetTable}{hs:Array Int}{n:Nat}:(fP b t).relaid hs n=(t.relaid hs n).map fun r=>(fP b r.1,r.2):=by
 unfold SetTable.relaid SetTable.laid;show(do let owner <- SetTable.layClean (SetTable.sizeAbove n - 1) hs; _)=_
 cases SetTable.layClean (SetTable.sizeAbove n - 1) hs <;> rfl
theorem sn {b:Bool}{hf:T->Int}{es:Array (Int×T)}{t:SetTable}{x:T}:bO hf (es,fP b t) x=(bO hf (es,t) x).map fun r=>(r.1,fP b r.2):=by
 unfold bO;dsimp only;rw[jS];cases dO es t x (hf x) 100 none with
 | none=>rfl
 | some f=>
  cases f with
  | there=>rfl
  | free slot=>
   dsimp only;rw[show(fP b t).put slot=(fP b (t.put slot).1,(t.put slot).2)from rfl]
   dsimp only;rw[show ∀ n,dz (fP b (t.put slot).1) n=dz (t.put slot).1 n from fun _=>rfl,show(fP b (t.put slot).1).tooFull=(t.put slot).1.tooFull from rfl,sj]
   split
   ·split
    ·split
     ·cases(t.put slot).1.relaid ((SetTable.insertAt es (t.put slot).2 (hf x,x)).map (·.1)) (SetTable.grown (es.size+1))with
      | none=>rfl
      | some q=>
       obtain⟨t2,order⟩:=q;dsimp only[Option.map_some];rw[show ∀ n,dz (fP b t2) n=dz t2 n from fun _=>rfl]
       split <;> rfl
     ·rfl
    ·rfl
   ·rfl
theorem qw {b:Bool}{hf:T->Int}:∀ (ks:List T) (es:Array (Int×T)) (t:SetTable),ks.foldlM (bO hf) (es,fP b t)=(ks.foldlM (bO hf) (es,t)).map fun r=>(r.1,fP b r.2)
 | [],_,_=>rfl
 | x::ks,es,t=>by
  rw[(Ke),(Ke),sn];cases bO hf (es,t) x with
  | none=>rfl
  | some r=>exact qw ks r.1 r.2
theorem vh {ks us:List T}(h:jR ks=some us)(l:Bool):∃ r,qv l ks=some r/\r.1.toList.map (·.2)=us/\r.2.led=l/\(r.2.plain=true->fw r.2 r.1.size=true):=by
 unfold jR at h;have e:qv l ks=(qv true ks).map fun r=>(r.1,fP l r.2):=qw (b:=l) ks #[] (.fresh 0 0 true)
 cases hr:qv true ks with
 | none=>rw[hr]at h; cases h
 | some r=>
  rw[hr]at h e;dsimp only at h;split at h
  ·rename_i hok;cases h;exact⟨_,e,rfl,rfl,fun _=>hok⟩
  ·cases h
theorem oy {α:Type}{xs:Array α}{p:Nat}{x y:α}(h:y∈(SetTable.insertAt xs p x).toList):y∈xs.toList\/y=x:=by
 unfold SetTable.insertAt at h;rw[Array.toList_append,Array.toList_push,(IL),(IL)]at h;rcases h with(h|h)|h
 ·rw[(Ku)]at h;refine .inl ?_;simp only[List.extract]at h;exact Kb (JV h)
 ·exact .inr (IN.mp h)
 ·rw[(Ku)]at h;refine .inl ?_;simp only[List.extract]at h;exact Kb (JV h)
theorem sr {hf:T->Int}{es:Array (Int×T)}{t:SetTable}{x:T}{r:Array (Int×T)×SetTable}(h:bO hf (es,t) x=some r):∀ y∈r.1.toList,y∈es.toList\/y.2=x:=by
 intro y hy;unfold bO at h;dsimp only at h;split at h
 ·cases h
 ·cases h; exact .inl hy
 ·rename_i slot _;have ins:∀ y∈(SetTable.insertAt es (t.put slot).2 (hf x,x)).toList,y∈es.toList\/y.2=x:=fun y hy=>(oy hy).imp id fun e=>by rw[e]
  split at h
  ·split at h
   ·split at h
    ·split at h
     ·cases h
     ·rename_i t2 order _;split at h
      ·cases h;refine ins y ?_;simp only[Array.toList_filterMap,List.mem_filterMap]at hy;obtain⟨i,_,hi⟩:=hy;rw[(Kl)];exact Array.mem_of_getElem? hi
      ·cases h
    ·cases h
   ·cases h; exact ins y hy
  ·cases h
theorem qx {hf:T->Int}:∀ (ks:List T) (es:Array (Int×T)) (t:SetTable) (r:Array (Int×T)×SetTable),ks.foldlM (bO hf) (es,t)=some r->∀ y∈r.1.toList,y∈es.toList\/y.2∈ks
 | [],_,_,_,h,y,hy=>by cases h; exact .inl hy
 | x::ks,es,t,r,h,y,hy=>by
  rw[(Ke)]at h;cases hs:bO hf (es,t) x with
  | none=>rw[hs]at h; cases h
  | some q=>
   rw[hs]at h;rcases qx ks q.1 q.2 r h y hy with h1|h1
   ·rcases sr hs y h1 with h2|h2
    ·exact .inl h2
    ·exact .inr (h2 ▸ Jg)
   ·exact .inr (.tail _ h1)
theorem xz {ks us:List T}(h:jR ks=some us):∀ k∈us,k∈ks:=by
 unfold jR at h;split at h
 ·rename_i r hr;split at h
  ·cases h;intro k hk;obtain⟨y,hy,rfl⟩:=IF.mp hk;rcases qx ks _ _ r hr y hy with h1|h1
   ·simp at h1
   ·exact h1
  ·cases h
 ·cases h
noncomputable def xA (k:T):Bool:=fA k&&k.isTup&&decide (k.depth<=aE)
noncomputable def lc (xs:List W)(S:aa):Option (W×aa):=match xs with
 | [.ref i]=>match iz S i with
  | some ws=>match W.ts ws with
   | some ks=>if ks.all xA then(jR ks).map fun us=>(.ref S.length,S++[.stt us])else none
   | none=>none
  | none=>none
 | _=>none
noncomputable def Ek (S:aa)(i:Nat):Option (List T):=match S[i]? with
 | some (.stt us)=>some us
 | _=>none
noncomputable def lf (us:List T):Bool:=us.all fA&&gQ us&&decide us.Nodup&&hE us
noncomputable def cV (xs:List W)(S:aa):Option (W×aa):=match xs with
 | [.ref i]=>match Ek S i with
  | some us=>if lf us then some (.ref S.length,S++[.lst (T.ws (eD us))])else none
  | none=>none
 | _=>none
noncomputable def jk (xs:List W)(S:aa):Option (W×aa):=match xs with
 | [.ref i]=>match u6 S i with
  | some (lo,hi)=>if -(2 ^ 62)<=lo/\lo < 2 ^ 62/\-(2 ^ 62)<=hi/\hi < 2 ^ 62/\(hi - lo).toNat<=sizeLine then some (.tup (At lo (hi - lo).toNat),S)else none
  | none=>kQ [.ref i] S
 | xs=>kQ xs S
theorem xB:∀ ks:List T,T.ws ks=ks.map T.w
 | []=>rfl
 | x::xs=>by simp only[T.ws,List.map_cons,xB xs]
theorem vk {h:Heap}{us vs:List Value}(p:us.Perm vs):∀ {ks:List T},IsTs h ks vs->∃ js,IsTs h js us/\js.Perm ks:=by
 induction p with
 | nil=>intro ks i; exact⟨ks,i,.refl _⟩
 | cons x p ih=>
  intro ks i;cases i with
  | cons a b=>obtain⟨js,h1,h2⟩:=ih b; exact⟨_,.cons a h1,h2.cons _⟩
 | swap x y l=>
  intro ks i;cases i with
  | cons a b=>cases b with
   | cons b c=>exact⟨_,.cons b (.cons a c),.swap _ _ _⟩
 | trans p q ih1 ih2=>
  intro ks i;obtain⟨js,h1,h2⟩:=ih2 i;obtain⟨is,h3,h4⟩:=ih1 h1;exact⟨is,h3,h4.trans h2⟩
theorem xC {p:T->Bool}{js ks:List T}(h:js.Perm ks):js.all p=ks.all p:=by
 rw[Bool.eq_iff_iff,(IJ),(IJ)];exact⟨fun q x hx=>q x (h.mem_iff.mpr hx),fun q x hx=>q x (h.mem_iff.mp hx)⟩
theorem xD {js ks:List T}(h:js.Perm ks):sd js=sd ks:=by unfold sd; simp only[xC h]
theorem iL:∀ {ks:List T} {d:Nat},(∀ x∈ks,x.depth<=d)->T.depths ks<=d
 | [],_,_=>Jn _
 | x::ks,d,h=>by
  have h1:=h x (.head _);have h2:=iL fun y hy=>h y (.tail _ hy)
  simp only[T.depths]; omega
theorem nh {h:Heap}{js:List T}{us:List Value}(r:IsTs h js us):∀ is:List Nat,(∀ i∈is,i < js.length)->IsTs h (is.map fun i=>js.getD i (.int 0)) (is.map fun i=>us.getD i .none)
 | [],_=>.nil
 | i::is,hl=>by
  have hi:=hl i (.head _);have hi':i < us.length:=by rw[<- r.length]; exact hi
  have e1:js.getD i (.int 0)=js[i]:=by simp[hi]
  have e2:us.getD i .none=us[i]:=by simp[hi']
  have:=r.get i hi hi';refine .cons ?_ (nh r is fun j hj=>hl j (.tail _ hj))
  show IsT h (js.getD i (.int 0)) (us.getD i .none);rw[e1,e2]; exact this
theorem vm {h:Heap}{lt:Nat->Nat->Bool}{js:List T}{us:List Value}(r:IsTs h js us):IsTs h (dB lt (.int 0) js) (dB lt Value.none us):=by
 unfold dB;rw[<- r.length];split
 ·exact r
 ·exact nh r _ fun i hi=>kB (by omega) i hi
section
variable {prog:Program} {w:World} {A:Around} {E:Value->Shared->Prop} {s:Shared}
theorem lZ {Q:List Value->Shared->Prop}{r:Addr}{a b c:Int}{t u v:Tok}{n:Nat}(hh:A.handled=none)(hr:IsRange s.heap r a b c t u v)(hsmall:Builtin.Range.small a b c=true)
  (hn:Builtin.Range.rangeSize a b c=n) (hlen:n<=2 ^ 24)
  (hQ:∀ h' tk (acc:Array Value),(∀ b o,s.heap.get? b=some o->h'.get? b=some o)->s.heap.objs.size<=h'.objs.size->ItemsOf (fun i v=>∃ t,v=.int (a+i*c) t) acc n->Q acc.toList { s with heap:=h',toks:=tk }):wpAny (model prog w) A (collect (.ref r)) Q E s:=by
 unfold collect;refine Ij (Ky (IY F.entry_proto_collect ?_));rw[Around.under_plainId F.plain_proto_collect _];show wpAny _ A.in1 (newList [] >>= fun l=>again (.builtin "list.__iadd__" ⟨[l,.ref r],[]⟩)) _ _ s
 refine Ij (IP ?_);refine Il ⟨Jz F.plain_list_iadd _,IY F.entry_list_iadd ?_⟩;rw[Around.under_plainId F.plain_list_iadd _];show wpAny _ A.in1 (Builtin.List.listExtendWith (.ref s.heap.objs.size) (.ref r) (.ref s.heap.objs.size)) _ _ _;have hS:(s.heap.push { cls:=.type "list",data:=.seq ([]:List Value).toArray }).get? s.heap.objs.size=some { cls:=.type "list",data:=.seq #[] 0 }:=Ix _ rfl;have fin':∀ s',(∃ h' tk acc c',s'={ s with heap:=h',toks:=tk }/\(∀ b o,s.heap.get? b=some o->h'.get? b=some o)/\h'.get? s.heap.objs.size=some { cls:=.type "list",dict:=none,data:=.seq acc c',slots:=#[] }/\ItemsOf (fun i v=>∃ t,v=.int (a+i*c) t) acc n)->wpAny (model prog w) A (do
   let o <- load s.heap.objs.size
   match o.data with
   | .seq xs _=>pure xs.toList
   | _=>unsupported "internal:collect") Q E s':=by
  rintro s' ⟨h',tk,acc,c',rfl,hk,hS',hacc⟩;exact Ij (wpAny_load hS' (Il (hQ h' tk acc hk (Kf (Iy hS')) hacc)))
 refine Jt (wpAny_extend_range (A:=A) (s:={ s with heap:=s.heap.push { cls:=.type "list",data:=.seq ([]:List Value).toArray } }) (R:=fun r s'=>r=.ok (.ret (.ref s.heap.objs.size))/\∃ h' tk acc c',s'={ s with heap:=h',toks:=tk }/\(∀ b o,s.heap.get? b=some o->h'.get? b=some o)/\h'.get? s.heap.objs.size=some { cls:=.type "list",dict:=none,data:=.seq acc c',slots:=#[] }/\ItemsOf (fun i v=>∃ t,v=.int (a+i*c) t) acc n) hh (Ik _ hr) hsmall hn hlen _ _ 0 hS fun h' tk acc' c' hk hS' hacc=>⟨rfl,h',tk,acc',c',rfl,fun b o e=>hk b o (ID (Iy e)) (Ik _ e),hS',hacc⟩) (fun fin s' h=>?_) (fun e s' h=>?_)
 ·cases fin with
  | done f=>
   obtain⟨e,h⟩:=h;cases e;exact fin' s' h
  | again c'=>exact⟨h.1,Kw h.2 fun r s'' hr=>by obtain⟨rfl,hr⟩:=hr; exact fin' s'' hr⟩
 ·exact absurd h.1 (by simp)
theorem jl {Q₁:Value->Shared->Prop}{r:Addr}{a b c:Int}{t u v:Tok}{n:Nat}(hh:A.handled=none)(hr:IsRange s.heap r a b c t u v)(hsmall:Builtin.Range.small a b c=true)
  (hn:Builtin.Range.rangeSize a b c=n) (hlen:n<=2 ^ 24)
  (h:∀ (h':Heap) (tk:Nat) (acc:Array Value),(∀ b o,s.heap.get? b=some o->h'.get? b=some o)->s.heap.objs.size<=h'.objs.size->ItemsOf (fun i v=>∃ t,v=.int (a+i*c) t) acc n->Q₁ (.ref h'.objs.size) { s with heap:=h'.push { cls:=.type "tuple",data:=.seq acc },toks:=tk }) :
  codeAny (model prog w) A (.call (.builtin "tuple.__new__") ⟨[.type "tuple",.ref r],[]⟩) (wants Q₁ E) s:=by
 refine codeAny_of_tree ?_;show wpAny _ A.in1 (do checkBuiltinCall "tuple.__new__" ⟨[.type "tuple",.ref r],[]⟩; again (.builtin "tuple.__new__" ⟨[.type "tuple",.ref r],[]⟩)) _ _ s
 refine Ij (KH (F.newCall_tuple_1 _) (Il ⟨Jz F.plain_tuple_new _,IY F.entry_tuple_new ?_⟩));rw[Around.under_plainId F.plain_tuple_new _];have hsub:=PySem.sub_tuple_self;have hinit:=PySem.init_tuple_lookup;have hmh:=PySem.madeHere_tuple;have hTI:s.TypeIs (.ref r) "range":=⟨_,hr,rfl⟩;have hh1:A.in1.handled=none:=by simp[hh]
 wp_walk using J3 hTI,lZ (A:=A.in1) hh1 hr hsmall hn hlen
 intro h' tk acc hk hle hacc;show wpAny _ _ (Builtin.Tuple.tupleExact acc.toList.toArray >>= fun v=>ret v) _ _ _
 unfold Builtin.Tuple.tupleExact;refine Ij (IP ?_ (by show acc.toList.toArray.size<=sizeLine; simp only[Array.toArray_toList]; rw[hacc.1,(Ja)]; omega))
 refine Il ?_;have e:acc.toList.toArray=acc:=by simp
 rw[e];exact h h' tk acc hk hle hacc
theorem jm {Q:Value->Shared->Prop}{r:Addr}{a b c:Int}{t u v:Tok}{n:Nat}(hh:A.handled=none)(hr:IsRange s.heap r a b c t u v)(hsmall:Builtin.Range.small a b c=true)
  (hn:Builtin.Range.rangeSize a b c=n) (hlen:n<=2 ^ 24)
  (hQ:∀ (h':Heap) (tk:Nat) (acc:Array Value),(∀ b o,s.heap.get? b=some o->h'.get? b=some o)->s.heap.objs.size<=h'.objs.size->ItemsOf (fun i v=>∃ t,v=.int (a+i*c) t) acc n->Q (.ref h'.objs.size) { s with heap:=h'.push { cls:=.type "tuple",data:=.seq acc },toks:=tk }) :
  wpAny (model prog w) A (call (.type "tuple") [.ref r]) Q E s:=by
 refine callType_codes (Q₁:=fun obj s₁=>s₁.TypeIs obj "tuple"/\Q obj s₁) F.called_tuple (F.typeCall_tuple_1 _) F.entry_object_init
  (jl (by simp[hh]) hr hsmall hn hlen fun h' tk acc hk hle hacc=>⟨⟨_,Ix _ rfl,rfl⟩,hQ h' tk acc hk hle hacc⟩) fun obj s₁ h₁=>?_
 exact⟨h₁.1,F.args_object_init_2 obj _,object_init_meets F.called_tuple.init.lookup F.called_tuple.made (by decide) prog w A.in1 _ s₁ ⟨h₁.1,rfl,h₁.2⟩⟩
theorem qz {a:Addr}{o:Obj}{es:Array (Int×Value)}{ep:Nat}{t:SetTable}{ks:List T}{Q:Value->Shared->Prop}(hh:A.handled=none)(hu:A.units+12 < cLine)(ho:s.heap.get? a=some o)(hex:o.ExactSet)(hd:o.data=.set es ep t)(hz:es.size<=sizeLine)(fit:t.fits es.size=true)(led:t.led = !eT w)(pl:t.plain=true->es.size=0\/fw t es.size=true)
  (hT:IsTs s.heap ks (es.toList.map (·.2))) (hok:lf ks=true)
  (h:∀ D h' tk dr c us,(∀ b u,s.heap.get? b=some u->h'.get? b=some u)->s.heap.objs.size<=D->h'.get? D=some (seqObj "list" us.toArray c)->IsTs s.heap (eD ks) us->us.Perm (es.toList.map (·.2))->Q (.ref D) { s with heap:=h',toks:=tk,drawn:=dr }) :
  wpAny (model prog w) A (call (.builtin "sorted") [.ref a]) Q E s:=by
 simp only[lf,Bool.and_eq_true,decide_eq_true_eq]at hok;obtain⟨⟨⟨hnum,halt⟩,hnd⟩,hok⟩:=hok;have hN:Nice ks:=⟨fun x hx=>IJ.mp hnum x hx,halt,hnd⟩
 refine Kk kind_sorted plain_sorted entry_sorted (args_sorted1 _) ?_;unfold Builtin.«sorted»;refine Ij (m:=checkCount "sorted" 1 1 _) (Il ?_);refine Ij (p4 (A:=A.in1) (by simp[hh]) ho hex hd hz fit led pl fun h1 tk dr us kp hle hP=>?_)
 obtain⟨js,hjs,hperm⟩:=vk hP hT;simp only[hE,Bool.and_eq_true,decide_eq_true_eq]at hok;obtain⟨⟨h64,hdp⟩,hok⟩:=hok;have hl:us.length=ks.length:=by rw[hjs.length.symm,hperm.length_eq]
 have hJ:Nice js:=hN.of_sub (fun x hx=>hperm.mem_iff.mp hx) (hperm.nodup_iff.mpr hN.nd)
 have hsk:2<=us.length->(sd js).isSome=true:=fun h2=>by
  have h3:(sd ks).isSome=true:=by
   rcases KD _ _ ▸ hok with h|h
   ·simp only[decide_eq_true_eq]at h; omega
   ·simp only[Bool.and_eq_true]at h; exact h.1
  rw[xD hperm]; exact h3
 have hdj:T.depths js<=cF:=iL fun x hx=>by
  obtain⟨i,hi,rfl⟩:=List.mem_iff_getElem.mp (hperm.mem_iff.mp hx);exact IC (cy i hi) hdp
 refine Ij (wpAny_newList ?_ (by rw[(Ja)]; omega))
 have hoL:(h1.push (seqObj "list" us.toArray 0)).get? h1.objs.size=some (seqObj "list" us.toArray 0):=Ix _ rfl;have kp2:∀ b o,s.heap.get? b=some o->(h1.push (seqObj "list" us.toArray 0)).get? b=some o:=fun b o e=>Ik _ (kp b o e)
 have hne:∀ b o,s.heap.get? b=some o->b≠h1.objs.size:=fun b o e=>ID (IH (Iy e) hle)
 show wpAny _ _ _ _ _ { s with heap:=h1.push (seqObj "list" us.toArray 0),toks:=tk,drawn:=dr }
 refine Ij (IW (Ji slot_list_sort ⟨_,hoL,rfl⟩ entry_list_sort ?_ (args_list_sort _)));refine mW (s:={ s with heap:=h1.push (seqObj "list" us.toArray 0),toks:=tk,drawn:=dr }) (lt:=qm js) (κ:=tF ((sd js).getD 0)) hoL (by omega) (fun h2 h' hk Q hq=>?_) (fun h2 h' hk i j hi hj Q hq=>?_) fun h' c hk hD=>?_
 ·obtain⟨c,hc⟩:=IX.mp (hsk h2);rw[hc]at hq;exact xr (s:={ s with heap:=h',toks:=tk,drawn:=dr }) (hjs.kept fun b o _ e=>hk b o (hne b o e) (kp2 b o e)) h2 hc hq
 ·obtain⟨c,hc⟩:=IX.mp (hsk h2);rw[hc];have hjl:=hjs.length;have hi':i < js.length:=by omega
  have hj':j < js.length:=by omega
  have g:=(hjs.kept (h':=h') fun b o _ e=>hk b o (hne b o e) (kp2 b o e))
  have e1:us.getD i Value.none=us[i]:=by simp[hi]
  have e2:us.getD j Value.none=us[j]:=by simp[hj]
  rw[e1,e2];have b1:=cy (ks:=js) i hi';have b2:=cy (ks:=js) j hj';exact tJ (s:={ s with heap:=h',toks:=tk,drawn:=dr }) (d:=cF) (c:=c) (by rw[bm,bm]; unfold cF; omega) (by omega) (by omega) (g.get i hi' hi) (g.get j hj' hj) (d4 hJ.lt hi' hj') (tK hc (List.getElem_mem hi') (List.getElem_mem hj')) hq
 ·refine⟨_,rfl,Il ⟨_,rfl,h _ h' tk dr c (dB (qm js) Value.none us) (fun b o e=>hk b o (hne b o e) (kp2 b o e)) hle hD ?_ (eX.trans hP)⟩⟩
  rw[<- vg hN hperm];exact vm hjs
end
section
variable {X:Cx} {pins:List (Addr×Obj)} {σ:L2.St} {H:Hp} {s:Shared} {A:List Addr} {S:aa}
theorem ni:∀ as:List Addr,Vals (as.map V.ref) (as.map Value.ref)
 | []=>.nil
 | _::as=>.cons rfl (ni as)
theorem xE:∀ {ks:List T} {as:List Addr},RelL X.K A H (T.ws ks) (as.map V.ref)->∀ b∈as,∃ k∈ks,Rel X.K A H k.w (.ref b)
 | [],[],_,_,h=>nomatch h
 | [],_::_,r,_,_=>nomatch r
 | _::_,[],r,_,_=>nomatch r
 | k::ks,a::as,r,b,h=>by
  cases r with
  | cons r1 r2=>
   rcases IR.mp h with rfl|h
   ·exact⟨k,.head _,r1⟩
   ·obtain⟨k',h1,h2⟩:=xE r2 b h;exact⟨k',.tail _ h1,h2⟩
theorem xF (I:Inv X pins σ H s):∀ {js:List T} {us:List Value},IsTs s.heap js us->(∀ u∈us,∃ k b,u=Value.ref b/\Rel X.K A H (T.w k) (.ref b))->∃ vs,RelL X.K A H (T.ws js) vs/\Vals vs us
 | _,_,.nil,_=>⟨[],.nil,.nil⟩
 | _,_,.cons a b,h=>by
  obtain⟨k,c,rfl,r⟩:=h _ (.head _);obtain⟨vs,h1,h2⟩:=xF I b fun u hu=>h u (.tail _ hu)
  have:IsT s.heap k (.ref c):=oo I k r rfl;obtain rfl:=a.inj this;exact⟨.ref c::vs,.cons r h1,.cons rfl h2⟩
theorem qA (hh:X.A.handled=none)(hu:X.A.units+12 < cLine):LCall X (.builtin "sorted") cV:=by
 intro pins s σ H A S xs vs us w S' I so rl rv e;unfold cV at e;split at e
 ·rename_i i;obtain⟨a,ea,rfl⟩:=kq (xs:=[]) rl rv;split at e
  ·rename_i ks hs;split at e
   ·rename_i hb;cases e;unfold Ek at hs;split at hs
    ·rename_i us hx;cases hs;obtain⟨o,φ,as,q,⟨hex,es,ep,t,hd,hz,fit,led,pl,he⟩,r⟩:=so.obj i _ a hx ea;have ho:s.heap.get? a=some o:=(show ObjOk X.prog X.w H s.heap a (.frz o (.ext φ))from I.hok a _ q).1
     have hT:IsTs s.heap ks (es.toList.map (·.2)):=by rw[he]; exact fB I ks r (ni as)
     refine qz hh hu ho hex hd hz fit led pl hT hb fun D h' tk dr c us hk hD oD hU hP=>?_
     obtain⟨vs,h1,h2⟩:=xF I hU fun u hu=>by
      have:=hP.mem_iff.mp hu;rw[he]at this;obtain⟨b,hb,rfl⟩:=IF.mp this;obtain⟨k,_,rk⟩:=xE r b hb;exact⟨k,b,rfl,rk⟩
     have hl:us.length<=sizeLine:=by rw[hP.length_eq,(Im),(Iz)]; exact hz
     exact iF (u:=.lst vs) I so hk hD ⟨by rw[L2.Vals.length h2]; exact hl,us,c,h2,oD⟩ fun hn=>⟨_,bx,h1.mono (cU hn)⟩
    ·cases hs
   ·cases e
  ·cases e
 ·cases e
theorem su (hh:X.A.handled=none)(hu:X.A.units+12 < cLine):LCall X (.type "set") lc:=by
 intro pins s σ H A S xs vs us w S' I so rl rv e;unfold lc at e;split at e
 ·rename_i i;obtain⟨a,ea,rfl⟩:=kq (xs:=[]) rl rv;split at e
  ·rename_i ws hw;split at e
   ·rename_i ks hs;split at e
    ·rename_i hb;rw[(Io)]at e;obtain⟨us,hp,e⟩:=e;cases e;have hkk:∀ x∈ks,fA x=true/\x.isTup=true/\x.depth<=aE:=fun x hx=>by
      have:=IJ.mp hb x hx;simp only[xA,Bool.and_eq_true,decide_eq_true_eq]at this;exact⟨this.1.1,this.1.2,this.2⟩
     obtain⟨vs',h1,r1⟩:=cw so hw ea;obtain⟨its,rv',p,hzz⟩:=I.list h1;have hws:T.ws ks=ws:=W.ts_w hs;rw[<- hws]at r1;have hT:IsTs s.heap ks its:=fB I ks r1 rv';obtain⟨res,hplay,hkeys,hled,hpl⟩:=vh hp (!eT X.w);have itm:∀ (j:Nat) (u:Value),its[j]?=some u->∃ k b,ks[j]?=some k/\u=Value.ref b/\Rel X.K A H (T.w k) (.ref b):=fun j u hj=>by
      have hjl:=(Ir.mp hj).1;have hjk:j < ks.length:=by rw[hT.length]; exact hjl
      have hkw:(T.ws ks)[j]?=some (T.w ks[j]):=by rw[xB,(Iu),List.getElem?_eq_getElem hjk]; rfl
      obtain⟨v,hv,rkv⟩:=r1.get hkw;obtain⟨u',hu',ruv⟩:=L2.Vals.get rv' hv;rw[hj]at hu';cases hu';have ht:=(hkk _ (IQ hjk)).2.1;generalize hk0:ks[j]=k0 at rkv ht;cases k0 with
      | int _=>cases ht
      | str _=>cases ht
      | tup ys=>
       cases rkv with
       | tup q1 q2=>
        obtain rfl:u=Value.ref _:=ruv;exact⟨.tup ys,_,by rw[<- hk0]; exact Iw hjk,rfl,.tup q1 q2⟩
     refine u8 (ks:=ks) (res:=res) hh p.isList (by simpa using hT) (fun x hx=>⟨(hkk x hx).1,(hkk x hx).2.2⟩) (fun j v hj=>?_) (by show _+aE < cLine; rw[bm,bm,bm]; unfold aE; omega) (by rw[qu ks _ fun x hx=>(hkk x hx).1]; exact hplay) fun h' tk zs ep ho ez hok hz hy hk=>?_
     ·obtain⟨k,b,_,hb,_⟩:=itm j v (by simpa using hj)
      exact⟨b,hb⟩
     ·have ezt:zs.toList.map (fun z=>z.2.1)=us:=by
       rw[<- hkeys,<- ez,Array.toList_map,(J4)]; rfl
      have hsz:res.1.size=zs.size:=by rw[<- ez,(Js)]
      refine iF (dr:=s.drawn) (u:=.frz (kX X.w zs ep res.2) (.ext fun h=>h.get? s.heap.objs.size=some (kX X.w zs ep res.2))) I so hk (Ip _) ⟨ho,ho,⟨_,ho⟩,fun h1 h2 q k=>k _ q⟩ fun hn=>⟨_,_,zs.toList.map fun z=>z.2.2,bx,⟨⟨rfl,rfl,rfl⟩,zs.map zV,ep,res.2,rfl,?_,?_,hled,?_,?_⟩,?_⟩
      ·rw[(Js),(Ja)];simp only[dz,Bool.and_eq_true,decide_eq_true_eq]at hok;have:=hok.2; omega
      ·rw[(Js)];simp only[dz,Bool.and_eq_true,decide_eq_true_eq]at hok;exact hok.1.1
      ·rw[(Js),<- hsz]; exact fun z=>.inr (hpl z)
      ·rw[Array.toList_map,(J4),(J4)]; rfl
      ·rw[<- ezt];have all:∀ z∈zs.toList,Rel X.K (A++[s.heap.objs.size]) (cb H s.heap.objs.size (.frz (kX X.w zs ep res.2) (.ext fun h=>h.get? s.heap.objs.size=some (kX X.w zs ep res.2)))) (T.w z.2.1) (.ref z.2.2):=fun z hz'=>by
        obtain⟨j,g1,g2⟩:=hy z hz';obtain⟨k,b,g3,g4,g5⟩:=itm j _ (by simpa using g2)
        rw[g1]at g3;cases g3; cases g4
        exact g5.mono (cU hn)
       clear hy ezt;generalize zs.toList=l at all
       induction l with
       | nil=>exact .nil
       | cons z l ih=>exact .cons (all z (.head _)) (ih fun y hy=>all y (.tail _ hy))
    ·cases e
   ·cases e
  ·cases e
 ·cases e
theorem oz (hh:X.A.handled=none):LCall X (.type "tuple") jk:=by
 intro pins s σ H A S xs vs us w S' I so rl rv e;unfold jk at e;split at e
 ·rename_i i;split at e
  ·rename_i lo hi hr;split at e
   ·rename_i hb;cases e;obtain⟨a,ea,rfl⟩:=kq (xs:=[]) rl rv;obtain⟨b1,b2,b3,b4,b5⟩:=hb;have hH:H a=some (.rng lo hi):=by
     unfold u6 at hr;split at hr
     ·rename_i hx; cases hr; exact so.obj i _ a hx ea
     ·cases hr
    obtain⟨t,u,v,ho⟩:=I.hok a _ hH;have hn:Builtin.Range.rangeSize lo hi 1=((hi - lo).toNat:Nat):=by rw[rangeSize_one]; split <;> omega
    refine jm hh ho (small_one b1 b2 b3 b4) hn b5 fun h' tk acc hk hle hacc=>?_
    have hv:Vals ((List.range (hi - lo).toNat).map fun(k:Nat)=>V.int (lo+(k:Int))) acc.toList:=by
     refine oh (by rw[(Im),(IS),(Iz),hacc.1]) fun i v u e1 e2=>?_
     rw[(Iu),(Io)]at e1;obtain⟨k,e1,rfl⟩:=e1;obtain⟨hk,rfl⟩:=Ir.mp e1;obtain⟨t,rfl⟩:=hacc.2 i u (by rw[<- (Jl)]; exact e2)
     exact⟨t,by simp⟩
    have hnn:H h'.objs.size=none:=I.hok.fresh hle;refine⟨.ref h'.objs.size,_,A,I.laid (a:=h'.objs.size) (o:=.tup ((List.range (hi - lo).toNat).map fun(k:Nat)=>V.int (lo+(k:Int)))) (t':=tk) (fun b o e=>Ik _ (hk b o e)) hle ⟨by simpa using b5,acc.toList,hv,?_⟩,rfl,dN (.inl hnn),so.lay hnn,.tup (.inl (.inl bx)) (ol _)⟩
    exact⟨_,Ix _ rfl,rfl,0,by simp⟩
   ·cases e
  ·exact jM pins s σ H A S _ vs us w S' I so rl rv e
 ·exact jM pins s σ H A S _ vs us w S' I so rl rv e
end
section
variable {X:Cx} {pins:List (Addr×Obj)} {σ:L2.St} {H:Hp} {s:Shared} {A:List Addr} {S:aa}
theorem vn (hh:X.A.handled=none)(hu:X.A.units+12 < cLine):LCall X (.builtin "min") Au:=by
 intro pins s σ H A S xs vs us w S' I so rl rv e;cases rl with
 | nil=>cases e
 | cons r t=>
  cases t with
  | cons _ _=>cases r <;> cases e
  | nil=>
   cases rv with
   | cons ru rv2=>
    cases rv2;cases r with
    | ref ea=>
     simp only[Au]at e;split at e
     ·rename_i ws hw;split at e
      ·rename_i ks hk;split at e
       ·rename_i hc;rw[(Io)]at e;obtain⟨w',e1,e2⟩:=e;cases e2;obtain⟨vs',h1,r1⟩:=cw so hw ea;obtain⟨its,rv1,p,hz⟩:=I.list h1;obtain rfl:_=Value.ref _:=ru;have hws:T.ws ks=ws:=W.ts_w hk;have hT:IsTs s.heap ks its:=fB I ks (hws ▸ r1) rv1;have hl:its.length=ks.length:=hT.length.symm;have hlw:ws.length=ks.length:=by rw[r1.length,L2.Vals.length rv1,hl]
        have hn:0 < ks.length:=by
         have:=(Ir.mp e1).1;omega
        refine xo (items:=its.toArray) (bt:=qm ks) hh p.isList (by simpa [hl]using hn) (fun i j vi vj s' Q E hk' hi hj hq=>?_) fun v h' tk hv hk'=>?_
        ·have hi':i < ks.length:=by
          have:=(Jo.mp hi).1
          simpa [hl]using this
         have hj':j < ks.length:=by
          have:=(Jo.mp hj).1
          simpa [hl]using this
         have g:=hT.kept (h':=s'.heap) fun b o _ e=>hk' b o e
         have e1:vi=its[i]'(by omega):=by
          have:=(Jo.mp hi).2
          simpa using this.symm
         have e2:vj=its[j]'(by omega):=by
          have:=(Jo.mp hj).2
          simpa using this.symm
         subst e1 e2;have b1:=cy (ks:=ks) i hi';have b2:=cy (ks:=ks) j hj';exact E4 cF _ _ _ _ X.A.in1 s' _ (by omega) (by omega) (g.get i hi' (by omega)) (g.get j hj' (by omega)) (by rw[bm]; unfold cF; omega) (d4 hc.2 hi' hj') X.prog X.w _ _ hq
        ·have hv':its[sg ks]?=some v:=by
          have:its.toArray.size=ks.length:=by simpa using hl
          rw[this]at hv
          simpa [sg]using hv
         obtain⟨v',q1,q2⟩:=r1.get e1;obtain⟨u',q3,q4⟩:=L2.Vals.get rv1 q1;rw[hv']at q3;cases q3;exact⟨v',H,A,I.kept hk',q4,.refl,so,q2⟩
       ·cases e
      ·cases e
     ·cases e
    | _=>cases e
theorem nj:∀ {ws:List W} {bs:List Bool},hG ws=some bs->ws=bs.map W.bl
 | [],bs,h=>by cases h; rfl
 | .bl b::ws,bs,h=>by
  simp only[hG,Option.map_eq_some_iff]at h;obtain⟨r,h1,h2⟩:=h;subst h2;rw[nj h1]; rfl
 | .non::_,_,h|.int _::_,_,h|.str _::_,_,h|.tup _::_,_,h|.ref _::_,_,h=>by cases h
theorem sv {bs:List Bool}{vs:List V}{us:List Value}(r:RelL X.K A H (bs.map W.bl) vs)(rv:Vals vs us):us=bs.map Value.bool:=by
 induction bs generalizing vs us with
 | nil=>cases r; cases rv; rfl
 | cons b bs ih=>
  cases r with
  | cons r1 r2=>
   cases rv with
   | cons v1 v2=>
    cases r1;obtain rfl:_=Value.bool b:=v1;rw[ih r2 v2]; rfl
theorem vo (bs:List Bool):(List.range bs.length).all (fun i=>bs.getD i false)=bs.all id:=by
 induction bs with
 | nil=>rfl
 | cons b bs ih=>simp[List.range_succ_eq_map,List.all_map,Function.comp_def]at ih ⊢; rw[ih]
theorem C5 {id:String}{fb:List Bool->Bool}{g:List W->aa->Option (W×aa)}(hg:∀ xs S,g xs S=match xs with|[.ref i]=>(match iz S i with|some ws=>(hG ws).map fun bs=>(.bl (fb bs),S)|none=>none)|_=>none)
  (hcall:∀ {s:Shared} {x:Value} {Q:Value->Shared->Prop} {E:Value->Shared->Prop} {bs:List Bool},wpAny (model X.prog X.w) X.A.in1 (pyIter x) (fun it s₂=>∃ I fp wr P St,it=.ref I/\Walks X.prog X.w X.A.in1 I fp wr bs.length P St/\St 0 s₂.heap/\TruthOf X.prog X.w X.A.in1 P (fun i=>bs.getD i false)/\
   ∀ h' tk,(∀ b o,b∉wr->s₂.heap.get? b=some o->h'.get? b=some o)->Q (.bool (fb bs)) { s₂ with heap:=h',toks:=tk }) E s->wpAny (model X.prog X.w) X.A (call (.builtin id) [x]) Q E s)
  (hh:X.A.handled=none):LCall X (.builtin id) g:=by
 intro pins s σ H A S xs vs us w S' I so rl rv e;rw[hg]at e;cases rl with
 | nil=>cases e
 | cons r t=>
  cases t with
  | cons _ _=>cases r <;> cases e
  | nil=>
   cases rv with
   | cons ru rv2=>
    cases rv2;cases r with
    | @ref ri ad ea=>
     simp only at e;split at e
     ·rename_i ws hw;rw[(Io)]at e;obtain⟨bs,e1,e2⟩:=e;cases e2;obtain⟨vs',h1,r1⟩:=cw so hw ea;obtain⟨its,rv1,p,hz⟩:=I.list h1;obtain rfl:_=Value.ref _:=ru;rw[nj e1]at r1;have hits:=sv r1 rv1;refine hcall (bs:=bs) ?_;refine Kz p.isList ?_;have hlt:ad < s.heap.objs.size:=by obtain⟨_,ho,_⟩:=p.isList; exact Iy ho
      have W:=Walks.list (prog:=X.prog) (w:=X.w) (A:=X.A.in1) hh s.heap.objs.size ad (ID hlt) its.toArray;have hsz:its.toArray.size=bs.length:=by rw[(IE),hits,(Im)]
      rw[hsz]at W;refine⟨_,_,_,_,_,rfl,W,⟨⟨_,Ix _ rfl,rfl,rfl⟩,?_⟩,fun i v s' Q E hi hq=>?_,fun h' tk hk=>?_⟩
      ·obtain⟨o,ho,hc⟩:=p.isList;exact⟨o,Ik _ ho,hc⟩
      ·have hb:bs[i]?.map Value.bool=some v:=by rw[<- (Iu),<- hits]; simpa using hi
       cases q:bs[i]? with
       | none=>rw[q]at hb; cases hb
       | some b=>
        rw[q]at hb;cases hb;have eb:bs.getD i false=b:=by simp[q]
        have hq:Q (bs.getD i false) s':=hq;rw[eb]at hq;exact JI hq
      ·refine⟨.bl (fb bs),H,A,I.kept (fun b o e=>hk b o (fun z=>?_) (Ik _ e)),rfl,.refl,so,.bl⟩
       have hb:=Iy e;rw[List.mem_singleton.mp z]at hb;exact Jp _ hb
     ·cases e
    | _=>cases e
theorem vp (hh:X.A.handled=none):LCall X (.builtin "all") Av:=
 C5 (fb:=fun bs=>bs.all id) (fun xs S=>rfl) (fun {s x Q E bs} h=>call_all_walk (Jt h (fun it s₂ ⟨I,fp,wr,P,St',a,b,c,d,f⟩=>⟨I,fp,wr,_,P,St',_,a,b,c,d,fun h' tk hk=>by rw[vo]; exact f h' tk hk⟩) fun _ _ e=>e)) hh
end
noncomputable abbrev FA:=Fm->aa->Option (List W×aa)
noncomputable abbrev FT:=Fm->aa->Option (Bool×aa)
inductive Out where
 | nx (ρ:Fm)|rt (w:W)|bk (ρ:Fm)|ct (ρ:Fm)
noncomputable abbrev FS:=Fm->aa->Option (Out×aa)
section
variable (X:Cx)
noncomputable def tE (f:FE):TE:=fun σ H Q=>∃ A ρ S w S',EnvRel X.K A H ρ σ/\StoreOk X.w X.K A H S/\f ρ S=some (w,S')/\∀ v H',EndV X.w X.K A H S' w v H'->Q v H'
noncomputable def EndB (A:List Addr)(H:Hp)(S':aa)(k:Bool):Bool->Hp->Prop:=fun b H'=>b=k/\∃ A',Ext X.K A H A' H'/\StoreOk X.w X.K A' H' S'
noncomputable def tT (f:FT):TT:=fun σ H Q=>∃ A ρ S k S',EnvRel X.K A H ρ σ/\StoreOk X.w X.K A H S/\f ρ S=some (k,S')/\∀ b H',EndB X A H S' k b H'->Q b H'
noncomputable def C6 (A:List Addr)(H:Hp)(S':aa)(ws:List W):List V->Hp->Prop:=fun vs H'=>∃ A',Ext X.K A H A' H'/\StoreOk X.w X.K A' H' S'/\RelL X.K A' H' ws vs
noncomputable def tA (f:FA):TA:=fun σ H Q=>∃ A ρ S ws S',EnvRel X.K A H ρ σ/\StoreOk X.w X.K A H S/\f ρ S=some (ws,S')/\∀ vs H',C6 X A H S' ws vs H'->Q vs H'
noncomputable def EndS (A:List Addr)(H:Hp)(o:Out)(S':aa):Ends where
 nx:=fun σ' H'=>∃ ρ' A',o=.nx ρ'/\Ext X.K A H A' H'/\StoreOk X.w X.K A' H' S'/\EnvRel X.K A' H' ρ' σ'
 rt:=fun v H'=>∃ w A',o=.rt w/\Ext X.K A H A' H'/\StoreOk X.w X.K A' H' S'/\Rel X.K A' H' w v
 bk:=fun σ' H'=>∃ ρ' A',o=.bk ρ'/\Ext X.K A H A' H'/\StoreOk X.w X.K A' H' S'/\EnvRel X.K A' H' ρ' σ'
 ct:=fun σ' H'=>∃ ρ' A',o=.ct ρ'/\Ext X.K A H A' H'/\StoreOk X.w X.K A' H' S'/\EnvRel X.K A' H' ρ' σ'
structure Imp (E D:Ends):Prop where
 nx:∀ σ H,E.nx σ H->D.nx σ H
 rt:∀ v H,E.rt v H->D.rt v H
 bk:∀ σ H,E.bk σ H->D.bk σ H
 ct:∀ σ H,E.ct σ H->D.ct σ H
noncomputable def tS (f:FS):TS:=fun D σ H=>∃ A ρ S o S',EnvRel X.K A H ρ σ/\StoreOk X.w X.K A H S/\f ρ S=some (o,S')/\Imp (EndS X A H o S') D
noncomputable abbrev GE (e:Expr)(f:FE):Prop:=PE X e (tE X f)
noncomputable abbrev GT (e:Expr)(f:FT):Prop:=PT X e (tT X f)
noncomputable abbrev GW (e:Expr)(f:FT):Prop:=PW X e (tT X f)
noncomputable abbrev GA (es:List Expr)(f:FA):Prop:=PA X es (tA X f)
noncomputable abbrev GS (st:Stmt)(f:FS):Prop:=PS X st (tS X f)
noncomputable abbrev GSs (sts:List Stmt)(f:FS):Prop:=PSs X sts (tS X f)
end
theorem Imp.trans {E D F:Ends}(a:Imp E D)(b:Imp D F):Imp E F:=⟨fun _ _ h=>b.nx _ _ (a.nx _ _ h),fun _ _ h=>b.rt _ _ (a.rt _ _ h),fun _ _ h=>b.bk _ _ (a.bk _ _ h),fun _ _ h=>b.ct _ _ (a.ct _ _ h)⟩
section
variable {X:Cx}
theorem GE.of {e:Expr}{t:TE}{f:FE}(h:PE X e t)(hf:∀ (σ:L2.St) (H:Hp) (A:List Addr) (ρ:Fm) (S:aa) (w:W) (S':aa),EnvRel X.K A H ρ σ->StoreOk X.w X.K A H S->f ρ S=some (w,S')->∀ Q:VK,(∀ v H',EndV X.w X.K A H S' w v H'->Q v H')->t σ H Q):GE X e f:=
 fun pins s σ H Q I ⟨A,ρ,S,w,S',er,so,e1,hq⟩=>h pins s σ H Q I (hf σ H A ρ S w S' er so e1 Q hq)
theorem GT.of {e:Expr}{t:TT}{f:FT}(h:PT X e t)(hf:∀ (σ:L2.St) (H:Hp) (A:List Addr) (ρ:Fm) (S:aa) (k:Bool) (S':aa),EnvRel X.K A H ρ σ->StoreOk X.w X.K A H S->f ρ S=some (k,S')->∀ Q:Bool->Hp->Prop,(∀ b H',EndB X A H S' k b H'->Q b H')->t σ H Q):GT X e f:=
 fun pins s σ H Q I ⟨A,ρ,S,w,S',er,so,e1,hq⟩=>h pins s σ H Q I (hf σ H A ρ S w S' er so e1 Q hq)
theorem GW.of {e:Expr}{t:TT}{f:FT}(h:PW X e t)(hf:∀ (σ:L2.St) (H:Hp) (A:List Addr) (ρ:Fm) (S:aa) (k:Bool) (S':aa),EnvRel X.K A H ρ σ->StoreOk X.w X.K A H S->f ρ S=some (k,S')->∀ Q:Bool->Hp->Prop,(∀ b H',EndB X A H S' k b H'->Q b H')->t σ H Q):GW X e f:=
 fun wh pins s σ H Q I ⟨A,ρ,S,w,S',er,so,e1,hq⟩=>h wh pins s σ H Q I (hf σ H A ρ S w S' er so e1 Q hq)
theorem GA.of {es:List Expr}{t:TA}{f:FA}(h:PA X es t)(hf:∀ (σ:L2.St) (H:Hp) (A:List Addr) (ρ:Fm) (S:aa) (ws:List W) (S':aa),EnvRel X.K A H ρ σ->StoreOk X.w X.K A H S->f ρ S=some (ws,S')->∀ Q:List V->Hp->Prop,(∀ vs H',C6 X A H S' ws vs H'->Q vs H')->t σ H Q):GA X es f:=
 fun pos pins s σ H Q I ⟨A,ρ,S,w,S',er,so,e1,hq⟩=>h pos pins s σ H Q I (hf σ H A ρ S w S' er so e1 Q hq)
theorem GS.of {st:Stmt}{t:TS}{f:FS}(h:PS X st t)(hf:∀ (σ:L2.St) (H:Hp) (A:List Addr) (ρ:Fm) (S:aa) (o:Out) (S':aa),EnvRel X.K A H ρ σ->StoreOk X.w X.K A H S->f ρ S=some (o,S')->∀ D:Ends,Imp (EndS X A H o S') D->t D σ H):GS X st f:=
 fun pins s σ H D I ⟨A,ρ,S,o,S',er,so,e1,hq⟩=>h pins s σ H D I (hf σ H A ρ S o S' er so e1 D hq)
theorem GSs.of {st:List Stmt}{t:TS}{f:FS}(h:PSs X st t)(hf:∀ (σ:L2.St) (H:Hp) (A:List Addr) (ρ:Fm) (S:aa) (o:Out) (S':aa),EnvRel X.K A H ρ σ->StoreOk X.w X.K A H S->f ρ S=some (o,S')->∀ D:Ends,Imp (EndS X A H o S') D->t D σ H):GSs X st f:=
 fun pins s σ H D I ⟨A,ρ,S,o,S',er,so,e1,hq⟩=>h pins s σ H D I (hf σ H A ρ S o S' er so e1 D hq)
theorem EndV.after {A A1:List Addr}{H H1:Hp}{S':aa}{w:W}{v:V}{H':Hp}(e:Ext X.K A H A1 H1)(h:EndV X.w X.K A1 H1 S' w v H'):EndV X.w X.K A H S' w v H':=by
 obtain⟨A',x,y,z⟩:=h;exact⟨A',e.trans x,y,z⟩
theorem EndB.after {A A1:List Addr}{H H1:Hp}{S':aa}{k b:Bool}{H':Hp}(e:Ext X.K A H A1 H1)(h:EndB X A1 H1 S' k b H'):EndB X A H S' k b H':=by
 obtain⟨h1,A',x,y⟩:=h;exact⟨h1,A',e.trans x,y⟩
theorem EndS.after {A A1:List Addr}{H H1:Hp}{S':aa}{o:Out}(e:Ext X.K A H A1 H1):Imp (EndS X A1 H1 o S') (EndS X A H o S'):=
 ⟨fun _ _ ⟨ρ',A',a,b,c,d⟩=>⟨ρ',A',a,e.trans b,c,d⟩,fun _ _ ⟨ρ',A',a,b,c,d⟩=>⟨ρ',A',a,e.trans b,c,d⟩,fun _ _ ⟨ρ',A',a,b,c,d⟩=>⟨ρ',A',a,e.trans b,c,d⟩,fun _ _ ⟨ρ',A',a,b,c,d⟩=>⟨ρ',A',a,e.trans b,c,d⟩⟩
noncomputable def fC (w:W):FE:=fun _ S=>some (w,S)
noncomputable def fV (i:Nat):FE:=fun ρ S=>match ρ[i]? with
 | some (some w)=>some (w,S)
 | _=>none
theorem qB {e:Expr}{v:V}{w:W}(h:PE X e (tC v))(r:∀ A H,Rel X.K A H w v):GE X e (fC w):=
 GE.of h fun σ H A ρ S w' S' er so e Q hq=>by cases e; exact hq _ _ (.here so (r A H))
theorem G9 {i:Nat}{e:Expr}(h:PE X e (Cn i)):GE X e (fV i):=GE.of h fun σ H A ρ S w S' er so e Q hq=>by
 unfold fV at e;split at e
 ·rename_i w' hw;cases e;obtain⟨v,h1,h2⟩:=er.2 i _ hw;exact⟨v,h1,hq _ _ (.here so h2)⟩
 ·cases e
noncomputable def Ax (g:W->W->aa->Option (W×aa))(fa fb:FE):FE:=fun ρ S=>match fa ρ S with
 | some (x,S1)=>match fb ρ S1 with
  | some (y,S2)=>g x y S2
  | none=>none
 | none=>none
theorem Gk {fa fb:FE}{g:W->W->aa->Option (W×aa)}{ρ:Fm}{S:aa}{r:W×aa}(e:Ax g fa fb ρ S=some r):∃ x S1 y S2,fa ρ S=some (x,S1)/\fb ρ S1=some (y,S2)/\g x y S2=some r:=by
 unfold Ax at e;split at e
 ·rename_i x S1 h1;split at e
  ·rename_i y S2 h2;exact⟨x,S1,y,S2,h1,h2,e⟩
  ·cases e
 ·cases e
theorem iM {fa fb:FE}{ρ:Fm}{S S1 S2:aa}{x y:W}{σ:L2.St}{H:Hp}{A:List Addr}{R:V->V->Hp->Prop}(er:EnvRel X.K A H ρ σ)(so:StoreOk X.w X.K A H S)(h1:fa ρ S=some (x,S1))(h2:fb ρ S1=some (y,S2))
  (h:∀ a b H2 A2,Ext X.K A H A2 H2->StoreOk X.w X.K A2 H2 S2->Rel X.K A2 H2 x a->Rel X.K A2 H2 y b->R a b H2):tE X fa σ H fun a H1=>tE X fb σ H1 fun b H2=>R a b H2:=by
 refine⟨A,ρ,S,x,S1,er,so,h1,fun a H1 ⟨A1,e1,o1,r1⟩=>?_⟩
 refine⟨A1,ρ,S1,y,S2,er.mono e1,o1,h2,fun b H2 ⟨A2,e2,o2,r2⟩=>?_⟩
 exact h a b H2 A2 (e1.trans e2) o2 (r1.mono e2) r2
theorem LOp.opr {f:Value->Value->Sem Value}{g:W->W->aa->Option (W×aa)}(h:LOp X f g):OpR X f (fun a b H Q=>∃ A S x y w S',StoreOk X.w X.K A H S/\Rel X.K A H x a/\Rel X.K A H y b/\g x y S=some (w,S')/\∀ v H',EndV X.w X.K A H S' w v H'->Q v H'):=by
 intro pins s σ H a b u v Q I ru rv ⟨A,S,x,y,w,S',so,rx,ry,e,hq⟩;exact bS (h pins s σ H A S x y a b u v w S' I so rx ru ry rv e) fun u' s' ⟨v',H',A',I',r',e1,o1,z1⟩=>⟨v',H',I',r',hq v' H' ⟨A',e1,o1,z1⟩⟩
theorem BY {a b:Expr}{op:Operator}{pos:Pos}{fa fb:FE}{g:W->W->aa->Option (W×aa)}(ho:LOp X (binaryOp op) g)(ha:GE X a fa)(hb:GE X b fb):GE X (.BinOp a op b pos) (Ax g fa fb):=
 GE.of (EG ho.opr ha hb) fun σ H A ρ S w S' er so e Q hq=>by
  obtain⟨x,S1,y,S2,h1,h2,h3⟩:=Gk e;exact iM er so h1 h2 fun a b H2 A2 e2 o2 r1 r2=>⟨A2,S2,x,y,w,S',o2,r1,r2,h3,fun v H' z=>hq v H' (z.after e2)⟩
noncomputable def xG (fa:FE):FE:=fun ρ S=>match fa ρ S with
 | some (.int i,S1)=>some (.int (-i),S1)
 | _=>none
theorem xH {a:Expr}{pos:Pos}{fa:FE}(ha:GE X a fa):GE X (.UnaryOp .USub a pos) (xG fa):=
 GE.of (EH CO ha) fun σ H A ρ S w S' er so e Q hq=>by
  unfold xG at e;split at e
  ·rename_i i S1 h1;cases e;refine⟨A,ρ,S,_,_,er,so,h1,fun v H1 ⟨A1,e1,o1,r1⟩=>?_⟩
   cases r1;exact⟨_,rfl,hq _ _ ⟨A1,e1,o1,.int⟩⟩
  ·cases e
noncomputable def Ay (o:COp)(fa fb:FE):FE:=Ax (dh o) fa fb
theorem C7 {a b:Expr}{o:COp}{pos:Pos}{fa fb:FE}(hu:X.A.units+g8 < cLine)(ha:GE X a fa)(hb:GE X b fb)(hm:behindInMarks o.py b=false):GE X (.Compare a [o.py] [b] pos) (Ay o fa fb):=
 GE.of (zL (qg hu o).opr ha hb hm) fun σ H A ρ S w S' er so e Q hq=>by
  obtain⟨x,S1,y,S2,h1,h2,h3⟩:=Gk e;exact iM er so h1 h2 fun a b H2 A2 e2 o2 r1 r2=>⟨A2,S2,x,y,w,S',o2,r1,r2,h3,fun v H' z=>hq v H' (z.after e2)⟩
noncomputable def xI (f:FE):FT:=fun ρ S=>match f ρ S with
 | some (.bl k,S')=>some (k,S')
 | _=>none
theorem C8 {a b:Expr}{o:COp}{pos:Pos}{fa fb:FE}(hu:X.A.units+g8 < cLine)(ha:GE X a fa)(hb:GE X b fb)(hm:behindInMarks o.py b=false):GT X (.Compare a [o.py] [b] pos) (xI (Ay o fa fb)):=
 GT.of (zM (qg hu o).opr ha hb hm) fun σ H A ρ S k S' er so e Q hq=>by
  unfold xI at e;split at e
  ·rename_i k' S'' h0;cases e;obtain⟨x,S1,y,S2,h1,h2,h3⟩:=Gk h0;refine iM er so h1 h2 fun a b H2 A2 e2 o2 r1 r2=>⟨A2,S2,x,y,_,_,o2,r1,r2,h3,fun v H' ⟨A',z1,z2,z3⟩=>?_⟩
   cases z3;exact⟨k,rfl,hq _ _ ⟨rfl,A',e2.trans z1,z2⟩⟩
  ·cases e
noncomputable def gF (f:FE):FT:=fun ρ S=>match f ρ S with
 | some (w,S')=>(gD S' w).map fun k=>(k,S')
 | none=>none
theorem cM {e:Expr}{f:FE}(h:GE X e f)(he:∀ whole,isTrue e X.env whole=(do let v <- whole; standAt e.pos; holding [v] (truthy v))):GT X e (gF f):=by
 intro pins s σ H Q I ⟨A,ρ,S,k,S',er,so,e1,hq⟩;unfold gF at e1;split at e1
 ·rename_i w S1 h1;rw[(Io)]at e1;obtain⟨k',ek,e2⟩:=e1;cases e2;refine isTrue_plain (bS (h pins s σ H (EndV X.w X.K A H _ w) I ⟨A,ρ,S,w,_,er,so,h1,fun _ _ z=>z⟩) fun v s1 ⟨x,H1,I1,r1,A1,e1,o1,z1⟩=>?_) (he _)
  exact G7 I1 o1 z1 r1 ek fun s' I'=>⟨H1,I',hq _ _ ⟨rfl,A1,e1,o1⟩⟩
 ·cases e1
noncomputable def xJ (f g:FT):FT:=fun ρ S=>match f ρ S with
 | some (true,S1)=>g ρ S1
 | some (false,S1)=>some (false,S1)
 | none=>none
noncomputable def E5 (f g:FT):FT:=fun ρ S=>match f ρ S with
 | some (true,S1)=>some (true,S1)
 | some (false,S1)=>g ρ S1
 | none=>none
noncomputable def Az (f:FT):FT:=fun ρ S=>match f ρ S with
 | some (k,S1)=>some (!k,S1)
 | none=>none
theorem xK {f g:FT}{σ:L2.St}{H:Hp}{A:List Addr}{ρ:Fm}{S:aa}{k:Bool}{S':aa}(er:EnvRel X.K A H ρ σ)(so:StoreOk X.w X.K A H S)(e:xJ f g ρ S=some (k,S'))(Q:Bool->Hp->Prop)(hq:∀ b H',EndB X A H S' k b H'->Q b H') :
  Er (tT X f) (tT X g) σ H Q:=by
 unfold xJ at e;split at e
 ·rename_i S1 h1;refine⟨A,ρ,S,true,S1,er,so,h1,fun b H1 ⟨z0,A1,z1,z2⟩=>?_⟩
  subst z0;rw[if_pos rfl];exact⟨A1,ρ,S1,k,S',er.mono z1,z2,e,fun b H' q=>hq b H' (q.after z1)⟩
 ·rename_i S1 h1;cases e;refine⟨A,ρ,S,false,_,er,so,h1,fun b H1 ⟨z0,A1,z1,z2⟩=>?_⟩
  subst z0;rw[if_neg Bool.false_ne_true];exact hq _ _ ⟨rfl,A1,z1,z2⟩
 ·cases e
theorem AA {f g:FT}{σ:L2.St}{H:Hp}{A:List Addr}{ρ:Fm}{S:aa}{k:Bool}{S':aa}(er:EnvRel X.K A H ρ σ)(so:StoreOk X.w X.K A H S)(e:E5 f g ρ S=some (k,S'))(Q:Bool->Hp->Prop)(hq:∀ b H',EndB X A H S' k b H'->Q b H') :
  HJ (tT X f) (tT X g) σ H Q:=by
 unfold E5 at e;split at e
 ·rename_i S1 h1;cases e;refine⟨A,ρ,S,true,_,er,so,h1,fun b H1 ⟨z0,A1,z1,z2⟩=>?_⟩
  subst z0;rw[if_pos rfl];exact hq _ _ ⟨rfl,A1,z1,z2⟩
 ·rename_i S1 h1;refine⟨A,ρ,S,false,S1,er,so,h1,fun b H1 ⟨z0,A1,z1,z2⟩=>?_⟩
  subst z0;rw[if_neg Bool.false_ne_true];exact⟨A1,ρ,S1,k,S',er.mono z1,z2,e,fun b H' q=>hq b H' (q.after z1)⟩
 ·cases e
theorem AB {a:Expr}{pos:Pos}{f:FT}(h:GT X a f):GW X (.BoolOp .And [a] pos) f:=zC h
theorem C9 {a:Expr}{pos:Pos}{f:FT}(h:GT X a f):GW X (.BoolOp .Or [a] pos) f:=Co h
theorem Da {a b:Expr}{r:List Expr}{pos:Pos}{f g:FT}(h:GT X a f)(h2:GW X (.BoolOp .And (b::r) pos) g):GW X (.BoolOp .And (a::b::r) pos) (xJ f g):=
 GW.of (Cp h h2) fun σ H A ρ S k S' er so e Q hq=>xK er so e Q hq
theorem E6 {a b:Expr}{r:List Expr}{pos:Pos}{f g:FT}(h:GT X a f)(h2:GW X (.BoolOp .Or (b::r) pos) g):GW X (.BoolOp .Or (a::b::r) pos) (E5 f g):=
 GW.of (Et h h2) fun σ H A ρ S k S' er so e Q hq=>AA er so e Q hq
theorem Db {a:Expr}{pos:Pos}{f:FT}(h:GT X a f):GT X (.UnaryOp .Not a pos) (Az f):=
 GT.of (Cq h) fun σ H A ρ S k S' er so e Q hq=>by
  unfold Az at e;split at e
  ·rename_i k1 S1 h1;cases e;refine⟨A,ρ,S,k1,_,er,so,h1,fun b H1 ⟨z0,A1,z1,z2⟩=>?_⟩
   subst z0;exact hq _ _ ⟨rfl,A1,z1,z2⟩
  ·cases e
noncomputable def tQ (f g:FE):FE:=fun ρ S=>match f ρ S with
 | some (.bl true,S1)=>g ρ S1
 | some (.bl false,S1)=>some (.bl false,S1)
 | _=>none
noncomputable def AC (f g:FE):FE:=fun ρ S=>match f ρ S with
 | some (.bl true,S1)=>some (.bl true,S1)
 | some (.bl false,S1)=>g ρ S1
 | _=>none
noncomputable def tR (f:FE):FE:=fun ρ S=>match f ρ S with
 | some (.bl k,S1)=>some (.bl (!k),S1)
 | _=>none
theorem Dc {a:Expr}{op:BoolOp}{pos:Pos}{f:FE}(h:GE X a f):GE X (.BoolOp op [a] pos) f:=Cr h
theorem De {a b:Expr}{r:List Expr}{pos:Pos}{f g:FE}(h:GE X a f)(h2:GE X (.BoolOp .And (b::r) pos) g):GE X (.BoolOp .And (a::b::r) pos) (tQ f g):=
 GE.of (Cs h h2) fun σ H A ρ S w S' er so e Q hq=>by
  unfold tQ at e;split at e
  ·rename_i S1 h1;refine⟨A,ρ,S,_,S1,er,so,h1,fun v H1 ⟨A1,z1,z2,z3⟩=>?_⟩
   cases z3;refine⟨true,rfl,?_⟩;rw[if_pos rfl];exact⟨A1,ρ,S1,w,S',er.mono z1,z2,e,fun b H' q=>hq b H' (q.after z1)⟩
  ·rename_i S1 h1;cases e;refine⟨A,ρ,S,_,_,er,so,h1,fun v H1 ⟨A1,z1,z2,z3⟩=>?_⟩
   cases z3;refine⟨false,rfl,?_⟩;rw[if_neg Bool.false_ne_true];exact hq _ _ ⟨A1,z1,z2,.bl⟩
  ·cases e
theorem E7 {a b:Expr}{r:List Expr}{pos:Pos}{f g:FE}(h:GE X a f)(h2:GE X (.BoolOp .Or (b::r) pos) g):GE X (.BoolOp .Or (a::b::r) pos) (AC f g):=
 GE.of (Ew h h2) fun σ H A ρ S w S' er so e Q hq=>by
  unfold AC at e;split at e
  ·rename_i S1 h1;cases e;refine⟨A,ρ,S,_,_,er,so,h1,fun v H1 ⟨A1,z1,z2,z3⟩=>?_⟩
   cases z3;refine⟨true,rfl,?_⟩;rw[if_pos rfl];exact hq _ _ ⟨A1,z1,z2,.bl⟩
  ·rename_i S1 h1;refine⟨A,ρ,S,_,S1,er,so,h1,fun v H1 ⟨A1,z1,z2,z3⟩=>?_⟩
   cases z3;refine⟨false,rfl,?_⟩;rw[if_neg Bool.false_ne_true];exact⟨A1,ρ,S1,w,S',er.mono z1,z2,e,fun b H' q=>hq b H' (q.after z1)⟩
  ·cases e
theorem Dg {a:Expr}{pos:Pos}{f:FE}(h:GE X a f):GE X (.UnaryOp .Not a pos) (tR f):=
 GE.of (Ct h) fun σ H A ρ S w S' er so e Q hq=>by
  unfold tR at e;split at e
  ·rename_i k1 S1 h1;cases e;refine⟨A,ρ,S,_,_,er,so,h1,fun b H1 ⟨A1,z1,z2,z3⟩=>?_⟩
   cases z3;exact⟨_,rfl,hq _ _ ⟨A1,z1,z2,.bl⟩⟩
  ·cases e
noncomputable def AD (c:FT)(f g:FE):FE:=fun ρ S=>match c ρ S with
 | some (true,S1)=>f ρ S1
 | some (false,S1)=>g ρ S1
 | none=>none
theorem Dh {c a b:Expr}{pos:Pos}{fc:FT}{f g:FE}(hc:GT X c fc)(ha:GE X a f)(hb:GE X b g):GE X (.IfExp c a b pos) (AD fc f g):=
 GE.of (wb hc ha hb) fun σ H A ρ S w S' er so e Q hq=>by
  unfold AD at e;split at e
  ·rename_i S1 h1;refine⟨A,ρ,S,_,S1,er,so,h1,fun b H1 ⟨z0,A1,z1,z2⟩=>?_⟩
   subst z0;rw[if_pos rfl];exact⟨A1,ρ,S1,w,S',er.mono z1,z2,e,fun b H' q=>hq b H' (q.after z1)⟩
  ·rename_i S1 h1;refine⟨A,ρ,S,_,S1,er,so,h1,fun b H1 ⟨z0,A1,z1,z2⟩=>?_⟩
   subst z0;rw[if_neg Bool.false_ne_true];exact⟨A1,ρ,S1,w,S',er.mono z1,z2,e,fun b H' q=>hq b H' (q.after z1)⟩
  ·cases e
noncomputable def lg:FA:=fun _ S=>some ([],S)
noncomputable def eY (f:FE)(g:FA):FA:=fun ρ S=>match f ρ S with
 | some (w,S1)=>match g ρ S1 with
  | some (ws,S2)=>some (w::ws,S2)
  | none=>none
 | none=>none
theorem Di:GA X [] lg:=GA.of wm fun σ H A ρ S ws S' er so e Q hq=>by cases e; exact hq _ _ ⟨A,.refl,so,.nil⟩
theorem AE {e:Expr}{es:List Expr}{f:FE}{g:FA}(h:GE X e f)(h2:GA X es g)(hs:starEach (e::es) X.env=(false,eval e X.env)::starEach es X.env):GA X (e::es) (eY f g):=
 GA.of (nR h h2 hs) fun σ H A ρ S ws S' er so e Q hq=>by
  unfold eY at e;split at e
  ·rename_i w S1 h1;split at e
   ·rename_i ws2 S2 h2;cases e;refine⟨A,ρ,S,w,S1,er,so,h1,fun v H1 ⟨A1,z1,z2,z3⟩=>?_⟩
    refine⟨A1,ρ,S1,ws2,_,er.mono z1,z2,h2,fun vs H2 ⟨A2,y1,y2,y3⟩=>?_⟩
    exact hq _ _ ⟨A2,z1.trans y1,y2,.cons (z3.mono y1) y3⟩
   ·cases e
  ·cases e
noncomputable def xL (f:FA):FE:=fun ρ S=>match f ρ S with
 | some (ws,S1)=>rW S1 ws
 | none=>none
noncomputable def xM (f:FA):FE:=fun ρ S=>match f ρ S with
 | some (ws,S1)=>lY S1 ws
 | none=>none
theorem xN {es:List Expr}{k:Nat}{pos:Pos}{f:FA}(h:GA X es f):GE X (.Tuple es k pos) (xL f):=
 GE.of (CS h) fun σ H A ρ S w S' er so e Q hq=>by
  unfold xL at e;split at e
  ·rename_i ws S1 h1;obtain⟨hl,rfl,rfl⟩:=sT e;refine⟨A,ρ,S,ws,_,er,so,h1,fun vs H1 ⟨A1,z1,z2,z3⟩=>⟨by rw[<- z3.length]; exact hl,fun p hp=>?_⟩⟩
   exact hq _ _ (EndV.after z1 (.tup z2 z3 hp))
  ·cases e
theorem xO {es:List Expr}{pos:Pos}{f:FA}(h:GA X es f):GE X (.List es pos) (xM f):=
 GE.of (CT h) fun σ H A ρ S w S' er so e Q hq=>by
  unfold xM at e;split at e
  ·rename_i ws S1 h1;obtain⟨hl,rfl,rfl⟩:=ko e;refine⟨A,ρ,S,ws,_,er,so,h1,fun vs H1 ⟨A1,z1,z2,z3⟩=>⟨by rw[<- z3.length]; exact hl,fun p hp=>?_⟩⟩
   exact hq _ _ (EndV.after z1 (.lst z2 z3 hp))
  ·cases e
noncomputable def jT (g:List W->aa->Option (W×aa))(f:FA):FE:=fun ρ S=>match f ρ S with
 | some (ws,S1)=>g ws S1
 | none=>none
theorem LCall.callr {v:Value}{g:List W->aa->Option (W×aa)}(h:LCall X v g):CallR X v (fun vs H Q=>∃ A S ws w S',StoreOk X.w X.K A H S/\RelL X.K A H ws vs/\g ws S=some (w,S')/\∀ v H',EndV X.w X.K A H S' w v H'->Q v H'):=by
 intro pins s σ H vs us Q I rv ⟨A,S,ws,w,S',so,rl,e,hq⟩;exact bS (h pins s σ H A S ws vs us w S' I so rl rv e) fun u' s' ⟨v',H',A',I',r',e1,o1,z1⟩=>⟨v',H',I',r',hq v' H' ⟨A',e1,o1,z1⟩⟩
theorem nk {g:List W->aa->Option (W×aa)}{f:FA}{σ:L2.St}{H:Hp}{A:List Addr}{ρ:Fm}{S:aa}{w:W}{S':aa}(er:EnvRel X.K A H ρ σ)(so:StoreOk X.w X.K A H S)(e:jT g f ρ S=some (w,S'))(Q:VK)(hq:∀ v H',EndV X.w X.K A H S' w v H'->Q v H') :
  tA X f σ H fun vs H1=>∃ A S ws w S',StoreOk X.w X.K A H1 S/\RelL X.K A H1 ws vs/\g ws S=some (w,S')/\∀ v H',EndV X.w X.K A H1 S' w v H'->Q v H':=by
 unfold jT at e;split at e
 ·rename_i ws S1 h1;exact⟨A,ρ,S,ws,S1,er,so,h1,fun vs H1 ⟨A1,z1,z2,z3⟩=>⟨A1,S1,ws,w,S',z2,z3,e,fun v H' q=>hq v H' (q.after z1)⟩⟩
 ·cases e
theorem tU {id:String}{x:Str}{e:Expr}{es:List Expr}{p pos:Pos}{f:FA}{g:List W->aa->Option (W×aa)}(hc:LCall X (.builtin id) g)(hg:Gl X x)(hm:X.mg x=none)(hv:bootBuiltins x=some (.builtin id))(ha:GA X (e::es) f)
  (hn:x≠"__name__") (hdb:(x==("__debug__" : Str))=false) (hs:starEach (e::es) X.env=(false,eval e X.env)::starEach es X.env) (hpl:(backTo pos (starEach es X.env)).any (·.1)=false):GE X (.Call (.Name x p) (e::es) [] pos) (jT g f):=
 GE.of (pO hc.callr hg hm hv ha hn hdb hs hpl) fun σ H A ρ S w S' er so e Q hq=>nk er so e Q hq
theorem qC {id:String}{x:Str}{e:Expr}{es:List Expr}{p pos:Pos}{f:FA}{g:List W->aa->Option (W×aa)}(hc:LCall X (.type id) g)(hg:Gl X x)(hm:X.mg x=none)(hv:bootBuiltins x=some (.type id))(ha:GA X (e::es) f)
  (hn:x≠"__name__") (hdb:(x==("__debug__" : Str))=false) (hs:starEach (e::es) X.env=(false,eval e X.env)::starEach es X.env) (hpl:(backTo pos (starEach es X.env)).any (·.1)=false):GE X (.Call (.Name x p) (e::es) [] pos) (jT g f):=
 GE.of (uL hc.callr hg hm hv ha hn hdb hs hpl) fun σ H A ρ S w S' er so e Q hq=>nk er so e Q hq
end
noncomputable def tyOk (T:String)(S:aa):W->Bool
 | .str _=>T == "str"
 | .ref i=>(T == "list" && (iz S i).isSome)||(T == "dict" && (jP S i).isSome)
 | _=>false
noncomputable def El (T:String)(g:W->List W->aa->Option (W×aa))(fo:FE)(f:FA):FE:=fun ρ S=>match fo ρ S with
 | some (x,S1)=>if tyOk T S1 x then match f ρ S1 with
  | some (ws,S2)=>g x ws S2
  | none=>none
  else none
 | none=>none
noncomputable def Ha (fa fb:FE):FE:=Ax pI fa fb
noncomputable abbrev FO:=Fm->aa->Option (Option Int×aa)
noncomputable def Dj:FO:=fun _ S=>some (none,S)
noncomputable def tV (f:FE):FO:=fun ρ S=>match f ρ S with
 | some (.int i,S1)=>some (some i,S1)
 | _=>none
noncomputable def E8 (fa:FE)(fl fh:FO):FE:=fun ρ S=>match fa ρ S with
 | some (x,S1)=>match fl ρ S1 with
  | some (lo,S2)=>match fh ρ S2 with
   | some (hi,S3)=>w6 x lo hi S3
   | none=>none
  | none=>none
 | none=>none
section
variable {X:Cx}
theorem LMeth.mtr {id:String}{g:W->List W->aa->Option (W×aa)}(h:LMeth X id g):MtR X id (fun a vs H Q=>∃ A S x ws w S',StoreOk X.w X.K A H S/\Rel X.K A H x a/\RelL X.K A H ws vs/\g x ws S=some (w,S')/\∀ v H',EndV X.w X.K A H S' w v H'->Q v H'):=by
 intro pins s σ H a vs u us Q I ru rv ⟨A,S,x,ws,w,S',so,rx,rl,e,hq⟩;exact bS (h pins s σ H A S x a u ws vs us w S' I so rx ru rl rv e) fun u' s' ⟨v',H',A',I',r',e1,o1,z1⟩=>⟨v',H',I',r',hq v' H' ⟨A',e1,o1,z1⟩⟩
theorem tyOk.is {pins:List (Addr×Obj)}{σ:L2.St}{s:Shared}{A:List Addr}{H:Hp}{S:aa}{T:String}{x:W}{a:V}{v:Value}(I:Inv X pins σ H s)(so:StoreOk X.w X.K A H S)(r:Rel X.K A H x a)(rv:RelV a v)(h:tyOk T S x=true) :
  s.TypeIs v T/\∀ b,v=.ref b->∃ ob,s.heap.get? b=some ob/\ob.dict=none:=by
 cases r with
 | str=>exact wy I rv (show G3 X.K T (.str _) H from eq_of_beq h)
 | ref ea=>
  simp only[tyOk,Bool.or_eq_true,Bool.and_eq_true]at h;rcases h with⟨h1,h2⟩|⟨h1,h2⟩
  ·obtain⟨xs,hx⟩:=IX.mp h2;obtain⟨vs,h3,_⟩:=cw so hx ea;exact wy I rv (show G3 X.K T (.ref _) H from .inl ⟨eq_of_beq h1,vs,h3⟩)
  ·obtain⟨kvs,hx⟩:=IX.mp h2;obtain⟨xs,rd,_⟩:=fU so hx ea;obtain⟨_,_,_,o,es,ep,q1,q2,q3,q4⟩:=cD I rd;have e:=eq_of_beq h1;subst e;obtain rfl:v=Value.ref _:=rv;exact⟨⟨o,q1,q2.1⟩,fun b e=>by cases e; exact⟨o,q1,q2.2.1⟩⟩
 | _=>cases h
theorem qD {o e:Expr}{es:List Expr}{name:Str}{apos cpos:Pos}{T id:String}{g:W->List W->aa->Option (W×aa)}{fo:FE}{f:FA}(pa:PlainAttrs T)(slot:Slot T name id)(hty:typeOf (.builtin id)=pure (.type "method_descriptor"))(hm:LMeth X id g)
  (ho:GE X o fo) (ha:GA X (e::es) f) (hbase:attributeBase o name X.env (eval o X.env)=eval o X.env)
  (hfew:((backTo cpos (starEach (e::es) X.env)).all (fun x=>!x.1)&&(backToKw cpos (keywordEach [] X.env)).all (fun x=>x.1.isSome)
   && decide ((e::es).length+([]:List Keyword).length+(if ([]:List Keyword).isEmpty then 0 else 1) < 30))=true)
  (hline:(apos.endLine==cpos.line)=true) (hs:starEach (e::es) X.env=(false,eval e X.env)::starEach es X.env) (hplain:(backTo cpos (starEach es X.env)).any (·.1)=false) :
  GE X (.Call (.Attribute o name apos) (e::es) [] cpos) (El T g fo f):=by
 intro pins s σ H Q I ⟨A,ρ,S,w,S',er,so,e,hq⟩;unfold El at e;split at e
 ·rename_i x S1 h1;split at e
  ·rename_i ht;split at e
   ·rename_i ws S2 h2;refine wpAny_Call_method_late hbase hfew hline rfl (bS (ho pins s σ H (EndV X.w X.K A H S1 x) I ⟨A,ρ,S,_,_,er,so,h1,fun _ _ z=>z⟩) fun v s1 ⟨a,H1,I1,r1,A1,e1,o1,z1⟩=>?_)
    obtain⟨t1,t2⟩:=tyOk.is I1 o1 z1 r1 ht;refine⟨T,id,pa,slot,hty,t1,t2,?_⟩;have hA:=ha cpos pins s1 σ H1 (C6 X A1 H1 S2 ws) I1 ⟨A1,ρ,S1,ws,S2,er.mono e1,o1,h2,fun _ _ z=>z⟩
    rw[hs]at hA ⊢;refine Calls.callWith_builtin (by show(false||(backTo cpos (starEach es X.env)).any (·.1))=false; rw[hplain] <;> rfl) (Calls.evalArgs_plain ?_)
    refine bS hA fun us s2 ⟨vs,H2,I2,r2,A2,e2,o2,z2⟩=>?_
    refine bS (hm pins s2 σ H2 A2 S2 x a v ws vs us w S' I2 o2 (z1.mono e2) r1 z2 r2 e) fun u' s' ⟨v',H',A',I',r',e3,o3,z3⟩=>?_
    exact⟨v',H',I',r',hq v' H' ⟨A',(e1.trans e2).trans e3,o3,z3⟩⟩
   ·cases e
  ·cases e
 ·cases e
theorem LIx.ixr {g:W->W->aa->Option (W×aa)}(h:LIx X g):IxR X (fun a b H Q=>∃ A S x y w S',StoreOk X.w X.K A H S/\Rel X.K A H x a/\Rel X.K A H y b/\g x y S=some (w,S')/\∀ v H',EndV X.w X.K A H S' w v H'->Q v H'):=by
 intro value slice pins s σ H a b u v Q I ru rv ⟨A,S,x,y,w,S',so,rx,ry,e,hq⟩ hs;exact bS (h value slice pins s σ H A S x y a b u v w S' I so rx ru ry rv e hs) fun u' s' ⟨v',H',A',I',r',e1,o1,z1⟩=>⟨v',H',I',r',hq v' H' ⟨A',e1,o1,z1⟩⟩
theorem E9 {a b:Expr}{pos:Pos}{fa fb:FE}(hu:X.A.units+10 < cLine)(ha:GE X a fa)(hb:GE X b fb)(hs:nU b):GE X (.Subscript a b pos) (Ha fa fb):=
 GE.of (EU (G8 hu).ixr ha hb hs) fun σ H A ρ S w S' er so e Q hq=>by
  obtain⟨x,S1,y,S2,h1,h2,h3⟩:=Gk e;exact iM er so h1 h2 fun a b H2 A2 e2 o2 r1 r2=>⟨A2,S2,x,y,w,S',o2,r1,r2,h3,fun v H' z=>hq v H' (z.after e2)⟩
noncomputable def tO (X:Cx)(f:FO):TO:=fun σ H Q=>∃ A ρ S k S',EnvRel X.K A H ρ σ/\StoreOk X.w X.K A H S/\f ρ S=some (k,S')/\∀ H' A',Ext X.K A H A' H'->StoreOk X.w X.K A' H' S'->Q k H'
noncomputable abbrev GO (X:Cx)(e:Option Expr)(f:FO):Prop:=PO X e (tO X f)
theorem AF:GO X none Dj:=fun pins s σ H Q I ⟨A,ρ,S,k,S',er,so,e,hq⟩=>by
 cases e;exact zQ pins s σ H Q I (hq H A .refl so)
theorem AG {e:Expr}{f:FE}(h:GE X e f):GO X (some e) (tV f):=fun pins s σ H Q I ⟨A,ρ,S,k,S',er,so,e,hq⟩=>by
 unfold tV at e;split at e
 ·rename_i i S1 h1;cases e;refine zR h pins s σ H Q I ⟨A,ρ,S,_,_,er,so,h1,fun v H1 ⟨A1,z1,z2,z3⟩=>?_⟩
  cases z3;exact⟨i,rfl,hq H1 A1 z1 z2⟩
 ·cases e
theorem LSl.slr {g:W->Option Int->Option Int->aa->Option (W×aa)}(h:LSl X g):ET X (fun a lo hi H Q=>∃ A S x w S',StoreOk X.w X.K A H S/\Rel X.K A H x a/\g x lo hi S=some (w,S')/\∀ v H',EndV X.w X.K A H S' w v H'->Q v H'):=by
 intro pins s σ H a v vl vu lo hi sl Q I rv hs pl pu ⟨A,S,x,w,S',so,rx,e,hq⟩;obtain⟨T,id,h1,h2,h3⟩:=h pins s σ H A S x a v vl vu lo hi sl w S' I so rx rv hs pl pu e;exact⟨T,id,h1,h2,bS h3 fun u' s' ⟨v',H',A',I',r',e1,o1,z1⟩=>⟨v',H',I',r',hq v' H' ⟨A',e1,o1,z1⟩⟩⟩
theorem Fa {a:Expr}{lo hi:Option Expr}{p2 pos:Pos}{fa:FE}{fl fh:FO}(ha:GE X a fa)(hl:GO X lo fl)(hh:GO X hi fh):GE X (.Subscript a (.Slice lo hi none p2) pos) (E8 fa fl fh):=
 GE.of (wu HY.slr ha hl hh) fun σ H A ρ S w S' er so e Q hq=>by
  unfold E8 at e;split at e
  ·rename_i x S1 h1;split at e
   ·rename_i l S2 h2;split at e
    ·rename_i h S3 h3;refine⟨A,ρ,S,x,S1,er,so,h1,fun v H1 ⟨A1,z1,z2,z3⟩=>?_⟩
     refine⟨A1,ρ,S1,l,S2,er.mono z1,z2,h2,fun H2 A2 y1 y2=>?_⟩
     refine⟨A2,ρ,S2,h,S3,er.mono (z1.trans y1),y2,h3,fun H3 A3 x1 x2=>?_⟩
     exact⟨A3,S3,x,w,S',x2,(z3.mono y1).mono x1,e,fun v H' q=>hq v H' (q.after ((z1.trans y1).trans x1))⟩
    ·cases e
   ·cases e
  ·cases e
noncomputable abbrev FF:=List W->aa->Option (W×aa)
noncomputable def xP (wd:World)(K:PySem.W.Frag)(n:Nat)(g:FF):Sp:=fun vs H Q _=>∃ A S ws w S',StoreOk wd K A H S/\RelL K A H ws vs/\ws.length=n/\g ws S=some (w,S')/\∀ v H',EndV wd K A H S' w v H'->Q v H'
noncomputable def qE (n:Nat)(g:FF)(f:FA):FE:=fun ρ S=>match f ρ S with
 | some (ws,S1)=>if ws.length=n then g ws S1 else none
 | none=>none
theorem qF {n:Nat}{g:FF}{f:FA}{σ:L2.St}{H:Hp}{A:List Addr}{ρ:Fm}{S:aa}{w:W}{S':aa}{E:XK}(er:EnvRel X.K A H ρ σ)(so:StoreOk X.w X.K A H S)(e:qE n g f ρ S=some (w,S'))(Q:VK)(hq:∀ v H',EndV X.w X.K A H S' w v H'->Q v H') :
  wo (xP X.w X.K n g) [] E (tA X f) σ H Q:=by
 unfold qE at e;split at e
 ·rename_i ws S1 h1;split at e
  ·rename_i hl;refine⟨A,ρ,S,ws,S1,er,so,h1,fun vs H1 ⟨A1,z1,z2,z3⟩=>?_⟩
   show xP X.w X.K n g (vs++[]) H1 Q E;rw[(Jy)];exact⟨A1,S1,ws,w,S',z2,z3,hl,e,fun v H' q=>hq v H' (q.after z1)⟩
  ·cases e
 ·cases e
theorem Dk {k n:Nat}{fa:Addr}{fd:FuncData}{ps:List Str}{g:FF}{x:Str}{e:Expr}{es:List Expr}{p pos:Pos}{f:FA}(F:FnOk X.prog X.w X.K X.mg X.base vV k fa fd ps (xP X.w X.K n g))(hr:Room k X.A)(hg:Gl X x)(hm:X.mg x=some (.ref fa))(hk:PySem.W.keepIn X.K (.ref fa)=true)
  (hb:Binds X.K fd ps []) (ha:GA X (e::es) f) (hdb:(x==("__debug__" : Str))=false) (he:starEach (e::es) X.env=(false,eval e X.env)::starEach es X.env) (hpl:(backTo pos (starEach es X.env)).any (·.1)=false) :
  GE X (.Call (.Name x p) (e::es) [] pos) (qE n g f):=
 GE.of (zN F hr hg hm hk hb .nil BU ha hdb he hpl) fun σ H A ρ S w S' er so e Q hq=>qF er so e Q hq
theorem AH {k n:Nat}{fa:Addr}{fd:FuncData}{ps:List Str}{g:FF}{x:Str}{p pos:Pos}(F:FnOk X.prog X.w X.K X.mg X.base vV k fa fd ps (xP X.w X.K n g))(hr:Room k X.A)(hg:Gl X x)(hm:X.mg x=some (.ref fa))(hk:PySem.W.keepIn X.K (.ref fa)=true)
  (hb:Binds X.K fd ps []) (hdb:(x==("__debug__" : Str))=false):GE X (.Call (.Name x p) [] [] pos) (qE n g lg):=
 GE.of (wq F hr hg hm hk hb .nil BU hdb) fun σ H A ρ S w S' er so e Q hq=>by
  obtain⟨A1,S1,ws,w1,S1',a1,a2,a3,a4,a5⟩:=qF (f:=lg) (E:=E0) er so e Q hq |> fun⟨A,ρ,S,ws,S',b1,b2,b3,b4⟩=>b4 [] H (by cases b3; exact⟨A,.refl,b2,.nil⟩)
  exact⟨A1,S1,ws,w1,S1',a1,a2,a3,a4,a5⟩
theorem AI:GSs X [] (fun ρ S=>some (.nx ρ,S)):=GSs.of zD fun σ H A ρ S o S' er so e D hd=>by cases e; exact hd.nx _ _ ⟨ρ,A,rfl,.refl,so,er⟩
noncomputable def AJ (f g:FS):FS:=fun ρ S=>match f ρ S with
 | some (.nx ρ',S1)=>g ρ' S1
 | some (.rt w,S1)=>some (.rt w,S1)
 | some (.bk ρ',S1)=>some (.bk ρ',S1)
 | some (.ct ρ',S1)=>some (.ct ρ',S1)
 | none=>none
theorem xQ {st:Stmt}{sts:List Stmt}{f g:FS}(h:GS X st f)(h2:GSs X sts g):GSs X (st::sts) (AJ f g):=GSs.of (we h h2) fun σ H A ρ S o S' er so e D hd=>by
 unfold AJ at e;split at e
 ·rename_i ρ1 S1 h1;refine⟨A,ρ,S,_,_,er,so,h1,⟨fun σ' H' ⟨ρ',A',e1,e2,e3,e4⟩=>?_,fun v H' ⟨w,A',e1,_⟩=>(by cases e1),fun v H' ⟨w,A',e1,_⟩=>(by cases e1),fun v H' ⟨w,A',e1,_⟩=>(by cases e1)⟩⟩
  cases e1;exact⟨A',_,S1,o,S',e4,e3,e,(EndS.after e2).trans hd⟩
 ·rename_i w S1 h1;cases e;exact⟨A,ρ,S,_,_,er,so,h1,⟨fun σ' H' ⟨w,A',e1,_⟩=>(by cases e1),hd.rt,hd.bk,hd.ct⟩⟩
 ·rename_i w S1 h1;cases e;exact⟨A,ρ,S,_,_,er,so,h1,⟨fun σ' H' ⟨w,A',e1,_⟩=>(by cases e1),hd.rt,hd.bk,hd.ct⟩⟩
 ·rename_i w S1 h1;cases e;exact⟨A,ρ,S,_,_,er,so,h1,⟨fun σ' H' ⟨w,A',e1,_⟩=>(by cases e1),hd.rt,hd.bk,hd.ct⟩⟩
 ·cases e
noncomputable def AK (f:FE):FS:=fun ρ S=>match f ρ S with
 | some (_,S1)=>some (.nx ρ,S1)
 | none=>none
theorem Fb {e:Expr}{pos:Pos}{f:FE}(h:GE X e f)(hs:swapsWith e none pos.line X.env=pure false):GS X (.Expr e pos) (AK f):=GS.of (zF h hs) fun σ H A ρ S o S' er so e D hd=>by
 unfold AK at e;split at e
 ·rename_i w S1 h1;cases e;exact⟨A,ρ,S,w,_,er,so,h1,fun v H1 ⟨A1,z1,z2,z3⟩=>hd.nx _ _ ⟨ρ,A1,rfl,z1,z2,er.mono z1⟩⟩
 ·cases e
noncomputable def xR:FS:=fun ρ S=>some (.nx ρ,S)
theorem Dl {x:Str}{j:Nat}{pos pos':Pos}:GS X (.Expr (.Constant (.str x) j pos) pos') xR:=GS.of Cv fun σ H A ρ S o S' er so e D hd=>by cases e; exact hd.nx _ _ ⟨ρ,A,rfl,.refl,so,er⟩
theorem AL {pos:Pos}:GS X (.Pass pos) xR:=GS.of zE fun σ H A ρ S o S' er so e D hd=>by cases e; exact hd.nx _ _ ⟨ρ,A,rfl,.refl,so,er⟩
theorem xS {pos:Pos}:GS X (.Break pos) (fun ρ S=>some (.bk ρ,S)):=GS.of wf fun σ H A ρ S o S' er so e D hd=>by cases e; exact hd.bk _ _ ⟨ρ,A,rfl,.refl,so,er⟩
theorem AM {pos:Pos}:GS X (.Continue pos) (fun ρ S=>some (.ct ρ,S)):=GS.of pK fun σ H A ρ S o S' er so e D hd=>by cases e; exact hd.ct _ _ ⟨ρ,A,rfl,.refl,so,er⟩
noncomputable def AN (f:FE):FS:=fun ρ S=>match f ρ S with
 | some (w,S1)=>some (.rt w,S1)
 | none=>none
theorem Dm {e:Expr}{pos:Pos}{f:FE}(h:GE X e f):GS X (.Return (some e) pos) (AN f):=GS.of (Cw h) fun σ H A ρ S o S' er so e D hd=>by
 unfold AN at e;split at e
 ·rename_i w S1 h1;cases e;exact⟨A,ρ,S,w,_,er,so,h1,fun v H1 ⟨A1,z1,z2,z3⟩=>hd.rt _ _ ⟨w,A1,rfl,z1,z2,z3⟩⟩
 ·cases e
theorem AO {pos:Pos}:GS X (.Return none pos) (fun ρ S=>some (.rt .non,S)):=GS.of zG fun σ H A ρ S o S' er so e D hd=>by cases e; exact hd.rt _ _ ⟨_,A,rfl,.refl,so,.non⟩
noncomputable def AQ (c:FT)(f g:FS):FS:=fun ρ S=>match c ρ S with
 | some (true,S1)=>f ρ S1
 | some (false,S1)=>g ρ S1
 | none=>none
theorem Fc {c:Expr}{a b:List Stmt}{pos:Pos}{fc:FT}{f g:FS}(hc:GT X c fc)(ha:GSs X a f)(hb:GSs X b g):GS X (.If c a b pos) (AQ fc f g):=GS.of (EA hc ha hb) fun σ H A ρ S o S' er so e D hd=>by
 unfold AQ at e;split at e
 ·rename_i S1 h1;refine⟨A,ρ,S,_,S1,er,so,h1,fun b H1 ⟨z0,A1,z1,z2⟩=>?_⟩
  subst z0;rw[if_pos rfl];exact⟨A1,ρ,S1,o,S',er.mono z1,z2,e,(EndS.after z1).trans hd⟩
 ·rename_i S1 h1;refine⟨A,ρ,S,_,S1,er,so,h1,fun b H1 ⟨z0,A1,z1,z2⟩=>?_⟩
  subst z0;rw[if_neg Bool.false_ne_true];exact⟨A1,ρ,S1,o,S',er.mono z1,z2,e,(EndS.after z1).trans hd⟩
 ·cases e
noncomputable abbrev FG:=W->Fm->aa->Option (Fm×aa)
noncomputable def tG (X:Cx)(f:FG):TG:=fun v σ H Q=>∃ A ρ S w ρ' S',EnvRel X.K A H ρ σ/\StoreOk X.w X.K A H S/\Rel X.K A H w v/\f w ρ S=some (ρ',S')/\∀ σ' H' A',Ext X.K A H A' H'->StoreOk X.w X.K A' H' S'->EnvRel X.K A' H' ρ' σ'->Q σ' H'
noncomputable abbrev GG (X:Cx)(tg:Expr)(f:FG):Prop:=PG X tg (tG X f)
noncomputable def BZ (i:Nat):FG:=fun w ρ S=>some (ρ.set i (some w),S)
theorem tW {i:Nat}{x:Str}{pos:Pos}(hN:X.N.Nodup)(hi:X.N[i]?=some x)(hx:zA X.env.scope x)(hf:X.fn x=true\/X.env.scope.names.lookup x=some .local):GG X (.Name x pos) (BZ i):=by
 intro pins s σ H v u Q I r ⟨A,ρ,S,w,ρ',S',er,so,rw',e,hq⟩;cases e;exact sM hN hi hx hf pins s σ H v u Q I r (hq _ _ A .refl so (er.set rw' i))
noncomputable def d7:List Nat->List W->Fm->Option Fm
 | [],[],ρ=>some ρ
 | i::is,w::ws,ρ=>d7 is ws (ρ.set i (some w))
 | _,_,_=>none
noncomputable def Em (is:List Nat):FG:=fun w ρ S=>match w with
 | .tup ws=>(d7 is ws ρ).map fun ρ'=>(ρ',S)
 | _=>none
theorem vt:∀ {ts:List Expr} {is:List Nat},(∀ x∈ts,∃ y p,x=.Name y p)->Paired (fun(t:Expr) (i:Nat)=>∃ x p,t=Expr.Name x p/\X.N[i]?=some x/\zA X.env.scope x/\(X.fn x=true\/X.env.scope.names.lookup x=some .local)) ts is->X.N.Nodup->
  EB X ts (fun vs σ H Q=>∃ A ρ ws ρ' S,EnvRel X.K A H ρ σ/\StoreOk X.w X.K A H S/\RelL X.K A H ws vs/\d7 is ws ρ=some ρ'/\∀ σ',EnvRel X.K A H ρ' σ'->Q σ' H):=by
 intro ts
 induction ts with
 | nil=>
  intro is _ h hN;cases h;intro pins s σ H vs us Q I r ⟨A,ρ,ws,ρ',S,er,so,rl,e,hq⟩;cases rl with
  | nil=>cases e; exact zH pins s σ H [] us Q I r ⟨rfl,hq _ er⟩
  | cons _ _=>cases e
 | cons t ts ih=>
  intro is hs h hN;cases h with
  | cons h1 h2=>
   obtain⟨x,p,rfl,hi,hl,hf⟩:=h1;have:=ih (fun y hy=>hs y (Jm _ hy)) h2 hN
   intro pins s σ H vs us Q I r ⟨A,ρ,ws,ρ',S,er,so,rl,e,hq⟩;cases rl with
   | nil=>cases e
   | cons r1 r2=>
    refine wg (sM hN hi hl hf) this rfl pins s σ H _ us Q I r ⟨_,_,rfl,?_⟩;exact⟨A,_,_,ρ',S,er.set r1 _,so,r2,e,hq⟩
theorem Do {ts:List Expr}{is:List Nat}{k:Nat}{pos:Pos}(hc:X.calm=true)(hs:∀ x∈ts,∃ y p,x=.Name y p)(h:Paired (fun(t:Expr) (i:Nat)=>∃ x p,t=Expr.Name x p/\X.N[i]?=some x/\zA X.env.scope x/\(X.fn x=true\/X.env.scope.names.lookup x=some .local)) ts is)(hN:X.N.Nodup)
  (hn:(assignEach ts X.env).length=ts.length) (hst:(assignEach ts X.env).findIdx? (·.1)=none):GG X (.Tuple ts k pos) (Em is):=by
 intro pins s σ H v u Q I r ⟨A,ρ,S,w,ρ',S',er,so,rw',e,hq⟩;unfold Em at e;split at e
 ·rw[(Io)]at e;obtain⟨ρ1,e1,e2⟩:=e;cases e2;cases rw' with
  | tup h1 r1=>
   have hl:∀ (is:List Nat) (ws:List W) (ρ ρ':Fm),d7 is ws ρ=some ρ'->is.length=ws.length:=by
    intro is
    induction is with
    | nil=>intro ws ρ ρ' e; cases ws <;> first|rfl|cases e
    | cons i is ih=>intro ws ρ ρ' e; cases ws <;> first|cases e|(simp; exact ih _ _ _ e)
   exact CB hc (vt hs h hN) hn hst pins s σ H _ u Q I r ⟨_,_,rfl,h1,by rw[<- r1.length,<- hl _ _ _ _ e1,<- Paired.length h],A,ρ,_,_,_,er,so,r1,e1,fun σ' z=>hq _ _ A .refl so z⟩
 ·cases e
noncomputable def AR (fo fi:FE):FG:=fun w ρ S=>match fo ρ S with
 | some (o,S1)=>match fi ρ S1 with
  | some (i,S2)=>match iJ o i w S2 with
   | some S3=>some (ρ,S3)
   | none=>none
  | none=>none
 | none=>none
theorem LSet.pset {g:W->W->W->aa->Option aa}(h:LSet X g):CA X (fun ao ai av H Q=>∃ A S o i w S',StoreOk X.w X.K A H S/\Rel X.K A H o ao/\Rel X.K A H i ai/\Rel X.K A H w av/\g o i w S=some S'/\∀ H' A',Ext X.K A H A' H'->StoreOk X.w X.K A' H' S'->Q H'):=by
 intro pins s σ H ao ai av uo ui uv Q I ro ri rv ⟨A,S,o,i,w,S',so,r1,r2,r3,e,hq⟩;exact bS (h pins s σ H A S o i w ao ai av uo ui uv S' I so r1 ro r2 ri r3 rv e) fun _ s' ⟨H',A',I',e1,o1⟩=>⟨H',I',hq H' A' e1 o1⟩
theorem Dp {o i:Expr}{pos:Pos}{fo fi:FE}(hu:X.A.units+10 < cLine)(ho:GE X o fo)(hi:GE X i fi)(ha:∀ v,assign (.Subscript o i pos) X.env v=(do
   let ov <- holding [v] (eval o X.env)
   let iv <- holding [v,ov] (eval i X.env)
   standAt pos
   holding [v,ov,iv] (setItem ov iv v)
   release [v,ov,iv] [])):GG X (.Subscript o i pos) (AR fo fi):=by
 intro pins s σ H v u Q I r ⟨A,ρ,S,w,ρ',S',er,so,rw',e,hq⟩;unfold AR at e;split at e
 ·rename_i o' S1 h1;split at e
  ·rename_i i' S2 h2;split at e
   ·rename_i S3 h3;cases e;refine CC ho hi (E2 hu).pset ha pins s σ H v u Q I r ?_;refine⟨A,ρ,S,o',S1,er,so,h1,fun a H1 ⟨A1,e1,o1,r1⟩=>?_⟩
    refine⟨A1,ρ,S1,i',S2,er.mono e1,o1,h2,fun b H2 ⟨A2,e2,o2,r2⟩=>?_⟩
    exact⟨A2,S2,o',i',w,_,o2,r1.mono e2,r2,rw'.mono (e1.trans e2),h3,fun H' A' z1 z2=>hq σ H' A' ((e1.trans e2).trans z1) z2 (er.mono ((e1.trans e2).trans z1))⟩
   ·cases e
  ·cases e
 ·cases e
noncomputable def lh (f:FE)(g:FG):FS:=fun ρ S=>match f ρ S with
 | some (w,S1)=>match g w ρ S1 with
  | some (ρ',S2)=>some (.nx ρ',S2)
  | none=>none
 | none=>none
theorem sw {tg e:Expr}{pos:Pos}{f:FE}{g:FG}(h:GE X e f)(hg:GG X tg g)(hs:swapsWithSole [tg] e pos.line X.env=pure false)(hw:swappedStores [tg] e X.env=pure none)(h1:(assignEach [tg] X.env).map (·.2)=[assign tg X.env]) :
  GS X (.Assign [tg] e pos) (lh f g):=GS.of (CD h hg hs hw h1) fun σ H A ρ S o S' er so e D hd=>by
 unfold lh at e;split at e
 ·rename_i w S1 h1;split at e
  ·rename_i ρ1 S2 h2;cases e;refine⟨A,ρ,S,w,S1,er,so,h1,fun v H1 ⟨A1,z1,z2,z3⟩=>?_⟩
   exact⟨A1,ρ,S1,w,ρ1,_,er.mono z1,z2,z3,h2,fun σ' H' A' y1 y2 y3=>hd.nx _ _ ⟨ρ1,A',rfl,z1.trans y1,y2,y3⟩⟩
  ·cases e
 ·cases e
noncomputable def AS (i j:Nat)(f:FA):FS:=fun ρ S=>match f ρ S with
 | some ([x,y],S1)=>some (.nx ((ρ.set i (some x)).set j (some y)),S1)
 | _=>none
theorem Dq {i j:Nat}{x y:Str}{a b:Expr}{f:FA}{px py pt pos:Pos}{kt k2:Nat}{pt2:Pos}(hc:X.calm=true)(hN:X.N.Nodup)(hi:X.N[i]?=some x)(hj:X.N[j]?=some y)(hij:i≠j)
  (hx:X.env.scope.names.lookup x=some .local) (hy:X.env.scope.names.lookup y=some .local) (ha:GA X [a,b] f)
  (hw:swappedStores [.Tuple [.Name x px,.Name y py] kt pt] (.Tuple [a,b] k2 pt2) X.env=pure (some [x,y]))
  (hs:swapsWithSole [.Tuple [.Name x px,.Name y py] kt pt] (.Tuple [a,b] k2 pt2) pos.line X.env=pure false) :
  GS X (.Assign [.Tuple [.Name x px,.Name y py] kt pt] (.Tuple [a,b] k2 pt2) pos) (AS i j f):=GS.of (CF hc hN hi hj hij hx hy ha hw hs) fun σ H A ρ S o S' er so e D hd=>by
 unfold AS at e;split at e
 ·rename_i x y S1 h1;cases e;refine⟨A,ρ,S,_,_,er,so,h1,fun vs H1 ⟨A1,z1,z2,z3⟩=>?_⟩
  cases z3 with
  | cons r1 t=>
   cases t with
   | cons r2 t=>
    cases t;exact⟨_,_,rfl,hd.nx _ _ ⟨_,A1,rfl,z1,z2,((er.mono z1).set r1 i).set r2 j⟩⟩
 ·cases e
noncomputable def oA (c:FT)(b:FS):Nat->FS
 | 0,_,_=>none
 | n+1,ρ,S=>match c ρ S with
  | some (true,S1)=>match b ρ S1 with
   | some (.nx ρ',S2)=>oA c b n ρ' S2
   | some (.ct ρ',S2)=>oA c b n ρ' S2
   | some (.bk ρ',S2)=>some (.nx ρ',S2)
   | some (.rt w,S2)=>some (.rt w,S2)
   | none=>none
  | some (false,S1)=>some (.nx ρ,S1)
  | none=>none
theorem xT {c:Expr}{body:List Stmt}{pos:Pos}{fc:FT}{fb:FS}(n:Nat)(hp:PassesOwn (model X.prog X.w) X.A X.env X.xe)(hc:GT X c fc)(hb:GSs X body fb):GS X (.While c body [] pos) (oA fc fb n):=GS.of (wj hp hc hb) fun σ H A ρ S o S' er so e D hd=>by
 refine⟨fun m σ1 H1=>∃ A1 ρ1 S1,Ext X.K A H A1 H1/\EnvRel X.K A1 H1 ρ1 σ1/\StoreOk X.w X.K A1 H1 S1/\oA fc fb m ρ1 S1=some (o,S'),⟨n,A,ρ,S,.refl,er,so,e⟩,?_⟩
 rintro m σ1 H1 ⟨A1,ρ1,S1,e1,er1,so1,w1⟩;cases m with
 | zero=>cases w1
 | succ m=>
  simp only[oA]at w1;split at w1
  ·rename_i S2 h1;refine⟨A1,ρ1,S1,_,S2,er1,so1,h1,fun b H2 ⟨z0,A2,z1,z2⟩=>?_⟩
   subst z0;rw[if_pos rfl];refine⟨fun σ3 H3=>∃ A3 ρ3 S3,Ext X.K A H A3 H3/\EnvRel X.K A3 H3 ρ3 σ3/\StoreOk X.w X.K A3 H3 S3/\oA fc fb m ρ3 S3=some (o,S'),fun σ' H' h=>⟨m,Jx _,h⟩,?_⟩
   split at w1
   ·rename_i ρ3 S3 h3;refine⟨A2,ρ1,S2,_,S3,er1.mono z1,z2,h3,⟨fun σ' H' ⟨ρ',A',y0,y1,y2,y3⟩=>?_,fun v H' ⟨w,A',y0,_⟩=>(by cases y0),fun v H' ⟨w,A',y0,_⟩=>(by cases y0),fun v H' ⟨w,A',y0,_⟩=>(by cases y0)⟩⟩
    cases y0;exact⟨A',_,S3,(e1.trans z1).trans y1,y3,y2,w1⟩
   ·rename_i ρ3 S3 h3;refine⟨A2,ρ1,S2,_,S3,er1.mono z1,z2,h3,⟨fun v H' ⟨w,A',y0,_⟩=>(by cases y0),fun v H' ⟨w,A',y0,_⟩=>(by cases y0),fun v H' ⟨w,A',y0,_⟩=>(by cases y0),fun σ' H' ⟨ρ',A',y0,y1,y2,y3⟩=>?_⟩⟩
    cases y0;exact⟨A',_,S3,(e1.trans z1).trans y1,y3,y2,w1⟩
   ·rename_i ρ3 S3 h3;cases w1;refine⟨A2,ρ1,S2,_,_,er1.mono z1,z2,h3,⟨fun v H' ⟨w,A',y0,_⟩=>(by cases y0),fun v H' ⟨w,A',y0,_⟩=>(by cases y0),fun σ' H' ⟨ρ',A',y0,y1,y2,y3⟩=>?_,fun v H' ⟨w,A',y0,_⟩=>(by cases y0)⟩⟩
    cases y0;exact hd.nx _ _ ⟨_,A',rfl,(e1.trans z1).trans y1,y2,y3⟩
   ·rename_i w3 S3 h3;cases w1;refine⟨A2,ρ1,S2,_,_,er1.mono z1,z2,h3,⟨fun v H' ⟨w,A',y0,_⟩=>(by cases y0),fun v H' ⟨w,A',y0,y1,y2,y3⟩=>?_,fun v H' ⟨w,A',y0,_⟩=>(by cases y0),fun v H' ⟨w,A',y0,_⟩=>(by cases y0)⟩⟩
    cases y0;exact hd.rt _ _ ⟨_,A',rfl,(e1.trans z1).trans y1,y2,y3⟩
   ·cases w1
  ·rename_i S2 h1;cases w1;refine⟨A1,ρ1,S1,_,_,er1,so1,h1,fun b H2 ⟨z0,A2,z1,z2⟩=>?_⟩
   subst z0;rw[if_neg Bool.false_ne_true];exact hd.nx _ _ ⟨_,A2,rfl,e1.trans z1,z2,er1.mono z1⟩
  ·cases w1
end
inductive MI where
 | its (ws:List W)
 | live (r:Nat)
noncomputable def MI.at (S:aa)(i:Nat):MI->Option (Option W)
 | .its ws=>some ws[i]?
 | .live r=>match iz S r with
  | some xs=>some xs[i]?
  | none=>none
noncomputable def MI.len (S:aa):MI->Option Nat
 | .its ws=>some ws.length
 | .live r=>(iz S r).map (·.length)
noncomputable abbrev FI:=Fm->aa->Option (MI×aa)
structure MIt (wd:World)(K:PySem.W.Frag)(mi:MI)(J:It)(A0:List Addr)(H0:Hp):Prop where
 go:∀ A H S i w,Ext K A0 H0 A H->StoreOk wd K A H S->mi.at S i=some (some w)->J.go i H/\∀ x H',J.yld i H x H'->Ext K A H A H'/\StoreOk wd K A H' S/\Rel K A H' w x
 stop:∀ A H S i,Ext K A0 H0 A H->StoreOk wd K A H S->mi.at S i=some none->J.stop i H
noncomputable def tI (X:Cx)(f:FI):TI:=fun σ H R=>∃ A ρ S mi S',EnvRel X.K A H ρ σ/\StoreOk X.w X.K A H S/\f ρ S=some (mi,S')/\∀ J H' A',Ext X.K A H A' H'->StoreOk X.w X.K A' H' S'->MIt X.w X.K mi J A' H'->R J H'
noncomputable abbrev GI (X:Cx)(tg iter:Expr)(f:FI):Prop:=PI X tg iter (tI X f)
noncomputable def AT (f:FE):FI:=fun ρ S=>match f ρ S with
 | some (.tup ws,S1)=>some (.its ws,S1)
 | some (.ref r,S1)=>match iz S1 r with
  | some _=>some (.live r,S1)
  | none=>none
 | _=>none
noncomputable def dF (lo:Int)(n:Nat):List W:=(List.range n).map fun(k:Nat)=>.int (lo+(k:Int))
noncomputable def vw (f:FA):FI:=fun ρ S=>match f ρ S with
 | some ([.int j],S1)=>if -(2 ^ 62)<=j/\j < 2 ^ 62 then some (.its (dF 0 j.toNat),S1)else none
 | _=>none
noncomputable def iRng2 (f:FA):FI:=fun ρ S=>match f ρ S with
 | some ([.int i,.int j],S1)=>if -(2 ^ 62)<=i/\i < 2 ^ 62/\-(2 ^ 62)<=j/\j < 2 ^ 62 then some (.its (dF i (j - i).toNat),S1)else none
 | _=>none
noncomputable def fW (mi:MI)(g:FG)(b:FS):Nat->Nat->FS
 | 0,i,ρ,S=>match mi.at S i with
  | some none=>some (.nx ρ,S)
  | _=>none
 | n+1,i,ρ,S=>match mi.at S i with
  | some (some w)=>match g w ρ S with
   | some (ρ1,S1)=>match b ρ1 S1 with
    | some (.nx ρ2,S2)=>fW mi g b n (i+1) ρ2 S2
    | some (.ct ρ2,S2)=>fW mi g b n (i+1) ρ2 S2
    | some (.bk ρ2,S2)=>some (.nx ρ2,S2)
    | some (.rt w,S2)=>some (.rt w,S2)
    | none=>none
   | none=>none
  | _=>none
noncomputable def xU (fi:FI)(g:FG)(b:FS):FS:=fun ρ S=>match fi ρ S with
 | some (mi,S1)=>match mi.len S1 with
  | some n=>fW mi g b n 0 ρ S1
  | none=>none
 | none=>none
section
variable {X:Cx}
theorem AU {A:List Addr}{H:Hp}{ws:List W}{a:Addr}{vs:List V}(h:SqT X.K H a vs)(r:RelL X.K A H ws vs):MIt X.w X.K (.its ws) (Eg X.K a) A H:=by
 refine⟨fun A' H' S i w e so hi=>?_,fun A' H' S i e so hi=>?_⟩
 ·simp only[MI.at,Option.some.injEq]at hi;obtain⟨v,h1,h2⟩:=(r.mono e).get hi;refine⟨⟨vs,v,e.tp _ _ h,h1⟩,fun x H2 ⟨z1,z2⟩=>?_⟩
  subst z1;have:=z2 vs (e.tp _ _ h);rw[h1]at this; cases this
  exact⟨.refl,so,h2⟩
 ·simp only[MI.at,Option.some.injEq]at hi;refine⟨vs,e.tp _ _ h,?_⟩;rw[<- r.length];exact Jj.mp hi
theorem AV {A:List Addr}{H:Hp}{r:Nat}{a:Addr}(ea:A[r]?=some a):MIt X.w X.K (.live r) (GJ X.K a) A H:=by
 refine⟨fun A' H' S i w e so hi=>?_,fun A' H' S i e so hi=>?_⟩
 ·simp only[MI.at]at hi;split at hi
  ·rename_i xs hx;simp only[Option.some.injEq]at hi;obtain⟨vs,h1,r1⟩:=cw so hx (e.ad _ _ ea);obtain⟨v,h2,h3⟩:=r1.get hi;refine⟨⟨vs,v,h1,h2⟩,fun x H2 ⟨z1,z2⟩=>?_⟩
   subst z1;have:=z2 vs h1;rw[h2]at this; cases this
   exact⟨.refl,so,h3⟩
  ·cases hi
 ·simp only[MI.at]at hi;split at hi
  ·rename_i xs hx;simp only[Option.some.injEq]at hi;obtain⟨vs,h1,r1⟩:=cw so hx (e.ad _ _ ea);refine⟨vs,h1,?_⟩;rw[<- r1.length];exact Jj.mp hi
  ·cases hi
theorem d8 {lo:Int}{n i:Nat}:(dF lo n)[i]?=if i < n then some (.int (lo+i))else none:=by
 unfold dF;rw[(Iu)]
 by_cases h:i < n
 ·rw[if_pos h,List.getElem?_range h]; rfl
 ·rw[if_neg h,List.getElem?_eq_none_iff.mpr (by simp; omega)]; rfl
theorem tX {A:List Addr}{H:Hp}{lo:Int}{n:Nat}:MIt X.w X.K (.its (dF lo n)) (EE lo n) A H:=by
 refine⟨fun A' H' S i w e so hi=>?_,fun A' H' S i e so hi=>?_⟩
 ·simp only[MI.at,Option.some.injEq]at hi;rw[d8]at hi;split at hi
  ·cases hi;refine⟨by assumption,fun x H2 ⟨z1,z2⟩=>?_⟩
   subst z1 z2;exact⟨.refl,so,.int⟩
  ·cases hi
 ·simp only[MI.at,Option.some.injEq]at hi;rw[d8]at hi;split at hi
  ·cases hi
  ·show n<=i;omega
theorem qG {tg:Expr}{pins:List (Addr×Obj)}{σ:L2.St}{H1:Hp}{s1:Shared}{R:It->Hp->Prop}{a:Addr}{xs:List V}{v:Value}(I1:Inv X pins σ H1 s1)(r1:RelV (.ref a) v)(hq:SqL X.K H1 a xs)(q:R (GJ X.K a) H1) :
  wpAny (model X.prog X.w) X.A (pyIter v) (Gf X pins σ tg R) X.xe s1:=by
 cases r1;obtain⟨its,rv,p,hz⟩:=I1.list hq;refine Kz p.isList ?_;refine⟨s1.heap.objs.size,[s1.heap.objs.size],_,_,H1,rfl,I1.kept (t':=s1.toks) fun b o e=>Ik _ e,uG a _,⟨_,Ix _ rfl,rfl,rfl⟩,fun b hb=>?_,q⟩
 have e:b=s1.heap.objs.size:=by simpa using hb
 subst e;exact I1.fpOk (Ip _) (I1.hok.fresh (Ip _))
theorem sx {tg:Expr}{pins:List (Addr×Obj)}{σ:L2.St}{H1:Hp}{s1:Shared}{R:It->Hp->Prop}{a:Addr}{xs:List V}{v:Value}(I1:Inv X pins σ H1 s1)(r1:RelV (.ref a) v)(hq:SqT X.K H1 a xs)(q:R (Eg X.K a) H1) :
  wpAny (model X.prog X.w) X.A (pyIter v) (Gf X pins σ tg R) X.xe s1:=by
 cases r1;obtain⟨its,rv,p,hz⟩:=I1.tuple hq;refine wpAny_pyIter_tuple (show s1.heap.IsTuple a its.toArray from p) ?_
 refine⟨s1.heap.objs.size,[s1.heap.objs.size],_,_,H1,rfl,I1.kept (t':=s1.toks) fun b o e=>Ik _ e,rM a _,⟨_,Ix _ rfl,rfl,rfl⟩,fun b hb=>?_,q⟩
 have e:b=s1.heap.objs.size:=by simpa using hb
 subst e;exact I1.fpOk (Ip _) (I1.hok.fresh (Ip _))
theorem AW {tg a:Expr}{f:FA}{p pos:Pos}(hg:Gl X "range")(hm:X.mg "range" = none)(ha:GA X [a] f)(hs:starEach [a] X.env=[(false,eval a X.env)]):GI X tg (.Call (.Name "range" p) [a] [] pos) (vw f):=by
 intro pins s σ H R I ⟨A,ρ,S,mi,S',er,so,e,hq⟩;unfold vw at e;split at e
 ·rename_i j S1 h1;split at e
  ·rename_i hj;cases e;refine uH hg hm ha hs pins s σ H R I ⟨A,ρ,S,_,_,er,so,h1,fun vs H1 ⟨A1,z1,z2,z3⟩=>?_⟩
   cases z3 with
   | cons r1 t=>
    cases t;cases r1;exact⟨j,rfl,hj.1,hj.2,hq _ _ A1 z1 z2 tX⟩
  ·cases e
 ·cases e
theorem AX {tg a b:Expr}{f:FA}{p pos:Pos}(hg:Gl X "range")(hm:X.mg "range" = none)(ha:GA X [a,b] f)(hs:starEach [a,b] X.env=[(false,eval a X.env),(false,eval b X.env)])(hs2:starEach [b] X.env=[(false,eval b X.env)]):GI X tg (.Call (.Name "range" p) [a,b] [] pos) (iRng2 f):=by
 intro pins s σ H R I ⟨A,ρ,S,mi,S',er,so,e,hq⟩;unfold iRng2 at e;split at e
 ·rename_i i j S1 h1;split at e
  ·rename_i hj;cases e;refine uI hg hm ha hs hs2 pins s σ H R I ⟨A,ρ,S,_,_,er,so,h1,fun vs H1 ⟨A1,z1,z2,z3⟩=>?_⟩
   cases z3 with
   | cons r1 t=>
    cases t with
    | cons r2 t=>
     cases t;cases r1;cases r2;exact⟨i,j,rfl,hj,hq _ _ A1 z1 z2 tX⟩
  ·cases e
 ·cases e
theorem Dr {tg l:Expr}{f:FE}(h:GE X l f):GI X tg l (AT f):=by
 intro pins s σ H R I ⟨A,ρ,S,mi,S',er,so,e,hq⟩;unfold AT at e;split at e
 ·rename_i ws S1 h1;cases e;refine bS (h pins s σ H (EndV X.w X.K A H _ (.tup ws)) I ⟨A,ρ,S,_,_,er,so,h1,fun _ _ z=>z⟩) fun v s1 ⟨x,H1,I1,r1,A1,e1,o1,z1⟩=>?_
  cases z1 with
  | tup hq1 rl=>
   refine sx I1 r1 hq1 (hq _ _ A1 e1 o1 (AU hq1 rl))
 ·rename_i r S1 h1;split at e
  ·rename_i ys hy;cases e;refine bS (h pins s σ H (EndV X.w X.K A H _ (.ref r)) I ⟨A,ρ,S,_,_,er,so,h1,fun _ _ z=>z⟩) fun v s1 ⟨x,H1,I1,r1,A1,e1,o1,z1⟩=>?_
   cases z1 with
   | ref ea=>
    obtain⟨vs,hl,_⟩:=cw o1 hy ea;exact qG I1 r1 hl (hq _ _ A1 e1 o1 (AV ea))
  ·cases e
 ·cases e
theorem Ds {tg iter:Expr}{body:List Stmt}{pos:Pos}{fi:FI}{g:FG}{fb:FS}(hp:PassesOwn (model X.prog X.w) X.A X.env X.xe)(hc:X.calm=true)(hi:GI X tg iter fi)(hg:GG X tg g)(hb:GSs X body fb)
  (hs:∀ x,foldedSetIterable iter X.env x=pure x):GS X (.For tg iter body [] pos) (xU fi g fb):=GS.of (CH hp hc hi hg hb hs) fun σ H A ρ S o S' er so e D hd=>by
 unfold xU at e;split at e
 ·rename_i mi S1 h1;split at e
  ·rename_i n hn;refine⟨A,ρ,S,mi,S1,er,so,h1,fun J H1 A1 z1 z2 mit=>?_⟩
   refine⟨fun i m σ2 H2=>∃ A2 ρ2 S2,Ext X.K A1 H1 A2 H2/\EnvRel X.K A2 H2 ρ2 σ2/\StoreOk X.w X.K A2 H2 S2/\fW mi g fb m i ρ2 S2=some (o,S'),⟨n,A1,ρ,S1,.refl,er.mono z1,z2,e⟩,?_⟩
   rintro i m σ2 H2 ⟨A2,ρ2,S2,e2,er2,so2,w2⟩;cases m with
   | zero=>
    simp only[fW]at w2;split at w2
    ·rename_i hs;cases w2;exact .inl ⟨mit.stop A2 H2 _ i e2 so2 hs,hd.nx _ _ ⟨_,A2,rfl,z1.trans e2,so2,er2⟩⟩
    ·cases w2
   | succ m=>
    simp only[fW]at w2;split at w2
    ·rename_i w hw;obtain⟨go,yl⟩:=mit.go A2 H2 S2 i w e2 so2 hw;refine .inr ⟨go,fun σ3 H3=>∃ A3 ρ3 S3,Ext X.K A1 H1 A3 H3/\EnvRel X.K A3 H3 ρ3 σ3/\StoreOk X.w X.K A3 H3 S3/\fW mi g fb m (i+1) ρ3 S3=some (o,S'),fun σ' H' h=>⟨m,Jx _,h⟩,fun x H3 hy=>?_⟩
     obtain⟨x1,x2,x3⟩:=yl x H3 hy;split at w2
     ·rename_i ρ3 S3 h3;refine⟨A2,ρ2,S2,w,ρ3,S3,er2.mono x1,x2,x3,h3,fun σ4 H4 A4 y1 y2 y3=>?_⟩
      have ex:Ext X.K A1 H1 A4 H4:=(e2.trans x1).trans y1;split at w2
      ·rename_i ρ5 S5 h5;refine⟨A4,ρ3,S3,_,S5,y3,y2,h5,⟨fun σ' H' ⟨ρ',A',u0,u1,u2,u3⟩=>?_,fun v H' ⟨w,A',y0,_⟩=>(by cases y0),fun v H' ⟨w,A',y0,_⟩=>(by cases y0),fun v H' ⟨w,A',y0,_⟩=>(by cases y0)⟩⟩
       cases u0;exact⟨A',_,S5,ex.trans u1,u3,u2,w2⟩
      ·rename_i ρ5 S5 h5;refine⟨A4,ρ3,S3,_,S5,y3,y2,h5,⟨fun v H' ⟨w,A',y0,_⟩=>(by cases y0),fun v H' ⟨w,A',y0,_⟩=>(by cases y0),fun v H' ⟨w,A',y0,_⟩=>(by cases y0),fun σ' H' ⟨ρ',A',u0,u1,u2,u3⟩=>?_⟩⟩
       cases u0;exact⟨A',_,S5,ex.trans u1,u3,u2,w2⟩
      ·rename_i ρ5 S5 h5;cases w2;refine⟨A4,ρ3,S3,_,_,y3,y2,h5,⟨fun v H' ⟨w,A',y0,_⟩=>(by cases y0),fun v H' ⟨w,A',y0,_⟩=>(by cases y0),fun σ' H' ⟨ρ',A',u0,u1,u2,u3⟩=>?_,fun v H' ⟨w,A',y0,_⟩=>(by cases y0)⟩⟩
       cases u0;exact hd.nx _ _ ⟨_,A',rfl,(z1.trans ex).trans u1,u2,u3⟩
      ·rename_i w5 S5 h5;cases w2;refine⟨A4,ρ3,S3,_,_,y3,y2,h5,⟨fun v H' ⟨w,A',y0,_⟩=>(by cases y0),fun v H' ⟨w,A',u0,u1,u2,u3⟩=>?_,fun v H' ⟨w,A',y0,_⟩=>(by cases y0),fun v H' ⟨w,A',y0,_⟩=>(by cases y0)⟩⟩
       cases u0;exact hd.rt _ _ ⟨_,A',rfl,(z1.trans ex).trans u1,u2,u3⟩
      ·cases w2
     ·cases w2
    ·cases w2
  ·cases e
 ·cases e
end
section
variable {prog:Program} {w:World} {B:Around} {E:Value->Shared->Prop} {s:Shared}
theorem AY {d:Addr}{es:Array DictEntry}{ep:Nat}{Q:Value->Shared->Prop}(hd:(d==sysModules)=false)(hm:RawD d es ep s.heap)(hfit:(es.size:Int) < 2 ^ 63)
  (h:Q (.int es.size (s.toks+1)) { s with toks:=s.toks+1+1 }):wpAny (model prog w) B (call (.builtin "len") [.ref d]) Q E s:=by
 have hT:=hm.type;obtain⟨o,ho,hc,hdat⟩:=id hm;refine Kk kind_len plain_len entry_len (args_len1 _) ?_;unfold Builtin.«len»;refine Ij (m:=oneArg "len" _) (Il ?_);refine Ij (m:=callSpecial? (.ref d) (Str.ofString "__len__")) (Jw (name:=Str.ofString "__len__") hT F.slot_dict_len (Ji F.slot_dict_len hT F.entry_dict_len ?_ (F.args_dict_len_1 _)));show wpAny _ _ (dictSize d >>= _) _ _ s;unfold dictSize;refine Ij (Ij (KA ho hdat (Il ?_)));show wpAny _ _ (Builtin.Dict.pendingCount d >>= _) _ _ s;refine Ij (wpAny_pendingCount_other hd ?_);refine wpAny_ret_mkInt ?_;rw[Nat.add_zero];show wpAny _ _ _ _ _ { s with toks:=s.toks+1 }
 refine Ij (IW (Il ?_));refine Ij (wpAny_letGo ?_);show wpAny _ _ (if ((es.size:Nat):Int) < 0 then _ else _) _ _ _
 rw[if_neg (by omega)]
 show wpAny _ _ (if ((es.size:Nat):Int)>=2 ^ 63 then _ else _) _ _ _
 rw[if_neg (by omega)]
 exact Ij (wpAny_mkInt (Il ⟨_,rfl,h⟩))
end
section
variable {X:Cx} {pins:List (Addr×Obj)} {σ:L2.St} {H:Hp} {s:Shared} {A:List Addr} {S:aa}
theorem sy:LCall X (.builtin "len") sf:=by
 intro pins s σ H A S xs vs us w S' I so rl rv e
 by_cases hd:∃ i kvs,xs=[.ref i]/\jP S i=some kvs
 ·obtain⟨i,kvs,rfl,hk⟩:=hd;simp only[sf,hk]at e;cases e;cases rl with
  | cons r t=>
   cases t;cases rv with
   | cons ru rv2=>
    cases rv2;cases r with
    | ref ea=>
     obtain⟨xs,rd,kr⟩:=fU so hk ea;have d:=cD I rd;obtain⟨es,ep,raw,he⟩:=d.raw;obtain rfl:_=Value.ref _:=ru;have hl:es.size=xs.length:=by rw[<- (Iz),he,(Im)]
     have hz:=d.1;have hs:sizeLine=16777216:=Ja;refine AY d.2.1 raw (by omega) ⟨.int kvs.length,H,A,I.tok _,⟨_,by rw[kr.length,hl]⟩,.refl,so,.int⟩
 ·have:sf xs S=rY xs S:=by
   unfold sf;split
   ·rename_i i;split
    ·rename_i kvs hk;exact absurd ⟨i,kvs,rfl,hk⟩ hd
    ·rfl
   ·rfl
  rw[this]at e;exact uV pins s σ H A S xs vs us w S' I so rl rv e
noncomputable def Gm (S:aa):W->Option String
 | .non=>some "NoneType"|.bl _=>some "bool"|.int _=>some "int"|.str _=>some "str"|.tup _=>some "tuple"
 | .ref i=>match iz S i with
  | some _=>some "list"
  | none=>(jP S i).map fun _=>"dict"
noncomputable def qH:List String:=["bool","int","str","tuple","list","dict"]
noncomputable def vx (S:aa)(x:W)(c:String):Option Bool:=match Gm S x with
 | some t=>if qH.contains c then some (t==c||(t == "bool" && c == "int"))else none
 | none=>none
theorem hV {K:PySem.W.Frag}{t c:String}(ht:t∈["NoneType","bool","int","str","tuple","list","dict"])(hc:c∈qH):PySem.W.kitOne K (.type t) (.type c)=some (t==c||(t == "bool" && c == "int")):=by
 simp only[qH,List.mem_cons,List.not_mem_nil,or_false]at ht hc;rcases ht with rfl|rfl|rfl|rfl|rfl|rfl|rfl <;> rcases hc with rfl|rfl|rfl|rfl|rfl|rfl <;> rfl
theorem xV:CallR X (.builtin "isinstance") (fun vs H Q=>∃ A S x v c b,vs=[v,.ty c]/\StoreOk X.w X.K A H S/\Rel X.K A H x v/\vx S x c=some b/\Q (.bl b) H):=by
 intro pins s σ H vs us Q I rv ⟨A,S,x,v,c,b,e1,so,rx,e2,hq⟩;subst e1;cases rv with
 | cons r1 rv2=>cases rv2 with
  | cons r2 rv3=>
   cases rv3;obtain rfl:_=Value.type c:=r2;unfold vx at e2;split at e2
   ·rename_i t ht;split at e2
    ·rename_i hc;cases e2;have hc':c∈qH:=by simpa using hc
     have fin:∀ tk,EP X pins σ Q (.bool (t==c||(t == "bool" && c == "int"))) { s with toks:=tk }:=fun tk=>⟨.bl _,H,I.tok _,rfl,hq⟩
     cases rx with
     | non=>cases ht; cases(show _=Value.none from r1); exact JR PySem.W.kitx_none I.kIn True.intro (hV (by simp) hc') (fun z=>nomatch z) fin
     | bl=>cases ht; cases(show _=Value.bool _ from r1); exact JR PySem.W.kitx_bool I.kIn True.intro (hV (by simp) hc') (fun z=>nomatch z) fin
     | int=>cases ht; obtain⟨t',q⟩:=(show ∃ t,_=Value.int _ t from r1); cases q; exact JR PySem.W.kitx_int I.kIn True.intro (hV (by simp) hc') (fun z=>nomatch z) fin
     | str=>cases ht; obtain⟨t',q⟩:=(show ∃ t,_=Value.str _ t from r1); cases q; exact JR PySem.W.kitx_str I.kIn True.intro (hV (by simp) hc') (fun z=>nomatch z) fin
     | tup h1 r1'=>
      cases ht;obtain⟨its,rv,⟨o,q1,q2,_⟩,hz⟩:=I.tuple h1;cases(show _=Value.ref _ from r1)
      exact JR PySem.W.kitx_tuple I.kIn ⟨o,q1,q2⟩ (hV (by simp) hc') (fun z=>nomatch z) fin
     | ref ea=>
      cases(show _=Value.ref _ from r1)
      simp only[Gm]at ht;split at ht
      ·rename_i ws hw;cases ht;obtain⟨vs,h1,_⟩:=cw so hw ea;obtain⟨its,rv,p,hz⟩:=I.list h1;obtain⟨o,q1,q2,_⟩:=p.isList;exact JR PySem.W.kitx_list I.kIn ⟨o,q1,q2⟩ (hV (by simp) hc') (fun z=>nomatch z) fin
      ·rw[(Io)]at ht;obtain⟨kvs,hk,rfl⟩:=ht;obtain⟨xs,rd,kr⟩:=fU so hk ea;obtain⟨es,ep,⟨o,q1,q2,_⟩,he⟩:=(cD I rd).raw;exact JR PySem.W.kitx_dict I.kIn ⟨o,q1,q2.1⟩ (hV (by simp) hc') (fun z=>nomatch z) fin
    ·cases e2
   ·cases e2
noncomputable def xW (c:String)(f:FE):FE:=fun ρ S=>match f ρ S with
 | some (x,S1)=>(vx S1 x c).map fun b=>(.bl b,S1)
 | none=>none
theorem Dt {cn:Str}{c:String}{e:Expr}{p p2 pos:Pos}{f:FE}(hg:Gl X "isinstance")(hm:X.mg "isinstance" = none)(hg2:Gl X cn)(hm2:X.mg cn=none)(hv2:bootBuiltins cn=some (.type c))(hn2:cn≠"__name__")(hd2:(cn==("__debug__" : Str))=false)
  (he:GE X e f) (hs:starEach [e,.Name cn p2] X.env=(false,eval e X.env)::starEach [.Name cn p2] X.env):GE X (.Call (.Name "isinstance" p) [e,.Name cn p2] [] pos) (xW c f):=
 GE.of (pO (xV) hg hm rfl (nR he (nR (zB (v:=.ty c) hg2 hm2 hv2 rfl hn2 hd2) wm) hs) (by decide) (by decide) hs rfl) fun σ H A ρ S w S' er so e Q hq=>by
  unfold xW at e;split at e
  ·rename_i x1 S1 h1;rw[(Io)]at e;obtain⟨b,e1,e2⟩:=e;cases e2;exact⟨A,ρ,S,x1,_,er,so,h1,fun v H1 ⟨A1,z1,z2,z3⟩=>⟨A1,_,x1,v,c,b,rfl,z2,z3,e1,hq _ _ ⟨A1,z1,z2,.bl⟩⟩⟩
  ·cases e
end
noncomputable def dG:List (T×W)->List W->Option (List (T×W))
 | kvs,[]=>some kvs
 | kvs,k::v::ws=>match gE k with
  | some t=>dG (eN kvs t v) ws
  | none=>none
 | _,[_]=>none
noncomputable def B0:FE:=fun _ S=>some (.ref S.length,S++[.dic []])
noncomputable def qI (f:FA):FE:=fun ρ S=>match f ρ (S++[.dic []])with
 | some (ws,S1)=>match S1[S.length]? with
  | some (.dic [])=>match dG [] ws with
   | some kvs=>some (.ref S.length,S1.set S.length (.dic kvs))
   | none=>none
  | _=>none
 | none=>none
section
variable (K:PySem.W.Frag) (A:List Addr) (H:Hp)
inductive RelP:List W->List (V×V)->Prop
 | nil:RelP [] []
 | cons {k v:W} {a b:V} {ws:List W} {ps:List (V×V)}:Rel K A H k a->Rel K A H v b->RelP ws ps->RelP (k::v::ws) ((a,b)::ps)
end
theorem RelP.mono {K:PySem.W.Frag}{A A':List Addr}{H H':Hp}(e:Ext K A H A' H'){ws:List W}{ps:List (V×V)}(h:RelP K A H ws ps):RelP K A' H' ws ps:=by
 induction h with
 | nil=>exact .nil
 | cons a b c ih=>exact .cons (a.mono e) (b.mono e) ih
section
variable {X:Cx} {pins:List (Addr×Obj)} {σ:L2.St} {H:Hp} {s:Shared} {A:List Addr} {S:aa}
noncomputable def Hb (X:Cx)(A:List Addr)(H:Hp)(S':aa)(ws:List W):List (V×V)->Hp->Prop:=fun ps H'=>∃ A',Ext X.K A H A' H'/\StoreOk X.w X.K A' H' S'/\RelP X.K A' H' ws ps
noncomputable def Fd (X:Cx)(pos:Pos)(keys:List (Option Expr))(values:List Expr)(f:FA):Prop:=
 ∀ (pins:List (Addr×Obj)) (s:Shared) (σ:L2.St) (H:Hp) (A:List Addr) (ρ:Fm) (S:aa) (ws:List W) (S':aa),Inv X pins σ H s->EnvRel X.K A H ρ σ->StoreOk X.w X.K A H S->f ρ S=some (ws,S')->
  wpAny (model X.prog X.w) X.A (evalPairs (pairTrees keys values X.env pos)) (fun vs s'=>∃ ps H',Inv X pins σ H' s'/\VV ps vs/\Hb X A H S' ws ps H') X.xe s
theorem AZ {pos:Pos}:Fd X pos [] [] lg:=fun pins s σ H A ρ S ws S' I er so e=>by
 cases e;exact pairTrees_nil_walk ⟨[],H,I,.nil,A,.refl,so,.nil⟩
theorem xX {pos:Pos}{k v:Expr}{ks:List (Option Expr)}{vs:List Expr}{fk fv:FE}{f:FA}(hk:GE X k fk)(hv:GE X v fv)(hr:Fd X pos ks vs f):Fd X pos (some k::ks) (v::vs) (eY fk (eY fv f)):=fun pins s σ H A ρ S ws S' I er so e=>by
 unfold eY at e;split at e
 ·rename_i w1 S1 h1;split at e
  ·rename_i w2 S2 h2;cases e;split at h2
   ·rename_i w3 S3 h3;split at h2
    ·rename_i w4 S4 h4;cases h2;refine pairTrees_cons_walk (bS (hk pins s σ H (EndV X.w X.K A H S1 w1) I ⟨A,ρ,S,_,_,er,so,h1,fun _ _ z=>z⟩) fun u s1 ⟨x,H1,I1,r1,A1,e1,o1,z1⟩=>
      bS (hv pins s1 σ H1 (EndV X.w X.K A1 H1 S3 w3) I1 ⟨A1,ρ,S1,_,_,er.mono e1,o1,h3,fun _ _ z=>z⟩) fun u2 s2 ⟨x2,H2,I2,r2,A2,e2,o2,z2⟩=>
      bS (hr pins s2 σ H2 A2 ρ S3 _ _ I2 (er.mono (e1.trans e2)) o2 h4) fun vs' s3 ⟨ps,H3,I3,rel,A3,e3,o3,z3⟩=>?_)
     exact⟨(x,x2)::ps,H3,I3,.cons ⟨r1,r2⟩ rel,A3,e1.trans (e2.trans e3),o3,.cons (z1.mono (e2.trans e3)) (z2.mono e3) z3⟩
    ·cases h2
   ·cases h2
  ·cases e
 ·cases e
theorem nq {r:Nat}{d:Addr}{E:Value->Shared->Prop}(hu:X.A.units+10 < cLine):∀ (vs:List (Value×Value)) (ps:List (V×V)) (ws:List W) (kvs kvs':List (T×W)) (s:Shared) (H:Hp) (S:aa) (Q:PUnit->Shared->Prop),
  Inv X pins σ H s->StoreOk X.w X.K A H S->on S r=some kvs->A[r]?=some d->RelP X.K A H ws ps->VV ps vs->dG kvs ws=some kvs'->kvs.length+vs.length<=30->
  (∀ s' H',Inv X pins σ H' s'->Ext X.K A H A H'->StoreOk X.w X.K A H' (S.set r (.dic kvs'))->Q PUnit.unit s')->
  wpAny (model X.prog X.w) X.A (forIn vs PUnit.unit fun(x:Value×Value) (_:PUnit)=>(do dictSet d x.1 x.2; pure (ForInStep.yield PUnit.unit):Sem (ForInStep PUnit))) Q E s
 | [],_,_,kvs,kvs',s,H,S,Q,I,so,hr,ea,rp,vv,e,hl,hq=>by
  cases vv;cases rp;cases e;rw[List.forIn_nil];refine Il (hq s H I .refl ?_);have hS:=iI hr;have:S.set r (.dic kvs)=S:=by
   apply List.ext_getElem?;intro j;rw[(JL)];split
   ·rename_i e; subst e
    split
    ·exact hS.symm
    ·rename_i h; exact absurd (Ir.mp hS).1 h
   ·rfl
  rw[this]; exact so
 | (ku,vu)::vs,_,_,kvs,kvs',s,H,S,Q,I,so,hr,ea,rp,vv,e,hl,hq=>by
  cases vv with
  | cons hv vv2=>
   cases rp with
   | @cons wk wv va vb ws2 ps2 rk rv' rp2=>
    simp only[dG]at e;split at e
    ·rename_i t ht;rw[List.forIn_cons];obtain⟨xs,hH,kr⟩:=tm so hr ea;have dd0:=cD I (.inl hH);have dd:=dd0.dict I kr;obtain⟨bk,e1,e2,rkk⟩:=iH ht rk hv.1;have e2:ku=Value.ref bk:=e2;subst e2;obtain⟨q1,q2,q3⟩:=dW ht;rw[(JN)]at hl;have hz:xs.length<=sizeLine:=dd0.1;refine Ij (Ij (wpAny_dictSet_heap (hsz:=hz) (show X.A.units+aE < cLine by unfold aE; omega) (ji I rkk q3) dd fun h' dd' hs=>wpAny_pure ?_))
     have kr':=kr.put q2 q3 rkk rv' hv.2;have hz':(storedH xs t bk vu).length<=sizeLine:=by
      rw[<- kr'.length];have h2:=dA kvs t wv;rw[(Ja)];omega
     have dn:DicAt X.w d (storedH xs t bk vu) h':=.of hz' dd0.2.1 dd';obtain⟨so',ex⟩:=so.writeO (iI hr) rfl ea (u:=d0 X.w d (storedH xs t bk vu)) (n:=.dic (eN kvs t wv)) ⟨_,bx,kr'.mono (dN (.ext hH))⟩;have I':Inv X pins σ (cb H d (d0 X.w d (storedH xs t bk vu))) { s with heap:=h',toks:=s.toks+(bC X.prog X.w).draws t }:=nY I (by rw[hH]; exact True.intro) hs (let ⟨q,_,_,hq,_⟩:=dd'; ⟨q,hq⟩) dn.ok
     have hl':(S.set r (.dic (eN kvs t wv)))[r]?=some (.dic (eN kvs t wv)):=by
      rw[(JL),if_pos rfl,if_pos (List.getElem?_eq_some_iff.mp (iI hr)).1]
     refine nq hu vs _ _ (eN kvs t wv) kvs' _ _ _ Q I' so' (by unfold on; rw[hl']) ea (rp2.mono ex) vv2 e (by have:=dA kvs t wv; omega) fun s' H' I2 ex2 so2=>?_
     rw[List.set_set]at so2;exact hq s' H' I2 (ex.trans ex2) so2
    ·cases e
theorem A6 {pos:Pos}:GE X (.Dict [] [] pos) B0:=fun pins s σ H Q I ⟨A,ρ,S,w,S',er,so,e,hq⟩=>by
 cases e;have hn:=I.hok.fresh (Ip s.heap.objs.size);have dn:DicAt X.w s.heap.objs.size [] (s.heap.push { cls:=.type "dict",data:=.dict #[] }):=⟨Jn _,beq_eq_false_iff_ne.mpr (Ne.symm (ID I.big)),List.nodup_nil,_,#[],0,Ix _ rfl,⟨rfl,rfl,rfl⟩,rfl,rfl⟩;refine wpAny_Dict_empty ⟨.ref s.heap.objs.size,_,I.laid (a:=s.heap.objs.size) (o:=d0 X.w s.heap.objs.size []) (t':=s.toks) (fun _ _ q=>Ik _ q) (Ip _) dn.ok,rfl,hq _ _ ⟨A++[s.heap.objs.size],cU hn,so.pushO hn ⟨[],bx,.nil⟩,.ref ?_⟩⟩
 rw[<- so.len]; simp
theorem A7 {pos:Pos}{keys:List (Option Expr)}{values:List Expr}{f:FA}(hu:X.A.units+10 < cLine)(h:Fd X pos keys values f)(hall:keys.all (·.isSome)=true)(hl:keys.length=values.length)(h0:keys≠[])(h15:keys.length<=15):GE X (.Dict keys values pos) (qI f):=by
 intro pins s σ H Q I ⟨A,ρ,S,w,S',er,so,e,hq⟩;unfold qI at e;split at e
 ·rename_i ws S1 h1;split at e
  ·rename_i hS1;split at e
   ·rename_i kvs hp;cases e;have hn:=I.hok.fresh (Ip s.heap.objs.size);have dn:DicAt X.w s.heap.objs.size [] (s.heap.push { cls:=.type "dict",data:=.dict #[] }):=⟨Jn _,beq_eq_false_iff_ne.mpr (Ne.symm (ID I.big)),List.nodup_nil,_,#[],0,Ix _ rfl,⟨rfl,rfl,rfl⟩,rfl,rfl⟩;have I1:=I.laid (a:=s.heap.objs.size) (o:=d0 X.w s.heap.objs.size []) (h':=s.heap.push { cls:=.type "dict",data:=.dict #[] }) (t':=s.toks) (fun _ _ q=>Ik _ q) (Ip _) dn.ok
    have ex0:Ext X.K A H (A++[s.heap.objs.size]) (cb H s.heap.objs.size (d0 X.w s.heap.objs.size [])):=cU hn;have so0:StoreOk X.w X.K (A++[s.heap.objs.size]) (cb H s.heap.objs.size (d0 X.w s.heap.objs.size [])) (S++[.dic []]):=so.pushO hn ⟨[],bx,.nil⟩;have hlen:=pairTrees_length keys values X.env pos hall hl;have hne:pairTrees keys values X.env pos≠[]:=fun he=>by
     rw[he]at hlen;exact h0 (JJ.mp hlen.symm)
    rw[arm_eval_Dict,zip_pairTrees keys values X.env pos hall hl,dictDisplay_pairs _ hne (by omega)]
    refine Ij (KG (Ij ?_));unfold subDict;refine Ij (wpAny_alloc ?_);refine Ij (IW ?_);rw[if_pos (by omega)]
    refine Ij (Jt (wpAny_evalPairs_len (h pins _ σ _ _ ρ _ _ _ I1 (er.mono ex0) so0 h1)) (fun vs s₁ h₁=>?_) fun _ _ e=>e)
    obtain⟨hvl,ps,H2,I2,vv,A2,ex2,so2,rp⟩:=h₁;refine IW ?_;have ea:A2[S.length]?=some s.heap.objs.size:=ex2.ad _ _ (by rw[<- so.len]; simp)
    refine Ij (nq hu vs ps ws [] kvs s₁ H2 S1 _ I2 so2 (by unfold on; rw[hS1]) ea rp vv hp (by rw[List.length_nil]; omega) fun s' H' I3 ex3 so3=>?_)
    exact Il (Il (Il ⟨.ref s.heap.objs.size,H',I3,rfl,hq _ _ ⟨A2,ex0.trans (ex2.trans ex3),so3,.ref ea⟩⟩))
   ·cases e
  ·cases e
 ·cases e
end
noncomputable def HM (wd:World)(a:Addr)(o:Obj)(xs:List (T×Addr×Value)):It:=
 ⟨fun i H=>H a=some (.frz o (d0 wd a xs))/\i < xs.length,fun i H x H'=>H'=H/\∃ q,xs[i]?=some q/\x=.ref q.2.1,fun i H=>H a=some (.frz o (d0 wd a xs))/\xs.length<=i⟩
theorem vy {P:Program}{w:World}{K:PySem.W.Frag}{tg:Expr}(a it:Addr){o:Obj}{es:Array DictEntry}{ep:Nat}{xs:List (T×Addr×Value)}(hx:o.ExactDict)(hd:o.data=.dict es ep)(he:es.toList=xs.map (wI w)) :
  Turn P w K tg (HM w a o xs) [it] it (fun i h=>h.IsKeyIter it a i es.size ep) where
 mem:=by simp
 obj:=fun i h st b hb=>by
  have e:b=it:=by simpa using hb
  subst e;obtain⟨o,e,c,d⟩:=st;exact⟨o,e,fun v z=>by rw[d]at z; cases z⟩
 keep:=fun i h h' st k=>st.at fun o e=>k it (by simp) o e
 item:=by
  intro X hP hw hK hc i pins s σ H E I hf st hg;subst hP hw hK;obtain⟨hH,hi⟩:=hg;have ho:s.heap.get? a=some o:=(show ObjOk X.prog X.w H s.heap a (.frz o (d0 X.w a xs))from I.hok a _ hH).1
  have hl:es.size=xs.length:=by rw[<- (Iz),he,(Im)]
  have hi':i < es.size:=by omega
  obtain⟨f0,f1,f2,f3,f4,f5⟩:=hf it (by simp)
  have hk:es[i].key=.ref (xs[i]).2.1:=by
   have:es.toList[i]?=some (wI X.w xs[i]):=by rw[he,(Iu),List.getElem?_eq_getElem hi]; rfl
   rw[(Jl),Array.getElem?_eq_getElem hi']at this;have:=Jb this;rw[this]; rfl
  refine qi st ⟨o,ho,hx,hd⟩ hi' fun h' st' sb=>?_
  have I1:Inv X pins σ H { s with heap:=h' }:=I.turned (t':=s.toks) (fun b o hb e=>(sb.2 b hb).trans e) f0 f1 f3 f4 f5
  obtain⟨o',e,c,d⟩:=id st';exact⟨_,rfl,sN (s:={ s with heap:=h' }) e c d (by decide) ⟨.ref (xs[i]).2.1,H,I1,hk,⟨rfl,xs[i],Iw hi,rfl⟩,st',fun b hb=>(hf b hb).1⟩⟩
 done:=by
  intro X hP hw hK hc i pins s σ H E I hf st hg;subst hP hw hK;obtain⟨hH,hi⟩:=hg;have ho:s.heap.get? a=some o:=(show ObjOk X.prog X.w H s.heap a (.frz o (d0 X.w a xs))from I.hok a _ hH).1
  have hl:es.size=xs.length:=by rw[<- (Iz),he,(Im)]
  obtain⟨f0,f1,f2,f3,f4,f5⟩:=hf it (by simp)
  exact tz (I.ok.hd hc) st ⟨o,ho,hx,hd⟩ (by omega) fun h' eb=>⟨rfl,I.turned (t':=s.toks) (fun b o hb e=>eb b o hb e) f0 f1 f3 f4 f5⟩
 self:=fun _ _ _ _ _ st h=>wpAny_pyIter_keyiter st h
noncomputable def fL (f:FE):FI:=fun ρ S=>match f ρ S with
 | some (.tup ws,S1)=>some (.its ws,S1)
 | some (.ref r,S1)=>match iz S1 r with
  | some _=>some (.live r,S1)
  | none=>match jP S1 r with
   | some kvs=>some (.its (kvs.map fun p=>p.1.w),S1.set r (.frd kvs))
   | none=>none
 | _=>none
section
variable {X:Cx} {pins:List (Addr×Obj)} {σ:L2.St} {H:Hp} {s:Shared} {A:List Addr} {S:aa}
theorem xY {a:Addr}{o:Obj}{kvs:List (T×W)}{xs:List (T×Addr×Value)}(hH:H a=some (.frz o (d0 X.w a xs)))(kr:KRel X.K A H kvs xs):MIt X.w X.K (.its (kvs.map fun p=>p.1.w)) (HM X.w a o xs) A H:=by
 refine⟨fun A' H' S i w e so hi=>?_,fun A' H' S i e so hi=>?_⟩
 ·simp only[MI.at,Option.some.injEq]at hi;obtain⟨v,h1,h2⟩:=((kr.mono e).keysL).get hi;rw[(Iu),(Io)]at h1;obtain⟨q,q1,q2⟩:=h1;refine⟨⟨e.fz _ _ _ hH,(Ir.mp q1).1⟩,fun x H2 ⟨z1,q',z2,z3⟩=>?_⟩
  subst z1 z3;rw[q1]at z2; cases z2
  exact⟨.refl,so,by rw[q2]; exact h2⟩
 ·simp only[MI.at,Option.some.injEq]at hi;refine⟨e.fz _ _ _ hH,?_⟩;have:=Jj.mp hi;rw[(Im),kr.length]at this;exact this
theorem Ba {tg l:Expr}{f:FE}(h:GE X l f):GI X tg l (fL f):=by
 intro pins s σ H R I ⟨A,ρ,S,mi,S',er,so,e,hq⟩
 by_cases hd:∃ r S1 kvs,f ρ S=some (.ref r,S1)/\iz S1 r=none/\jP S1 r=some kvs
 ·obtain⟨r,S1,kvs,h1,h2,h3⟩:=hd;simp only[fL,h1,h2,h3]at e;cases e;refine bS (h pins s σ H (EndV X.w X.K A H S1 (.ref r)) I ⟨A,ρ,S,_,_,er,so,h1,fun _ _ z=>z⟩) fun v s1 ⟨x,H1,I1,r1,A1,e1,o1,z1⟩=>?_
  cases z1 with
  | @ref _ a ea=>
   obtain rfl:v=Value.ref a:=r1;have fz:∃ o xs H2,Inv X pins σ H2 s1/\Ext X.K A1 H1 A1 H2/\StoreOk X.w X.K A1 H2 (S1.set r (.frd kvs))/\H2 a=some (.frz o (d0 X.w a xs))/\KRel X.K A1 H2 kvs xs:=by
    unfold jP at h3;split at h3
    ·rename_i k hk;cases h3;obtain⟨xs,hH,kr⟩:=o1.obj r _ a hk ea;have d:=cD I1 (.inl hH);obtain⟨_,_,_,o,es,ep,q1,q2,q3,q4⟩:=id d;obtain⟨so',ex⟩:=o1.writeO hk rfl ea (u:=.frz o (d0 X.w a xs)) (n:=.frd kvs) ⟨o,xs,bx,kr.mono (dN (.ext hH))⟩;exact⟨o,xs,_,nY (h':=s1.heap) (t':=s1.toks) (ob:=.frz o (d0 X.w a xs)) I1 (by rw[hH]; exact True.intro) (Heap.SameBut.refl _ _) ⟨o,q1⟩ ⟨q1,d.ok⟩,ex,so',bx,kr.mono ex⟩
    ·rename_i k hk;cases h3;obtain⟨o,xs,hH,kr⟩:=o1.obj r _ a hk ea;have:S1.set r (.frd kvs)=S1:=by
      apply List.ext_getElem?;intro j;rw[(JL)];split
      ·rename_i e; subst e
       split
       ·exact hk.symm
       ·rename_i h; exact absurd (Ir.mp hk).1 h
      ·rfl
     rw[this];exact⟨o,xs,H1,I1,.refl,o1,hH,kr⟩
    ·cases h3
   obtain⟨o,xs,H2,I2,ex,so2,hH,kr⟩:=fz;have d:=cD I2 (.inr ⟨o,hH⟩);have ho:s1.heap.get? a=some o:=(show ObjOk X.prog X.w H2 s1.heap a (.frz o (d0 X.w a xs))from I2.hok a _ hH).1
   obtain⟨_,hsm,_,o',es,ep,q1,q2,q3,q4⟩:=id d;rw[ho]at q1;cases q1;refine qh hsm ⟨o,ho,q2,q3⟩ ?_;refine⟨s1.heap.objs.size,[s1.heap.objs.size],_,_,H2,rfl,I2.kept (t':=s1.toks) fun b o e=>Ik _ e,vy a _ q2 q3 q4,⟨_,Ix _ rfl,rfl,rfl⟩,fun b hb=>?_,hq _ _ A1 (e1.trans ex) so2 (xY hH kr)⟩
   have e:b=s1.heap.objs.size:=by simpa using hb
   subst e;exact I2.fpOk (Ip _) (I2.hok.fresh (Ip _))
 ·have:fL f ρ S=AT f ρ S:=by
   unfold fL AT;cases hf:f ρ S with
   | none=>rfl
   | some p=>
    obtain⟨w,S1⟩:=p;cases w with
    | ref r=>
     cases h2:iz S1 r with
     | some _=>simp only[h2]
     | none=>
      cases h3:jP S1 r with
      | none=>simp only[h2,h3]
      | some kvs=>exact absurd ⟨r,S1,kvs,hf,h2,h3⟩ hd
    | _=>rfl
  rw[this]at e;exact Dr h pins s σ H R I ⟨A,ρ,S,mi,S',er,so,e,hq⟩
end
noncomputable def bU (mi:MI)(g:FG)(c:FT)(f:FE):Nat->Nat->Fm->aa->Option (List W×aa)
 | 0,i,_,S=>match mi.at S i with
  | some none=>some ([],S)
  | _=>none
 | n+1,i,ρ,S=>match mi.at S i with
  | some (some w)=>match g w ρ S with
   | some (ρ1,S1)=>match c ρ1 S1 with
    | some (true,S2)=>match f ρ1 S2 with
     | some (y,S3)=>match bU mi g c f n (i+1) ρ1 S3 with
      | some (ys,S4)=>some (y::ys,S4)
      | none=>none
     | none=>none
    | some (false,S2)=>bU mi g c f n (i+1) ρ1 S2
    | none=>none
   | none=>none
  | _=>none
noncomputable def hW (cap:List (Option Nat))(ρ:Fm):Fm:=cap.map fun o=>match o with
 | some j=>(ρ[j]?).join
 | none=>none
noncomputable def li (fi:FI)(g:FG)(c:FT)(f:FE)(cap:List (Option Nat)):FE:=fun ρ S=>match fi ρ S with
 | some (mi,S1)=>match mi.len S1 with
  | some n=>match bU mi g c f n 0 (hW cap ρ) S1 with
   | some (ys,S2)=>lY S2 ys
   | none=>none
  | none=>none
 | none=>none
noncomputable def B1:FT:=fun _ S=>some (true,S)
noncomputable def lW (X:Cx)(scope:Scope)(cl:List (Str×Addr))(C:Addr)(N:List Str)(s0:Shared)(H0:Hp)(ex:List Addr):Cx:=
 { X with env:=compEnvC scope cl C X.env,N:=N,s₀:=s0,H₀:=H0,outer:=X.stack,stack:=X.stack,ex:=ex,fn:=fun _=>false,pn:=[],xe:=fun _ _=>False }
structure CompOk (X:Cx)(scope:Scope)(cl:List (Str×Addr))(N:List Str)(cap:List (Option Nat)):Prop where
 clos:closureFor scope X.env=pure cl
 kind:scope.kind=.function
 names:∀ y∈scope.names,y.2=.local->scope.names.lookup y.1=some .local
 nocell:∀ y∈scope.names,y.2≠.cell
 sub:∀ x c,cl.lookup x=some c->X.env.cells.lookup x=some c
 has:∀ x,((relabel scope X.env).names.lookup x=some .cell\/(relabel scope X.env).names.lookup x=some .free)->∃ c,cl.lookup x=some c
 len:cap.length=N.length
 cap:∀ (i j:Nat) (x:Str),cap[i]?=some (some j)->N[i]?=some x->X.N[j]?=some x/\(X.env.kindOf x=some .cell\/X.env.kindOf x=some .free)/\((relabel scope X.env).names.lookup x=some .cell\/(relabel scope X.env).names.lookup x=some .free)
theorem gG {prog:Program}{w:World}{A:Around}{R:Result->Shared->Prop}{s:Shared}{elt target iter:Expr}{ifs:List Expr}{scope:Scope}{pos:Pos}{it acc:Value}{env:Env}(I:Nat->Shared->Prop)
    (turn:∀ n s,I n s->wpAny (model prog w) A (pyNext it) (fun r s₁=>match r with
      | none=>R (.ok .next) s₁
      | some v=>wpAny (model prog w) A (letOwnedTupleGo target it v) (fun _ s₁=>wpAny (model prog w) A (assign target env v) (fun _ s₂=>
          wpAny (model prog w) A (forIn ifs true fun c r=>if r=true then do let ok <- isTrue c env (eval c env); pure (ForInStep.yield ok)else pure (ForInStep.yield r)) (fun ok s₃=>
            if ok=true then wpAny (model prog w) A (eval elt env) (fun x s₄=>
              wpAny (model prog w) A (call (.builtin "list.append") [acc,x]) (fun _ s₅=>∃ m,m < n/\I m s₅) (fun _ _=>False) s₄) (fun _ _=>False) s₃
            else ∃ m,m < n/\I m s₃) (fun _ _=>False) s₂) (fun _ _=>False) s₁) (fun _ _=>False) s₁) (fun _ _=>False) s)
    (n:Nat) (h:I n s) :
    codeAny (model prog w) A (.compLoop (.ListComp elt [⟨target,iter,ifs,0⟩] scope pos) 0 it acc env) R s:=by
  refine codeAny_loop rfl I (fun n s hI=>?_) n h
  show wpAny _ A ((compTurn (.ListComp elt [⟨target,iter,ifs,0⟩] scope pos) 0 it acc env).onRaise (fun x=>do noteFrame x env; theTreesLotGoes x)) _ _ s
  refine wpAny_noted ?_;rw[compTurn_list];refine Ij (KG (Ij (Jt (turn n s hI) (fun r s₁ h₁=>?_) fun _ _ h'=>h'.elim)))
  cases r with
  | none=>exact Il h₁
  | some v=>
    refine Ij (Jt h₁ (fun _ s₁ h₁=>?_) fun _ _ h'=>h'.elim)
    refine Ij (Jt h₁ (fun _ s₂ h₂=>Ij (Jt h₂ (fun ok s₃ h₃=>?_) fun _ _ h'=>h'.elim)) fun _ _ h'=>h'.elim)
    cases ok with
    | false=>exact Il ⟨rfl,h₃⟩
    | true=>
      exact Ij (Ij (Jt h₃ (fun x s₄ h₄=>Ij (Jt h₄ (fun _ s₅ h₅=>Il (Il ⟨rfl,h₅⟩)) fun _ _ h'=>h'.elim)) fun _ _ h'=>h'.elim))
section
variable {X:Cx} {pins:List (Addr×Obj)} {σ:L2.St} {H:Hp} {s:Shared}
theorem Inv.adopt {D:Addr}{o:HO}(I:Inv X pins σ H s)(hn:H D=none)(h1:D∈X.ex\/X.s₀.heap.objs.size<=D)(hL:D≠X.env.locals)(h2:∀ x c,X.env.cells.lookup x=some c->c≠D)(h3:∀ p∈X.pn++pins,p.1≠D)
  (new:ObjOk X.prog X.w (cb H D o) s.heap D o):Inv X pins σ (cb H D o) s:=by
 have nit:∀ b u,H b=some u->b≠D:=fun b u e z=>by rw[z,hn]at e; cases e
 have key:Inv X pins σ (cb H D o) { s with heap:=s.heap,gens:=s.gens,drawn:=s.drawn,toks:=s.toks }:=by
  refine I.step (g':=s.gens) (d':=s.drawn) (t':=s.toks) (h':=s.heap) (ch:=[D]) (fun b hb=>?_) (fun b o _ _ hc e _=>e) (fun b o _ _ hc e _=>⟨o.slots,e⟩) (fun b o hc e n=>?_)
   (fun b o hc e=>⟨o,e⟩) (fun b xs e=>?_) (fun b o xs e=>?_) (fun b ps e=>⟨#[],?_⟩) (fun m hm=>hm) (fun b u e=>?_) I.bare
  ·have e:b=D:=by simpa using hb
   subst e;exact⟨h1,hL,h2,h3⟩
  ·rw[aP (fun z=>hc (by simp[z]))]; exact n
  ·rw[aP (nit b _ e)]; exact e
  ·rw[aP (nit b _ e)]; exact e
  ·rw[aP (nit b _ e),e]; simp
  ·by_cases hb:b=D
   ·subst hb; rw[bx]at e; cases e; exact new
   ·rw[aP hb]at e;refine(I.hok b u e).stay (fun c v hc q=>q) (fun c q=>?_) fun c xs q=>?_
    ·rw[aP (nit c _ q)]; exact q
    ·rw[aP (nit c _ q)]; exact q
 exact key
theorem Du {scope:Scope}{cl:List (Str×Addr)}{N:List Str}{cap:List (Option Nat)}{C:Addr}{s0:Shared}{ex:List Addr}(I:Inv X pins σ H s)(ck:CompOk X scope cl N cap)(hs:s.heap.objs.size<=s0.heap.objs.size)(hC:s0.heap.objs.size<=C)
  (hk:∀ b o,s.heap.get? b=some o->s0.heap.get? b=some o) (hex:∀ b∈ex,(b≠C)/\(∀ x c,X.env.cells.lookup x=some c->c≠b)/\(∀ o,X.base.get? b≠some o)/\b∉rL X.stack) :
  (lW X scope cl C N s0 H ex).Ok where
 mod:=I.ok.mod
 kind:=ck.kind
 glob:=I.ok.glob
 blt:=I.ok.blt
 above:=hC
 inj:=fun x y c h1 h2=>I.ok.inj x y c (ck.sub x c h1) (ck.sub y c h2)
 has:=fun x h=>ck.has x h
 cab:=fun x c h=>by cases h
 hd:=I.ok.hd
 frames:=I.ok.frames
 stk:=.inl rfl
 exf:=fun b hb=>⟨(hex b hb).1,fun x c h=>(hex b hb).2.1 x c (ck.sub x c h)⟩
 bs:=fun b o e=>⟨hk b o (I.bk b o e),(I.bs b o e).2⟩
 bsz:=IC (IC I.ok.bsz I.sz) hs
 noex:=fun b o e hb=>(hex b hb).2.2.1 o e
 exfs:=fun b hb=>(hex b hb).2.2.2
 funs:=I.stack.of_keeps fun b o e _=>⟨o,hk b o e,rfl⟩
 frf:=I.stkFree
structure BlockOk (X:Cx)(scope:Scope)(cl:List (Str×Addr))(N:List Str)(tg elt:Expr)(ifs:List Expr)(g:FG)(c:FT)(f:FE):Prop where
 tgt:∀ C s0 H0 ex,GG (lW X scope cl C N s0 H0 ex) tg g
 tst:∀ C s0 H0 ex pins s σ H Q,Inv (lW X scope cl C N s0 H0 ex) pins σ H s->tT (lW X scope cl C N s0 H0 ex) c σ H Q->
  wpAny (model X.prog X.w) X.A (forIn ifs true fun c r=>if r=true then do let ok <- isTrue c (compEnvC scope cl C X.env) (eval c (compEnvC scope cl C X.env)); pure (ForInStep.yield ok)else pure (ForInStep.yield r)) (TP (lW X scope cl C N s0 H0 ex) pins σ Q) (fun _ _=>False) s
 elt:∀ C s0 H0 ex,GE (lW X scope cl C N s0 H0 ex) elt f
theorem oB {prog:Program}{w:World}{B:Around}{s:Shared}{E:Value->Shared->Prop}{Q:Value->Shared->Prop}{D:Addr}{its:List Value}{n:Nat}{u:Value}(e:s.heap.get? D=some { cls:=.type "list",data:=.seq its.toArray n })(hz:its.length < sizeLine)
  (h:∀ h' n',h'.get? D=some { cls:=.type "list",data:=.seq (its++[u]).toArray n' }->(∀ b o,b≠D->s.heap.get? b=some o->h'.get? b=some o)->Q .none { s with heap:=h' }) :
  wpAny (model prog w) B (call (.builtin "list.append") [.ref D,u]) Q E s:=by
 refine call_meets F.slot_list_append ⟨_,e,rfl⟩ F.entry_list_append (F.args_list_append_2 _ _) (PySem.list_append D its.toArray n u (by rw[(IE)]; omega)) ⟨e,?_⟩
 have q:=PySem.IsL.update e (fun a=>a.push u)
 have e2:its.toArray.push u=(its++[u]).toArray:=by simp
 rw[e2]at q;exact h _ _ q (fun b o hb ho=>(IM s.heap (Obj.mapSeq fun a=>a.push u) (Ne.symm hb)).trans ho)
theorem nr {scope:Scope}{cl:List (Str×Addr)}{N:List Str}{cap:List (Option Nat)}{tg elt iter:Expr}{ifs:List Expr}{g:FG}{c:FT}{f:FE}{pos:Pos}{A:List Addr}{ρ:Fm}{S S':aa}{mi:MI}{n:Nat}{ws:List W}{E:Value->Shared->Prop}
  {it:Addr} {fp:List Addr} {tn:Nat->Heap->Prop} {J:It} {RR:Value->Addr->Result->Shared->Prop}
  (I:Inv X pins σ H s) (hc:X.calm=true) (er:EnvRel X.K A H ρ σ) (so:StoreOk X.w X.K A H S) (ck:CompOk X scope cl N cap) (bk:BlockOk X scope cl N tg elt ifs g c f)
  (T:Turn X.prog X.w X.K tg J fp it tn) (t0:tn 0 s.heap) (hfp:∀ b∈fp,pL X pins H b) (mit:MIt X.w X.K mi J A H) (e:bU mi g c f n 0 (hW cap ρ) S=some (ws,S')) (hz:ws.length<=sizeLine)
  (fin:∀ D C s' H' A' vs m,s'.heap.Ns C m->H' D=none->D≠C->C≠X.env.locals->C∉X.fs->H' C=none->X.s₀.heap.objs.size<=C->(∀ x c,X.env.cells.lookup x=some c->c≠C)->(∀ p∈X.pn++pins,p.1≠C)->
   Inv X pins σ (cb H' D (.lst vs)) s'->Ext X.K A H A' H'->StoreOk X.w X.K A' H' S'->RelL X.K A' H' ws vs->RR (.ref D) C (.ok .next) s') :
  wpAny (model X.prog X.w) X.A (newList []) (fun acc s₃=>wpAny (model X.prog X.w) X.A (newFunctionEnv scope X.env.globals cl [] X.env.qual none .none (some X.env)) (fun cenv s₄=>
   codeAny (model X.prog X.w) X.A (.compStart (.ListComp elt [⟨tg,iter,ifs,0⟩] scope pos) 0 (.ref it) acc { cenv with scope:=relabel scope X.env }) (RR acc cenv.locals) s₄) E s₃) E s:=by
 refine IP (wpAny_newFunctionEnv ck.nocell (by intro y hy; simp at hy) (fun h₁ hns₁ hsb₁=>?_) ck.kind)
 dsimp only at hns₁ hsb₁ ⊢;generalize hH2:s.heap.push { cls:=.type "list",dict:=none,data:=.seq ([]:List Value).toArray }=h2 at hns₁ hsb₁ ⊢;have hCs:h2.objs.size=s.heap.objs.size+1:=by rw[<- hH2,(Kr)]
 have k2:∀ b o,s.heap.get? b=some o->h2.get? b=some o:=fun b o z=>hH2 ▸ Ik _ z
 have lt2:∀ b o,h2.get? b=some o->b < h2.objs.size:=fun b o z=>Iy z
 have k1:∀ b o,h2.get? b=some o->h₁.get? b=some o:=fun b o z=>hsb₁.extBut b o (ID (lt2 b o z)) (Ik _ z)
 have hD2:h2.get? s.heap.objs.size=some { cls:=.type "list",data:=.seq ([]:List Value).toArray }:=hH2 ▸ Ix _ rfl;have hDC:s.heap.objs.size≠h2.objs.size:=by rw[hCs]; omega
 have fresh:∀ a,s.heap.objs.size<=a->H a=none:=fun a ha=>I.hok.fresh ha
 have cellLt:∀ x c,X.env.cells.lookup x=some c->c < s.heap.objs.size:=fun x c z=>let ⟨_,q⟩:=I.cell x c z; q.lt
 have fpLt:∀ b∈fp,b < s.heap.objs.size:=fun b hb=>let ⟨_,q,_⟩:=T.obj 0 s.heap t0 b hb; Iy q
 have stkLt:∀ b∈rL X.stack,b < s.heap.objs.size:=fun b hb=>let ⟨_,o,q,_⟩:=I.stack.mem hb; Iy q
 have baseLt:∀ b o,X.base.get? b=some o->b < s.heap.objs.size:=fun b o z=>Iy (I.bk b o z)
 have fpStk:∀ b∈fp,b∉rL X.stack:=fun b hb z=>by
  rcases IR.mp (I.stkSub b z)with q|q
  ·exact(hfp b hb).2.1 q
  ·exact(hfp b hb).2.2.1 q
 have fpBase:∀ b∈fp,∀ o,X.base.get? b≠some o:=fun b hb o z=>by
  rcases(hfp b hb).2.2.2.1 with q|q
  ·exact I.ok.noex b o z q
  ·exact absurd (IH (Iy (I.ok.bs b o z).1) q) (Jp _)
 have ltC:∀ {b:Addr},b < s.heap.objs.size->b≠h2.objs.size:=fun hb=>by rw[hCs]; exact ID (JU hb)
 let s3:Shared:={ s with heap:=h2 }
 have ok':(lW X scope cl h2.objs.size N s3 H (fp++[s.heap.objs.size])).Ok:=by
  refine Du I ck (show s.heap.objs.size<=h2.objs.size by rw[hCs]; omega) (Ip _) k2 fun b hb=>?_
  rcases IL.mp hb with hb|hb
  ·exact⟨ltC (fpLt b hb),(hfp b hb).2.2.2.2.1,fpBase b hb,fpStk b hb⟩
  ·have eb:b=s.heap.objs.size:=by simpa using hb
   subst eb;exact⟨hDC,fun x c z=>ID (cellLt x c z),fun o z=>Jp _ (baseLt _ o z),fun z=>Jp _ (stkLt _ z)⟩
 obtain⟨m0,hn0,hl0⟩:=I.loc;have I0:Inv (lW X scope cl h2.objs.size N s3 H (fp++[s.heap.objs.size])) [] (cap.map fun o=>match o with|some j=>(σ[j]?).join|none=>none) H { s3 with heap:=h₁,toks:=s3.toks+([]:List (Str×Value)).length }:=by
  refine⟨ok',rfl,I.bare,Un.kept k1,⟨_,hns₁,fun i x v e1 e2 e3=>?_⟩,fun x cc z=>?_,fresh _ (show s.heap.objs.size<=h2.objs.size by rw[hCs]; exact JT _),fun x cc z=>I.freeC x cc (ck.sub x cc z),fun p hp=>absurd hp (by simp[lW]),(I.hok.kept k2).kept k1,by rw[(Im)]; exact ck.len⟩
  ·rw[(Iu)]at e2;cases q:cap[i]? with
   | none=>rw[q]at e2; cases e2
   | some oj=>
    rw[q]at e2;cases oj with
    | none=>cases e2
    | some j=>
     obtain⟨z1,z2,z3⟩:=ck.cap i j x q e1;have e2':(σ[j]?).join=some v:=by simpa using e2
     have e2'':σ[j]?=some (some v):=by
      cases r:σ[j]? with
      | none=>rw[r]at e2'; cases e2'
      | some y=>rw[r]at e2'; exact congrArg some e2'
     obtain⟨u,ru,lk⟩:=hl0 j x v z1 e2'' (by
      rcases z2 with z|z
      ·exact .inr (.inl z)
      ·exact .inr (.inr z))
     refine⟨u,ru,?_⟩;rcases lk with⟨zk,_⟩|⟨_,cc,zc,zi⟩
     ·rcases z2 with z|z <;> (rw[zk]at z; cases z)
     ·obtain⟨c2,hc2⟩:=ck.has x z3;have:=ck.sub x c2 hc2;rw[zc]at this; cases this
      refine .inr ⟨z3,cc,hc2,?_⟩;obtain⟨o,ho,hd⟩:=zi;exact⟨o,k1 _ _ (k2 _ _ ho),hd⟩
  ·obtain⟨v,o,ho,hd⟩:=I.cell x cc (ck.sub x cc z);exact⟨v,o,k1 _ _ (k2 _ _ ho),hd⟩
 have er0:EnvRel X.K A H (hW cap ρ) (cap.map fun o=>match o with|some j=>(σ[j]?).join|none=>none):=by
  refine⟨by simp[hW],fun i w q=>?_⟩
  unfold hW at q;rw[(Iu)]at q ⊢;cases r:cap[i]? with
  | none=>rw[r]at q; cases q
  | some oj=>
   rw[r]at q;cases oj with
   | none=>cases q
   | some j=>
    have q':(ρ[j]?).join=some w:=by simpa using q
    have q'':ρ[j]?=some (some w):=by
     cases z:ρ[j]? with
     | none=>rw[z]at q'; cases q'
     | some y=>rw[z]at q'; exact congrArg some q'
    obtain⟨v,z1,z2⟩:=er.2 j w q'';exact⟨v,by simp[z1],z2⟩
 have t1:tn 0 h₁:=T.keep 0 s.heap h₁ t0 fun b hb o z=>k1 b o (k2 b o z)
 have fpOk':∀ {H':Hp} {pp:List (Addr×Obj)},(∀ b∈fp,H' b=none)->(∀ p∈pp,p.1=s.heap.objs.size)->∀ b∈fp,pL (lW X scope cl h2.objs.size N s3 H (fp++[s.heap.objs.size])) pp H' b:=fun hn hp b hb=>
  ⟨hn b hb,ltC (fpLt b hb),fpStk b hb,.inl (Jv _ hb),fun x cc z=>(hfp b hb).2.2.2.2.1 x cc (ck.sub x cc z),fun p hpp=>by
   rw[hp p (by simpa [lW]using hpp)]
   exact(ID (fpLt b hb)).symm⟩
 have DinEx:s.heap.objs.size∈fp++[s.heap.objs.size]:=II _ (by simp)
 have cellD:∀ x c,cl.lookup x=some c->c≠s.heap.objs.size:=fun x cc z=>ID (cellLt x cc (ck.sub x cc z))
 have fpD:∀ b∈fp,b≠s.heap.objs.size:=fun b hb=>ID (fpLt b hb)
 have theEnd:∀ s' σ' H' A' vs its nn,Inv (lW X scope cl h2.objs.size N s3 H (fp++[s.heap.objs.size])) [] σ' H' s'->s'.heap.get? s.heap.objs.size=some { cls:=.type "list",data:=.seq its nn }->∀ (hits:∃ l:List Value,its=l.toArray/\Vals vs l),H' s.heap.objs.size=none->Ext X.K A H A' H'->StoreOk X.w X.K A' H' S'->RelL X.K A' H' ws vs->
   RR (.ref s.heap.objs.size) h2.objs.size (.ok .next) s':=by
  intro s' σ' H' A' vs its nn I' hD hits hDn ex so' rl;obtain⟨l,rfl,rv⟩:=hits;obtain⟨m,hn,_⟩:=id I'.loc;have un:Un (rL X.stack) (fp++[s.heap.objs.size]) H H' s.heap s'.heap:=(Un.kept k2).trans I'.base;have hch:∀ b∈fp++[s.heap.objs.size],(b∈X.ex\/X.s₀.heap.objs.size<=b)/\b≠X.env.locals/\(∀ x c,X.env.cells.lookup x=some c->c≠b)/\∀ p∈X.pn++pins,p.1≠b:=fun b hb=>by
   rcases IL.mp hb with hb|hb
   ·exact⟨(hfp b hb).2.2.2.1,(hfp b hb).2.1,(hfp b hb).2.2.2.2.1,(hfp b hb).2.2.2.2.2⟩
   ·have eb:b=s.heap.objs.size:=by simpa using hb
    subst eb;exact⟨.inr I.sz,(ID I.lt).symm,fun x cc z=>ID (cellLt x cc z),fun p hp=>ID (Iy (I.pin p hp).1)⟩
  have I2:Inv X pins σ H' s':=I.call' (show s'.os=s.os from I'.os) un I'.hok I'.bare hch
  have I3:Inv X pins σ (cb H' s.heap.objs.size (.lst vs)) s':=Inv.adopt I2 hDn (hch _ DinEx).1 (hch _ DinEx).2.1 (hch _ DinEx).2.2.1 (hch _ DinEx).2.2.2 ⟨by rw[<- rl.length]; exact hz,l,nn,rv,hD⟩
  have hCle:s.heap.objs.size<=h2.objs.size:=by rw[hCs]; exact JT _
  exact fin _ _ s' H' A' vs m hn hDn hDC (J2 (IH I.lt hCle)) (I.nofs hCle) I'.free (IC I.sz hCle) (fun x cc z=>ID (IH (cellLt x cc z) hCle))
   (fun p hp=>ID (IH (Iy (I.pin p hp).1) hCle)) I3 ex so' rl
 have loop:∀ s4:Shared,s4={ s3 with heap:=h₁,toks:=s3.toks+([]:List (Str×Value)).length }->
   codeAny (model X.prog X.w) X.A (.compLoop (.ListComp elt [⟨tg,iter,ifs,0⟩] scope pos) 0 (.ref it) (.ref s.heap.objs.size) (compEnvC scope cl h2.objs.size X.env)) (RR (.ref s.heap.objs.size) h2.objs.size) s4:=by
  rintro s4 rfl;refine gG (fun k s5=>∃ i σ5 H5 A5 ρ5 S5 done its nn vs ys,Inv (lW X scope cl h2.objs.size N s3 H (fp++[s.heap.objs.size])) [] σ5 H5 s5/\tn i s5.heap/\(∀ b∈fp,H5 b=none)/\s5.heap.get? s.heap.objs.size=some { cls:=.type "list",data:=.seq (its:List Value).toArray nn }/\H5 s.heap.objs.size=none/\Vals vs its/\
   Ext X.K A H A5 H5/\EnvRel X.K A5 H5 ρ5 σ5/\StoreOk X.w X.K A5 H5 S5/\RelL X.K A5 H5 done vs/\ws=done++ys/\bU mi g c f k i ρ5 S5=some (ys,S')) ?_ n
   ⟨0,_,H,A,_,S,[],[],0,[],ws,I0,t1,fun b hb=>(hfp b hb).1,k1 _ _ hD2,fresh _ (Ip _),.nil,.refl,er0,so,.nil,rfl,e⟩
  rintro k s5 ⟨i,σ5,H5,A5,ρ5,S5,done,its,nn,vs,ys,I5,t5,f5,d5,n5,v5,e5,er5,so5,rl5,hw5,w5⟩;have pinD:Inv (lW X scope cl h2.objs.size N s3 H (fp++[s.heap.objs.size])) [(s.heap.objs.size,{ cls:=.type "list",data:=.seq its.toArray nn })] σ5 H5 s5:=I5.pins_of fun p hp=>by
   have hp':p=(s.heap.objs.size,{ cls:=.type "list",data:=.seq its.toArray nn }):=by simpa using hp
   subst hp';exact⟨d5,n5,hDC,fun z=>Jp _ (stkLt _ z),fun v z=>by cases z⟩
  have oneD:∀ p∈[(s.heap.objs.size,({ cls:=.type "list",data:=.seq its.toArray nn }:Obj))],p.1=s.heap.objs.size:=fun p hp=>by
   have hp':p=(s.heap.objs.size,{ cls:=.type "list",data:=.seq its.toArray nn }):=by simpa using hp
   rw[hp']
  cases k with
  | zero=>
   simp only[bU]at w5;split at w5
   ·rename_i hst;cases w5;rw[(Jy)]at hw5;subst hw5;refine bS (T.done (lW X scope cl h2.objs.size N s3 H (fp++[s.heap.objs.size])) rfl rfl rfl hc i _ s5 σ5 H5 _ pinD (fpOk' f5 oneD) t5 (mit.stop A5 H5 _ i e5 so5 hst)) fun r s6 ⟨hr,I6⟩=>?_
    subst hr;have p6:=I6.pin _ (II _ (IN.mpr rfl));exact theEnd s6 σ5 H5 A5 vs _ nn (I6.pins_of fun p hp=>absurd hp (by simp)) p6.1 ⟨its,rfl,v5⟩ n5 e5 so5 rl5
   ·cases w5
  | succ k=>
   simp only[bU]at w5;split at w5
   ·rename_i w hw;obtain⟨go,yl⟩:=mit.go A5 H5 S5 i w e5 so5 hw;refine bS (T.item (lW X scope cl h2.objs.size N s3 H (fp++[s.heap.objs.size])) rfl rfl rfl hc i _ s5 σ5 H5 _ pinD (fpOk' f5 oneD) t5 go) fun r s6 ⟨u,hr,h6⟩=>?_
    subst hr;refine bS h6 fun _ s7 ⟨x,H7,I7,r7,y7,t7,f7⟩=>?_
    obtain⟨x1,x2,x3⟩:=yl x H7 y7;have I7':=I7.pinned (fpOk' f7 oneD) (T.obj _ _ t7);split at w5
    ·rename_i ρ8 S8 h8;refine bS (bk.tgt _ _ _ _ _ s7 σ5 H7 x u (fun σ' H'=>∃ A',Ext X.K A5 H5 A' H'/\StoreOk X.w X.K A' H' S8/\EnvRel X.K A' H' ρ8 σ') I7' r7 ⟨A5,ρ5,S5,w,ρ8,S8,er5.mono x1,x2,x3,h8,fun σ' H' A' q1 q2 q3=>⟨A',x1.trans q1,q2,q3⟩⟩) fun _ s8 ⟨σ8,H8,I8,A8,e58,so8,er8⟩=>?_
     have e8:Ext X.K A H A8 H8:=e5.trans e58;have pD:∀ {σ':L2.St} {H':Hp} {s':Shared},Inv (lW X scope cl h2.objs.size N s3 H (fp++[s.heap.objs.size])) ([(s.heap.objs.size,{ cls:=.type "list",data:=.seq its.toArray nn })]++jb fp s7.heap) σ' H' s'->s'.heap.get? s.heap.objs.size=some { cls:=.type "list",data:=.seq its.toArray nn }/\H' s.heap.objs.size=none:=fun I'=>
      let q:=I'.pin _ (II _ (Jv _ (IN.mpr rfl)))
      ⟨q.1,q.2.1⟩
     have pF:∀ {σ':L2.St} {H':Hp} {s':Shared},Inv (lW X scope cl h2.objs.size N s3 H (fp++[s.heap.objs.size])) ([(s.heap.objs.size,{ cls:=.type "list",data:=.seq its.toArray nn })]++jb fp s7.heap) σ' H' s'->(∀ b∈fp,H' b=none)/\∀ b∈fp,∀ o,s7.heap.get? b=some o->s'.heap.get? b=some o:=fun I'=>
      ⟨fun b hb=>by
       obtain⟨o,eo,_⟩:=T.obj _ _ t7 b hb;exact(I'.pin (b,o) (II _ (II _ (fu hb eo)))).2.1,
       fun b hb o eo=>(I'.pin (b,o) (II _ (II _ (fu hb eo)))).1⟩
     split at w5
     ·rename_i S9 h9;refine bS (bk.tst _ _ _ _ _ s8 σ8 H8 (fun b H'=>b=true/\∃ A',Ext X.K A8 H8 A' H'/\StoreOk X.w X.K A' H' S9) I8 ⟨A8,ρ8,S8,true,S9,er8,so8,h9,fun b H' ⟨z0,A',z1,z2⟩=>⟨z0,A',z1,z2⟩⟩) fun b s9 ⟨H9,I9,z0,A9,e9,so9⟩=>?_
      subst z0;rw[if_pos rfl];split at w5
      ·rename_i y S10 h10;split at w5
       ·rename_i ys' S4 h11;cases w5;refine bS (bk.elt _ _ _ _ _ s9 σ8 H9 (EndV X.w X.K A9 H9 S10 y) I9 ⟨A9,ρ8,S9,y,S10,er8.mono e9,so9,h10,fun _ _ z=>z⟩) fun u10 s10 ⟨v10,H10,I10,r10,A10,e10,so10,rl10⟩=>?_
        obtain⟨d10,n10⟩:=pD I10;obtain⟨f10,k10⟩:=pF I10;have hlen:its.length < sizeLine:=by
         have l1:=v5.length;have l2:=rl5.length;rw[hw5,(Iv),(JN)]at hz;omega
        refine oB d10 hlen fun h' n' hd' hk'=>?_
        have Ib:Inv (lW X scope cl h2.objs.size N s3 H (fp++[s.heap.objs.size])) [] σ8 H10 { s10 with heap:=h' }:=by
         have Ia:Inv (lW X scope cl h2.objs.size N s3 H (fp++[s.heap.objs.size])) [] σ8 H10 s10:=I10.pins_of fun p hp=>absurd hp (by simp)
         exact Ia.turned (t':=s10.toks) (it:=s.heap.objs.size) hk' n10 hDC (.inl DinEx) cellD (fun p hp=>absurd hp (by simp[lW]))
        refine⟨k,Jx k,i+1,σ8,H10,A10,ρ8,S10,done++[y],its++[u10],n',vs++[v10],ys',Ib,?_,f10,hd',n10,v5.append (.cons r10 .nil),(e8.trans e9).trans e10,(er8.mono e9).mono e10,so10,?_,?_,h11⟩
        ·exact T.keep (i+1) s7.heap h' t7 fun b hb o eo=>hk' b o (fpD b hb) (k10 b hb o eo)
        ·exact(rl5.mono ((e58.trans e9).trans e10)).append (.cons rl10 .nil)
        ·rw[hw5,(JK)]; rfl
       ·cases w5
      ·cases w5
     ·rename_i S9 h9;refine bS (bk.tst _ _ _ _ _ s8 σ8 H8 (fun b H'=>b=false/\∃ A',Ext X.K A8 H8 A' H'/\StoreOk X.w X.K A' H' S9) I8 ⟨A8,ρ8,S8,false,S9,er8,so8,h9,fun b H' ⟨z0,A',z1,z2⟩=>⟨z0,A',z1,z2⟩⟩) fun b s9 ⟨H9,I9,z0,A9,e9,so9⟩=>?_
      subst z0;rw[if_neg Bool.false_ne_true];obtain⟨d9,n9⟩:=pD I9;obtain⟨f9,k9⟩:=pF I9;refine⟨k,Jx k,i+1,σ8,H9,A9,ρ8,S9,done,its,nn,vs,ys,I9.pins_of fun p hp=>absurd hp (by simp),T.keep (i+1) s7.heap _ t7 k9,f9,d9,n9,v5,e8.trans e9,er8.mono e9,so9,rl5.mono (e58.trans e9),hw5,w5⟩
     ·cases w5
    ·cases w5
   ·cases w5
 exact codeAny_compStart_list (loop _ rfl) (T.self X.A 0 _ _ _ t1 (loop _ rfl))
theorem qJ {fi:FI}{g:FG}{c:FT}{f:FE}{cap:List (Option Nat)}{ρ:Fm}{S:aa}{w:W}{S':aa}(e:li fi g c f cap ρ S=some (w,S')) :
  ∃ mi S1 n ys S2,fi ρ S=some (mi,S1)/\mi.len S1=some n/\bU mi g c f n 0 (hW cap ρ) S1=some (ys,S2)/\ys.length<=sizeLine/\w=.ref S2.length/\S'=S2++[.lst ys]:=by
 unfold li at e;split at e
 ·rename_i mi S1 h1;split at e
  ·rename_i n h2;split at e
   ·rename_i ys S2 h3;obtain⟨h4,h5,h6⟩:=ko e;exact⟨mi,S1,n,ys,S2,h1,h2,h3,h4,h5,h6⟩
   ·cases e
  ·cases e
 ·cases e
theorem Bb {scope:Scope}{N:List Str}{cap:List (Option Nat)}{tg elt iter:Expr}{ifs:List Expr}{fi:FI}{g:FG}{c:FT}{f:FE}{pos:Pos}(hc:X.calm=true)(hi:GI X tg iter fi)(hck:X.Ok->∃ cl,CompOk X scope cl N cap/\BlockOk X scope cl N tg elt ifs g c f)
  (hs:∀ x,foldedSetIterable iter X.env x=pure x):GE X (.ListComp elt [⟨tg,iter,ifs,0⟩] scope pos) (li fi g c f cap):=by
 intro pins s σ H Q I ⟨A,ρ,S,w,S',er,so,e,hq⟩;obtain⟨mi,S1,n,ys,S2,h1,h2,h3,h4,rfl,rfl⟩:=qJ e;obtain⟨cl,ck,bk⟩:=hck I.ok;rw[eval_ListComp];refine wpAny_comprehension_free (use:=none) rfl hs ck.clos ck.kind ck.names (bS (hi pins s σ H (fun J H'=>∃ A',Ext X.K A H A' H'/\StoreOk X.w X.K A' H' S1/\MIt X.w X.K mi J A' H') I ⟨A,ρ,S,mi,S1,er,so,h1,fun J H' A' z1 z2 z3=>⟨A',z1,z2,z3⟩⟩) fun v s1 q1=>bS q1 fun itv s2 q2=>?_)
 obtain⟨it,fp,tn,J,H2,rfl,I2,T,t0,hfp,A2,e2,so2,mit⟩:=q2;refine nr (RR:=fun acc C=>compPost (model X.prog X.w) X.A X.xe none (EP X pins σ Q) acc C) I2 hc (er.mono e2) so2 ck bk T t0 hfp mit h3 h4 ?_
 intro D C s' H' A' vs m hn hDn hDC hCL hCf hCn hCs hCc hCp I3 ex so3 rl;refine⟨m,hn,fun h' hs'=>?_⟩
 have I4:Inv X pins σ (cb H' D (.lst vs)) { s' with heap:=h' }:=I3.turned (t':=s'.toks) (it:=C) (fun b o hb eo=>hs'.extBut b o hb eo) (by rw[aP (Ne.symm hDC)]; exact hCn) hCL (.inr hCs) hCc hCp
 exact⟨.ref D,_,I4,rfl,hq _ _ (EndV.after (e2.trans ex) (.lst so3 rl hDn))⟩
theorem sA {scope:Scope}{N:List Str}{cap:List (Option Nat)}{tg elt iter:Expr}{ifs:List Expr}{fi:FI}{g:FG}{c:FT}{f:FE}{pos py spos:Pos}{y:Str}{i:Nat}(hc:X.calm=true)(hi:GI X tg iter fi)(hck:X.Ok->∃ cl,CompOk X scope cl N cap/\BlockOk X scope cl N tg elt ifs g c f)
  (hs:∀ x,foldedSetIterable iter X.env x=pure x) (hsw:swapsWith (.ListComp elt [⟨tg,iter,ifs,0⟩] scope pos) (some (.Name y py)) spos.line X.env=pure true) (hN:X.N.Nodup) (hy:X.N[i]?=some y) (hl:X.env.scope.names.lookup y=some .local) :
  GS X (.Assign [.Name y py] (.ListComp elt [⟨tg,iter,ifs,0⟩] scope pos) spos) (lh (li fi g c f cap) (BZ i)):=by
 intro pins s σ H Dd I ⟨A,ρ,S,o,S',er,so,e,hd⟩;unfold lh at e;split at e
 ·rename_i w S0 h0;simp only[BZ]at e;cases e;obtain⟨mi,S1,n,ys,S2,h1,h2,h3,h4,rfl,rfl⟩:=qJ h0;obtain⟨cl,ck,bk⟩:=hck I.ok;rw[exec_Assign_Name_used _ _ _ _ hsw];refine Ij (KG (Ij ?_));show wpAny _ X.A (do let _ <- comprehension (.ListComp elt [⟨tg,iter,ifs,0⟩] scope pos) scope X.env _ (newList []) false (eval iter X.env) (some (assign (.Name y py) X.env))) _ _ s
  refine Ij (Jt (wpAny_comprehension_free (use:=some (assign (.Name y py) X.env)) (Q:=fun _ s'=>SP X pins Dd .next s') rfl hs ck.clos ck.kind ck.names
   (bS (hi pins s σ H (fun J H'=>∃ A',Ext X.K A H A' H'/\StoreOk X.w X.K A' H' S1/\MIt X.w X.K mi J A' H') I ⟨A,ρ,S,mi,S1,er,so,h1,fun J H' A' z1 z2 z3=>⟨A',z1,z2,z3⟩⟩) fun v s1 q1=>bS q1 fun itv s2 q2=>?_)) (fun _ s' hq=>Il (Il hq)) fun _ _ e=>e)
  obtain⟨it,fp,tn,J,H2,rfl,I2,T,t0,hfp,A2,e2,so2,mit⟩:=q2;refine nr (RR:=fun acc C=>compPost (model X.prog X.w) X.A X.xe (some (assign (.Name y py) X.env)) (fun _ s'=>SP X pins Dd .next s') acc C) I2 hc (er.mono e2) so2 ck bk T t0 hfp mit h3 h4 ?_
  intro D C s' H' A' vs m hn hDn hDC hCL hCf hCn hCs hCc hCp I3 ex so3 rl;obtain⟨oC,esC,epC,hoC,hdC,hrC⟩:=id hn;have I3':Inv X (pins++[(C,oC)]) σ (cb H' D (.lst vs)) s':=I3.pins_of fun p hp=>by
   rcases IL.mp hp with hp|hp
   ·exact I3.pin p (II _ hp)
   ·have hp':p=(C,oC):=by simpa using hp
    subst hp';exact⟨hoC,by rw[aP (Ne.symm hDC)]; exact hCn,hCL,hCf,fun v z=>by rw[hdC]at z; cases z⟩
  show wpAny _ X.A (assign (.Name y py) X.env (.ref D)) _ _ _;refine wpAny_assign_Name (iu I3' hN hy (.inl hl) (v:=.ref D) rfl (fun s4 I4=>?_) (.inr hl))
  have pC:=I4.pin (C,oC) (II _ (II _ (IN.mpr rfl)));refine⟨m,⟨oC,esC,epC,pC.1,hdC,hrC⟩,fun h' hs'=>?_⟩
  have I5:Inv X pins (σ.set i (some (.ref D))) (cb H' D (.lst vs)) s4:=I4.pins_of fun p hp=>I4.pin p (II _ (Jv _ hp))
  have I6:Inv X pins (σ.set i (some (.ref D))) (cb H' D (.lst vs)) { s4 with heap:=h' }:=I5.turned (t':=s4.toks) (it:=C) (fun b o hb eo=>hs'.extBut b o hb eo) (by rw[aP (Ne.symm hDC)]; exact hCn) hCL (.inr hCs) hCc hCp
  obtain⟨Af,f1,f2,f3⟩:=EndV.after (e2.trans ex) (EndV.lst so3 rl hDn);exact⟨_,_,I6,hd.nx _ _ ⟨_,Af,rfl,f1,f2,(er.mono f1).set f3 i⟩⟩
 ·cases e
end
noncomputable def Bc (g1 g2:List W->aa->Option (W×aa))(xs:List W)(S:aa):Option (W×aa):=match g1 xs S with
 | some r=>some r
 | none=>g2 xs S
theorem qK {X:Cx}{f:Value}{g1 g2:List W->aa->Option (W×aa)}(h1:LCall X f g1)(h2:LCall X f g2):LCall X f (Bc g1 g2):=by
 intro pins s σ H A S xs vs us w S' I so rl rv e;unfold Bc at e;split at e
 ·rename_i r hr;cases e;exact h1 pins s σ H A S xs vs us w S' I so rl rv hr
 ·exact h2 pins s σ H A S xs vs us w S' I so rl rv e
inductive Bi where|len|list|tuple|int|set|sorted|range|all|min
 deriving DecidableEq
noncomputable def Bi.fn:Bi->List W->aa->Option (W×aa)
 | .len=>sf|.list=>Bc jO mY|.tuple=>jk|.int=>EY|.set=>lc|.sorted=>Bc cV fD|.range=>jh|.all=>Av|.min=>Au
noncomputable def Bi.name:Bi->Str
 | .len=>"len"|.list=>"list"|.tuple=>"tuple"|.int=>"int"|.set=>"set"|.sorted=>"sorted"|.range=>"range"|.all=>"all"|.min=>"min"
inductive Me where|append|extend|join|pop|get
 deriving DecidableEq
noncomputable def Me.fn:Me->W->List W->aa->Option (W×aa)
 | .append=>iB|.extend=>iC|.join=>sZ|.pop=>As|.get=>tq
noncomputable def Me.name:Me->Str
 | .append=>"append"|.extend=>"extend"|.join=>"join"|.pop=>"pop"|.get=>"get"
noncomputable def Me.ty:Me->String
 | .append=>"list"|.extend=>"list"|.join=>"str"|.pop=>"list"|.get=>"dict"
inductive Tg where
 | nm (i:Nat)|tp (is:List Nat)
set_option genSizeOf false in
set_option genInjectivity false in
mutual
inductive E where
 | c (w:W)|v (i:Nat)
 | op (o:BOp) (a b:E)
 | cmp (o:COp) (a b:E)
 | and (a b:E)|or (a b:E)|not (a:E)
 | own (f:Str) (n:Nat) (es:Es)|bi (b:Bi) (es:Es)|me (m:Me) (o:E) (es:Es)
 | ix (a b:E)|sl (a:E) (lo hi:Ep)|tup (es:Es)|lst (es:Es)
 | isi (c:String) (a:E)
 | neg (a:E)|dnew|disp (es:Es)|ite (t a b:E)
 | comp (elt:E) (tg:Tg) (it:Ie) (cs:Es) (cap:List (Option Nat))
inductive Es where
 | nil|cons (e:E) (es:Es)
inductive Ep where
 | no|yes (e:E)
inductive Ie where
 | seq (e:E)|rng (es:Es)|rng2 (es:Es)
end
set_option genSizeOf false in
set_option genInjectivity false in
mutual
inductive Sm where
 | set (i:Nat) (e:E)|asg (is:List Nat) (e:E)|par (i j:Nat) (es:Es)|put (o k e:E)
 | ex (e:E)|ret (e:E)|retN|pass|brk|cont|bad
 | ite (t:E) (a b:Ss)|whl (t:E) (b:Ss)|loop (tg:Tg) (it:Ie) (b:Ss)
inductive Ss where
 | nil|cons (s:Sm) (ss:Ss)
end
noncomputable def hX:Tg->FG
 | .nm i=>BZ i
 | .tp is=>Em is
section
variable (Φ:Str->FF)
mutual
noncomputable def aF:E->FE
 | .c w=>fC w
 | .v i=>fV i
 | .op o a b=>Ax (fS o) (aF a) (aF b)
 | .cmp o a b=>Ay o (aF a) (aF b)
 | .and a b=>tQ (aF a) (aF b)
 | .or a b=>AC (aF a) (aF b)
 | .not a=>tR (aF a)
 | .own f n es=>qE n (Φ f) (dC es)
 | .bi b es=>jT b.fn (dC es)
 | .me m o es=>El m.ty m.fn (aF o) (dC es)
 | .ix a b=>Ha (aF a) (aF b)
 | .sl a lo hi=>E8 (aF a) (tY lo) (tY hi)
 | .tup es=>xL (dC es)
 | .lst es=>xM (dC es)
 | .isi c a=>xW c (aF a)
 | .neg a=>xG (aF a)
 | .dnew=>B0
 | .disp es=>qI (dC es)
 | .ite t a b=>AD (db t) (aF a) (aF b)
 | .comp elt tg it cs cap=>li (nt it) (hX tg) (Bd cs) (aF elt) cap
noncomputable def db:E->FT
 | .cmp o a b=>xI (Ay o (aF a) (aF b))
 | .and a b=>xJ (db a) (db b)
 | .or a b=>E5 (db a) (db b)
 | .not a=>Az (db a)
 | .c w=>gF (fC w)
 | .v i=>gF (fV i)
 | .op o a b=>gF (Ax (fS o) (aF a) (aF b))
 | .own f n es=>gF (qE n (Φ f) (dC es))
 | .bi b es=>gF (jT b.fn (dC es))
 | .me m o es=>gF (El m.ty m.fn (aF o) (dC es))
 | .ix a b=>gF (Ha (aF a) (aF b))
 | .sl a lo hi=>gF (E8 (aF a) (tY lo) (tY hi))
 | .tup es=>gF (xL (dC es))
 | .lst es=>gF (xM (dC es))
 | .isi c a=>gF (xW c (aF a))
 | .neg a=>gF (xG (aF a))
 | .dnew=>fun _ _=>none
 | .disp _=>fun _ _=>none
 | .ite _ _ _=>fun _ _=>none
 | .comp _ _ _ _ _=>fun _ _=>none
noncomputable def dC:Es->FA
 | .nil=>lg
 | .cons e es=>eY (aF e) (dC es)
noncomputable def Bd:Es->FT
 | .nil=>B1
 | .cons e .nil=>db e
 | .cons _ (.cons _ _)=>fun _ _=>none
noncomputable def tY:Ep->FO
 | .no=>Dj
 | .yes e=>tV (aF e)
noncomputable def nt:Ie->FI
 | .seq e=>fL (aF e)
 | .rng es=>vw (dC es)
 | .rng2 es=>iRng2 (dC es)
end
variable (fuel:Nat)
mutual
noncomputable def fX:Sm->FS
 | .set i e=>lh (aF Φ e) (BZ i)
 | .asg is e=>lh (aF Φ e) (Em is)
 | .par i j es=>AS i j (dC Φ es)
 | .put o k e=>lh (aF Φ e) (AR (aF Φ o) (aF Φ k))
 | .ex e=>AK (aF Φ e)
 | .ret e=>AN (aF Φ e)
 | .retN=>fun _ S=>some (.rt .non,S)
 | .pass=>xR
 | .brk=>fun ρ S=>some (.bk ρ,S)
 | .cont=>fun ρ S=>some (.ct ρ,S)
 | .bad=>fun _ _=>none
 | .ite t a b=>AQ (db Φ t) (fY a) (fY b)
 | .whl t b=>oA (db Φ t) (fY b) fuel
 | .loop tg it b=>xU (nt Φ it) (hX tg) (fY b)
noncomputable def fY:Ss->FS
 | .nil=>fun ρ S=>some (.nx ρ,S)
 | .cons s ss=>AJ (fX s) (fY ss)
end
end
structure Gam where
 sc:List (Str×NameKind)
 N:List Str
 fns:List (Str×Nat)
 blt:List Str
 dfn:Bool
noncomputable def Dv:Option NameKind->Bool
 | some .local=>true|some .cell=>true|some .free=>true|_=>false
noncomputable def Be:Option NameKind->Bool
 | some .cell=>true|some .free=>true|_=>false
noncomputable def fZ (names outer:List (Str×NameKind)):List (Str×NameKind):=names.map fun(n,k)=>if (k==.free&&outer.lookup n==some .cell)then(n,.cell)else(n,k)
noncomputable def slot (Γ:Gam)(x:Str):Option Nat:=if Dv (Γ.sc.lookup x) && !(x==("__debug__" : Str)) && !(x==("__classdict__" : Str))then Γ.N.findIdx? (· == x)else none
noncomputable def tZ:Operator->Option BOp
 | .Add=>some .add|.Sub=>some .sub|.Mult=>some .mul|.FloorDiv=>some .fdiv|.Mod=>some .mod|.Pow=>some .pow|_=>none
noncomputable def t4:CmpOp->Option COp
 | .Eq=>some .eq|.NotEq=>some .ne|.Lt=>some .lt|.LtE=>some .le|.Gt=>some .gt|.GtE=>some .ge|.In=>some .isin|.NotIn=>some .notin|.Is=>some .is|.IsNot=>some .isnot
noncomputable def Bf (x:Str):Option Bi:=[Bi.len,.list,.tuple,.int,.set,.sorted,.range,.all,.min].find? fun b=>b.name==x
noncomputable def Bg (x:Str):Option Me:=[Me.append,.extend,.join,.pop,.get].find? fun b=>b.name==x
noncomputable def Fe (Γ:Gam)(x:Str):Bool:=Γ.sc.lookup x==some .globalImplicit && !(x==("__debug__" : Str))
noncomputable def xZ (x:Str):Option String:=if x==("bool" : Str)then some "bool" else if x==("int" : Str)then some "int" else if x==("str" : Str)then some "str" else if x==("tuple" : Str)then some "tuple" else if x==("list" : Str)then some "list" else if x==("dict" : Str)then some "dict" else none
noncomputable def t8:List (Option Expr)->List Expr->List Expr
 | some k::ks,v::vs=>k::v::t8 ks vs
 | _,_=>[]
noncomputable def Bh (Γ:Gam)(f:Expr->Option E):List Expr->Option E
 | [a,.Name c _]=>if Fe Γ c&&Γ.blt.contains c then match xZ c,f a with
  | some cs,some a'=>some (.isi cs a')
  | _,_=>none
  else none
 | _=>none
noncomputable def gx:Expr->Bool
 | .Name _ _=>true|.Constant _ _ _=>true|.Subscript _ _ _=>true|_=>false
noncomputable def oE (Γ:Gam)(x:Str):Bool:=Γ.sc.lookup x==some .globalImplicit && !(x==("__debug__" : Str))
noncomputable def dY (Γ:Gam)(x:Str):Option Nat:=if (Γ.sc.lookup x==some .local)||(Γ.dfn&&Γ.sc.lookup x==some .cell)then Γ.N.findIdx? (· == x)else none
noncomputable def cA (f:Expr->Option E)(es:List Expr):Option Es:=es.foldr (fun e acc=>match f e,acc with|some e',some es'=>some (.cons e' es')|_,_=>none) (some .nil)
noncomputable def cB (f:Expr->Option E)(op:BoolOp):List Expr->Option E
 | []=>none
 | [a]=>f a
 | a::b::bT=>match f a,cB f op (b::bT)with
  | some a',some b'=>some (match op with|.And=>.and a' b'|.Or=>.or a' b')
  | _,_=>none
noncomputable def cP (f:Expr->Option E):Option Expr->Option Ep
 | none=>some .no
 | some e=>(f e).map .yes
noncomputable def isTup:Expr->Bool
 | .Tuple _ _ _=>true
 | _=>false
noncomputable def cI (Γ:Gam)(f:Expr->Option E)(tg:Expr):Expr->Option Ie
 | .Call (.Name x p) [a] [] q=>if x==("range" : Str)&&oE Γ x&&Γ.blt.contains x then(cA f [a]).map .rng else(f (.Call (.Name x p) [a] [] q)).map .seq
 | .Call (.Name x p) [a,b] [] q=>if x==("range" : Str)&&oE Γ x&&Γ.blt.contains x then(cA f [a,b]).map .rng2 else(f (.Call (.Name x p) [a,b] [] q)).map .seq
 | e=>(f e).map .seq
noncomputable def Ff (Γ:Gam):List Expr->Option (List Nat)
 | []=>some []
 | .Name x _::ts=>match dY Γ x,Ff Γ ts with
  | some i,some is=>some (i::is)
  | _,_=>none
 | _::_=>none
noncomputable def cT (Γ:Gam):Expr->Option Tg
 | .Name x _=>(dY Γ x).map .nm
 | .Tuple ts _ _=>(Ff Γ ts).map .tp
 | _=>none
noncomputable def gR (names:List (Str×NameKind)):List Str:=(names.filter fun p=>p.2==.local||p.2==.free).map (·.1)
noncomputable def gy (Γ:Gam)(names:List (Str×NameKind)):List (Option Nat):=(gR names).map fun x=>if names.lookup x==some .local then none else Γ.N.findIdx? (· == x)
noncomputable def x5 (Γ:Gam)(scope:Scope):Bool:=
 (scope.kind==.function)&&scope.names.all (fun y=>!(y.2==.local)||scope.names.lookup y.1==some .local)&&scope.names.all (fun y=>!(y.2==.cell)) &&
 scope.names.all (fun y=>!(y.2==.free)||(Be (Γ.sc.lookup y.1)&&scope.names.lookup y.1==some .free&&(Γ.N.findIdx? (· == y.1)).isSome))&&decide (gR scope.names).Nodup
noncomputable def gS (Γ:Gam)(scope:Scope):Gam:={ Γ with sc:=fZ scope.names Γ.sc,N:=gR scope.names,dfn:=false }
noncomputable def ya (f:Expr->Option E)(keys:List (Option Expr))(values:List Expr):Option E:=
 if keys.isEmpty&&values.isEmpty then some .dnew
 else if keys.all (·.isSome)&&decide (keys.length=values.length)&&decide (keys.length<=15)then(cA f (t8 keys values)).map .disp else none
noncomputable def cE:Nat->Gam->Expr->Option E
 | 0,_,_=>none
 | n+1,Γ,e=>match e with
  | .Constant (.int i) _ _=>some (.c (.int i))
  | .Constant (.str x) _ _=>some (.c (.str x))
  | .Constant (.bool b) _ _=>some (.c (.bl b))
  | .Constant .none _ _=>some (.c .non)
  | .Name x _=>match slot Γ x with
   | some i=>some (.v i)
   | none=>none
  | .BinOp a op b _=>match tZ op,cE n Γ a,cE n Γ b with
   | some o,some a',some b'=>some (.op o a' b')
   | _,_,_=>none
  | .UnaryOp .Not a _=>(cE n Γ a).map .not
  | .UnaryOp .USub a _=>(cE n Γ a).map .neg
  | .BoolOp op vs _=>cB (cE n Γ) op vs
  | .Compare a [op] [b] _=>match t4 op,cE n Γ a,cE n Γ b with
   | some o,some a',some b'=>some (.cmp o a' b')
   | _,_,_=>none
  | .IfExp t a b _=>match cE n Γ t,cE n Γ a,cE n Γ b with
   | some t',some a',some b'=>some (.ite t' a' b')
   | _,_,_=>none
  | .Call (.Name f _) args [] _=>if oE Γ f then match Γ.fns.lookup f with
    | some k=>(cA (cE n Γ) args).map (.own f k)
    | none=>if f==("isinstance" : Str)then(if Γ.blt.contains f then Bh Γ (cE n Γ) args else none)else match Bf f,args with
     | some b,a::as=>if Γ.blt.contains f then(cA (cE n Γ) (a::as)).map (.bi b)else none
     | _,_=>none
   else none
  | .Call (.Attribute o m apos) (a::as) [] cpos=>match Bg m,cE n Γ o,cA (cE n Γ) (a::as)with
   | some m',some o',some es=>if gx o&&(apos.endLine==cpos.line)&&decide ((a::as).length < 29)then some (.me m' o' es)else none
   | _,_,_=>none
  | .Subscript a (.Slice lo hi none _) _=>match cE n Γ a,cP (cE n Γ) lo,cP (cE n Γ) hi with
   | some a',some lo',some hi'=>some (.sl a' lo' hi')
   | _,_,_=>none
  | .Subscript a b _=>match cE n Γ a,cE n Γ b with
   | some a',some b'=>some (.ix a' b')
   | _,_=>none
  | .Tuple es _ _=>(cA (cE n Γ) es).map .tup
  | .List es _=>(cA (cE n Γ) es).map .lst
  | .Dict keys values _=>ya (cE n Γ) keys values
  | .ListComp elt [⟨tg,iter,ifs,asy⟩] scope _=>if (asy==0)&&(x5 Γ scope&&decide (ifs.length<=1))then
    match cI Γ (cE n Γ) tg iter,cT (gS Γ scope) tg,cA (cE n (gS Γ scope)) ifs,cE n (gS Γ scope) elt with
    | some it,some t,some cs,some el=>some (.comp el t it cs (gy Γ scope.names))
    | _,_,_,_=>none
   else none
  | _=>none
structure CtxOk (Φ:Str->FF)(X:Cx)(Γ:Gam):Prop where
 names:X.env.scope.names=Γ.sc
 kind:X.env.scope.kind=.function
 N:X.N=Γ.N
 nd:Γ.N.Nodup
 calm:X.calm=true
 xe:X.xe=fun _ _=>False
 un:X.A.units+g8 < cLine
 dfn:Γ.dfn=true->∀ x,X.fn x=true
 blt:∀ x∈Γ.blt,X.mg x=none
 fns:∀ f n,Γ.fns.lookup f=some n->∃ k fa fd ps,FnOk X.prog X.w X.K X.mg X.base vV k fa fd ps (xP X.w X.K n (Φ f))/\Room k X.A/\X.mg f=some (.ref fa)/\PySem.W.keepIn X.K (.ref fa)=true/\Binds X.K fd ps []
theorem a9 {α:Type}{x:α}{P:Prop}(h:(none:Option α)=some x):P:=nomatch h
noncomputable def hZ:Expr->Bool
 | .Starred _ _=>false
 | _=>true
theorem aA {e:Expr}{es:List Expr}{env:Env}(h:hZ e=true):starEach (e::es) env=(false,eval e env)::starEach es env:=by
 cases e <;> first|rfl|cases h
theorem bD {env:Env}{pos:Pos}:∀ {es:List Expr},es.all hZ=true->(backTo pos (starEach es env)).any (·.1)=false
 | [],_=>rfl
 | e::es,h=>by
  rw[(Jk),(Iq)]at h;rw[aA h.1];show(false||(backTo pos (starEach es env)).any (·.1))=false
  rw[bD h.2];rfl
theorem qL {env:Env}{pos:Pos}:∀ {es:List Expr},es.all hZ=true->(backTo pos (starEach es env)).all (fun x=>!x.1)=true
 | [],_=>rfl
 | e::es,h=>by
  rw[(Jk),(Iq)]at h;rw[aA h.1];show(true&&(backTo pos (starEach es env)).all (fun x=>!x.1))=true
  rw[qL h.2];rfl
theorem jn {n:Nat}{Γ:Gam}{e:Expr}{e':E}(h:cE n Γ e=some e'):hZ e=true:=by
 cases n with
 | zero=>cases h
 | succ n=>cases e <;> first|rfl|(exact a9 h)
theorem iN {f:Expr->Option E}{e:Expr}{es:List Expr}{r:Es}(h:cA f (e::es)=some r):∃ e' es',f e=some e'/\cA f es=some es'/\r=.cons e' es':=by
 simp only[cA,List.foldr_cons]at h;split at h
 ·rename_i e' es' h1 h2;cases h;exact⟨e',es',h1,h2,rfl⟩
 ·cases h
theorem di {n:Nat}{Γ:Gam}:∀ {es:List Expr} {r:Es},cA (cE n Γ) es=some r->es.all hZ=true
 | [],_,_=>rfl
 | e::es,r,h=>by
  obtain⟨e',es',h1,h2,_⟩:=iN h;rw[(Jk),jn h1,di h2];rfl
theorem dD {N:List Str}{x:Str}{i:Nat}(h:N.findIdx? (· == x)=some i):N[i]?=some x:=by
 obtain⟨hl,h1,_⟩:=List.findIdx?_eq_some_iff_getElem.mp h;rw[List.getElem?_eq_getElem hl];exact congrArg some (eq_of_beq h1)
section
variable {Φ:Str->FF} {X:Cx} {Γ:Gam}
theorem kC {e:Expr}:GT X e (fun _ _=>none):=fun pins s σ H Q I ⟨A,ρ,S,k,S',er,so,e1,hq⟩=>by cases e1
theorem yb {x:Str}(h:Dv (X.env.scope.names.lookup x)=true):Ge X.env.scope x:=by
 unfold Dv at h;split at h
 ·exact .inl (by assumption)
 ·exact .inr (.inl (by assumption))
 ·exact .inr (.inr (by assumption))
 ·cases h
theorem yc (K:CtxOk Φ X Γ){x:Str}{pos:Pos}{i:Nat}(h:slot Γ x=some i):GE X (.Name x pos) (fV i):=by
 unfold slot at h;split at h
 ·rename_i hc;rw[(Iq),(Iq)]at hc;obtain⟨⟨h1,h2⟩,h3⟩:=hc;refine G9 (vZ (by rw[K.N]; exact dD h) (yb (by rw[K.names]; exact h1)) (by simpa using h2) (by simpa using h3))
 ·cases h
theorem nu (K:CtxOk Φ X Γ){x:Str}(h:oE Γ x=true):Gl X x/\(x==("__debug__" : Str))=false:=by
 unfold oE at h;rw[(Iq)]at h;refine⟨?_,by simpa using h.2⟩
 show X.env.scope.names.lookup x=_;rw[K.names];exact eq_of_beq h.1
theorem yd {o:CmpOp}{c:COp}(h:t4 o=some c):c.py=o:=by
 cases o <;> (simp only[t4,Option.some.injEq]at h; subst h; rfl)
theorem ye {o:Operator}{c:BOp}(h:tZ o=some c):c.py=o:=by
 cases o <;> simp only[tZ,Option.some.injEq]at h <;> first|(subst h; rfl)|cases h
theorem vz {x:Str}{b:Bi}(h:Bf x=some b):b.name=x:=by
 have:=List.find?_some h;exact eq_of_beq this
theorem vA {x:Str}{b:Me}(h:Bg x=some b):b.name=x:=by
 have:=List.find?_some h;exact eq_of_beq this
theorem ee {n:Nat}(ih:∀ {e:Expr} {e':E},cE n Γ e=some e'->GE X e (aF Φ e')):∀ {es:List Expr} {r:Es},cA (cE n Γ) es=some r->GA X es (dC Φ r)
 | [],r,h=>by cases h; exact Di
 | e::es,r,h=>by
  obtain⟨e',es',h1,h2,rfl⟩:=iN h;exact AE (ih h1) (ee ih h2) (aA (jn h1))
theorem Fg (K:CtxOk Φ X Γ){n:Nat}{f:Str}{p pos:Pos}{args:List Expr}{k:Nat}{r:Es}(hg:oE Γ f=true)(hf:Γ.fns.lookup f=some k)(ha:cA (cE n Γ) args=some r)(h:GA X args (dC Φ r)):GE X (.Call (.Name f p) args [] pos) (qE k (Φ f) (dC Φ r)):=by
 obtain⟨d,fa,fd,ps,F,hr,hm,hk,hb⟩:=K.fns f k hf;obtain⟨g1,g2⟩:=nu K hg;cases args with
 | nil=>cases ha; exact AH F hr g1 hm hk hb g2
 | cons a as=>
  have ns:=di ha;rw[(Jk),(Iq)]at ns;exact Dk F hr g1 hm hk hb h g2 (aA ns.1) (bD ns.2)
theorem Hc (K:CtxOk Φ X Γ){n:Nat}{f:Str}{p pos:Pos}{a:Expr}{as:List Expr}{b:Bi}{r:Es}(hg:oE Γ f=true)(hb:Bf f=some b)(hc:Γ.blt.contains f=true)(ha:cA (cE n Γ) (a::as)=some r)(h:GA X (a::as) (dC Φ r)):GE X (.Call (.Name f p) (a::as) [] pos) (jT b.fn (dC Φ r)):=by
 obtain⟨g1,g2⟩:=nu K hg;have hm:X.mg f=none:=K.blt f (by simpa using hc)
 have ns:=di ha;rw[(Jk),(Iq)]at ns;have e:=vz hb;subst e;have hu:X.A.units+12 < cLine:=by have:=K.un; have:g8=20:=rfl; omega
 have calm:∀ {f:Value} {g:List W->aa->Option (W×aa)},(X.A.handled=none->LCall X f g)->LCall X f g:=fun h pins s σ H A S xs vs us w S' I=>h (I.ok.hd K.calm) pins s σ H A S xs vs us w S' I
 cases b with
 | len=>exact tU sy g1 hm PySem.boot_len h (by decide) g2 (aA ns.1) (bD ns.2)
 | list=>exact qC (calm fun hh=>qK (p8 hh) (qr hh)) g1 hm rfl h (by decide) g2 (aA ns.1) (bD ns.2)
 | tuple=>exact qC (calm oz) g1 hm rfl h (by decide) g2 (aA ns.1) (bD ns.2)
 | int=>exact qC uW g1 hm rfl h (by decide) g2 (aA ns.1) (bD ns.2)
 | set=>exact qC (calm fun hh=>su hh hu) g1 hm rfl h (by decide) g2 (aA ns.1) (bD ns.2)
 | sorted=>exact tU (calm fun hh=>qK (qA hh hu) (ou hh hu)) g1 hm rfl h (by decide) g2 (aA ns.1) (bD ns.2)
 | range=>exact qC p7 g1 hm rfl h (by decide) g2 (aA ns.1) (bD ns.2)
 | all=>exact tU (calm vp) g1 hm rfl h (by decide) g2 (aA ns.1) (bD ns.2)
 | min=>exact tU (calm fun hh=>vn hh hu) g1 hm rfl h (by decide) g2 (aA ns.1) (bD ns.2)
theorem yf {x:Str}{c:String}(h:xZ x=some c):bootBuiltins x=some (.type c)/\x≠"__name__":=by
 unfold xZ at h;split at h
 ·rename_i e; cases h; rw[eq_of_beq e]; exact⟨rfl,by decide⟩
 ·split at h
  ·rename_i e; cases h; rw[eq_of_beq e]; exact⟨rfl,by decide⟩
  ·split at h
   ·rename_i e; cases h; rw[eq_of_beq e]; exact⟨rfl,by decide⟩
   ·split at h
    ·rename_i e; cases h; rw[eq_of_beq e]; exact⟨rfl,by decide⟩
    ·split at h
     ·rename_i e; cases h; rw[eq_of_beq e]; exact⟨rfl,by decide⟩
     ·split at h
      ·rename_i e; cases h; rw[eq_of_beq e]; exact⟨rfl,by decide⟩
      ·cases h
theorem Fh (K:CtxOk Φ X Γ){n:Nat}{f:Str}{p pos:Pos}{args:List Expr}{r:E}(hg:oE Γ f=true)(hb:(f==("isinstance" : Str))=true)(hc:Γ.blt.contains f=true)(ih:∀ {e:Expr} {e':E},cE n Γ e=some e'->GE X e (aF Φ e'))(h:Bh Γ (cE n Γ) args=some r) :
  GE X (.Call (.Name f p) args [] pos) (aF Φ r)/\∃ a c,r=.isi c a:=by
 obtain⟨g1,g2⟩:=nu K hg;have hm:X.mg f=none:=K.blt f (by simpa using hc)
 have e:=eq_of_beq hb;subst e;unfold Bh at h;split at h
 ·rename_i a c q;split at h
  ·rename_i hcc;rw[(Iq)]at hcc;obtain⟨g3,g4⟩:=nu K (x:=c) hcc.1;have hm2:X.mg c=none:=K.blt c (by simpa using hcc.2)
   split at h
   ·rename_i cs a' h1 h2;cases h;obtain⟨b1,b2⟩:=yf h1;exact⟨Dt g1 hm g3 hm2 b1 b2 g4 (ih h2) (aA (jn h2)),a',cs,rfl⟩
   ·cases h
  ·cases h
 ·cases h
theorem eZ {o:Expr}{name:Str}{env:Env}(h:gx o=true):attributeBase o name env (eval o env)=eval o env:=by
 cases o <;> first|rfl|cases h
theorem t9 {n:Nat}{pos:Pos}(ih:∀ {e:Expr} {e':E},cE n Γ e=some e'->GE X e (aF Φ e')):∀ (keys:List (Option Expr)) (values:List Expr) {r:Es},keys.all (·.isSome)=true->keys.length=values.length->cA (cE n Γ) (t8 keys values)=some r->Fd X pos keys values (dC Φ r)
 | [],[],r,_,_,h=>by cases h; exact AZ
 | [],_::_,r,_,hl,_=>by cases hl
 | _::_,[],r,_,hl,_=>by cases hl
 | none::_,_::_,r,ha,_,_=>by cases ha
 | some k::ks,v::vs,r,ha,hl,h=>by
  simp only[t8]at h;obtain⟨e1,es1,h1,h2,rfl⟩:=iN h;obtain⟨e2,es2,h3,h4,rfl⟩:=iN h2;rw[(Jk),(Iq)]at ha;exact xX (ih h1) (ih h3) (t9 ih ks vs ha.2 (by simpa using hl) h4)
theorem Hd (K:CtxOk Φ X Γ){n:Nat}{m:Str}{apos cpos:Pos}{o a:Expr}{as:List Expr}{b:Me}{o':E}{r:Es}(hm:Bg m=some b)(hr:gx o=true)(hl:(apos.endLine==cpos.line)=true)(hn:(a::as).length < 29)(ho:GE X o (aF Φ o'))(ha:cA (cE n Γ) (a::as)=some r)(h:GA X (a::as) (dC Φ r)) :
  GE X (.Call (.Attribute o m apos) (a::as) [] cpos) (El b.ty b.fn (aF Φ o') (dC Φ r)):=by
 have ns:=di ha;have ns':=ns;rw[(Jk),(Iq)]at ns;have kF:((backTo cpos (starEach (a::as) X.env)).all (fun x=>!x.1)&&(backToKw cpos (keywordEach [] X.env)).all (fun x=>x.1.isSome)&&decide ((a::as).length+([]:List Keyword).length+(if ([]:List Keyword).isEmpty then 0 else 1) < 30))=true:=by
  rw[qL ns',Bool.true_and,(Iq)];exact⟨rfl,Kx (by simp only[List.length_nil,List.isEmpty_nil,if_true]; omega)⟩
 have e:=vA hm;subst e;cases b with
 | append=>exact qD PySem.F.plainAttrs_list PySem.F.slot_list_append PySem.F.type_list_append n8 ho h (eZ hr) kF hl (aA ns.1) (bD ns.2)
 | extend=>exact qD PySem.F.plainAttrs_list PySem.F.slot_list_extend PySem.F.type_list_extend og ho h (eZ hr) kF hl (aA ns.1) (bD ns.2)
 | join=>exact qD PySem.F.plainAttrs_str PySem.F.slot_str_join PySem.F.type_str_join rZ ho h (eZ hr) kF hl (aA ns.1) (bD ns.2)
 | pop=>exact qD PySem.F.plainAttrs_list PySem.F.slot_list_pop PySem.F.type_list_pop uX ho h (eZ hr) kF hl (aA ns.1) (bD ns.2)
 | get=>exact qD PySem.F.plainAttrs_dict PySem.F.slot_dict_get PySem.F.type_dict_get (r9 (by have:=K.un; have:g8=20:=rfl; omega)) ho h (eZ hr) kF hl (aA ns.1) (bD ns.2)
theorem qM {n:Nat}{Γ:Gam}{e:Expr}{e':E}{op:CmpOp}(h:cE n Γ e=some e'):behindInMarks op e=false:=by
 cases n with
 | zero=>cases h
 | succ n=>cases e <;> first|rfl|(exact a9 h)
theorem sB {n:Nat}{Γ:Gam}{e:Expr}{e':E}(h:cE n Γ e=some e'):nU e:=by
 cases n with
 | zero=>cases h
 | succ n=>cases e <;> first|(intro o i; rfl)|(exact a9 h)
theorem oF {n:Nat}{Γ:Gam}{f:Expr->Option E}{e:Expr}{i:Ie}{env:Env}{tg:Expr}(hf:∀ el k p,f (.Set el k p)=none)(h:cI Γ f tg e=some i):∀ x,foldedSetIterable e env x=pure x:=by
 intro x;cases e <;> first|rfl|(simp[cI,hf]at h)
theorem oG {n:Nat}{op:BoolOp}{pos:Pos}(ih:∀ {e:Expr} {e':E},cE n Γ e=some e'->GE X e (aF Φ e')):∀ {vs:List Expr} {r:E},cB (cE n Γ) op vs=some r->GE X (.BoolOp op vs pos) (aF Φ r)
 | [],r,h=>by cases h
 | [a],r,h=>Dc (ih h)
 | a::b::bT,r,h=>by
  simp only[cB]at h;split at h
  ·rename_i a' b' h1 h2;cases h;cases op with
   | And=>exact De (ih h1) (oG ih h2)
   | Or=>exact E7 (ih h1) (oG ih h2)
  ·cases h
theorem oH {n:Nat}{op:BoolOp}{pos:Pos}(ih:∀ {e:Expr} {e':E},cE n Γ e=some e'->GT X e (db Φ e')):∀ {vs:List Expr} {r:E},cB (cE n Γ) op vs=some r->GW X (.BoolOp op vs pos) (db Φ r)
 | [],r,h=>by cases h
 | [a],r,h=>by
  cases op with
  | And=>exact AB (ih h)
  | Or=>exact C9 (ih h)
 | a::b::bT,r,h=>by
  simp only[cB]at h;split at h
  ·rename_i a' b' h1 h2;cases h;cases op with
   | And=>exact Da (ih h1) (oH ih h2)
   | Or=>exact E6 (ih h1) (oH ih h2)
  ·cases h
theorem yg {n:Nat}(ih:∀ {e:Expr} {e':E},cE n Γ e=some e'->GE X e (aF Φ e')){o:Option Expr}{p:Ep}(h:cP (cE n Γ) o=some p):GO X o (tY Φ p):=by
 cases o with
 | none=>cases h; exact AF
 | some e=>
  simp only[cP,Option.map_eq_some_iff]at h;obtain⟨e',h1,rfl⟩:=h;exact AG (ih h1)
theorem sC (K:CtxOk Φ X Γ){n:Nat}(ih:∀ {e:Expr} {e':E},cE n Γ e=some e'->GE X e (aF Φ e')){tg e:Expr}{i:Ie}(h:cI Γ (cE n Γ) tg e=some i):GI X tg e (nt Φ i):=by
 have gen:(cE n Γ e).map Ie.seq=some i->GI X tg e (nt Φ i):=fun h=>by
  rw[(Io)]at h;obtain⟨e',h1,rfl⟩:=h;exact Ba (ih h1)
 unfold cI at h;split at h
 ·rename_i x p a pos;split at h
  ·rename_i hc;rw[(Iq),(Iq)]at hc;obtain⟨⟨h1,h2⟩,h3⟩:=hc;have hx:=eq_of_beq h1;subst hx;rw[(Io)]at h;obtain⟨r,hr,rfl⟩:=h;have ns:=di hr;rw[(Jk),(Iq)]at ns;exact AW (nu K h2).1 (K.blt _ (by simpa using h3)) (ee ih hr) (aA ns.1)
  ·exact gen h
 ·rename_i x p a b pos;split at h
  ·rename_i hc;rw[(Iq),(Iq)]at hc;obtain⟨⟨h1,h2⟩,h3⟩:=hc;have hx:=eq_of_beq h1;subst hx;rw[(Io)]at h;obtain⟨r,hr,rfl⟩:=h;have ns:=di hr;rw[(Jk),(Jk),(Iq),(Iq)]at ns;exact AX (nu K h2).1 (K.blt _ (by simpa using h3)) (ee ih hr) (by rw[aA ns.1,aA ns.2.1]; rfl) (aA ns.2.1)
  ·exact gen h
 ·exact gen h
theorem oJ (K:CtxOk Φ X Γ){x:Str}{i:Nat}(h:dY Γ x=some i):X.N[i]?=some x/\zA X.env.scope x/\(X.fn x=true\/X.env.scope.names.lookup x=some .local):=by
 unfold dY at h;split at h
 ·rename_i hc;refine⟨by rw[K.N]; exact dD h,?_⟩
  unfold L2.zA;rw[K.names];rw[(KD),(Iq)]at hc;rcases hc with hc|⟨hd,hc⟩
  ·have:=eq_of_beq hc;exact⟨.inl this,.inr this⟩
  ·exact⟨.inr (eq_of_beq hc),.inl (K.dfn hd x)⟩
 ·cases h
theorem qN (K:CtxOk Φ X Γ):∀ {ts:List Expr} {is:List Nat},Ff Γ ts=some is->(∀ x∈ts,∃ y p,x=Expr.Name y p)/\Paired (fun(t:Expr) (i:Nat)=>∃ x p,t=Expr.Name x p/\X.N[i]?=some x/\zA X.env.scope x/\(X.fn x=true\/X.env.scope.names.lookup x=some .local)) ts is
 | [],is,h=>by cases h; exact⟨fun x hx=>by simp at hx,.nil⟩
 | t::ts,is,h=>by
  cases t with
  | Name x p=>
   simp only[Ff]at h;split at h
   ·rename_i i is' h1 h2;cases h;obtain⟨a,b⟩:=qN K h2;exact⟨fun y hy=>(IR.mp hy).elim (fun e=>⟨x,p,e⟩) (a y),.cons ⟨x,p,rfl,oJ K h1⟩ b⟩
   ·cases h
  | _=>cases h
theorem ia {env:Env}:∀ {ts:List Expr},(∀ x∈ts,∃ y p,x=Expr.Name y p)->(assignEach ts env).length=ts.length/\(assignEach ts env).findIdx? (·.1)=none
 | [],_=>⟨rfl,rfl⟩
 | t::ts,h=>by
  obtain⟨y,p,rfl⟩:=h t Jg;obtain⟨a,b⟩:=ia (env:=env) fun x hx=>h x (Jm _ hx)
  refine⟨by show(assignEach ts env).length+1=ts.length+1; rw[a],?_⟩
  show List.findIdx? (·.1) ((false,assign (.Name y p) env)::assignEach ts env)=none
  rw[List.findIdx?_cons,b];rfl
theorem ua (K:CtxOk Φ X Γ){tg:Expr}{t:Tg}(h:cT Γ tg=some t):GG X tg (hX t):=by
 have hN:X.N.Nodup:=by rw[K.N]; exact K.nd
 cases tg with
 | Name x p=>
  simp only[cT,Option.map_eq_some_iff]at h;obtain⟨i,h1,rfl⟩:=h;obtain⟨a,b,c⟩:=oJ K h1;exact tW hN a b c
 | Tuple ts k p=>
  simp only[cT,Option.map_eq_some_iff]at h;obtain⟨is,h1,rfl⟩:=h;obtain⟨a,b⟩:=qN K h1;exact Do K.calm a b hN (ia a).1 (ia a).2
 | _=>cases h
end
noncomputable def eO (env:Env):List (Str×NameKind)->List (Str×Addr)->List (Str×Addr)
 | [],cs=>cs
 | (n,k)::r,cs=>eO env r (if k==.free then(n,(env.cells.lookup n).getD 0)::cs else cs)
theorem jo {env:Env}:∀ (names:List (Str×NameKind)) (cs:List (Str×Addr)),(∀ y∈names,y.2=.free->(env.cells.lookup y.1).isSome=true)->
  (forIn names cs fun x r=>match x with|(name,kind)=>if (kind==NameKind.free)=true then do let a <- cellOf env name; pure (ForInStep.yield ((name,a)::r))else pure (ForInStep.yield r):Sem (List (Str×Addr)))=pure (eO env names cs)
 | [],cs,_=>by rw[List.forIn_nil]; rfl
 | (n,k)::r,cs,h=>by
  rw[List.forIn_cons];have hr:=fun y hy=>h y (Jm _ hy)
  by_cases hk:(k==NameKind.free)=true
  ·obtain⟨c,hc⟩:=IX.mp (h (n,k) Jg (eq_of_beq hk));have e1:cellOf env n=pure c:=by unfold cellOf; rw[hc]
   simp only[hk,if_true,e1,pure_bind];rw[jo r _ hr];simp only[eO,hk,if_true,hc,Option.getD_some]
  ·have hk':(k==NameKind.free)=false:=by simpa using hk
   simp only[hk',Bool.false_eq_true,if_false,pure_bind];rw[jo r _ hr];simp only[eO,hk',Bool.false_eq_true,if_false]
theorem j3 {scope:Scope}{env:Env}(h:∀ y∈scope.names,y.2=.free->(env.cells.lookup y.1).isSome=true):closureFor scope env=pure (eO env scope.names []):=by
 have:=jo scope.names [] h;unfold closureFor;simp only[this,pure_bind]
theorem lj {env:Env}:∀ (names:List (Str×NameKind)) (cs:List (Str×Addr)),(∀ y∈names,y.2=.free->(env.cells.lookup y.1).isSome=true)->(∀ x c,cs.lookup x=some c->env.cells.lookup x=some c)->
  ∀ x c,(eO env names cs).lookup x=some c->env.cells.lookup x=some c
 | [],cs,_,h,x,c,e=>h x c e
 | (n,k)::r,cs,hn,h,x,c,e=>by
  refine lj r _ (fun y hy=>hn y (Jm _ hy)) (fun x c e=>?_) x c e
  split at e
  ·rename_i hk;rw[List.lookup_cons]at e;split at e
   ·rename_i hx;cases e;have:=eq_of_beq hx;subst this;obtain⟨c,hc⟩:=IX.mp (hn (x,k) Jg (eq_of_beq hk));rw[hc]; rfl
   ·exact h x c e
  ·exact h x c e
theorem jU {env:Env}{x:Str}:∀ (names:List (Str×NameKind)) (cs:List (Str×Addr)),(∃ c,cs.lookup x=some c)->∃ c,(eO env names cs).lookup x=some c
 | [],cs,h=>h
 | (n,k)::r,cs,h=>by
  refine jU r _ ?_;split
  ·rw[List.lookup_cons];split
   ·exact⟨_,rfl⟩
   ·exact h
  ·exact h
theorem ll {env:Env}{x:Str}:∀ (names:List (Str×NameKind)) (cs:List (Str×Addr)),(x,NameKind.free)∈names->∃ c,(eO env names cs).lookup x=some c
 | [],cs,h=>by simp at h
 | (n,k)::r,cs,h=>by
  rcases IR.mp h with e|h
  ·cases e;refine jU r _ ?_;simp[List.lookup_cons]
  ·exact ll r _ h
theorem lm {x:Str}{k:NameKind}:∀ {l:List (Str×NameKind)},l.lookup x=some k->(x,k)∈l
 | [],h=>by simp at h
 | (n,j)::r,h=>by
  rw[List.lookup_cons]at h;split at h
  ·rename_i hx;cases h;have:=eq_of_beq hx;subst this;exact Jg
  ·exact Jm _ (lm h)
theorem eP {X:Cx}{Φ:Str->FF}{Γ:Gam}(K:CtxOk Φ X Γ)(scope:Scope):(relabel scope X.env).names=fZ scope.names Γ.sc:=by
 unfold relabel fZ Env.kindOf;rw[K.kind,K.names];refine JB fun⟨n,k⟩ _=>?_
 have e:(ScopeKind.function==ScopeKind.function)=true:=rfl;simp only[e,Bool.and_true]
theorem ef {outer:List (Str×NameKind)}{x:Str}:∀ {names:List (Str×NameKind)},(fZ names outer).lookup x=(names.lookup x).map fun k=>if (k==.free&&outer.lookup x==some .cell)then .cell else k
 | []=>rfl
 | (n,k)::r=>by
  have ih:=ef (outer:=outer) (x:=x) (names:=r);show List.lookup x ((if (k==NameKind.free&&outer.lookup n==some .cell)=true then(n,NameKind.cell)else(n,k))::fZ r outer)=_
  cases hx:x==n with
  | true=>
   have:=eq_of_beq hx;subst this;simp only[List.lookup_cons,beq_self_eq_true,Option.map_some];split <;> simp[List.lookup_cons]
  | false=>
   simp only[List.lookup_cons,hx];split <;> (simp only[List.lookup_cons,hx]; exact ih)
section
variable {Φ:Str->FF} {X:Cx} {Γ:Gam}
structure ScOk (Γ:Gam)(scope:Scope):Prop where
 kind:scope.kind=.function
 names:∀ y∈scope.names,y.2=.local->scope.names.lookup y.1=some .local
 nocell:∀ y∈scope.names,y.2≠.cell
 free:∀ y∈scope.names,y.2=.free->Be (Γ.sc.lookup y.1)=true/\scope.names.lookup y.1=some .free/\(Γ.N.findIdx? (· == y.1)).isSome=true
 nd:(gR scope.names).Nodup
theorem ub {scope:Scope}(h:x5 Γ scope=true):ScOk Γ scope:=by
 unfold x5 at h;rw[(Iq),(Iq),(Iq),(Iq)]at h;obtain⟨⟨⟨⟨h1,h2⟩,h3⟩,h4⟩,h5⟩:=h;refine⟨eq_of_beq h1,fun y hy e=>?_,fun y hy e=>?_,fun y hy e=>?_,IK h5⟩
 ·have:=IJ.mp h2 y hy;rw[e]at this
  simpa using this
 ·have:=IJ.mp h3 y hy;rw[e]at this;simp at this
 ·have:=IJ.mp h4 y hy;rw[e]at this;simp only[beq_self_eq_true,Bool.not_true,Bool.false_or,Bool.and_eq_true]at this;exact⟨this.1.1,eq_of_beq this.1.2,this.2⟩
theorem uc {o:Option NameKind}(h:Be o=true):o=some .cell\/o=some .free:=by
 unfold Be at h;split at h
 ·exact .inl rfl
 ·exact .inr rfl
 ·cases h
theorem nv (K:CtxOk Φ X Γ)(ok:X.Ok){scope:Scope}(sc:ScOk Γ scope):CompOk X scope (eO X.env scope.names []) (gR scope.names) (gy Γ scope.names):=by
 have cells:∀ y∈scope.names,y.2=.free->(X.env.cells.lookup y.1).isSome=true:=fun y hy e=>by
  have hk:=uc (sc.free y hy e).1;obtain⟨c,hc⟩:=ok.has y.1 (by unfold Env.kindOf; rw[K.names]; exact hk)
  rw[hc]; rfl
 have relab:∀ x,((relabel scope X.env).names.lookup x=some .cell\/(relabel scope X.env).names.lookup x=some .free)->(x,NameKind.free)∈scope.names:=fun x h=>by
  rw[eP K,ef]at h;cases q:scope.names.lookup x with
  | none=>rw[q]at h; rcases h with h|h <;> cases h
  | some k=>
   rw[q]at h;have hm:=lm q;cases k with
   | free=>exact hm
   | cell=>exact absurd rfl (sc.nocell _ hm)
   | _=>rcases h with h|h <;> simp at h
 refine⟨j3 cells,sc.kind,sc.names,sc.nocell,lj _ _ cells (fun x c e=>by cases e),fun x h=>ll _ _ (relab x h),by simp[gy],fun i j x hi hx=>?_⟩
 unfold gy at hi;rw[(Iu),hx]at hi;simp only[Option.map_some,Option.some.injEq]at hi;split at hi
 ·cases hi
 ·rename_i hl;have hx2:x∈gR scope.names:=IA hx;unfold gR at hx2;obtain⟨⟨x',k⟩,hf,e⟩:=IF.mp hx2;obtain⟨hm,hk⟩:=JE.mp hf;have e':x'=x:=e;subst e';have hkf:k=.free:=by
   simp only[Bool.or_eq_true]at hk;rcases hk with hk|hk
   ·have:k=.local:=eq_of_beq hk;subst this;have:=sc.names (x',.local) hm rfl;rw[this]at hl;simp at hl
   ·exact eq_of_beq hk
  subst hkf;obtain⟨f1,f2,f3⟩:=sc.free _ hm rfl;refine⟨by rw[K.N]; exact dD hi,by unfold Env.kindOf; rw[K.names]; exact uc f1,?_⟩
  rw[eP K,ef,f2];simp only[Option.map_some,Option.some.injEq,beq_self_eq_true,Bool.true_and];split
  ·exact .inl rfl
  ·exact .inr rfl
theorem ff (K:CtxOk Φ X Γ){scope:Scope}(sc:ScOk Γ scope)(C:Addr)(s0:Shared)(H0:Hp)(ex:List Addr):CtxOk Φ (lW X scope (eO X.env scope.names []) C (gR scope.names) s0 H0 ex) (gS Γ scope) where
 names:=eP K scope
 kind:=sc.kind
 N:=rfl
 nd:=sc.nd
 calm:=K.calm
 xe:=rfl
 un:=K.un
 dfn:=fun h=>by cases h
 blt:=K.blt
 fns:=K.fns
theorem qO {cs:Es}{n:Nat}{ifs:List Expr}{Γ:Gam}(hl:ifs.length<=1)(hc:cA (cE n Γ) ifs=some cs){Y:Cx}(ih:∀ {e:Expr} {e':E},cE n Γ e=some e'->GT Y e (db Φ e'))(hx:Y.xe=fun _ _=>False) :
  ∀ pins s σ H Q,Inv Y pins σ H s->tT Y (Bd Φ cs) σ H Q->
  wpAny (model Y.prog Y.w) Y.A (forIn ifs true fun c r=>if r=true then do let ok <- isTrue c Y.env (eval c Y.env); pure (ForInStep.yield ok)else pure (ForInStep.yield r)) (TP Y pins σ Q) (fun _ _=>False) s:=by
 intro pins s σ H Q I h
 match ifs,hl,hc with
 | [],_,hc=>
  cases hc;obtain⟨A,ρ,S,k,S',er,so,e,hq⟩:=h;cases e;exact wpAny_tests_nil ⟨H,I,hq _ _ ⟨rfl,A,.refl,so⟩⟩
 | [c],_,hc=>
  obtain⟨e',es',h1,h2,rfl⟩:=iN hc;cases h2;have:=ih h1 pins s σ H Q I h;rw[hx]at this;exact wpAny_tests_one this
theorem ce:∀ (n:Nat) {Γ:Gam} {X:Cx} {e:Expr} {e':E},CtxOk Φ X Γ->cE n Γ e=some e'->GE X e (aF Φ e')/\GT X e (db Φ e'):=by
 intro n
 induction n with
 | zero=>intro Γ X e e' K h; cases h
 | succ n ih=>
  intro Γ X e e' K h;have ihE:∀ {e:Expr} {e':E},cE n Γ e=some e'->GE X e (aF Φ e'):=fun q=>(ih K q).1
  have ihT:∀ {e:Expr} {e':E},cE n Γ e=some e'->GT X e (db Φ e'):=fun q=>(ih K q).2
  have hu10:X.A.units+10 < cLine:=by have:=K.un; have:g8=20:=rfl; omega
  cases e with
  | Constant c k p=>
   cases c <;> cases h
   all_goals first
    | exact⟨qB v8 (fun _ _=>.non),cM (qB v8 (fun _ _=>.non)) fun _=>rfl⟩
    | exact⟨qB BR (fun _ _=>.bl),cM (qB BR (fun _ _=>.bl)) fun _=>rfl⟩
    | exact⟨qB v6 (fun _ _=>.int),cM (qB v6 (fun _ _=>.int)) fun _=>rfl⟩
    | exact⟨qB wa (fun _ _=>.str),cM (qB wa (fun _ _=>.str)) fun _=>rfl⟩
  | Name x p=>
   replace h:(match slot Γ x with|some i=>some (E.v i)|none=>none)=some e':=h
   split at h
   ·rename_i i h1;cases h;exact⟨yc K h1,cM (yc K h1) fun _=>rfl⟩
   ·cases h
  | BinOp a op b p=>
   replace h:(match tZ op,cE n Γ a,cE n Γ b with|some o,some a',some b'=>some (E.op o a' b')|_,_,_=>none)=some e':=h
   split at h
   ·rename_i o a' b' h1 h2 h3;cases h;have e:=ye h1;subst e;exact⟨BY (sU o) (ihE h2) (ihE h3),cM (BY (sU o) (ihE h2) (ihE h3)) fun _=>rfl⟩
   ·cases h
  | UnaryOp op a p=>
   cases op with
   | Not=>
    replace h:(cE n Γ a).map E.not=some e':=h;rw[(Io)]at h;obtain⟨a',h1,rfl⟩:=h;exact⟨Dg (ihE h1),Db (ihT h1)⟩
   | USub=>
    replace h:(cE n Γ a).map E.neg=some e':=h;rw[(Io)]at h;obtain⟨a',h1,rfl⟩:=h;exact⟨xH (ihE h1),cM (xH (ihE h1)) fun _=>rfl⟩
   | _=>exact a9 h
  | BoolOp op vs p=>
   replace h:cB (cE n Γ) op vs=some e':=h;exact⟨oG ihE h,(oH ihT h).pt⟩
  | Compare a ops cs p=>
   match ops,cs,h with
   | [op],[b],h=>
    replace h:(match t4 op,cE n Γ a,cE n Γ b with|some o,some a',some b'=>some (E.cmp o a' b')|_,_,_=>none)=some e':=h
    split at h
    ·rename_i o a' b' h1 h2 h3;cases h;have e:=yd h1;subst e;exact⟨C7 K.un (ihE h2) (ihE h3) (qM h3),C8 K.un (ihE h2) (ihE h3) (qM h3)⟩
    ·cases h
   | [],_,h=>exact a9 h
   | [_],[],h=>exact a9 h
   | [_],_::_::_,h=>exact a9 h
   | _::_::_,_,h=>exact a9 h
  | IfExp t a b p=>
   replace h:(match cE n Γ t,cE n Γ a,cE n Γ b with|some t',some a',some b'=>some (E.ite t' a' b')|_,_,_=>none)=some e':=h
   split at h
   ·rename_i t' a' b' h1 h2 h3;cases h;exact⟨Dh (ihT h1) (ihE h2) (ihE h3),kC⟩
   ·cases h
  | Call f args kws p=>
   cases kws with
   | cons _ _=>cases f <;> first|(exact a9 h)|(cases args <;> (exact a9 h))
   | nil=>
    cases f with
    | Name x q=>
     replace h:(if oE Γ x then match Γ.fns.lookup x with|some k=>(cA (cE n Γ) args).map (E.own x k)|none=>if x==("isinstance" : Str)then(if Γ.blt.contains x then Bh Γ (cE n Γ) args else none)else match (generalizing:=false) Bf x,args with|some b,a::as=>if Γ.blt.contains x then(cA (cE n Γ) (a::as)).map (E.bi b)else none|_,_=>none else none)=some e':=h
     split at h
     ·rename_i hg;split at h
      ·rename_i k hk;rw[(Io)]at h;obtain⟨r,hr,rfl⟩:=h;have g:=Fg (pos:=p) (p:=q) K hg hk hr (ee ihE hr);exact⟨g,cM g fun _=>rfl⟩
      ·split at h
       ·rename_i his;split at h
        ·rename_i hc;obtain⟨g,a',c',rfl⟩:=Fh (pos:=p) (p:=q) K hg his hc ihE h;exact⟨g,cM g fun _=>rfl⟩
        ·cases h
       ·split at h
        ·rename_i bb a as hb;split at h
         ·rename_i hc;rw[(Io)]at h;obtain⟨r,hr,rfl⟩:=h;have g:=Hc (pos:=p) (p:=q) K hg hb hc hr (ee ihE hr);exact⟨g,cM g fun _=>rfl⟩
         ·cases h
        ·cases h
     ·cases h
    | Attribute o m q=>
     cases args with
     | nil=>exact a9 h
     | cons a as=>
      replace h:(match Bg m,cE n Γ o,cA (cE n Γ) (a::as)with|some m',some o',some es=>if gx o&&(q.endLine==p.line)&&decide ((a::as).length < 29)then some (E.me m' o' es)else none|_,_,_=>none)=some e':=h
      split at h
      ·rename_i m' o' es h1 h2 h3;split at h
       ·rename_i hc;rw[(Iq),(Iq),(Jc)]at hc;cases h;have g:=Hd K (cpos:=p) (apos:=q) h1 hc.1.1 hc.1.2 hc.2 (ihE h2) h3 (ee ihE h3);exact⟨g,cM g fun _=>rfl⟩
       ·cases h
      ·cases h
    | _=>exact a9 h
  | Subscript a b p=>
   have plain:(match cE n Γ a,cE n Γ b with|some a',some b'=>some (E.ix a' b')|_,_=>none)=some e'->GE X (.Subscript a b p) (aF Φ e')/\GT X (.Subscript a b p) (db Φ e'):=fun h=>by
    split at h
    ·rename_i a' b' h1 h2;cases h;have g:=E9 (pos:=p) hu10 (ihE h1) (ihE h2) (sB h2);exact⟨g,cM g fun _=>rfl⟩
    ·cases h
   cases b with
   | Slice lo hi st q=>
    cases st with
    | none=>
     replace h:(match cE n Γ a,cP (cE n Γ) lo,cP (cE n Γ) hi with|some a',some lo',some hi'=>some (E.sl a' lo' hi')|_,_,_=>none)=some e':=h
     split at h
     ·rename_i a' lo' hi' h1 h2 h3;cases h;have g:=Fa (pos:=p) (p2:=q) (ihE h1) (yg ihE h2) (yg ihE h3);exact⟨g,cM g fun _=>rfl⟩
     ·cases h
    | some z=>exact plain h
   | _=>exact plain h
  | Tuple es k p=>
   replace h:(cA (cE n Γ) es).map E.tup=some e':=h;rw[(Io)]at h;obtain⟨r,h1,rfl⟩:=h;exact⟨xN (ee ihE h1),cM (xN (ee ihE h1)) fun _=>rfl⟩
  | List es p=>
   replace h:(cA (cE n Γ) es).map E.lst=some e':=h;rw[(Io)]at h;obtain⟨r,h1,rfl⟩:=h;exact⟨xO (ee ihE h1),cM (xO (ee ihE h1)) fun _=>rfl⟩
  | Dict keys values p=>
   replace h:ya (cE n Γ) keys values=some e':=h;unfold ya at h;split at h
   ·rename_i hc;cases h;rw[(Iq)]at hc;have k0:keys=[]:=List.isEmpty_iff.mp hc.1;have v0:values=[]:=List.isEmpty_iff.mp hc.2;subst k0 v0;exact⟨A6,kC⟩
   ·rename_i hc0;split at h
    ·rename_i hc;rw[(Iq),(Iq),(Jc),(Jc)]at hc;rw[(Io)]at h;obtain⟨r,hr,rfl⟩:=h;have h0:keys≠[]:=fun z=>by
      subst z;have v0:values=[]:=JJ.mp hc.1.2.symm;subst v0;exact hc0 rfl
     exact⟨A7 (pos:=p) hu10 (t9 ihE keys values hc.1.1 hc.1.2 hr) hc.1.1 hc.1.2 h0 hc.2,kC⟩
    ·cases h
  | ListComp elt gens scope p=>
   match gens,h with
   | [⟨tg,iter,ifs,asy⟩],h=>
    replace h:(if (asy==0)&&(x5 Γ scope&&decide (ifs.length<=1))then match cI Γ (cE n Γ) tg iter,cT (gS Γ scope) tg,cA (cE n (gS Γ scope)) ifs,cE n (gS Γ scope) elt with|some it,some t,some cs,some el=>some (E.comp el t it cs (gy Γ scope.names))|_,_,_,_=>none else none)=some e':=h
    split at h
    ·rename_i hc;rw[(Iq),(Iq),(Jc)]at hc;have e0:asy=0:=eq_of_beq hc.1;subst e0;replace hc:=hc.2;split at h
     ·rename_i it t cs el h1 h2 h3 h4;cases h;have sc:=ub hc.1;refine⟨Bb K.calm (sC K ihE h1) (fun ok=>⟨_,nv K ok sc,?_⟩) (oF (n:=n) (fun el k p=>by cases n <;> rfl) h1),kC⟩
      refine⟨fun C s0 H0 ex=>ua (ff K sc C s0 H0 ex) h2,fun C s0 H0 ex pins s σ H Q I q=>?_,fun C s0 H0 ex=>(ih (ff K sc C s0 H0 ex) h4).1⟩
      exact qO hc.2 h3 (fun z=>(ih (ff K sc C s0 H0 ex) z).2) rfl pins s σ H Q I q
     ·cases h
    ·cases h
   | [],h=>exact a9 h
   | ⟨_,_,_,_⟩::_::_,h=>exact a9 h
  | _=>exact a9 h
end
noncomputable abbrev eE:Nat:=30
noncomputable def Fi:Expr->Bool
 | .Constant (.str _) _ _=>true
 | _=>false
noncomputable def oK:Expr->Bool
 | .ListComp _ _ _ _=>true
 | _=>false
noncomputable def Bj:Expr->Bool
 | .Slice _ _ _ _=>true
 | _=>false
noncomputable def Bk (f:Stmt->Option Sm)(ss:List Stmt):Option Ss:=ss.foldr (fun s acc=>match f s,acc with|some s',some ss'=>some (.cons s' ss')|_,_=>none) (some .nil)
noncomputable def Fj (Γ:Gam):List Expr->Expr->Option Sm
 | [.Name x px,.Name y py],.Tuple [a,b] _ _=>match Γ.N.findIdx? (· == x),Γ.N.findIdx? (· == y),cA (cE eE Γ) [a,b]with
  | some i,some j,some es=>if !(i==j)&&(Γ.sc.lookup x==some .local)&&(Γ.sc.lookup y==some .local)&&(py.line==px.line) && !([a,b].all (foldedForSure 8)) && !([a,b].all (constantsAlone 8))then some (.par i j es)else none
  | _,_,_=>none
 | _,_=>none
noncomputable def cS:Nat->Gam->Stmt->Option Sm
 | 0,_,_=>none
 | n+1,Γ,st=>match st with
  | .Assign [.Name x _] e _=>match dY Γ x,cE eE Γ e with
   | some i,some e'=>some (.set i e')
   | _,_=>none
  | .Assign [.Tuple ts _ _] e _=>if isTup e then Fj Γ ts e else if oK e then none else match Ff Γ ts,cE eE Γ e with
   | some is,some e'=>some (.asg is e')
   | _,_=>none
  | .Assign [.Subscript o k _] e _=>if Bj k then none else match cE eE Γ o,cE eE Γ k,cE eE Γ e with
   | some o',some k',some e'=>some (.put o' k' e')
   | _,_,_=>none
  | .Expr e _=>if Fi e then some .pass else if oK e then none else(cE eE Γ e).map .ex
  | .Return (some e) _=>(cE eE Γ e).map .ret
  | .Return none _=>some .retN
  | .Pass _=>some .pass
  | .Raise _ _ _=>some .bad
  | .Break _=>some .brk
  | .Continue _=>some .cont
  | .If t a b _=>match cE eE Γ t,Bk (cS n Γ) a,Bk (cS n Γ) b with
   | some t',some a',some b'=>some (.ite t' a' b')
   | _,_,_=>none
  | .While t b [] _=>match cE eE Γ t,Bk (cS n Γ) b with
   | some t',some b'=>some (.whl t' b')
   | _,_=>none
  | .For tg it b [] _=>match cT Γ tg,cI Γ (cE eE Γ) tg it,Bk (cS n Γ) b with
   | some t,some i,some b'=>some (.loop t i b')
   | _,_,_=>none
  | _=>none
section
variable {Φ:Str->FF} {X:Cx} {Γ:Gam} {fuel:Nat}
theorem yh {f:Stmt->Option Sm}{s:Stmt}{ss:List Stmt}{r:Ss}(h:Bk f (s::ss)=some r):∃ s' ss',f s=some s'/\Bk f ss=some ss'/\r=.cons s' ss':=by
 simp only[Bk,List.foldr_cons]at h;split at h
 ·rename_i e' es' h1 h2;cases h;exact⟨e',es',h1,h2,rfl⟩
 ·cases h
theorem gz {n:Nat}(ih:∀ {st:Stmt} {s':Sm},cS n Γ st=some s'->GS X st (fX Φ fuel s')):∀ {ss:List Stmt} {r:Ss},Bk (cS n Γ) ss=some r->GSs X ss (fY Φ fuel r)
 | [],r,h=>by cases h; exact AI
 | s::ss,r,h=>by
  obtain⟨s',ss',h1,h2,rfl⟩:=yh h;exact xQ (ih h1) (gz ih h2)
theorem ln {e:Expr}{t:Option Expr}{l:Nat}{env:Env}(h:oK e=false)(n:Nat){Γ:Gam}{e':E}(hc:cE n Γ e=some e'):swapsWith e t l env=pure false:=by
 cases n with
 | zero=>cases hc
 | succ n=>cases e <;> first|(exfalso; exact a9 hc)|rfl|cases h
theorem sD (K:CtxOk Φ X Γ){n:Nat}{elt:Expr}{gens:List Comprehension}{scope:Scope}{p:Pos}{e':E}(h:cE (n+1) Γ (.ListComp elt gens scope p)=some e') :
  ∃ tg iter ifs fi g c f cap,gens=[⟨tg,iter,ifs,0⟩]/\aF Φ e'=li fi g c f cap/\GI X tg iter fi/\(X.Ok->∃ cl,CompOk X scope cl (gR scope.names) cap/\BlockOk X scope cl (gR scope.names) tg elt ifs g c f)/\∀ x,foldedSetIterable iter X.env x=pure x:=by
 match gens,h with
 | [⟨tg,iter,ifs,asy⟩],h=>
  replace h:(if (asy==0)&&(x5 Γ scope&&decide (ifs.length<=1))then match cI Γ (cE n Γ) tg iter,cT (gS Γ scope) tg,cA (cE n (gS Γ scope)) ifs,cE n (gS Γ scope) elt with|some it,some t,some cs,some el=>some (E.comp el t it cs (gy Γ scope.names))|_,_,_,_=>none else none)=some e':=h
  split at h
  ·rename_i hc;rw[(Iq),(Iq),(Jc)]at hc;have e0:asy=0:=eq_of_beq hc.1;subst e0;replace hc:=hc.2;split at h
   ·rename_i it t cs el h1 h2 h3 h4;cases h;have sc:=ub hc.1;refine⟨tg,iter,ifs,_,_,_,_,_,rfl,rfl,sC K (fun z=>(ce n K z).1) h1,fun ok=>⟨_,nv K ok sc,?_⟩,oF (n:=n) (fun el k p=>by cases n <;> rfl) h1⟩
    refine⟨fun C s0 H0 ex=>ua (ff K sc C s0 H0 ex) h2,fun C s0 H0 ex pins s σ H Q I q=>?_,fun C s0 H0 ex=>(ce n (ff K sc C s0 H0 ex) h4).1⟩
    exact qO hc.2 h3 (fun z=>(ce n (ff K sc C s0 H0 ex) z).2) rfl pins s σ H Q I q
   ·cases h
  ·cases h
 | [],h=>exact a9 h
 | ⟨_,_,_,_⟩::_::_,h=>exact a9 h
theorem Fk (K:CtxOk Φ X Γ){x:Str}{px pos:Pos}{e:Expr}{i:Nat}{e':E}(hi:dY Γ x=some i)(he:cE eE Γ e=some e'):GS X (.Assign [.Name x px] e pos) (lh (aF Φ e') (BZ i)):=by
 obtain⟨a,b,c⟩:=oJ K hi;have hN:X.N.Nodup:=by rw[K.N]; exact K.nd
 have plain:swapsWith e (some (.Name x px)) pos.line X.env=pure false->GS X (.Assign [.Name x px] e pos) (lh (aF Φ e') (BZ i)):=fun hs=>sw (ce _ K he).1 (tW hN a b c) hs (by cases e <;> rfl) rfl
 cases hc:oK e with
 | false=>exact plain (ln hc _ he)
 | true=>
  cases e with
  | ListComp elt gens scope p=>
   cases hsw:(X.env.blockKind==.function&&X.env.kindOf x==some .local&&px.line==p.line && !(scope.names.any fun(n,k)=>n==x&&(k==.local||k==.cell)))with
   | false=>
    refine plain ?_;show(pure (X.env.blockKind==.function&&X.env.kindOf x==some .local&&px.line==p.line && !(scope.names.any fun(n,k)=>n==x&&(k==.local||k==.cell))):Sem Bool)=pure false
    rw[hsw]
   | true=>
    have hsw':swapsWith (.ListComp elt gens scope p) (some (.Name x px)) pos.line X.env=pure true:=by
     show(pure (X.env.blockKind==.function&&X.env.kindOf x==some .local&&px.line==p.line && !(scope.names.any fun(n,k)=>n==x&&(k==.local||k==.cell))):Sem Bool)=pure true
     rw[hsw]
    rw[(Iq),(Iq),(Iq)]at hsw;have hl:X.env.scope.names.lookup x=some .local:=eq_of_beq hsw.1.1.2;obtain⟨tg,iter,ifs,fi,g,c',f,cap,rfl,e2,gi,hck,hs⟩:=sD K he;rw[e2];exact sA K.calm gi hck hs hsw' hN a hl
  | _=>cases hc
theorem qP (K:CtxOk Φ X Γ){x y:Str}{px py pt pt2:Pos}{kt k2:Nat}{a b:Expr}(hxy:x≠y)(hx:Γ.sc.lookup x=some .local)(hy:Γ.sc.lookup y=some .local)(hl:(py.line==px.line)=true)(h1:[a,b].all (foldedForSure 8)=false)(h2:[a,b].all (constantsAlone 8)=false)(hs:hZ a=true)(hs2:hZ b=true) :
  swappedStores [.Tuple [.Name x px,.Name y py] kt pt] (.Tuple [a,b] k2 pt2) X.env=pure (some [x,y]):=by
 have kx:(X.env.kindOf x==some .local)=true:=by unfold Env.kindOf; rw[K.names,hx]; rfl
 have ky:(X.env.kindOf y==some .local)=true:=by unfold Env.kindOf; rw[K.names,hy]; rfl
 have bk:(X.env.blockKind != .function)=false:=by
  unfold Env.blockKind;rw[K.kind];rfl
 have hp:(px.line==px.line)=true:=by simp
 have ed:([x,y].eraseDups.length != [x,y].length)=false:=by
  have:(y==x)=false:=by simpa using Ne.symm hxy
  simp[List.eraseDups_cons,this]
 have kx':X.env.kindOf x=some .local:=eq_of_beq kx;have ky':X.env.kindOf y=some .local:=eq_of_beq ky;have hl':py.line=px.line:=eq_of_beq hl;have bk':X.env.blockKind=.function:=by simpa using bk
 have yx:(y==x)=false:=by simpa using Ne.symm hxy
 have h1':(foldedForSure 8 a&&foldedForSure 8 b)=false:=by simpa using h1
 have h2':(constantsAlone 8 a&&constantsAlone 8 b)=false:=by simpa using h2
 unfold swappedStores;simp only[List.any_cons,List.any_nil,Bool.or_false,List.filterMap_cons,List.filterMap_nil,kx',ky',bk',List.head?_cons,Option.map_some,Option.getD_some,List.length_cons,List.length_nil,List.all_cons,List.all_nil,Bool.and_true,h1',h2'];refine Eq.trans (if_neg ?_) (Eq.trans (if_neg ?_) ?_)
 ·decide
 ·rw[(KD)];rintro(hh|hh)
  ·clear h1 h2 h1' h2';cases a <;> first|(cases hh; done)|(cases hs; done)
  ·clear h1 h2 h1' h2';cases b <;> first|(cases hh; done)|(cases hs2; done)
 ·simp[Expr.pos,hl',yx,List.eraseDups_cons]
theorem Bl (fuel:Nat)(K:CtxOk Φ X Γ):∀ (n:Nat) {st:Stmt} {s':Sm},cS n Γ st=some s'->GS X st (fX Φ fuel s'):=by
 have hN:X.N.Nodup:=by rw[K.N]; exact K.nd
 have own:PassesOwn (model X.prog X.w) X.A X.env X.xe:=by rw[K.xe]; exact PassesOwn.never
 intro n
 induction n with
 | zero=>intro st s' h; cases h
 | succ n ih=>
  intro st s' h;cases st with
  | Expr e p=>
   simp only[cS]at h;split at h
   ·rename_i hd;cases h;cases e with
    | Constant c k q=>
     cases c with
     | str x=>exact Dl
     | _=>cases hd
    | _=>cases hd
   ·split at h
    ·cases h
    ·rename_i hd hc;rw[(Io)]at h;obtain⟨e',h1,rfl⟩:=h;exact Fb (ce _ K h1).1 (ln (by simpa using hc) _ h1)
  | Return o p=>
   cases o with
   | none=>cases h; exact AO
   | some e=>
    simp only[cS,Option.map_eq_some_iff]at h;obtain⟨e',h1,rfl⟩:=h;exact Dm (ce _ K h1).1
  | Pass p=>cases h; exact AL
  | Raise exc cause pos=>cases h; exact fun pins s D σ H I ⟨A,ρ,S,o,S',er,so,e,hq⟩=>nomatch e
  | Break p=>cases h; exact xS
  | Continue p=>cases h; exact AM
  | If t a b p=>
   simp only[cS]at h;split at h
   ·rename_i t' a' b' h1 h2 h3;cases h;exact Fc (ce _ K h1).2 (gz ih h2) (gz ih h3)
   ·cases h
  | While t b o p=>
   cases o with
   | cons _ _=>exact a9 h
   | nil=>
    simp only[cS]at h;split at h
    ·rename_i t' b' h1 h2;cases h;exact xT fuel own (ce _ K h1).2 (gz ih h2)
    ·cases h
  | For tg it b o p=>
   cases o with
   | cons _ _=>exact a9 h
   | nil=>
    simp only[cS]at h;split at h
    ·rename_i t i b' h1 h2 h3;cases h;exact Ds own K.calm (sC K (fun z=>(ce _ K z).1) h2) (ua K h1) (gz ih h3) (oF (n:=eE) (fun el k p=>rfl) h2)
    ·cases h
  | Assign ts e p=>
   match ts,h with
   | [],h=>exact a9 h
   | a::_::_,h=>cases a <;> exact a9 h
   | [t],h=>
    cases t with
    | Name x px=>
     simp only[cS]at h;split at h
     ·rename_i i e' h1 h2;cases h;exact Fk K h1 h2
     ·cases h
    | Subscript o k q=>
     simp only[cS]at h;split at h
     ·cases h
     ·rename_i hc;split at h
      ·rename_i o' k' e' h1 h2 h3;cases h;refine sw (ce _ K h3).1 (Dp (by have:=K.un; have:g8=20:=rfl; omega) (ce _ K h1).1 (ce _ K h2).1 ?_) (by cases e <;> rfl) (by cases e <;> rfl) rfl
       intro v;cases k <;> first|rfl|exact absurd rfl hc
      ·cases h
    | Tuple ts' k q=>
     have par:∀ {x y:Str} {px py:Pos} {a b:PySem.Expr} {k2:Nat} {q2:Pos},(match Γ.N.findIdx? (· == x),Γ.N.findIdx? (· == y),cA (cE eE Γ) [a,b]with
       | some i,some j,some es=>if !(i==j)&&(Γ.sc.lookup x==some .local)&&(Γ.sc.lookup y==some .local)&&(py.line==px.line) && !([a,b].all (foldedForSure 8)) && !([a,b].all (constantsAlone 8))then some (Sm.par i j es)else none
       | _,_,_=>none)=some s'->GS X (.Assign [.Tuple [.Name x px,.Name y py] k q] (.Tuple [a,b] k2 q2) p) (fX Φ fuel s'):=fun {x y px py a b k2 q2} h=>by
      split at h
      ·rename_i i j es h1 h2 h3;split at h
       ·rename_i hc;cases h;rw[(Iq),(Iq),(Iq),(Iq),(Iq)]at hc;obtain⟨⟨⟨⟨⟨c1,c2⟩,c3⟩,c4⟩,c5⟩,c6⟩:=hc;have hij:i≠j:=by simpa using c1
        have ns:=di h3;rw[(Jk),(Jk),(Iq),(Iq)]at ns;have hi:X.N[i]?=some x:=by rw[K.N]; exact dD h1
        have hj:X.N[j]?=some y:=by rw[K.N]; exact dD h2
        refine Dq K.calm hN hi hj hij (by rw[K.names]; exact eq_of_beq c2) (by rw[K.names]; exact eq_of_beq c3) (ee (fun z=>(ce _ K z).1) h3) (qP K ?_ (eq_of_beq c2) (eq_of_beq c3) c4 (by rw[<- Bool.not_eq_true']; exact c5) (by rw[<- Bool.not_eq_true']; exact c6) ns.1 ns.2.1) rfl
        rintro rfl;rw[h1]at h2;cases h2;exact hij rfl
       ·cases h
      ·cases h
     simp only[cS]at h;split at h
     ·unfold Fj at h;split at h
      ·exact par h
      ·cases h
     ·split at h
      ·cases h
      ·rename_i hc1 hc2;split at h
       ·rename_i is e' h1 h2;cases h;refine sw (ce _ K h2).1 (ua (tg:=.Tuple ts' k q) (t:=.tp is) K (by simp[cT,h1])) (ln (t:=some (.Tuple ts' k q)) (l:=p.line) (env:=X.env) (by simpa using hc2) _ h2) ?_ rfl
        cases e <;> first|rfl|exact absurd rfl hc1
       ·cases h
    | _=>exact a9 h
  | _=>exact a9 h
end
structure Df where
 ps:List Str
 N:List Str
 body:Ss
noncomputable def fE (N:List Str)(ws:List W):Fm:=ws.map some++List.replicate (N.length - ws.length) none
noncomputable def ap (defs:List (Str×Df))(fuel:Nat):Nat->Str->FF
 | 0,_,_,_=>none
 | d+1,f,ws,S=>match defs.lookup f with
  | some df=>if ws.length=df.ps.length then match fY (ap defs fuel d) fuel df.body (fE df.N ws) S with
    | some (.rt w,S')=>some (w,S')
    | some (.nx _,S')=>some (.non,S')
    | _=>none
   else none
  | none=>none
structure Md where
 fns:List (Str×Nat)
 blt:List Str
noncomputable def B2 (M:Md)(st:Stmt)(N:List Str):Gam:={ sc:=(ah st).names,N:=N,fns:=M.fns,blt:=M.blt,dfn:=true }
noncomputable def b7 (M:Md)(st:Stmt)(df:Df):Prop:=Bk (cS 20 (B2 M st df.N)) (cR st)=some df.body
theorem nw {K:PySem.W.Frag}{A:List Addr}{H:Hp}{ws:List W}{vs:List V}{N:List Str}(r:RelL K A H ws vs):EnvRel K A H (fE N ws) (fQ N vs):=by
 refine⟨by simp[fE,L2.fQ,r.length],fun i w h=>?_⟩
 unfold fE at h;unfold L2.fQ
 by_cases hi:i < ws.length
 ·rw[List.getElem?_append_left (by simpa using hi),(Iu)]at h
  rw[List.getElem?_append_left (by rw[List.length_map,<- r.length]; exact hi),Iu]
  cases q:ws[i]? with
  | none=>rw[q]at h; cases h
  | some w'=>
   rw[q]at h;simp only[Option.map_some,Option.some.injEq]at h;subst h;obtain⟨v,h1,h2⟩:=r.get q;exact⟨v,by rw[h1]; rfl,h2⟩
 ·rw[List.getElem?_append_right (by simpa using hi)]at h
  have:=IA h;simp at this
section
variable {P:Program} {w:World} {K:PySem.W.Frag} {mg:Str->Option Value} {base:Heap}
noncomputable def B3 (P:Program)(w:World)(K:PySem.W.Frag)(mg:Str->Option Value)(base:Heap)(M:Md)(defs:List (Str×Df))(fuel d:Nat):Prop:=
 ∀ f n,M.fns.lookup f=some n->∃ fa fd ps,FnOk P w K mg base vV d fa fd ps (xP w K n (ap defs fuel d f))/\mg f=some (.ref fa)/\PySem.W.keepIn K (.ref fa)=true/\Binds K fd ps []
structure MdOk (w:World)(K:PySem.W.Frag)(mg:Str->Option Value)(M:Md):Prop where
 blt:∀ y∈M.blt,mg y=none
theorem B4 {M:Md}{defs:List (Str×Df)}{fuel d:Nat}{x qual:Str}{st:Stmt}{f:Addr}{fd:FuncData}{df:Df}(F:Fun K x qual st f fd)(S:FnScope df.N df.ps (ah st))(hd:defs.lookup x=some df)(hc:b7 M st df)
  (hb:MdOk w K mg M) (prev:B3 P w K mg base M defs fuel d):FnOk P w K mg base vV (d+1) f fd df.ps (xP w K df.ps.length (ap defs fuel (d+1) x)):=by
 refine F.ok S (fun vs H Q E h=>?_) (fun cdv A outer s H vs Q E hr h=>?_)
 ·obtain⟨A,S,ws,w',S',_,rl,hl,_⟩:=h;rw[<- rl.length]; exact hl
 ·obtain⟨A',St,ws,w',S',so,rl,hl,e,hq⟩:=h;have K':CtxOk (ap defs fuel d) (rQ vV P w K mg base df.N qual (ah st) f cdv A outer s H E).nox (B2 M st df.N):=by
   refine⟨rfl,S.kind,rfl,S.nd,rfl,rfl,?_,fun _ _=>rfl,hb.blt,fun g n hg=>?_⟩
   ·have:=hr.un;show(A.deeper _).units+20 < cLine;omega
   ·obtain⟨fa,fd',ps',h1,h2,h3,h4⟩:=prev g n hg;exact⟨d,fa,fd',ps',h1,hr,h2,h3,h4⟩
  refine⟨tS _ (fY (ap defs fuel d) fuel df.body),gz (fun z=>Bl fuel K' 20 z) hc,?_⟩
  simp only[ap,hd]at e;rw[if_pos hl]at e;split at e
  ·rename_i w1 S1 h1;cases e;refine⟨A',fE df.N ws,St,_,_,nw rl,so,h1,⟨fun σ' H' ⟨_,_,z,_⟩=>(by cases z),fun v H' ⟨w2,A2,z0,z1,z2,z3⟩=>?_,fun σ' H' ⟨_,_,z,_⟩=>(by cases z),fun σ' H' ⟨_,_,z,_⟩=>(by cases z)⟩⟩
   cases z0;exact hq v H' ⟨A2,z1,z2,z3⟩
  ·rename_i ρ1 S1 h1;cases e;refine⟨A',fE df.N ws,St,_,_,nw rl,so,h1,⟨fun σ' H' ⟨w2,A2,z0,z1,z2,z3⟩=>?_,fun σ' H' ⟨_,_,z,_⟩=>(by cases z),fun σ' H' ⟨_,_,z,_⟩=>(by cases z),fun σ' H' ⟨_,_,z,_⟩=>(by cases z)⟩⟩
   exact hq _ H' ⟨A2,z1,z2,.non⟩
  ·cases e
theorem vB {H:Hp}{a:Addr}{ns:List Int}(hO:wD H)(hS:SqL K H a (ns.map V.int)):StoreOk w K [a] H [.fro (ns.map W.int)]/\RelL K [a] H [.ref 0] [.ref a]:=by
 have rl:∀ ns:List Int,RelL K [a] H (ns.map W.int) (ns.map V.int):=by
  intro ns
  induction ns with
  | nil=>exact .nil
  | cons n ns ih=>exact .cons .int ih
 have fr:FroL K H a (ns.map V.int):=by
  rcases hS with(h|⟨o,h⟩)|h
  ·rcases hO a with z|⟨o,xs,z⟩ <;> (rw[z]at h; cases h)
  ·exact .inl ⟨o,h⟩
  ·exact .inr h
 refine⟨⟨rfl,fun i j b o u e1 m1 e2 m2 _ _=>?_,fun i o b e1 e2=>?_⟩,.cons (.ref rfl) .nil⟩
 ·cases i with
  | zero=>simp at e1; subst e1; cases m1
  | succ i=>simp at e1
 ·cases i with
  | zero=>
   simp at e1 e2;subst e1 e2;exact⟨_,fr,rl ns⟩
  | succ i=>simp at e1
theorem Dw {g:FF}{H:Hp}{a:Addr}{ns:List Int}(h:∃ S',g [.ref 0] [.fro (ns.map W.int)]=some (.bl true,S'))(hO:wD H)(hS:SqL K H a (ns.map V.int)):xP w K 1 g [.ref a] H (fun v _=>v=.bl true) fun _ _ _=>False:=by
 obtain⟨S',e⟩:=h;obtain⟨so,rl⟩:=vB hO hS;exact⟨[a],_,_,_,S',so,rl,rfl,e,fun v H' ⟨A',z1,z2,z3⟩=>by cases z3; rfl⟩
end
noncomputable def Wp {α:Type}(o:Option α)(Q:α->Prop):Prop:=∃ a,o=some a/\Q a
theorem ab {α:Type}{a:α}{Q:α->Prop}:Wp (some a) Q↔Q a:=⟨fun⟨b,e,h⟩=>(by cases e; exact h),fun h=>⟨a,rfl,h⟩⟩
theorem ac {α:Type}{Q:α->Prop}:Wp (none:Option α) Q↔False:=⟨fun⟨b,e,h⟩=>(by cases e),fun h=>h.elim⟩
theorem Wp.mono {α:Type}{o:Option α}{Q Q':α->Prop}(h:Wp o Q)(k:∀ a,Q a->Q' a):Wp o Q':=let ⟨a,e,q⟩:=h; ⟨a,e,k a q⟩
theorem He {α β:Type}{o:Option α}{f:α->β}{Q:β->Prop}:Wp (o.map f) Q↔Wp o fun a=>Q (f a):=by cases o <;> simp[ab,ac]
section
variable {Φ:Str->FF} {fuel:Nat} {ρ:Fm} {S:aa}
noncomputable abbrev QW:=W×aa->Prop
theorem HZ {w:W}{Q:QW}:Wp (aF Φ (.c w) ρ S) Q↔Q (w,S):=by simp[aF,fC,ab,ac]
theorem HN {i:Nat}{Q:QW}:Wp (aF Φ (.v i) ρ S) Q↔∃ w,ρ[i]?=some (some w)/\Q (w,S):=by
 simp only[aF,fV];rcases h:ρ[i]? with _|_|w <;> simp[ab,ac]
theorem yi {g:W->W->aa->Option (W×aa)}{a b:FE}{Q:QW}:Wp (Ax g a b ρ S) Q↔Wp (a ρ S) fun p=>Wp (b ρ p.2) fun q=>Wp (g p.1 q.1 q.2) Q:=by
 unfold Ax;rcases h:a ρ S with _|⟨x,S1⟩
 ·simp[ab,ac]
 ·rcases h2:b ρ S1 with _|⟨y,S2⟩ <;> simp[ab,ac,h2]
theorem Hf {o:BOp}{a b:E}{Q:QW}:Wp (aF Φ (.op o a b) ρ S) Q↔Wp (aF Φ a ρ S) fun p=>Wp (aF Φ b ρ p.2) fun q=>Wp (fS o p.1 q.1 q.2) Q:=by rw[aF]; exact yi
theorem B5 {o:COp}{a b:E}{Q:QW}:Wp (aF Φ (.cmp o a b) ρ S) Q↔Wp (aF Φ a ρ S) fun p=>Wp (aF Φ b ρ p.2) fun q=>Wp (dh o p.1 q.1 q.2) Q:=by rw[aF]; exact yi
theorem Hg {a b:E}{Q:QW}:Wp (aF Φ (.ix a b) ρ S) Q↔Wp (aF Φ a ρ S) fun p=>Wp (aF Φ b ρ p.2) fun q=>Wp (pI p.1 q.1 q.2) Q:=by rw[aF]; exact yi
theorem Fn {a b:E}{Q:QW}:Wp (aF Φ (.and a b) ρ S) Q↔Wp (aF Φ a ρ S) fun p=>∃ k,p.1=.bl k/\(k=true->Wp (aF Φ b ρ p.2) Q)/\(k=false->Q (.bl false,p.2)):=by
 simp only[aF,tQ];rcases h:aF Φ a ρ S with _|⟨x,S1⟩
 ·simp[ab,ac]
 ·cases x <;> simp[ab,ac]
  rename_i b; cases b <;> simp[ab,ac]
theorem Hh {a b:E}{Q:QW}:Wp (aF Φ (.or a b) ρ S) Q↔Wp (aF Φ a ρ S) fun p=>∃ k,p.1=.bl k/\(k=true->Q (.bl true,p.2))/\(k=false->Wp (aF Φ b ρ p.2) Q):=by
 simp only[aF,AC];rcases h:aF Φ a ρ S with _|⟨x,S1⟩
 ·simp[ab,ac]
 ·cases x <;> simp[ab,ac]
  rename_i b; cases b <;> simp[ab,ac]
theorem Fo {a:E}{Q:QW}:Wp (aF Φ (.not a) ρ S) Q↔Wp (aF Φ a ρ S) fun p=>∃ k,p.1=.bl k/\Q (.bl (!k),p.2):=by
 simp only[aF,tR];rcases h:aF Φ a ρ S with _|⟨x,S1⟩
 ·simp[ab,ac]
 ·cases x <;> simp[ab,ac]
  rename_i k; cases k <;> simp
theorem Fp {t a b:E}{Q:QW}:Wp (aF Φ (.ite t a b) ρ S) Q↔Wp (db Φ t ρ S) fun p=>(p.1=true->Wp (aF Φ a ρ p.2) Q)/\(p.1=false->Wp (aF Φ b ρ p.2) Q):=by
 simp only[aF,AD];rcases h:db Φ t ρ S with _|⟨x,S1⟩
 ·simp[ab,ac]
 ·cases x <;> simp[ab,ac]
theorem B6 {f:Str}{n:Nat}{es:Es}{Q:QW}:Wp (aF Φ (.own f n es) ρ S) Q↔Wp (dC Φ es ρ S) fun p=>p.1.length=n/\Wp (Φ f p.1 p.2) Q:=by
 simp only[aF,qE];rcases h:dC Φ es ρ S with _|⟨x,S1⟩
 ·simp[ab,ac]
 ·by_cases hl:x.length=n <;> simp[ab,ac,hl]
theorem Fq {b:Bi}{es:Es}{Q:QW}:Wp (aF Φ (.bi b es) ρ S) Q↔Wp (dC Φ es ρ S) fun p=>Wp (b.fn p.1 p.2) Q:=by
 simp only[aF,jT];rcases h:dC Φ es ρ S with _|⟨x,S1⟩ <;> simp[ab,ac]
theorem Hi {m:Me}{o:E}{es:Es}{Q:QW}:Wp (aF Φ (.me m o es) ρ S) Q↔Wp (aF Φ o ρ S) fun p=>tyOk m.ty p.2 p.1=true/\Wp (dC Φ es ρ p.2) fun q=>Wp (m.fn p.1 q.1 q.2) Q:=by
 simp only[aF,El];rcases h:aF Φ o ρ S with _|⟨x,S1⟩
 ·simp[ab,ac]
 ·by_cases ht:tyOk m.ty S1 x=true
  ·rcases h2:dC Φ es ρ S1 with _|⟨y,S2⟩ <;> simp[ab,ac,ht,h2]
  ·simp[ab,ac,ht]
theorem Hj {a:E}{lo hi:Ep}{Q:QW}:Wp (aF Φ (.sl a lo hi) ρ S) Q↔Wp (aF Φ a ρ S) fun p=>Wp (tY Φ lo ρ p.2) fun q=>Wp (tY Φ hi ρ q.2) fun r=>Wp (w6 p.1 q.1 r.1 r.2) Q:=by
 simp only[aF,E8];rcases h:aF Φ a ρ S with _|⟨x,S1⟩
 ·simp[ab,ac]
 ·rcases h2:tY Φ lo ρ S1 with _|⟨y,S2⟩
  ·simp[ab,ac,h2]
  ·rcases h3:tY Φ hi ρ S2 with _|⟨z,S3⟩ <;> simp[ab,ac,h2,h3]
theorem Hk {Q:Option Int×aa->Prop}:Wp (tY Φ .no ρ S) Q↔Q (none,S):=by simp[tY,Dj,ab,ac]
theorem Fs {a:E}{Q:Option Int×aa->Prop}:Wp (tY Φ (.yes a) ρ S) Q↔Wp (aF Φ a ρ S) fun p=>∃ i,p.1=.int i/\Q (some i,p.2):=by
 simp only[tY,tV];rcases h:aF Φ a ρ S with _|⟨x,S1⟩
 ·simp[ab,ac]
 ·cases x <;> simp[ab,ac]
theorem Ft {es:Es}{Q:QW}:Wp (aF Φ (.tup es) ρ S) Q↔Wp (dC Φ es ρ S) fun p=>p.1.length<=sizeLine/\Q (.tup p.1,p.2):=by
 simp only[aF,xL,rW];rcases h:dC Φ es ρ S with _|⟨x,S1⟩
 ·simp[ab,ac]
 ·by_cases hl:x.length<=sizeLine <;> simp[ab,ac,hl]
theorem Fu {es:Es}{Q:QW}:Wp (aF Φ (.lst es) ρ S) Q↔Wp (dC Φ es ρ S) fun p=>p.1.length<=sizeLine/\Q (.ref p.2.length,p.2++[.lst p.1]):=by
 simp only[aF,xM,lY];rcases h:dC Φ es ρ S with _|⟨x,S1⟩
 ·simp[ab,ac]
 ·by_cases hl:x.length<=sizeLine <;> simp[ab,ac,hl]
theorem B7 {c:String}{a:E}{Q:QW}:Wp (aF Φ (.isi c a) ρ S) Q↔Wp (aF Φ a ρ S) fun p=>∃ k,vx p.2 p.1 c=some k/\Q (.bl k,p.2):=by
 simp only[aF,xW];rcases h:aF Φ a ρ S with _|⟨x,S1⟩
 ·simp[ab,ac]
 ·cases h2:vx S1 x c <;> simp[ab,ac,h2]
  rename_i k; cases k <;> simp
theorem Fv {a:E}{Q:QW}:Wp (aF Φ (.neg a) ρ S) Q↔Wp (aF Φ a ρ S) fun p=>∃ i,p.1=.int i/\Q (.int (-i),p.2):=by
 simp only[aF,xG];rcases h:aF Φ a ρ S with _|⟨x,S1⟩
 ·simp[ab,ac]
 ·cases x <;> simp[ab,ac]
theorem Dx {es:Es}{Q:QW}:Wp (aF Φ (.disp es) ρ S) Q↔Wp (dC Φ es ρ (S++[.dic []])) fun p=>p.2[S.length]?=some (.dic [])/\∃ kvs,dG [] p.1=some kvs/\Q (.ref S.length,p.2.set S.length (.dic kvs)):=by
 have e:aF Φ (.disp es) ρ S=qI (dC Φ es) ρ S:=by rw[aF]
 rw[e];unfold qI;cases dC Φ es ρ (S++[.dic []])with
 | none=>simp[ac]
 | some p=>
  obtain⟨x,S1⟩:=p;simp only[ab];cases h2:S1[S.length]? with
  | none=>simp[ac]
  | some o=>
   cases o with
   | lst _=>simp[ac]
   | fro _=>simp[ac]
   | frd _=>simp[ac]
   | stt _=>simp[ac]
   | rng _ _=>simp[ac]
   | dic kvs=>
    cases kvs with
    | nil=>cases h3:dG [] x <;> simp[ab,ac]
    | cons a b=>simp[ac]
theorem Fw {Q:List W×aa->Prop}:Wp (dC Φ .nil ρ S) Q↔Q ([],S):=by simp[dC,lg,ab,ac]
theorem Dy {e:E}{es:Es}{Q:List W×aa->Prop}:Wp (dC Φ (.cons e es) ρ S) Q↔Wp (aF Φ e ρ S) fun p=>Wp (dC Φ es ρ p.2) fun q=>Q (p.1::q.1,q.2):=by
 simp only[dC,eY];rcases h:aF Φ e ρ S with _|⟨x,S1⟩
 ·simp[ab,ac]
 ·rcases h2:dC Φ es ρ S1 with _|⟨y,S2⟩ <;> simp[ab,ac,h2]
noncomputable abbrev QB:=Bool×aa->Prop
theorem Fx {f:FE}{Q:QB}:Wp (xI f ρ S) Q↔Wp (f ρ S) fun p=>∃ k,p.1=.bl k/\Q (k,p.2):=by
 unfold xI;rcases h:f ρ S with _|⟨x,S1⟩
 ·simp[ab,ac]
 ·cases x <;> simp[ab,ac]
  rename_i k; cases k <;> simp
theorem ud {f:FE}{Q:QB}:Wp (gF f ρ S) Q↔Wp (f ρ S) fun p=>∃ k,gD p.2 p.1=some k/\Q (k,p.2):=by
 unfold gF;rcases h:f ρ S with _|⟨x,S1⟩
 ·simp[ab,ac]
 ·cases h2:gD S1 x <;> simp[ab,ac,h2]
  rename_i k; cases k <;> simp
theorem Fy {o:COp}{a b:E}{Q:QB}:Wp (db Φ (.cmp o a b) ρ S) Q↔Wp (aF Φ (.cmp o a b) ρ S) fun p=>∃ k,p.1=.bl k/\Q (k,p.2):=by rw[db,aF]; exact Fx
theorem Fz {a b:E}{Q:QB}:Wp (db Φ (.and a b) ρ S) Q↔Wp (db Φ a ρ S) fun p=>(p.1=true->Wp (db Φ b ρ p.2) Q)/\(p.1=false->Q (false,p.2)):=by
 simp only[db,xJ];rcases h:db Φ a ρ S with _|⟨x,S1⟩
 ·simp[ab,ac]
 ·cases x <;> simp[ab,ac]
theorem Hl {a b:E}{Q:QB}:Wp (db Φ (.or a b) ρ S) Q↔Wp (db Φ a ρ S) fun p=>(p.1=true->Q (true,p.2))/\(p.1=false->Wp (db Φ b ρ p.2) Q):=by
 simp only[db,E5];rcases h:db Φ a ρ S with _|⟨x,S1⟩
 ·simp[ab,ac]
 ·cases x <;> simp[ab,ac]
theorem FB {a:E}{Q:QB}:Wp (db Φ (.not a) ρ S) Q↔Wp (db Φ a ρ S) fun p=>Q (!p.1,p.2):=by
 simp only[db,Az];rcases h:db Φ a ρ S with _|⟨x,S1⟩ <;> simp[ab,ac]
theorem Ic {i:Nat}{Q:QB}:Wp (db Φ (.v i) ρ S) Q↔Wp (aF Φ (.v i) ρ S) fun p=>∃ k,gD p.2 p.1=some k/\Q (k,p.2):=by rw[db,aF]; exact ud
theorem FC {f:Str}{n:Nat}{es:Es}{Q:QB}:Wp (db Φ (.own f n es) ρ S) Q↔Wp (aF Φ (.own f n es) ρ S) fun p=>∃ k,gD p.2 p.1=some k/\Q (k,p.2):=by rw[db,aF]; exact ud
theorem Hm {b:Bi}{es:Es}{Q:QB}:Wp (db Φ (.bi b es) ρ S) Q↔Wp (aF Φ (.bi b es) ρ S) fun p=>∃ k,gD p.2 p.1=some k/\Q (k,p.2):=by rw[db,aF]; exact ud
theorem FD {c:String}{a:E}{Q:QB}:Wp (db Φ (.isi c a) ρ S) Q↔Wp (aF Φ (.isi c a) ρ S) fun p=>∃ k,gD p.2 p.1=some k/\Q (k,p.2):=by rw[db,aF]; exact ud
noncomputable abbrev QO:=Out×aa->Prop
theorem FH {Q:QO}:Wp (fY Φ fuel .nil ρ S) Q↔Q (.nx ρ,S):=by simp[fY,ab,ac]
theorem Dz {s:Sm}{ss:Ss}{Q:QO}:Wp (fY Φ fuel (.cons s ss) ρ S) Q↔Wp (fX Φ fuel s ρ S) fun p=>(∀ ρ',p.1=.nx ρ'->Wp (fY Φ fuel ss ρ' p.2) Q)/\((∀ ρ',p.1≠.nx ρ')->Q p):=by
 simp only[fY,AJ];rcases h:fX Φ fuel s ρ S with _|⟨o,S1⟩
 ·simp[ab,ac]
 ·cases o <;> simp[ab,ac]
theorem yj {f:FE}{g:FG}{Q:QO}:Wp (lh f g ρ S) Q↔Wp (f ρ S) fun p=>Wp (g p.1 ρ p.2) fun q=>Q (.nx q.1,q.2):=by
 unfold lh;rcases h:f ρ S with _|⟨x,S1⟩
 ·simp[ab,ac]
 ·rcases h2:g x ρ S1 with _|⟨y,S2⟩ <;> simp[ab,ac,h2]
theorem DA {i:Nat}{e:E}{Q:QO}:Wp (fX Φ fuel (.set i e) ρ S) Q↔Wp (aF Φ e ρ S) fun p=>Q (.nx (ρ.set i (some p.1)),p.2):=by
 rw[fX,yj]; simp[BZ,ab,ac]
theorem DB {is:List Nat}{e:E}{Q:QO}:Wp (fX Φ fuel (.asg is e) ρ S) Q↔Wp (aF Φ e ρ S) fun p=>∃ ws ρ',p.1=.tup ws/\d7 is ws ρ=some ρ'/\Q (.nx ρ',p.2):=by
 rw[fX,yj];constructor
 ·refine fun h=>h.mono fun p hp=>?_
  obtain⟨w,S1⟩:=p;obtain⟨q,h1,h2⟩:=hp;cases w with
  | tup ws=>
   simp only[Em,Option.map_eq_some_iff]at h1;obtain⟨ρ',h3,rfl⟩:=h1;exact⟨ws,ρ',rfl,h3,h2⟩
  | _=>cases h1
 ·refine fun h=>h.mono fun p hp=>?_
  obtain⟨w,S1⟩:=p;obtain⟨ws,ρ',h0,h1,h2⟩:=hp;subst h0;exact⟨(ρ',S1),by simp[Em,h1],h2⟩
theorem DC {i j:Nat}{es:Es}{Q:QO}:Wp (fX Φ fuel (.par i j es) ρ S) Q↔Wp (dC Φ es ρ S) fun p=>∃ x y,p.1=[x,y]/\Q (.nx ((ρ.set i (some x)).set j (some y)),p.2):=by
 simp only[fX,AS];rcases h:dC Φ es ρ S with _|⟨x,S1⟩
 ·simp[ac]
 ·match x with
  | []=>simp[ab,ac]
  | [_]=>simp[ab,ac]
  | [a,b]=>
   simp only[ab];exact⟨fun h=>⟨a,b,rfl,h⟩,fun⟨x,y,e,h⟩=>by cases e; exact h⟩
  | _::_::_::_=>simp[ab,ac]
theorem DD {o k e:E}{Q:QO}:Wp (fX Φ fuel (.put o k e) ρ S) Q↔Wp (aF Φ e ρ S) fun p=>Wp (aF Φ o ρ p.2) fun q=>Wp (aF Φ k ρ q.2) fun r=>∃ S',iJ q.1 r.1 p.1 r.2=some S'/\Q (.nx ρ,S'):=by
 rw[fX,yj];rcases h:aF Φ e ρ S with _|⟨x,S1⟩
 ·simp[ab,ac]
 ·simp only[ab];unfold AR;rcases h2:aF Φ o ρ S1 with _|⟨y,S2⟩
  ·simp[ab,ac]
  ·rcases h3:aF Φ k ρ S2 with _|⟨z,S3⟩
   ·simp[ab,ac,h3]
   ·cases h4:iJ y z x S3 <;> simp[ab,ac,h3,h4]
theorem FJ {e:E}{Q:QO}:Wp (fX Φ fuel (.ex e) ρ S) Q↔Wp (aF Φ e ρ S) fun p=>Q (.nx ρ,p.2):=by
 simp only[fX,AK];rcases h:aF Φ e ρ S with _|⟨x,S1⟩ <;> simp[ab,ac]
theorem DE {e:E}{Q:QO}:Wp (fX Φ fuel (.ret e) ρ S) Q↔Wp (aF Φ e ρ S) fun p=>Q (.rt p.1,p.2):=by
 simp only[fX,AN];rcases h:aF Φ e ρ S with _|⟨x,S1⟩ <;> simp[ab,ac]
theorem DF {t:E}{a b:Ss}{Q:QO}:Wp (fX Φ fuel (.ite t a b) ρ S) Q↔Wp (db Φ t ρ S) fun p=>(p.1=true->Wp (fY Φ fuel a ρ p.2) Q)/\(p.1=false->Wp (fY Φ fuel b ρ p.2) Q):=by
 simp only[fX,AQ];rcases h:db Φ t ρ S with _|⟨x,S1⟩
 ·simp[ab,ac]
 ·cases x <;> simp[ab,ac]
end
section
variable {Φ:Str->FF} {fuel:Nat} {ρ:Fm} {S:aa}
noncomputable def yk (I:Fm->aa->Prop)(Q:QO)(o:Out×aa):Prop:=match o.1 with
 | .nx ρ'=>I ρ' o.2
 | .ct ρ'=>I ρ' o.2
 | .bk ρ'=>Q (.nx ρ',o.2)
 | .rt w=>Q (.rt w,o.2)
theorem jp {mi:MI}{g:FG}{b:FS}{xs:List W}{Q:QO}(I:Nat->Fm->aa->Prop)(hat:∀ i ρ S,I i ρ S->mi.at S i=some xs[i]?)
  (hstep:∀ i w ρ S,xs[i]?=some w->I i ρ S->Wp (g w ρ S) fun q=>Wp (b q.1 q.2) (yk (I (i+1)) Q)) (hend:∀ ρ S,I xs.length ρ S->Q (.nx ρ,S)):∀ (n i:Nat) (ρ:Fm) (S:aa),i+n=xs.length->I i ρ S->Wp (fW mi g b n i ρ S) Q
 | 0,i,ρ,S,hl,hI=>by
  have e:mi.at S i=some none:=by rw[hat i ρ S hI,List.getElem?_eq_none (by omega)]
  simp only[fW,e];have hi:i=xs.length:=by omega
  exact ab.mpr (hend ρ S (hi ▸ hI))
 | n+1,i,ρ,S,hl,hI=>by
  have hi:i < xs.length:=by omega
  have e:mi.at S i=some (some xs[i]):=by rw[hat i ρ S hI,List.getElem?_eq_getElem hi]
  obtain⟨⟨ρ1,S1⟩,h1,⟨o,S2⟩,h2,h3⟩:=hstep i xs[i] ρ S (Iw hi) hI;simp only[fW,e,h1,h2];cases o with
  | nx ρ2=>exact jp I hat hstep hend n (i+1) ρ2 S2 (by omega) h3
  | ct ρ2=>exact jp I hat hstep hend n (i+1) ρ2 S2 (by omega) h3
  | bk ρ2=>exact ab.mpr h3
  | rt w=>exact ab.mpr h3
theorem FK {fi:FI}{g:FG}{b:FS}{Q:QO}:Wp (xU fi g b ρ S) Q↔Wp (fi ρ S) fun p=>∃ n,p.1.len p.2=some n/\Wp (fW p.1 g b n 0 ρ p.2) Q:=by
 unfold xU;rcases h:fi ρ S with _|⟨mi,S1⟩
 ·simp[ac]
 ·cases h2:mi.len S1 <;> simp[ab,ac,h2]
theorem fF {mi:MI}{g:FG}{c:FT}{f:FE}{xs:List W}{Q:List W×aa->Prop}(I:Nat->List W->Fm->aa->Prop)(hat:∀ i ys ρ S,I i ys ρ S->mi.at S i=some xs[i]?)
  (hstep:∀ i w ys ρ S,xs[i]?=some w->I i ys ρ S->Wp (g w ρ S) fun q=>Wp (c q.1 q.2) fun k=>(k.1=true->Wp (f q.1 k.2) fun y=>I (i+1) (ys++[y.1]) q.1 y.2)/\(k.1=false->I (i+1) ys q.1 k.2))
  (hend:∀ ys ρ S,I xs.length ys ρ S->Q (ys,S)):∀ (n i:Nat) (ys:List W) (ρ:Fm) (S:aa),i+n=xs.length->I i ys ρ S->Wp (bU mi g c f n i ρ S) fun p=>Q (ys++p.1,p.2)
 | 0,i,ys,ρ,S,hl,hI=>by
  have e:mi.at S i=some none:=by rw[hat i ys ρ S hI,List.getElem?_eq_none (by omega)]
  simp only[bU,e];refine ab.mpr ?_;have:i=xs.length:=by omega
  simpa using hend ys ρ S (this ▸ hI)
 | n+1,i,ys,ρ,S,hl,hI=>by
  have hi:i < xs.length:=by omega
  have e:mi.at S i=some (some xs[i]):=by rw[hat i ys ρ S hI,List.getElem?_eq_getElem hi]
  obtain⟨⟨ρ1,S1⟩,h1,⟨k,S2⟩,h2,h3,h4⟩:=hstep i xs[i] ys ρ S (Iw hi) hI;simp only[bU,e,h1,h2];cases k with
  | true=>
   obtain⟨⟨y,S3⟩,h5,h6⟩:=h3 rfl;simp only[h5];obtain⟨⟨zs,S4⟩,h7,h8⟩:=fF I hat hstep hend n (i+1) (ys++[y]) ρ1 S3 (by omega) h6
   simp only[h7];exact ab.mpr (by simpa using h8)
  | false=>exact fF I hat hstep hend n (i+1) ys ρ1 S2 (by omega) (h4 rfl)
theorem DG {elt:E}{tg:Tg}{it:Ie}{cs:Es}{cap:List (Option Nat)}{Q:QW}:Wp (aF Φ (.comp elt tg it cs cap) ρ S) Q↔Wp (nt Φ it ρ S) fun p=>∃ n,p.1.len p.2=some n/\Wp (bU p.1 (hX tg) (Bd Φ cs) (aF Φ elt) n 0 (hW cap ρ) p.2) fun q=>q.1.length<=sizeLine/\Q (.ref q.2.length,q.2++[.lst q.1]):=by
 simp only[aF,li,lY];rcases h:nt Φ it ρ S with _|⟨mi,S1⟩
 ·simp[ac]
 ·rcases h2:mi.len S1 with _|n
  ·simp[ab,ac,h2]
  ·rcases h3:bU mi (hX tg) (Bd Φ cs) (aF Φ elt) n 0 (hW cap ρ) S1 with _|⟨ys,S2⟩
   ·simp[ab,ac,h2,h3]
   ·by_cases hl:ys.length<=sizeLine <;> simp[ab,ac,h2,h3,hl]
theorem FL {Q:QB}:Wp (Bd Φ .nil ρ S) Q↔Q (true,S):=by simp[Bd,B1,ab]
theorem FM {e:E}{Q:QB}:Wp (Bd Φ (.cons e .nil) ρ S) Q↔Wp (db Φ e ρ S) Q:=by rw[Bd]
theorem lp {c:FT}{b:FS}{Q:QO}(I:Nat->Fm->aa->Prop)(hstep:∀ m ρ S,I m ρ S->Wp (c ρ S) fun k=>(k.1=true->∃ m',m=m'+1/\Wp (b ρ k.2) (yk (I m') Q))/\(k.1=false->Q (.nx ρ,k.2))) :
  ∀ (n m:Nat) (ρ:Fm) (S:aa),m < n->I m ρ S->Wp (oA c b n ρ S) Q
 | 0,m,ρ,S,h,_=>by omega
 | n+1,m,ρ,S,h,hI=>by
  obtain⟨⟨k,S1⟩,h1,h2,h3⟩:=hstep m ρ S hI;simp only[oA,h1];cases k with
  | false=>exact ab.mpr (h3 rfl)
  | true=>
   obtain⟨m',rfl,⟨o,S2⟩,h5,h6⟩:=h2 rfl;simp only[h5];cases o with
   | nx ρ2=>exact lp I hstep n m' ρ2 S2 (by omega) h6
   | ct ρ2=>exact lp I hstep n m' ρ2 S2 (by omega) h6
   | bk ρ2=>exact ab.mpr h6
   | rt w=>exact ab.mpr h6
theorem vC {defs:List (Str×Df)}{d:Nat}{f:Str}{ws:List W}{df:Df}{Q:QW}(h:defs.lookup f=some df)(hl:ws.length=df.ps.length)
  (hb:Wp (fY (ap defs fuel d) fuel df.body (fE df.N ws) S) fun p=>match p.1 with|.rt w=>Q (w,p.2)|.nx _=>Q (.non,p.2)|_=>False):Wp (ap defs fuel (d+1) f ws S) Q:=by
 obtain⟨⟨o,S1⟩,h1,h2⟩:=hb;simp only[ap,h,if_pos hl,h1];cases o with
 | rt w=>exact ab.mpr h2
 | nx ρ=>exact ab.mpr h2
 | bk _=>exact h2.elim
 | ct _=>exact h2.elim
end
section
variable {S:aa} {Q:QW}
theorem cW {a b:Int}:fS .add (.int a) (.int b) S=some (.int (a+b),S):=rfl
theorem B8 {a b:Int}:fS .sub (.int a) (.int b) S=some (.int (a - b),S):=rfl
theorem oM {c:Int->Int->Bool}{f:Int->Int->Int}{i j:Int}(h:c i j=true):zu c f (.int i) (.int j) S=some (.int (f i j),S):=by
 unfold zu;dsimp only;rw[if_pos h]
theorem qQ {a b:Int}(h : -(2 ^ 64) < b)(h2:b < 2 ^ 64):fS .mul (.int a) (.int b) S=some (.int (a*b),S):=oM (c:=uR) (f:=(· * ·)) (by
 unfold uR;simp only[Bool.or_eq_true,Bool.and_eq_true,decide_eq_true_eq];exact .inr ⟨h,h2⟩)
theorem iO {a b:Int}(h:0 < b):fS .mod (.int a) (.int b) S=some (.int (a % b),S):=oM (c:=fun _ j=>decide (0 < j)) (f:=(· % ·)) (Kx h)
theorem ib {a b:Int}(h:0 < b)(h2:b < 1073741824):fS .fdiv (.int a) (.int b) S=some (.int (a / b),S):=oM (c:=fun _ j=>Ac j) (f:=(· / ·)) (by
 unfold Ac;simp only[Bool.and_eq_true,decide_eq_true_eq];exact⟨h,h2⟩)
theorem DH:fS .pow (.int 10) (.int 18) S=some (.int 1000000000000000000,S):=rfl
theorem DI {x y:Str}(h:x.length+y.length<=sizeLine):fS .add (.str x) (.str y) S=some (.str (x++y),S):=by simp only[fS,uS]; rw[if_pos h]
theorem jq {xs ys:List W}(h:(xs++ys).length<=sizeLine):fS .add (.tup xs) (.tup ys) S=some (.tup (xs++ys),S):=by simp only[fS,uS,rW]; rw[if_pos h]
theorem sE {i j:Nat}{xs ys:List W}(h1:S[i]?=some (.lst xs))(h2:S[j]?=some (.lst ys))(h:(xs++ys).length<=sizeLine):fS .add (.ref i) (.ref j) S=some (.ref S.length,S++[.lst (xs++ys)]):=by
 simp only[fS,uS,pH,h1,h2,lY]; rw[if_pos h]
theorem ic {a b:Int}:dh .eq (.int a) (.int b) S=some (.bl (a==b),S):=rfl
theorem Hn {a b:Int}:dh .ne (.int a) (.int b) S=some (.bl (!(a==b)),S):=rfl
theorem Bm {a b:Int}:dh .lt (.int a) (.int b) S=some (.bl (decide (a < b)),S):=rfl
theorem Bn {a b:Int}:dh .gt (.int a) (.int b) S=some (.bl (decide (a > b)),S):=rfl
theorem Ho {a b:Int}:dh .ge (.int a) (.int b) S=some (.bl (decide (a>=b)),S):=rfl
theorem B9 {a b:Str}:dh .eq (.str a) (.str b) S=some (.bl (a==b),S):=rfl
theorem FN {a b:Str}:dh .ne (.str a) (.str b) S=some (.bl (!(a==b)),S):=rfl
theorem aK {r:Nat}{xs:List W}(h:S[r]?=some (.lst xs)):iz S r=some xs:=by simp[iz,h]
theorem Bo {r:Nat}{xs:List W}(h:S[r]?=some (.fro xs)):iz S r=some xs:=by simp[iz,h]
theorem cG {r:Nat}{xs:List W}(h:S[r]?=some (.lst xs)):pH S r=some xs:=by simp[pH,h]
theorem kD {r:Nat}{xs:List W}(h:S[r]?=some (.lst xs)):jP S r=none:=by simp[jP,h]
theorem dk {r:Nat}{kvs:List (T×W)}(h:S[r]?=some (.dic kvs)):jP S r=some kvs:=by simp[jP,h]
theorem oN {r:Nat}{kvs:List (T×W)}(h:S[r]?=some (.dic kvs)):iz S r=none:=by simp[iz,h]
theorem Bp {r:Nat}{kvs:List (T×W)}(h:S[r]?=some (.frd kvs)):jP S r=some kvs:=by simp[jP,h]
theorem atI_nat {α:Type}{xs:List α}{j:Nat}{w:α}(h:xs[j]?=some w):pP xs (j:Int)=some w:=by
 have hl:=(Ir.mp h).1;unfold pP sQ;rw[if_pos (Int.natCast_nonneg j),if_pos (by exact_mod_cast hl)]
 simpa using h
theorem oO {α:Type}{xs:List α}{i:Int}{w:α}(h0:0<=i)(h:xs[i.toNat]?=some w):pP xs i=some w:=by
 have:=atI_nat h
 rwa [Int.toNat_of_nonneg h0]at this
theorem ym {r:Nat}{xs:List W}{i:Int}{w:W}(h:S[r]?=some (.lst xs))(h0:0<=i)(hw:xs[i.toNat]?=some w):pI (.ref r) (.int i) S=some (w,S):=by
 show uT (.ref r) (.int i) S=_;simp[uT,aK h,oO h0 hw]
theorem FP {xs:List W}{i:Int}{w:W}(h0:0<=i)(hw:xs[i.toNat]?=some w):pI (.tup xs) (.int i) S=some (w,S):=by
 show uT (.tup xs) (.int i) S=_;simp[uT,oO h0 hw]
theorem Ca {x:Str}{i:Int}{c:Nat}(hz:x.length<=sizeLine)(h0:0<=i)(hw:x.cps.toList[i.toNat]?=some c):pI (.str x) (.int i) S=some (.str ⟨#[c]⟩,S):=by
 show uT (.str x) (.int i) S=_;simp[uT,hz,oO h0 hw]
theorem Cb {r:Nat}{xs:List W}{i:Int}{w:W}(h:S[r]?=some (.lst xs))(h0:0<=i)(hi:i.toNat < xs.length):iJ (.ref r) (.int i) w S=some (S.set r (.lst (xs.set i.toNat w))):=by
 show uU (.ref r) (.int i) w S=_;have:sQ xs.length i=some i.toNat:=by
  unfold sQ;rw[if_pos h0,if_pos (by omega)]
 simp[uU,cG h,this]
theorem Cc {r:Nat}{xs:List W}(h:S[r]?=some (.lst xs)):sf [.ref r] S=some (.int xs.length,S):=by
 simp[sf,kD h,rY,aK h]
theorem ue {r:Nat}{xs:List W}{y:W}(h:S[r]?=some (.lst xs))(hl:xs.length < sizeLine):iB (.ref r) [y] S=some (.non,S.set r (.lst (xs++[y]))):=by
 simp[iB,cG h,hl]
theorem FQ {r:Nat}{xs:List W}(h:S[r]?=some (.lst xs)):jk [.ref r] S=some (.tup xs,S):=by
 simp[jk,u6,h,kQ,aK h]
theorem dj {r:Nat}{xs:List W}(h:S[r]?=some (.lst xs)):tyOk "list" S (.ref r)=true:=by simp[tyOk,aK h]
theorem bX {r:Nat}{o o':O}(h:S[r]?=some o):(S.set r o')[r]?=some o':=by
 rw[(JL),if_pos rfl,if_pos (List.getElem?_eq_some_iff.mp h).1]
theorem b8 {r j:Nat}{o':O}(h:r≠j):(S.set r o')[j]?=S[j]?:=by rw[(JL),if_neg h]
theorem ag {o:O}:(S++[o])[S.length]?=some o:=by simp
theorem aq {j:Nat}{o u:O}(h:S[j]?=some o):(S++[u])[j]?=some o:=by rw[List.getElem?_append_left (List.getElem?_eq_some_iff.mp h).1]; exact h
theorem dg {j:Nat}{o:O}(h:S[j]?=some o):j < S.length:=(Ir.mp h).1
structure Kp (r:Nat)(S S':aa):Prop where
 get:∀ j o,j≠r->S[j]?=some o->S'[j]?=some o
 len:S.length<=S'.length
theorem Kp.refl {r:Nat}{S:aa}:Kp r S S:=⟨fun _ _ _ h=>h,Ip _⟩
theorem Kp.trans {r:Nat}{S S' S'':aa}(a:Kp r S S')(b:Kp r S' S''):Kp r S S'':=⟨fun j o n h=>b.get j o n (a.get j o n h),IC a.len b.len⟩
theorem Kp.set {r:Nat}{S:aa}{o:O}:Kp r S (S.set r o):=⟨fun j u n h=>by rw[b8 (Ne.symm n)]; exact h,by simp⟩
theorem Kp.push {r:Nat}{S:aa}{o:O}:Kp r S (S++[o]):=⟨fun j u n h=>aq h,by simp⟩
theorem Kp.late {r t:Nat}{S0 S:aa}{o:O}(a:Kp r S0 S)(h:S0.length<=t):Kp r S0 (S.set t o):=
 ⟨fun j u n e=>by
  have:=dg e;rw[b8 (by omega)]; exact a.get j u n e,by simpa using a.len⟩
end
noncomputable def wO {α:Type}(o:Option α)(Q:α->Prop):Prop:=match o with
 | some a=>Q a
 | none=>False
theorem cz {α:Type}{o:Option α}{Q:α->Prop}(h:wO o Q):Wp o Q:=by
 cases o with
 | none=>exact h.elim
 | some a=>exact⟨a,rfl,h⟩
theorem FR {α:Type}{o:Option α}{Q:α->Prop}(h:Wp o Q):wO o Q:=by
 obtain⟨a,rfl,q⟩:=h;exact q
theorem ae {α:Type}{o:Option α}{a:α}{Q:α->Prop}(e:o=some a)(h:Q a):wO o Q:=by subst e; exact h
noncomputable def wB:W->(Bool->Prop)->Prop
 | .bl k,Q=>Q k
 | _,_=>False
noncomputable def wN:W->(Int->Prop)->Prop
 | .int k,Q=>Q k
 | _,_=>False
noncomputable def wU:W->(List W->Prop)->Prop
 | .tup k,Q=>Q k
 | _,_=>False
theorem uf {w:W}{Q:Bool->Prop}(h:wB w Q):∃ k,w=.bl k/\Q k:=by cases w <;> first|exact h.elim|exact⟨_,rfl,h⟩
theorem Cd {w:W}{Q:Int->Prop}(h:wN w Q):∃ k,w=.int k/\Q k:=by cases w <;> first|exact h.elim|exact⟨_,rfl,h⟩
theorem FU {w:W}{Q:List W->Prop}(h:wU w Q):∃ k,w=.tup k/\Q k:=by cases w <;> first|exact h.elim|exact⟨_,rfl,h⟩
noncomputable def w2:List W->(W->W->Prop)->Prop
 | [x,y],Q=>Q x y
 | _,_=>False
theorem FV {xs:List W}{Q:W->W->Prop}(h:w2 xs Q):∃ x y,xs=[x,y]/\Q x y:=by
 match xs,h with
 | [x,y],h=>exact⟨x,y,rfl,h⟩
noncomputable def wG:Option W->(W->Prop)->Prop
 | some w,Q=>Q w
 | none,_=>False
noncomputable def wV:Fm->Nat->(W->Prop)->Prop
 | [],_,_=>False
 | o::_,0,Q=>wG o Q
 | _::ρ,n+1,Q=>wV ρ n Q
theorem yn {Q:W->Prop}:∀ {ρ:Fm} {i:Nat},wV ρ i Q->∃ w,ρ[i]?=some (some w)/\Q w
 | [],i,h=>h.elim
 | some w::ρ,0,h=>⟨w,rfl,h⟩
 | none::ρ,0,h=>h.elim
 | x::ρ,n+1,h=>by
  obtain⟨w,e2,q⟩:=yn (ρ:=ρ) (i:=n) h;exact⟨w,e2,q⟩
noncomputable def bR (Φ:Str->FF)(f:Str)(n:Nat)(ws:List W)(S:aa):Option (W×aa):=if ws.length=n then Φ f ws S else none
section
variable (Φ:Str->FF) (fuel:Nat)
mutual
noncomputable def wE:E->Fm->aa->QW->Prop
 | .c w,_,S,Q=>Q (w,S)
 | .v i,ρ,S,Q=>wV ρ i fun w=>Q (w,S)
 | .op o a b,ρ,S,Q=>wE a ρ S fun p=>wE b ρ p.2 fun q=>wO (fS o p.1 q.1 q.2) Q
 | .cmp o a b,ρ,S,Q=>wE a ρ S fun p=>wE b ρ p.2 fun q=>wO (dh o p.1 q.1 q.2) Q
 | .and a b,ρ,S,Q=>wE a ρ S fun p=>wB p.1 fun k=>(k=true->wE b ρ p.2 Q)/\(k=false->Q (.bl false,p.2))
 | .or a b,ρ,S,Q=>wE a ρ S fun p=>wB p.1 fun k=>(k=true->Q (.bl true,p.2))/\(k=false->wE b ρ p.2 Q)
 | .not a,ρ,S,Q=>wE a ρ S fun p=>wB p.1 fun k=>Q (.bl (!k),p.2)
 | .own f n es,ρ,S,Q=>wA es ρ S fun p=>wO (bR Φ f n p.1 p.2) Q
 | .bi b es,ρ,S,Q=>wA es ρ S fun p=>wO (b.fn p.1 p.2) Q
 | .me m o es,ρ,S,Q=>wE o ρ S fun p=>tyOk m.ty p.2 p.1=true/\wA es ρ p.2 fun q=>wO (m.fn p.1 q.1 q.2) Q
 | .ix a b,ρ,S,Q=>wE a ρ S fun p=>wE b ρ p.2 fun q=>wO (pI p.1 q.1 q.2) Q
 | .sl a lo hi,ρ,S,Q=>wE a ρ S fun p=>wP lo ρ p.2 fun q=>wP hi ρ q.2 fun r=>wO (w6 p.1 q.1 r.1 r.2) Q
 | .tup es,ρ,S,Q=>wA es ρ S fun p=>Q (.tup p.1,p.2)
 | .lst es,ρ,S,Q=>wA es ρ S fun p=>Q (.ref p.2.length,p.2++[.lst p.1])
 | .isi c a,ρ,S,Q=>wE a ρ S fun p=>wO (vx p.2 p.1 c) fun k=>Q (.bl k,p.2)
 | .neg a,ρ,S,Q=>wE a ρ S fun p=>wN p.1 fun i=>Q (.int (-i),p.2)
 | .dnew,_,S,Q=>Q (.ref S.length,S++[.dic []])
 | .disp es,ρ,S,Q=>wA es ρ (S++[.dic []]) fun p=>p.2[S.length]?=some (.dic [])/\wO (dG [] p.1) fun kvs=>Q (.ref S.length,p.2.set S.length (.dic kvs))
 | .ite t a b,ρ,S,Q=>wT t ρ S fun p=>(p.1=true->wE a ρ p.2 Q)/\(p.1=false->wE b ρ p.2 Q)
 | .comp elt tg it cs cap,ρ,S,Q=>Wp (aF Φ (.comp elt tg it cs cap) ρ S) Q
noncomputable def wT:E->Fm->aa->QB->Prop
 | .cmp o a b,ρ,S,Q=>wE a ρ S fun p=>wE b ρ p.2 fun q=>wO (dh o p.1 q.1 q.2) fun r=>wB r.1 fun k=>Q (k,r.2)
 | .and a b,ρ,S,Q=>wT a ρ S fun p=>(p.1=true->wT b ρ p.2 Q)/\(p.1=false->Q (false,p.2))
 | .or a b,ρ,S,Q=>wT a ρ S fun p=>(p.1=true->Q (true,p.2))/\(p.1=false->wT b ρ p.2 Q)
 | .not a,ρ,S,Q=>wT a ρ S fun p=>Q (!p.1,p.2)
 | .isi c a,ρ,S,Q=>wE a ρ S fun p=>wO (vx p.2 p.1 c) fun k=>Q (k,p.2)
 | .c w,ρ,S,Q=>Wp (db Φ (.c w) ρ S) Q
 | .v i,ρ,S,Q=>wV ρ i fun w=>wO (gD S w) fun k=>Q (k,S)
 | .op o a b,ρ,S,Q=>Wp (db Φ (.op o a b) ρ S) Q
 | .own f n es,ρ,S,Q=>wA es ρ S fun p=>wO (bR Φ f n p.1 p.2) fun q=>wO (gD q.2 q.1) fun k=>Q (k,q.2)
 | .bi b es,ρ,S,Q=>wA es ρ S fun p=>wO (b.fn p.1 p.2) fun q=>wO (gD q.2 q.1) fun k=>Q (k,q.2)
 | .me m o es,ρ,S,Q=>Wp (db Φ (.me m o es) ρ S) Q
 | .ix a b,ρ,S,Q=>Wp (db Φ (.ix a b) ρ S) Q
 | .sl a lo hi,ρ,S,Q=>Wp (db Φ (.sl a lo hi) ρ S) Q
 | .tup es,ρ,S,Q=>Wp (db Φ (.tup es) ρ S) Q
 | .lst es,ρ,S,Q=>Wp (db Φ (.lst es) ρ S) Q
 | .neg a,ρ,S,Q=>Wp (db Φ (.neg a) ρ S) Q
 | .dnew,ρ,S,Q=>Wp (db Φ .dnew ρ S) Q
 | .disp es,ρ,S,Q=>Wp (db Φ (.disp es) ρ S) Q
 | .ite t a b,ρ,S,Q=>Wp (db Φ (.ite t a b) ρ S) Q
 | .comp elt tg it cs cap,ρ,S,Q=>Wp (db Φ (.comp elt tg it cs cap) ρ S) Q
noncomputable def wA:Es->Fm->aa->(List W×aa->Prop)->Prop
 | .nil,_,S,Q=>Q ([],S)
 | .cons e es,ρ,S,Q=>wE e ρ S fun p=>wA es ρ p.2 fun q=>Q (p.1::q.1,q.2)
noncomputable def wP:Ep->Fm->aa->(Option Int×aa->Prop)->Prop
 | .no,_,S,Q=>Q (none,S)
 | .yes a,ρ,S,Q=>wE a ρ S fun p=>wN p.1 fun i=>Q (some i,p.2)
end
noncomputable def rK (K:Fm->aa->Prop)(Q:QO)(p:Out×aa):Prop:=match p.1 with
 | .nx ρ=>K ρ p.2
 | o=>Q (o,p.2)
mutual
noncomputable def wS:Sm->Fm->aa->(Fm->aa->Prop)->QO->Prop
 | .set i e,ρ,S,K,_=>wE Φ e ρ S fun p=>K (ρ.set i (some p.1)) p.2
 | .asg is e,ρ,S,K,_=>wE Φ e ρ S fun p=>wU p.1 fun ws=>wO (d7 is ws ρ) fun ρ'=>K ρ' p.2
 | .par i j es,ρ,S,K,_=>wA Φ es ρ S fun p=>w2 p.1 fun x y=>K ((ρ.set i (some x)).set j (some y)) p.2
 | .put o k e,ρ,S,K,_=>wE Φ e ρ S fun p=>wE Φ o ρ p.2 fun q=>wE Φ k ρ q.2 fun r=>wO (iJ q.1 r.1 p.1 r.2) fun S'=>K ρ S'
 | .ex e,ρ,S,K,_=>wE Φ e ρ S fun p=>K ρ p.2
 | .ret e,ρ,S,_,Q=>wE Φ e ρ S fun p=>Q (.rt p.1,p.2)
 | .retN,_,S,_,Q=>Q (.rt .non,S)
 | .pass,ρ,S,K,_=>K ρ S
 | .brk,ρ,S,_,Q=>Q (.bk ρ,S)
 | .cont,ρ,S,_,Q=>Q (.ct ρ,S)
 | .bad,_,_,_,_=>False
 | .ite t a b,ρ,S,K,Q=>wT Φ t ρ S fun p=>∀ Q':QO,(∀ ρ' S',K ρ' S'->Q' (.nx ρ',S'))->(∀ o S',(∀ ρ',o≠.nx ρ')->Q (o,S')->Q' (o,S'))->(p.1=true->zw a ρ p.2 Q')/\(p.1=false->zw b ρ p.2 Q')
 | .whl t b,ρ,S,K,Q=>Wp (fX Φ fuel (.whl t b) ρ S) (rK K Q)
 | .loop tg it b,ρ,S,K,Q=>Wp (fX Φ fuel (.loop tg it b) ρ S) (rK K Q)
noncomputable def zw:Ss->Fm->aa->QO->Prop
 | .nil,ρ,S,Q=>Q (.nx ρ,S)
 | .cons s ss,ρ,S,Q=>wS s ρ S (fun ρ' S'=>zw ss ρ' S' Q) Q
end
end
noncomputable def Gn:Es->Nat
 | .nil=>0
 | .cons _ es=>Gn es+1
mutual
noncomputable def fj:E->Bool
 | .c _|.v _|.comp _ _ _ _ _|.dnew=>true
 | .op _ a b|.cmp _ a b|.and a b|.or a b|.ix a b=>fj a&&fj b
 | .ite a b c=>fj a&&fj b&&fj c
 | .neg a|.not a|.isi _ a=>fj a
 | .own _ n es=>Gn es==n&&ug es
 | .bi _ es|.disp es=>ug es
 | .me _ o es=>fj o&&ug es
 | .sl a lo hi=>fj a&&Hq lo&&Hq hi
 | .tup es|.lst es=>decide (Gn es<=1000)&&ug es
noncomputable def ug:Es->Bool
 | .nil=>true
 | .cons e es=>fj e&&ug es
noncomputable def Hq:Ep->Bool
 | .no=>true
 | .yes e=>fj e
end
mutual
noncomputable def HP:Sm->Bool
 | .set _ e|.asg _ e|.ex e|.ret e=>fj e
 | .put o k e=>fj o&&fj k&&fj e
 | .par _ _ es=>ug es
 | .ite t a b=>fj t&&gH a&&gH b
 | _=>true
noncomputable def gH:Ss->Bool
 | .nil=>true
 | .cons s ss=>HP s&&gH ss
end
section
variable {Φ:Str->FF} {fuel:Nat}
theorem iP:∀ {es:Es} {ρ:Fm} {S S':aa} {ws:List W},dC Φ es ρ S=some (ws,S')->ws.length=Gn es
 | .nil,ρ,S,S',ws,h=>by rw[dC]at h; cases h; rfl
 | .cons e es,ρ,S,S',ws,h=>by
  rw[dC]at h;unfold eY at h;split at h
  ·split at h
   ·rename_i h2; cases h; rw[(JN),iP h2]; rfl
   ·cases h
  ·cases h
theorem yo {n:Nat}(h:decide (n<=1000)=true):n<=sizeLine:=IC (IK h) (by rw[(Ja)]; decide)
theorem dc {a b:Bool}(h:(a&&b)=true):a=true:=by cases a <;> first|rfl|cases h
theorem eh {a b:Bool}(h:(a&&b)=true):b=true:=by cases a <;> first|exact h|cases h
mutual
theorem bL:∀ (e:E) {ρ:Fm} {S:aa} {Q:QW},fj e=true->wE Φ e ρ S Q->Wp (aF Φ e ρ S) Q
 | .c w,ρ,S,Q,k,h=>HZ.mpr h
 | .v i,ρ,S,Q,k,h=>HN.mpr (yn h)
 | .op o a b,ρ,S,Q,k,h=>Hf.mpr ((bL a (dc k) h).mono fun p hp=>(bL b (eh k) hp).mono fun q hq=>cz hq)
 | .cmp o a b,ρ,S,Q,k,h=>B5.mpr ((bL a (dc k) h).mono fun p hp=>(bL b (eh k) hp).mono fun q hq=>cz hq)
 | .and a b,ρ,S,Q,k,h=>Fn.mpr ((bL a (dc k) h).mono fun p hp=>let ⟨c,e,h1,h2⟩:=uf hp; ⟨c,e,fun z=>bL b (eh k) (h1 z),h2⟩)
 | .or a b,ρ,S,Q,k,h=>Hh.mpr ((bL a (dc k) h).mono fun p hp=>let ⟨c,e,h1,h2⟩:=uf hp; ⟨c,e,h1,fun z=>bL b (eh k) (h2 z)⟩)
 | .not a,ρ,S,Q,k,h=>Fo.mpr ((bL a k h).mono fun p hp=>uf hp)
 | .own f n es,ρ,S,Q,k,h=>B6.mpr (by
   obtain⟨⟨ws,S1⟩,e,hq⟩:=gT es (eh k) h;have hl:ws.length=n:=(iP e).trans (eq_of_beq (dc k));simp only[bR,if_pos hl]at hq;exact⟨_,e,hl,cz hq⟩)
 | .bi b es,ρ,S,Q,k,h=>Fq.mpr ((gT es k h).mono fun p hp=>cz hp)
 | .me m o es,ρ,S,Q,k,h=>Hi.mpr ((bL o (dc k) h).mono fun p hp=>⟨hp.1,(gT es (eh k) hp.2).mono fun q hq=>cz hq⟩)
 | .ix a b,ρ,S,Q,k,h=>Hg.mpr ((bL a (dc k) h).mono fun p hp=>(bL b (eh k) hp).mono fun q hq=>cz hq)
 | .sl a lo hi,ρ,S,Q,k,h=>Hj.mpr ((bL a (dc (dc k)) h).mono fun p hp=>(Ce lo (eh (dc k)) hp).mono fun q hq=>(Ce hi (eh k) hq).mono fun r hr=>cz hr)
 | .tup es,ρ,S,Q,k,h=>Ft.mpr (by
   obtain⟨⟨ws,S1⟩,e,hq⟩:=gT es (eh k) h;exact⟨_,e,by rw[iP e]; exact yo (dc k),hq⟩)
 | .lst es,ρ,S,Q,k,h=>Fu.mpr (by
   obtain⟨⟨ws,S1⟩,e,hq⟩:=gT es (eh k) h;exact⟨_,e,by rw[iP e]; exact yo (dc k),hq⟩)
 | .isi c a,ρ,S,Q,k,h=>B7.mpr ((bL a k h).mono fun p hp=>cz hp)
 | .neg a,ρ,S,Q,k,h=>Fv.mpr ((bL a k h).mono fun p hp=>Cd hp)
 | .dnew,ρ,S,Q,k,h=>⟨_,rfl,h⟩
 | .disp es,ρ,S,Q,k,h=>Dx.mpr ((gT es k h).mono fun p hp=>⟨hp.1,let ⟨kvs,e,q⟩:=cz hp.2; ⟨kvs,e,q⟩⟩)
 | .ite t a b,ρ,S,Q,k,h=>Fp.mpr ((iQ t (dc (dc k)) h).mono fun p hp=>⟨fun z=>bL a (eh (dc k)) (hp.1 z),fun z=>bL b (eh k) (hp.2 z)⟩)
 | .comp elt tg it cs cap,ρ,S,Q,k,h=>h
theorem gT:∀ (es:Es) {ρ:Fm} {S:aa} {Q:List W×aa->Prop},ug es=true->wA Φ es ρ S Q->Wp (dC Φ es ρ S) Q
 | .nil,ρ,S,Q,k,h=>Fw.mpr h
 | .cons e es,ρ,S,Q,k,h=>Dy.mpr ((bL e (dc k) h).mono fun p hp=>gT es (eh k) hp)
theorem Ce:∀ (e:Ep) {ρ:Fm} {S:aa} {Q:Option Int×aa->Prop},Hq e=true->wP Φ e ρ S Q->Wp (tY Φ e ρ S) Q
 | .no,ρ,S,Q,k,h=>Hk.mpr h
 | .yes a,ρ,S,Q,k,h=>Fs.mpr ((bL a k h).mono fun p hp=>Cd hp)
theorem iQ:∀ (e:E) {ρ:Fm} {S:aa} {Q:QB},fj e=true->wT Φ e ρ S Q->Wp (db Φ e ρ S) Q
 | .cmp o a b,ρ,S,Q,k,h=>Fy.mpr (B5.mpr ((bL a (dc k) h).mono fun p hp=>(bL b (eh k) hp).mono fun q hq=>(cz hq).mono fun r hr=>uf hr))
 | .and a b,ρ,S,Q,k,h=>Fz.mpr ((iQ a (dc k) h).mono fun p hp=>⟨fun z=>iQ b (eh k) (hp.1 z),hp.2⟩)
 | .or a b,ρ,S,Q,k,h=>Hl.mpr ((iQ a (dc k) h).mono fun p hp=>⟨hp.1,fun z=>iQ b (eh k) (hp.2 z)⟩)
 | .not a,ρ,S,Q,k,h=>FB.mpr (iQ a k h)
 | .isi c a,ρ,S,Q,k,h=>FD.mpr (B7.mpr ((bL a k h).mono fun p hp=>let ⟨b,e,q⟩:=cz hp; ⟨b,e,b,rfl,q⟩))
 | .v i,ρ,S,Q,k,h=>Ic.mpr (HN.mpr (let ⟨w,e,q⟩:=yn h; ⟨w,e,cz q⟩))
 | .own f n es,ρ,S,Q,k,h=>FC.mpr (B6.mpr (by
   obtain⟨⟨ws,S1⟩,e,hq⟩:=gT es (eh k) h;have hl:ws.length=n:=(iP e).trans (eq_of_beq (dc k));simp only[bR,if_pos hl]at hq;exact⟨_,e,hl,(cz hq).mono fun q hq=>cz hq⟩))
 | .c w,ρ,S,Q,k,h=>h
 | .op o a b,ρ,S,Q,k,h=>h
 | .bi b es,ρ,S,Q,k,h=>Hm.mpr (Fq.mpr ((gT es k h).mono fun p hp=>(cz hp).mono fun q hq=>cz hq))
 | .me m o es,ρ,S,Q,k,h=>h
 | .ix a b,ρ,S,Q,k,h=>h
 | .sl a lo hi,ρ,S,Q,k,h=>h
 | .tup es,ρ,S,Q,k,h=>h
 | .lst es,ρ,S,Q,k,h=>h
 | .neg a,ρ,S,Q,k,h=>h
 | .dnew,ρ,S,Q,k,h=>h
 | .disp es,ρ,S,Q,k,h=>h
 | .ite t a b,ρ,S,Q,k,h=>h
 | .comp elt tg it cs cap,ρ,S,Q,k,h=>h
end
mutual
theorem FW:∀ (s:Sm) {ρ:Fm} {S:aa} {K:Fm->aa->Prop} {Q:QO},HP s=true->wS Φ fuel s ρ S K Q->Wp (fX Φ fuel s ρ S) (rK K Q)
 | .set i e,ρ,S,K,Q,k,h=>DA.mpr (bL e k h)
 | .asg is e,ρ,S,K,Q,k,h=>DB.mpr ((bL e k h).mono fun p hp=>let ⟨ws,e1,h1⟩:=FU hp; let ⟨ρ',e2,h2⟩:=cz h1; ⟨ws,ρ',e1,e2,h2⟩)
 | .par i j es,ρ,S,K,Q,k,h=>DC.mpr ((gT es k h).mono fun p hp=>FV hp)
 | .put o i e,ρ,S,K,Q,k,h=>DD.mpr ((bL e (eh k) h).mono fun p hp=>(bL o (dc (dc k)) hp).mono fun q hq=>(bL i (eh (dc k)) hq).mono fun r hr=>cz hr)
 | .ex e,ρ,S,K,Q,k,h=>FJ.mpr (bL e k h)
 | .ret e,ρ,S,K,Q,k,h=>DE.mpr (bL e k h)
 | .retN,ρ,S,K,Q,k,h=>⟨_,rfl,h⟩
 | .pass,ρ,S,K,Q,k,h=>⟨_,rfl,h⟩
 | .brk,ρ,S,K,Q,k,h=>⟨_,rfl,h⟩
 | .cont,ρ,S,K,Q,k,h=>⟨_,rfl,h⟩
 | .bad,ρ,S,K,Q,k,h=>h.elim
 | .ite t a b,ρ,S,K,Q,k,h=>DF.mpr ((iQ t (dc (dc k)) h).mono fun p hp=>by
   obtain⟨h1,h2⟩:=hp (rK K Q) (fun ρ' S' z=>z) (fun o S' hn z=>by cases o <;> first|exact z|exact absurd rfl (hn _))
   exact⟨fun z=>jr a (eh (dc k)) (h1 z),fun z=>jr b (eh k) (h2 z)⟩)
 | .whl t b,ρ,S,K,Q,k,h=>h
 | .loop tg it b,ρ,S,K,Q,k,h=>h
theorem jr:∀ (ss:Ss) {ρ:Fm} {S:aa} {Q:QO},gH ss=true->zw Φ fuel ss ρ S Q->Wp (fY Φ fuel ss ρ S) Q
 | .nil,ρ,S,Q,k,h=>FH.mpr h
 | .cons s ss,ρ,S,Q,k,h=>Dz.mpr ((FW s (dc k) h).mono fun p hp=>by
   obtain⟨o,S1⟩:=p;cases o with
   | nx ρ'=>exact⟨fun ρ2 e=>by cases e; exact jr ss (eh k) hp,fun z=>absurd rfl (z ρ')⟩
   | _=>exact⟨fun ρ2 e=>(by cases e),fun _=>hp⟩)
end
structure wZ (Φ:Str->FF)(fuel:Nat)(ss:Ss)(ρ:Fm)(S:aa)(Q:QO):Prop where
 out:zw Φ fuel ss ρ S Q
theorem FX {ss:Ss}{ρ:Fm}{S:aa}{Q:QO}:zw Φ fuel ss ρ S Q=wZ Φ fuel ss ρ S Q:=propext ⟨fun h=>⟨h⟩,fun h=>h.out⟩
theorem DJ {defs:List (Str×Df)}{d:Nat}{f:Str}{n:Nat}{ws:List W}{df:Df}{S:aa}{Q:QW}(h:defs.lookup f=some df)(hn:ws.length=n)(hl:ws.length=df.ps.length)(ok:gH df.body=true)
  (hb:∀ Q':QO,(∀ w S',Q (w,S')->Q' (.rt w,S'))->wZ (ap defs fuel d) fuel df.body (fE df.N ws) S Q'):wO (bR (ap defs fuel (d+1)) f n ws S) Q:=by
 unfold bR;rw[if_pos hn];exact FR (vC h hl ((jr _ ok (hb (fun p=>match p.1 with|.rt w=>Q (w,p.2)|_=>False) fun w S' q=>q).out).mono fun p hp=>by
  obtain⟨o,S1⟩:=p;cases o <;> first|exact hp|exact hp.elim))
end
section
variable {Φ:Str->FF} {fuel:Nat} {ρ:Fm} {S:aa} {K:Fm->aa->Prop} {Q:QO}
noncomputable def vW (Φ:Str->FF)(fuel:Nat)(b:Ss)(ρ:Fm)(S:aa)(I:Fm->aa->Prop)(Q:QO):Prop:=∀ Q':QO,(∀ ρ' S',I ρ' S'->Q' (.nx ρ',S'))->(∀ w S',Q (.rt w,S')->Q' (.rt w,S'))->wZ Φ fuel b ρ S Q'
theorem ie {tg:Tg}{it:Ie}{b:Ss}{mi:MI}{S1:aa}{xs:List W}(I:Nat->Fm->aa->Prop)(ok:gH b=true)(hi:nt Φ it ρ S=some (mi,S1))(hat:∀ i ρ S,I i ρ S->mi.at S i=some xs[i]?)(hl:mi.len S1=some xs.length)(h0:I 0 ρ S1)
  (hstep:∀ (i:Nat) (w:W) (ρ:Fm) (S:aa),xs[i]?=some w->I i ρ S->wO (hX tg w ρ S) fun q=>vW Φ fuel b q.1 q.2 (I (i+1)) Q) (hend:∀ ρ S,I xs.length ρ S->K ρ S):Wp (fX Φ fuel (.loop tg it b) ρ S) (rK K Q):=by
 rw[fX,FK];refine⟨_,hi,xs.length,hl,?_⟩;refine jp (Q:=rK K Q) I hat (fun i w ρ S h1 h2=>?_) (fun ρ S h=>hend ρ S h) _ 0 ρ S1 (by omega) h0
 exact(cz (hstep i w ρ S h1 h2)).mono fun q hq=>jr b ok (wZ.out (hq _ (fun _ _ h=>h) fun _ _ h=>h))
theorem cX {e:E}{Q:QW}(ok:fj e=true)(h:wE Φ e ρ S Q):∃ w S',aF Φ e ρ S=some (w,S')/\Q (w,S'):=let ⟨⟨w,S'⟩,a,b⟩:=bL e ok h; ⟨w,S',a,b⟩
theorem dq {i0:Nat}{e:E}{b:Ss}(j:Int)(I:Nat->Fm->aa->Prop)(oe:fj e=true)(ok:gH b=true)(hj : -(2 ^ 62)<=j/\j < 2 ^ 62)(he:wE Φ e ρ S fun p=>p.1=.int j/\I 0 ρ p.2)
  (hstep:∀ (i:Nat) (ρ:Fm) (S:aa),(i:Int) < j->I i ρ S->vW Φ fuel b (ρ.set i0 (some (.int i))) S (I (i+1)) Q) (hend:∀ ρ S,I j.toNat ρ S->K ρ S):Wp (fX Φ fuel (.loop (.nm i0) (.rng (.cons e .nil)) b) ρ S) (rK K Q):=by
 obtain⟨w,S1,e1,rfl,h0⟩:=cX oe he;have hl:(dF 0 j.toNat).length=j.toNat:=by simp[dF]
 refine ie (mi:=.its (dF 0 j.toNat)) (S1:=S1) (xs:=dF 0 j.toNat) I ok ?_ (fun _ _ _ _=>rfl) rfl h0 (fun i w ρ S hw hI=>?_) fun ρ S hI=>hend ρ S (hl ▸ hI)
 ·simp only[nt,dC,eY,lg,vw,e1];rw[if_pos hj]
 ·rw[d8]at hw;split at hw
  ·rename_i hk;cases hw;rw[Int.zero_add];exact hstep i ρ S (by omega) hI
  ·cases hw
theorem for_tup {tg:Tg}{e:E}{b:Ss}(xs:List W)(I:Nat->Fm->aa->Prop)(oe:fj e=true)(ok:gH b=true)(he:wE Φ e ρ S fun p=>p.1=.tup xs/\I 0 ρ p.2)
  (hstep:∀ (i:Nat) (w:W) (ρ:Fm) (S:aa),xs[i]?=some w->I i ρ S->wO (hX tg w ρ S) fun q=>vW Φ fuel b q.1 q.2 (I (i+1)) Q) (hend:∀ ρ S,I xs.length ρ S->K ρ S):Wp (fX Φ fuel (.loop tg (.seq e) b) ρ S) (rK K Q):=by
 obtain⟨w,S1,e1,rfl,h0⟩:=cX oe he;exact ie (mi:=.its xs) (S1:=S1) I ok (by simp only[nt,fL,e1]) (fun _ _ _ _=>rfl) rfl h0 hstep hend
theorem uh {tg:Tg}{e:E}{b:Ss}(t:Nat)(xs:List W)(I:Nat->Fm->aa->Prop)(oe:fj e=true)(ok:gH b=true)(he:wE Φ e ρ S fun p=>p.1=.ref t/\I 0 ρ p.2)(hat:∀ i ρ S,I i ρ S->S[t]?=some (.lst xs))
  (hstep:∀ (i:Nat) (w:W) (ρ:Fm) (S:aa),xs[i]?=some w->I i ρ S->wO (hX tg w ρ S) fun q=>vW Φ fuel b q.1 q.2 (I (i+1)) Q) (hend:∀ ρ S,I xs.length ρ S->K ρ S):Wp (fX Φ fuel (.loop tg (.seq e) b) ρ S) (rK K Q):=by
 obtain⟨w,S1,e1,rfl,h0⟩:=cX oe he;exact ie (mi:=.live t) (S1:=S1) I ok (by simp only[nt,fL,e1,aK (hat _ _ _ h0)]) (fun i ρ S h=>by simp only[MI.at,aK (hat _ _ _ h)]) (by simp only[MI.len,aK (hat _ _ _ h0),Option.map_some]) h0 hstep hend
theorem Cf {t:E}{b:Ss}(I:Nat->Fm->aa->Prop)(m:Nat)(ot:fj t=true)(ok:gH b=true)(hm:m < fuel)(h0:I m ρ S)
  (hstep:∀ m ρ S,I m ρ S->wT Φ t ρ S fun k=>(k.1=true->∃ m',m=m'+1/\vW Φ fuel b ρ k.2 (I m') Q)/\(k.1=false->K ρ k.2)):Wp (fX Φ fuel (.whl t b) ρ S) (rK K Q):=by
 rw[fX];refine lp (Q:=rK K Q) I (fun m ρ S hI=>(iQ t ot (hstep m ρ S hI)).mono fun k hk=>⟨fun z=>?_,fun z=>hk.2 z⟩) fuel m ρ S hm h0
 obtain⟨m',e,h⟩:=hk.1 z;exact⟨m',e,jr b ok (wZ.out (h _ (fun _ _ h=>h) fun _ _ h=>h))⟩
noncomputable def wC (Φ:Str->FF):Es->Fm->aa->QB->Prop
 | .nil,_,S,Q=>Q (true,S)
 | .cons e .nil,ρ,S,Q=>wT Φ e ρ S Q
 | .cons _ (.cons _ _),_,_,_=>False
theorem FY {cs:Es}{Q:QB}(ok:ug cs=true)(h:wC Φ cs ρ S Q):Wp (Bd Φ cs ρ S) Q:=by
 match cs,h,ok with
 | .nil,h,_=>exact FL.mpr h
 | .cons e .nil,h,ok=>exact FM.mpr (iQ e (dc ok) h)
noncomputable def kE (Φ:Str->FF)(elt:E)(cs:Es)(ρ:Fm)(S:aa)(G:W->Fm->aa->Prop)(N:Fm->aa->Prop):Prop:=wC Φ cs ρ S fun k=>(k.1=true->wE Φ elt ρ k.2 fun y=>G y.1 ρ y.2)/\(k.1=false->N ρ k.2)
theorem lq {elt:E}{tg:Tg}{it:Ie}{cs:Es}{cap:List (Option Nat)}{mi:MI}{S1:aa}{xs:List W}{Q:QW}(I:Nat->List W->Fm->aa->Prop)(oe:fj elt=true)(oc:ug cs=true)(hi:nt Φ it ρ S=some (mi,S1))(hat:∀ i ys ρ S,I i ys ρ S->mi.at S i=some xs[i]?)(hl:mi.len S1=some xs.length)(h0:I 0 [] (hW cap ρ) S1)
  (hstep:∀ (i:Nat) (w:W) (ys:List W) (ρ:Fm) (S:aa),xs[i]?=some w->I i ys ρ S->wO (hX tg w ρ S) fun q=>kE Φ elt cs q.1 q.2 (fun y=>I (i+1) (ys++[y])) (I (i+1) ys))
  (hend:∀ ys ρ S,I xs.length ys ρ S->ys.length<=sizeLine/\Q (.ref S.length,S++[.lst ys])):Wp (aF Φ (.comp elt tg it cs cap) ρ S) Q:=by
 rw[DG];refine⟨_,hi,xs.length,hl,?_⟩;refine(fF (xs:=xs) (Q:=fun q=>q.1.length<=sizeLine/\Q (.ref q.2.length,q.2++[.lst q.1])) I hat (fun i w ys ρ S h1 h2=>?_) hend xs.length 0 [] _ S1 (by omega) h0).mono fun q hq=>by simpa using hq
 exact(cz (hstep i w ys ρ S h1 h2)).mono fun q hq=>(FY oc hq).mono fun k hk=>⟨fun z=>bL elt oe (hk.1 z),hk.2⟩
theorem cY {elt e:E}{i0:Nat}{cs:Es}{cap:List (Option Nat)}{Q:QW}(j:Int)(I:Nat->List W->Fm->aa->Prop)(oi:fj e=true)(oe:fj elt=true)(oc:ug cs=true)(hj : -(2 ^ 62)<=j/\j < 2 ^ 62)(he:wE Φ e ρ S fun p=>p.1=.int j/\I 0 [] (hW cap ρ) p.2)
  (hstep:∀ (i:Nat) (ys:List W) (ρ:Fm) (S:aa),(i:Int) < j->I i ys ρ S->kE Φ elt cs (ρ.set i0 (some (.int i))) S (fun y=>I (i+1) (ys++[y])) (I (i+1) ys))
  (hend:∀ ys ρ S,I j.toNat ys ρ S->ys.length<=sizeLine/\Q (.ref S.length,S++[.lst ys])):Wp (aF Φ (.comp elt (.nm i0) (.rng (.cons e .nil)) cs cap) ρ S) Q:=by
 obtain⟨w,S1,e1,rfl,h0⟩:=cX oi he;have hl:(dF 0 j.toNat).length=j.toNat:=by simp[dF]
 refine lq (mi:=.its (dF 0 j.toNat)) (S1:=S1) (xs:=dF 0 j.toNat) I oe oc ?_ (fun _ _ _ _ _=>rfl) rfl h0 (fun i w ys ρ S hw hI=>?_) fun ys ρ S hI=>hend ys ρ S (hl ▸ hI)
 ·simp only[nt,dC,eY,lg,vw,e1];rw[if_pos hj]
 ·rw[d8]at hw;split at hw
  ·rename_i hk;cases hw;rw[Int.zero_add];exact hstep i ys ρ S (by omega) hI
  ·cases hw
theorem oP {elt e:E}{tg:Tg}{cs:Es}{cap:List (Option Nat)}{Q:QW}(xs:List W)(I:Nat->List W->Fm->aa->Prop)(oi:fj e=true)(oe:fj elt=true)(oc:ug cs=true)(he:wE Φ e ρ S fun p=>p.1=.tup xs/\I 0 [] (hW cap ρ) p.2)
  (hstep:∀ (i:Nat) (w:W) (ys:List W) (ρ:Fm) (S:aa),xs[i]?=some w->I i ys ρ S->wO (hX tg w ρ S) fun q=>kE Φ elt cs q.1 q.2 (fun y=>I (i+1) (ys++[y])) (I (i+1) ys))
  (hend:∀ ys ρ S,I xs.length ys ρ S->ys.length<=sizeLine/\Q (.ref S.length,S++[.lst ys])):Wp (aF Φ (.comp elt tg (.seq e) cs cap) ρ S) Q:=by
 obtain⟨w,S1,e1,rfl,h0⟩:=cX oi he;exact lq (mi:=.its xs) (S1:=S1) I oe oc (by simp only[nt,fL,e1]) (fun _ _ _ _ _=>rfl) rfl h0 hstep hend
theorem oQ {elt e:E}{tg:Tg}{cs:Es}{cap:List (Option Nat)}{Q:QW}(t:Nat)(xs:List W)(I:Nat->List W->Fm->aa->Prop)(oi:fj e=true)(oe:fj elt=true)(oc:ug cs=true)(he:wE Φ e ρ S fun p=>p.1=.ref t/\I 0 [] (hW cap ρ) p.2)(hat:∀ i ys ρ S,I i ys ρ S->S[t]?=some (.lst xs))
  (hstep:∀ (i:Nat) (w:W) (ys:List W) (ρ:Fm) (S:aa),xs[i]?=some w->I i ys ρ S->wO (hX tg w ρ S) fun q=>kE Φ elt cs q.1 q.2 (fun y=>I (i+1) (ys++[y])) (I (i+1) ys))
  (hend:∀ ys ρ S,I xs.length ys ρ S->ys.length<=sizeLine/\Q (.ref S.length,S++[.lst ys])):Wp (aF Φ (.comp elt tg (.seq e) cs cap) ρ S) Q:=by
 obtain⟨w,S1,e1,rfl,h0⟩:=cX oi he;exact lq (mi:=.live t) (S1:=S1) I oe oc (by simp only[nt,fL,e1,aK (hat _ _ _ _ h0)]) (fun i ys ρ S h=>by simp only[MI.at,aK (hat _ _ _ _ h)]) (by simp only[MI.len,aK (hat _ _ _ _ h0),Option.map_some]) h0 hstep hend
theorem st {s:Sm}{ss:Ss}(h:wS Φ fuel s ρ S (fun ρ' S'=>wZ Φ fuel ss ρ' S' Q) Q):wZ Φ fuel (.cons s ss) ρ S Q:=⟨by
 rw[zw];simp only[FX];exact h⟩
theorem cH (h:Q (.nx ρ,S)):wZ Φ fuel .nil ρ S Q:=⟨by rw[zw]; exact h⟩
theorem aD {t:Bool}{a b:Ss}{Q Q0:QO}{K:Fm->aa->Prop}(ha:t=true->∀ Q':QO,(∀ ρ' S',K ρ' S'->Q' (.nx ρ',S'))->(∀ w S',Q (.rt w,S')->Q' (.rt w,S'))->wZ Φ fuel a ρ S Q')(hb:t=false->∀ Q':QO,(∀ ρ' S',K ρ' S'->Q' (.nx ρ',S'))->(∀ w S',Q (.rt w,S')->Q' (.rt w,S'))->wZ Φ fuel b ρ S Q') :
  ∀ Q':QO,(∀ ρ' S',K ρ' S'->Q' (.nx ρ',S'))->(∀ o S',(∀ ρ',o≠.nx ρ')->Q (o,S')->Q' (o,S'))->(t=true->zw Φ fuel a ρ S Q')/\(t=false->zw Φ fuel b ρ S Q'):=
 fun Q' h1 h2=>⟨fun e=>(ha e Q' h1 fun w S'=>h2 (.rt w) S' (fun _ z=>nomatch z)).out,fun e=>(hb e Q' h1 fun w S'=>h2 (.rt w) S' (fun _ z=>nomatch z)).out⟩
end
noncomputable def ej:Ss:=
 (.cons (.ret (.lst (.cons (.bi .list (.cons (.v 0) .nil)) (.cons (.c (.int 0)) (.cons (.c (.int 0)) (.cons (.c (.int 1)) (.cons (.c (.int 0)) .nil)))))))
 .nil)
noncomputable def cN:Ss:=
 (.cons (.ite (.and (.cmp .eq (.ix (.v 0) (.c (.int 2))) (.c (.int 0))) (.cmp .lt (.ix (.v 0) (.c (.int 1))) (.bi .len (.cons (.ix (.v 0) (.c (.int 0))) .nil)))) (.cons (.set 2 (.ix (.ix (.v 0) (.c (.int 0))) (.ix (.v 0) (.c (.int 1)))))
 (.cons (.put (.v 0) (.c (.int 1)) (.op .add (.ix (.v 0) (.c (.int 1))) (.c (.int 1))))
 (.cons (.ite (.cmp .ge (.v 2) (.op .pow (.c (.int 10)) (.c (.int 18)))) (.cons (.put (.v 0) (.c (.int 2)) (.v 2))
 .nil) (.cons (.put (.v 0) (.c (.int 3)) (.op .mod (.op .add (.op .add (.op .mul (.ix (.v 0) (.c (.int 3))) (.c (.int 40013))) (.op .mod (.v 2) (.c (.int 1000003)))) (.c (.int 1))) (.c (.int 2147483647))))
 .nil))
 .nil))) .nil)
 (.cons (.ite (.cmp .gt (.ix (.v 0) (.c (.int 2))) (.c (.int 0))) (.cons (.set 3 (.op .mod (.ix (.v 0) (.c (.int 2))) (.v 1)))
 (.cons (.put (.v 0) (.c (.int 2)) (.op .fdiv (.ix (.v 0) (.c (.int 2))) (.v 1)))
 (.cons (.ret (.v 3))
 .nil))) .nil)
 (.cons (.put (.v 0) (.c (.int 4)) (.op .add (.ix (.v 0) (.c (.int 4))) (.c (.int 1))))
 (.cons (.put (.v 0) (.c (.int 3)) (.op .mod (.op .add (.op .add (.op .mul (.ix (.v 0) (.c (.int 3))) (.c (.int 48271))) (.c (.int 12820163))) (.ix (.v 0) (.c (.int 4)))) (.c (.int 2147483647))))
 (.cons (.ret (.op .mod (.op .fdiv (.op .mod (.op .mul (.op .add (.op .mod (.ix (.v 0) (.c (.int 3))) (.c (.int 65521))) (.c (.int 1))) (.op .add (.op .fdiv (.ix (.v 0) (.c (.int 3))) (.c (.int 65521))) (.c (.int 7919)))) (.c (.int 1000003))) (.c (.int 7))) (.v 1)))
 .nil)))))
noncomputable def dt:Ss:=
 (.cons (.ret (.me .join (.c (.str "")) (.cons (.comp (.ix (.c (.str "abcdefghijklmnopqrstuvwxyz")) (.own "_law_pick" 2 (.cons (.v 2) (.cons (.c (.int 26)) .nil)))) (.nm 1) (.rng (.cons (.v 1) .nil)) .nil [none,none,some 0]) .nil)))
 .nil)
noncomputable def fG:Ss:=
 (.cons (.ite (.cmp .ne (.v 1) (.c (.str ""))) (.cons (.ret (.op .add (.v 1) (.own "_law_letters" 2 (.cons (.v 0) (.cons (.op .add (.c (.int 1)) (.own "_law_pick" 2 (.cons (.v 0) (.cons (.c (.int 2)) .nil)))) .nil)))))
 .nil) .nil)
 (.cons (.ite (.cmp .eq (.own "_law_pick" 2 (.cons (.v 0) (.cons (.c (.int 6)) .nil))) (.c (.int 0))) (.cons (.set 2 (.lst (.cons (.c (.str "markss")) (.cons (.c (.str "mark")) (.cons (.c (.str "way")) (.cons (.c (.str "wayss")) (.cons (.c (.str "bars")) (.cons (.c (.str "ba")) (.cons (.c (.str "somex")) .nil)))))))))
 (.cons (.set 2 (.op .add (.v 2) (.lst (.cons (.c (.str "eachx")) (.cons (.c (.str "note")) (.cons (.c (.str "no")) (.cons (.c (.str "ands")) (.cons (.c (.str "ors")) (.cons (.c (.str "o")) (.cons (.c (.str "iss")) .nil))))))))))
 (.cons (.ret (.ix (.v 2) (.own "_law_pick" 2 (.cons (.v 0) (.cons (.c (.int 14)) .nil)))))
 .nil))) .nil)
 (.cons (.ret (.own "_law_letters" 2 (.cons (.v 0) (.cons (.op .add (.c (.int 1)) (.own "_law_pick" 2 (.cons (.v 0) (.cons (.c (.int 8)) .nil)))) .nil))))
 .nil)))
noncomputable def cO:Ss:=
 (.cons (.set 2 (.c (.str "")))
 (.cons (.ite (.cmp .eq (.own "_law_pick" 2 (.cons (.v 0) (.cons (.c (.int 3)) .nil))) (.c (.int 0))) (.cons (.set 2 (.own "_law_letters" 2 (.cons (.v 0) (.cons (.op .add (.c (.int 1)) (.own "_law_pick" 2 (.cons (.v 0) (.cons (.c (.int 6)) .nil)))) .nil))))
 .nil) .nil)
 (.cons (.set 3 (.lst (.cons (.c (.str "marks")) (.cons (.c (.str "ways")) (.cons (.c (.str "bar")) (.cons (.c (.str "some")) (.cons (.c (.str "each")) (.cons (.c (.str "not")) (.cons (.c (.str "and")) (.cons (.c (.str "or")) (.cons (.c (.str "is")) .nil)))))))))))
 (.cons (.loop (.nm 4) (.rng (.cons (.v 1) .nil)) (.cons (.set 5 (.own "_law_name" 2 (.cons (.v 0) (.cons (.v 2) .nil))))
 (.cons (.set 6 (.c (.int 0)))
 (.cons (.whl (.cmp .isin (.v 5) (.v 3)) (.cons (.set 5 (.op .mul (.ix (.c (.str "abcdefghijklmnopqrstuvwxyz")) (.op .mod (.v 6) (.c (.int 26)))) (.op .add (.c (.int 1)) (.op .fdiv (.v 6) (.c (.int 26))))))
 (.cons (.set 6 (.op .add (.v 6) (.c (.int 1))))
 .nil)))
 (.cons (.ex (.me .append (.v 3) (.cons (.v 5) .nil)))
 .nil)))))
 (.cons (.ret (.bi .tuple (.cons (.sl (.v 3) (.yes (.c (.int 9))) .no) .nil)))
 .nil)))))
noncomputable def du:Ss:=
 (.cons (.ite (.cmp .lt (.v 3) (.v 2)) (.cons (.ret (.ix (.ix (.ix (.v 1) (.v 2)) (.c (.int 1))) (.v 3)))
 .nil) .nil)
 (.cons (.ret (.ix (.ix (.ix (.v 0) (.c (.int 1))) (.ix (.ix (.ix (.v 1) (.v 3)) (.c (.int 1))) (.v 2))) (.c (.int 1))))
 .nil))
noncomputable def fH:Ss:=
 (.cons (.set 3 (.lst .nil))
 (.cons (.loop (.nm 4) (.rng (.cons (.bi .len (.cons (.v 2) .nil)) .nil)) (.cons (.set 5 (.ix (.v 2) (.v 4)))
 (.cons (.ex (.me .append (.v 3) (.cons (.tup (.cons (.ix (.ix (.v 1) (.v 5)) (.c (.int 0))) (.cons (.bi .tuple (.cons (.comp (.own "_law_between" 4 (.cons (.v 3) (.cons (.v 4) (.cons (.v 2) (.cons (.v 1) .nil))))) (.nm 1) (.seq (.sl (.v 2) .no (.yes (.v 4)))) .nil [none,none,some 5,some 0,some 1]) .nil)) .nil))) .nil)))
 .nil)))
 (.cons (.ret (.bi .tuple (.cons (.v 3) .nil)))
 .nil)))
noncomputable def ga:Ss:=
 (.cons (.ret (.lst (.cons (.tup (.cons (.c (.int 0)) (.cons (.c (.int 1)) (.cons (.c (.int 2)) .nil)))) (.cons (.tup (.cons (.c (.int 0)) (.cons (.c (.int 2)) (.cons (.c (.int 1)) .nil)))) (.cons (.tup (.cons (.c (.int 1)) (.cons (.c (.int 0)) (.cons (.c (.int 2)) .nil)))) (.cons (.tup (.cons (.c (.int 1)) (.cons (.c (.int 2)) (.cons (.c (.int 0)) .nil)))) (.cons (.tup (.cons (.c (.int 2)) (.cons (.c (.int 0)) (.cons (.c (.int 1)) .nil)))) (.cons (.tup (.cons (.c (.int 2)) (.cons (.c (.int 1)) (.cons (.c (.int 0)) .nil)))) .nil))))))))
 .nil)
noncomputable def dP:Ss:=
 (.cons (.ret (.bi .min (.cons (.comp (.own "_law_part" 3 (.cons (.v 2) (.cons (.v 3) (.cons (.v 1) .nil)))) (.nm 1) (.seq (.own "_law_turns" 0 .nil)) .nil [none,none,some 0,some 1]) .nil)))
 .nil)
noncomputable def eF:Ss:=
 (.cons (.set 2 (.ix (.lst (.cons (.lst (.cons (.tup (.cons (.c (.int 0)) .nil)) .nil)) (.cons (.lst (.cons (.tup (.cons (.c (.int 0)) (.cons (.c (.int 1)) .nil))) (.cons (.tup (.cons (.c (.int 1)) (.cons (.c (.int 0)) .nil))) .nil))) (.cons (.lst (.cons (.tup (.cons (.c (.int 0)) (.cons (.c (.int 1)) (.cons (.c (.int 2)) .nil)))) (.cons (.tup (.cons (.c (.int 1)) (.cons (.c (.int 0)) (.cons (.c (.int 2)) .nil)))) (.cons (.tup (.cons (.c (.int 0)) (.cons (.c (.int 2)) (.cons (.c (.int 1)) .nil)))) .nil)))) .nil)))) (.op .sub (.v 1) (.c (.int 1)))))
 (.cons (.ret (.ix (.v 2) (.own "_law_pick" 2 (.cons (.v 0) (.cons (.bi .len (.cons (.v 2) .nil)) .nil)))))
 .nil))
noncomputable def dv:Ss:=
 (.cons (.set 4 (.own "_law_names" 2 (.cons (.v 0) (.cons (.op .add (.v 1) (.bi .len (.cons (.v 2) .nil))) .nil))))
 (.cons (.set 5 (.bi .tuple (.cons (.comp (.tup (.cons (.ix (.v 4) (.op .add (.v 3) (.v 1))) (.cons (.ix (.v 2) (.v 1)) .nil))) (.nm 1) (.rng (.cons (.bi .len (.cons (.v 2) .nil)) .nil)) .nil [none,none,some 2,some 1,some 4]) .nil)))
 (.cons (.ret (.tup (.cons (.sl (.v 4) .no (.yes (.v 1))) (.cons (.v 5) (.cons (.bi .tuple (.cons (.bi .sorted (.cons (.v 3) .nil)) .nil)) .nil)))))
 .nil)))
noncomputable def cq:Ss:=
 (.cons (.set 3 (.lst .nil))
 (.cons (.loop (.nm 4) (.rng (.cons (.c (.int 3)) .nil)) (.cons (.ex (.me .append (.v 3) (.cons (.tup (.cons (.own "_law_pick" 2 (.cons (.v 0) (.cons (.v 1) .nil))) (.cons (.bi .tuple (.cons (.comp (.own "_law_pick" 2 (.cons (.v 2) (.cons (.v 3) .nil))) (.nm 1) (.rng (.cons (.v 4) .nil)) .nil [none,none,some 0,some 2]) .nil)) .nil))) .nil)))
 .nil))
 (.cons (.ret (.bi .tuple (.cons (.v 3) .nil)))
 .nil)))
noncomputable def eG:Ss:=
 (.cons (.set 1 (.lst (.cons (.tup (.cons (.c (.int 1)) (.cons (.c (.int 1)) .nil))) (.cons (.tup (.cons (.c (.int 2)) (.cons (.c (.int 1)) .nil))) (.cons (.tup (.cons (.c (.int 3)) (.cons (.c (.int 1)) .nil))) (.cons (.tup (.cons (.c (.int 1)) (.cons (.c (.int 2)) .nil))) (.cons (.tup (.cons (.c (.int 1)) (.cons (.c (.int 2)) .nil))) (.cons (.tup (.cons (.c (.int 2)) (.cons (.c (.int 2)) .nil))) (.cons (.tup (.cons (.c (.int 2)) (.cons (.c (.int 2)) .nil))) (.cons (.tup (.cons (.c (.int 3)) (.cons (.c (.int 2)) .nil))) (.cons (.tup (.cons (.c (.int 1)) (.cons (.c (.int 3)) .nil))) (.cons (.tup (.cons (.c (.int 1)) (.cons (.c (.int 3)) .nil))) (.cons (.tup (.cons (.c (.int 2)) (.cons (.c (.int 3)) .nil))) .nil)))))))))))))
 (.cons (.ret (.ix (.v 1) (.own "_law_pick" 2 (.cons (.v 0) (.cons (.c (.int 11)) .nil)))))
 .nil))
noncomputable def cZ:Ss:=
 (.cons (.asg [1,2] (.own "_law_sizes" 1 (.cons (.v 0) .nil)))
 (.cons (.set 3 (.own "_law_rule_of" 4 (.cons (.v 0) (.cons (.v 1) (.cons (.own "_law_backs" 2 (.cons (.v 0) (.cons (.v 2) .nil))) (.cons (.tup .nil) .nil))))))
 (.cons (.set 4 .dnew)
 (.cons (.loop (.nm 5) (.rng (.cons (.own "_law_pick" 2 (.cons (.v 0) (.cons (.c (.int 9)) .nil))) .nil)) (.cons (.put (.v 4) (.own "_law_figure" 2 (.cons (.v 3) (.cons (.own "_law_free_three" 3 (.cons (.v 0) (.cons (.v 1) (.cons (.v 2) .nil)))) .nil))) (.c (.bl true)))
 .nil))
 (.cons (.ret (.tup (.cons (.ix (.v 3) (.c (.int 0))) (.cons (.ix (.v 3) (.c (.int 1))) (.cons (.bi .tuple (.cons (.bi .sorted (.cons (.v 4) .nil)) .nil)) .nil)))))
 .nil)))))
noncomputable def cf:Ss:=
 (.cons (.set 1 (.lst (.cons (.tup (.cons (.tup (.cons (.c (.int 1)) (.cons (.c (.int 0)) .nil))) (.cons (.disp (.cons (.tup (.cons (.c (.int 0)) (.cons (.c (.int 0)) .nil))) (.cons (.lst (.cons (.c (.int 0)) .nil)) .nil))) (.cons (.c (.int 3)) .nil)))) (.cons (.tup (.cons (.tup (.cons (.c (.int 0)) (.cons (.c (.int 2)) (.cons (.c (.int 1)) .nil)))) (.cons (.disp (.cons (.tup (.cons (.c (.int 1)) (.cons (.c (.int 1)) .nil))) (.cons (.lst (.cons (.c (.int 1)) .nil)) .nil))) (.cons (.c (.int 2)) .nil)))) (.cons (.tup (.cons (.tup (.cons (.c (.int 0)) (.cons (.c (.int 1)) .nil))) (.cons (.disp (.cons (.tup (.cons (.c (.int 1)) (.cons (.c (.int 1)) .nil))) (.cons (.lst (.cons (.c (.int 1)) .nil)) .nil))) (.cons (.c (.int 3)) .nil)))) .nil)))))
 (.cons (.ex (.me .append (.v 1) (.cons (.tup (.cons (.tup (.cons (.c (.int 0)) (.cons (.c (.int 1)) .nil))) (.cons (.disp (.cons (.tup (.cons (.c (.int 1)) (.cons (.c (.int 1)) .nil))) (.cons (.lst (.cons (.c (.int 1)) .nil)) (.cons (.tup (.cons (.c (.int 0)) (.cons (.c (.int 0)) .nil))) (.cons (.lst (.cons (.c (.int 1)) .nil)) .nil))))) (.cons (.c (.int 3)) .nil)))) .nil)))
 (.cons (.ex (.me .append (.v 1) (.cons (.tup (.cons (.tup (.cons (.c (.int 0)) (.cons (.c (.int 1)) .nil))) (.cons (.disp (.cons (.tup (.cons (.c (.int 1)) (.cons (.c (.int 1)) .nil))) (.cons (.lst .nil) .nil))) (.cons (.c (.int 1)) .nil)))) .nil)))
 (.cons (.ex (.me .append (.v 1) (.cons (.tup (.cons (.tup (.cons (.c (.int 0)) (.cons (.c (.int 2)) (.cons (.c (.int 1)) .nil)))) (.cons (.disp (.cons (.tup (.cons (.c (.int 0)) (.cons (.c (.int 0)) .nil))) (.cons (.lst (.cons (.c (.int 0)) .nil)) (.cons (.tup (.cons (.c (.int 0)) (.cons (.c (.int 1)) .nil))) (.cons (.lst (.cons (.c (.int 1)) .nil)) (.cons (.tup (.cons (.c (.int 1)) (.cons (.c (.int 0)) .nil))) (.cons (.lst (.cons (.c (.int 1)) .nil)) (.cons (.tup (.cons (.c (.int 1)) (.cons (.c (.int 1)) .nil))) (.cons (.lst (.cons (.c (.int 1)) .nil)) .nil))))))))) (.cons (.c (.int 2)) .nil)))) .nil)))
 (.cons (.ex (.me .append (.v 1) (.cons (.tup (.cons (.tup (.cons (.c (.int 1)) (.cons (.c (.int 0)) .nil))) (.cons .dnew (.cons (.c (.int 3)) .nil)))) .nil)))
 (.cons (.ex (.me .append (.v 1) (.cons (.tup (.cons (.tup (.cons (.c (.int 0)) (.cons (.c (.int 1)) (.cons (.c (.int 2)) .nil)))) (.cons (.disp (.cons (.tup (.cons (.c (.int 2)) (.cons (.c (.int 2)) .nil))) (.cons (.lst (.cons (.c (.int 2)) .nil)) (.cons (.tup (.cons (.c (.int 1)) (.cons (.c (.int 2)) .nil))) (.cons (.lst (.cons (.c (.int 1)) .nil)) (.cons (.tup (.cons (.c (.int 2)) (.cons (.c (.int 1)) .nil))) (.cons (.lst (.cons (.c (.int 1)) .nil)) (.cons (.tup (.cons (.c (.int 1)) (.cons (.c (.int 1)) .nil))) (.cons (.lst (.cons (.c (.int 1)) (.cons (.c (.int 2)) .nil))) .nil))))))))) (.cons (.c (.int 2)) .nil)))) .nil)))
 (.cons (.ex (.me .append (.v 1) (.cons (.tup (.cons (.tup (.cons (.c (.int 0)) (.cons (.c (.int 1)) (.cons (.c (.int 2)) .nil)))) (.cons (.disp (.cons (.tup (.cons (.c (.int 0)) (.cons (.c (.int 0)) .nil))) (.cons (.lst (.cons (.c (.int 0)) (.cons (.c (.int 1)) .nil))) .nil))) (.cons (.c (.int 2)) .nil)))) .nil)))
 (.cons (.ret (.ix (.v 1) (.own "_law_pick" 2 (.cons (.v 0) (.cons (.c (.int 9)) .nil)))))
 .nil))))))))
noncomputable def dQ:Ss:=
 (.cons (.set 5 (.disp (.cons (.tup (.cons (.c (.int 1)) (.cons (.c (.int 0)) .nil))) (.cons (.v 2) (.cons (.tup (.cons (.c (.int 2)) (.cons (.c (.int 0)) .nil))) (.cons (.v 3) (.cons (.tup (.cons (.c (.int 2)) (.cons (.c (.int 1)) .nil))) (.cons (.v 4) .nil))))))))
 (.cons (.loop (.nm 6) (.seq (.bi .list (.cons (.v 5) .nil))) (.cons (.put (.v 5) (.tup (.cons (.ix (.v 6) (.c (.int 1))) (.cons (.ix (.v 6) (.c (.int 0))) .nil))) (.ix (.v 0) (.ix (.v 5) (.v 6))))
 .nil))
 (.cons (.loop (.tp [7,8,9]) (.seq (.own "_law_turns" 0 .nil)) (.cons (.ite (.cmp .notin (.ix (.v 5) (.tup (.cons (.v 7) (.cons (.v 9) .nil)))) (.me .get (.v 1) (.cons (.tup (.cons (.ix (.v 5) (.tup (.cons (.v 7) (.cons (.v 8) .nil)))) (.cons (.ix (.v 5) (.tup (.cons (.v 8) (.cons (.v 9) .nil)))) .nil))) (.cons (.lst (.cons (.ix (.v 5) (.tup (.cons (.v 7) (.cons (.v 9) .nil)))) .nil)) .nil)))) (.cons (.ret (.c (.bl true)))
 .nil) .nil)
 .nil))
 (.cons (.ret (.c (.bl false)))
 .nil))))
noncomputable def bM:Ss:=
 (.cons (.set 3 (.bi .len (.cons (.v 1) .nil)))
 (.cons (.set 4 (.lst (.cons (.lst (.cons (.tup (.cons (.c (.int 0)) .nil)) .nil)) (.cons (.lst (.cons (.tup (.cons (.c (.int 0)) (.cons (.c (.int 1)) .nil))) (.cons (.tup (.cons (.c (.int 1)) (.cons (.c (.int 0)) .nil))) .nil))) .nil))))
 (.cons (.ex (.me .append (.v 4) (.cons (.lst (.cons (.tup (.cons (.c (.int 0)) (.cons (.c (.int 1)) (.cons (.c (.int 2)) .nil)))) (.cons (.tup (.cons (.c (.int 0)) (.cons (.c (.int 2)) (.cons (.c (.int 1)) .nil)))) (.cons (.tup (.cons (.c (.int 2)) (.cons (.c (.int 0)) (.cons (.c (.int 1)) .nil)))) (.cons (.tup (.cons (.c (.int 2)) (.cons (.c (.int 1)) (.cons (.c (.int 0)) .nil)))) .nil))))) .nil)))
 (.cons (.set 5 (.ix (.v 4) (.op .sub (.v 3) (.c (.int 1)))))
 (.cons (.ite (.cmp .eq (.v 1) (.tup (.cons (.c (.int 0)) (.cons (.c (.int 1)) (.cons (.c (.int 2)) .nil))))) (.cons (.set 5 (.own "_law_turns" 0 .nil))
 .nil) .nil)
 (.cons (.set 6 (.ix (.v 5) (.own "_law_pick" 2 (.cons (.v 0) (.cons (.bi .len (.cons (.v 5) .nil)) .nil)))))
 (.cons (.set 7 (.op .mul (.lst (.cons (.c (.int 0)) .nil)) (.v 3)))
 (.cons (.loop (.nm 8) (.rng (.cons (.v 3) .nil)) (.cons (.put (.v 7) (.ix (.v 6) (.v 8)) (.ix (.v 6) (.ix (.v 1) (.v 8))))
 .nil))
 (.cons (.set 9 .dnew)
 (.cons (.loop (.tp [10,11]) (.seq (.v 2)) (.cons (.put (.v 9) (.tup (.cons (.ix (.v 6) (.v 10)) (.cons (.ix (.v 6) (.v 11)) .nil))) (.comp (.ix (.v 2) (.v 1)) (.nm 1) (.seq (.ix (.v 2) (.tup (.cons (.v 10) (.cons (.v 11) .nil))))) .nil [none,none,some 6]))
 .nil))
 (.cons (.ret (.tup (.cons (.bi .tuple (.cons (.v 7) .nil)) (.cons (.v 9) .nil))))
 .nil)))))))))))
noncomputable def cg:Ss:=
 (.cons (.set 1 (.own "_law_pick" 2 (.cons (.v 0) (.cons (.c (.int 7)) .nil))))
 (.cons (.ite (.cmp .eq (.v 1) (.c (.int 0))) (.cons (.ret (.own "_law_free_rule" 1 (.cons (.v 0) .nil)))
 .nil) .nil)
 (.cons (.ite (.cmp .eq (.v 1) (.c (.int 1))) (.cons (.ret (.own "_law_one_way_rule" 1 (.cons (.v 0) .nil)))
 .nil) .nil)
 (.cons (.asg [2,3,4] (.own "_law_laying_kind" 1 (.cons (.v 0) .nil)))
 (.cons (.set 5 (.op .add (.c (.int 1)) (.own "_law_pick" 2 (.cons (.v 0) (.cons (.v 4) .nil)))))
 (.cons (.asg [2,3] (.own "_law_numbered" 3 (.cons (.v 0) (.cons (.v 2) (.cons (.v 3) .nil)))))
 (.cons (.set 6 (.own "_law_rule_of" 4 (.cons (.v 0) (.cons (.v 5) (.cons (.v 2) (.cons (.tup .nil) .nil))))))
 (.cons (.set 7 .dnew)
 (.cons (.set 8 (.bi .len (.cons (.v 2) .nil)))
 (.cons (.loop (.nm 9) (.rng (.cons (.op .mul (.op .mul (.v 8) (.v 8)) (.v 8)) .nil)) (.cons (.par 10 11 (.cons (.op .mod (.v 9) (.v 8)) (.cons (.op .mod (.op .fdiv (.v 9) (.v 8)) (.v 8)) .nil)))
 (.cons (.set 12 (.op .fdiv (.op .fdiv (.v 9) (.v 8)) (.v 8)))
 (.cons (.ite (.own "_law_breaks" 5 (.cons (.v 2) (.cons (.v 3) (.cons (.v 10) (.cons (.v 11) (.cons (.v 12) .nil)))))) (.cons (.loop (.nm 13) (.seq (.own "_law_rising" 1 (.cons (.v 5) .nil))) (.cons (.set 14 (.tup (.cons (.tup (.cons (.ix (.v 13) (.c (.int 0))) (.cons (.tup .nil) .nil))) (.cons (.tup (.cons (.ix (.v 13) (.c (.int 1))) (.cons (.tup (.cons (.v 10) .nil)) .nil))) .nil))))
 (.cons (.put (.v 7) (.own "_law_figure" 2 (.cons (.v 6) (.cons (.op .add (.v 14) (.tup (.cons (.tup (.cons (.ix (.v 13) (.c (.int 2))) (.cons (.tup (.cons (.v 11) (.cons (.v 12) .nil))) .nil))) .nil))) .nil))) (.c (.bl true)))
 .nil)))
 .nil) .nil)
 .nil))))
 (.cons (.ret (.tup (.cons (.ix (.v 6) (.c (.int 0))) (.cons (.ix (.v 6) (.c (.int 1))) (.cons (.bi .tuple (.cons (.bi .sorted (.cons (.v 7) .nil)) .nil)) .nil)))))
 .nil)))))))))))
noncomputable def dR:Ss:=
 (.cons (.set 1 (.lst .nil))
 (.cons (.loop (.nm 2) (.rng (.cons (.v 0) .nil)) (.cons (.loop (.nm 3) (.rng2 (.cons (.v 2) (.cons (.v 0) .nil))) (.cons (.set 1 (.op .add (.v 1) (.comp (.tup (.cons (.v 2) (.cons (.v 3) (.cons (.v 1) .nil)))) (.nm 1) (.rng2 (.cons (.v 3) (.cons (.v 0) .nil))) .nil [none,none,some 2,some 3])))
 .nil))
 .nil))
 (.cons (.ret (.v 1))
 .nil)))
noncomputable def cJ:Ss:=
 (.cons (.asg [1,2] (.own "_law_sizes" 1 (.cons (.v 0) .nil)))
 (.cons (.set 3 (.own "_law_rule_of" 4 (.cons (.v 0) (.cons (.v 1) (.cons (.own "_law_backs" 2 (.cons (.v 0) (.cons (.v 2) .nil))) (.cons (.tup .nil) .nil))))))
 (.cons (.set 5 (.comp (.v 1) (.nm 1) (.rng (.cons (.v 2) .nil)) (.cons (.cmp .eq (.ix (.ix (.ix (.v 2) (.c (.int 1))) (.v 1)) (.c (.int 1))) (.v 1)) .nil) [none,none,some 3]))
 (.cons (.ite (.or (.cmp .eq (.v 5) (.lst .nil)) (.cmp .eq (.v 2) (.c (.int 1)))) (.cons (.ret (.v 3))
 .nil) .nil)
 (.cons (.set 6 (.ix (.v 5) (.own "_law_pick" 2 (.cons (.v 0) (.cons (.bi .len (.cons (.v 5) .nil)) .nil)))))
 (.cons (.set 7 .dnew)
 (.cons (.loop (.nm 4) (.rng (.cons (.own "_law_pick" 2 (.cons (.v 0) (.cons (.c (.int 9)) .nil))) .nil)) (.cons (.set 8 (.own "_law_free_three" 3 (.cons (.v 0) (.cons (.v 1) (.cons (.v 2) .nil)))))
 (.cons (.ite (.and (.cmp .ne (.ix (.ix (.ix (.v 8) (.c (.int 1))) (.c (.int 1))) (.c (.int 0))) (.v 6)) (.cmp .notin (.v 6) (.ix (.ix (.v 8) (.c (.int 2))) (.c (.int 1))))) (.cons (.put (.v 7) (.own "_law_figure" 2 (.cons (.v 3) (.cons (.v 8) .nil))) (.c (.bl true)))
 .nil) .nil)
 .nil)))
 (.cons (.ret (.tup (.cons (.ix (.v 3) (.c (.int 0))) (.cons (.ix (.v 3) (.c (.int 1))) (.cons (.bi .tuple (.cons (.bi .sorted (.cons (.v 7) .nil)) .nil)) .nil)))))
 .nil))))))))
noncomputable def bY:Ss:=
 (.cons (.set 1 (.op .add (.c (.int 1)) (.own "_law_pick" 2 (.cons (.v 0) (.cons (.c (.int 3)) .nil)))))
 (.cons (.set 2 (.comp (.tup (.cons (.tup (.cons (.v 1) (.cons (.tup .nil) .nil))) (.cons (.tup (.cons (.v 1) (.cons (.tup (.cons (.c (.int 0)) .nil)) .nil))) (.cons (.tup (.cons (.v 1) (.cons (.tup (.cons (.c (.int 0)) (.cons (.c (.int 0)) .nil))) .nil))) .nil)))) (.nm 1) (.rng (.cons (.v 1) .nil)) (.cons (.cmp .eq (.own "_law_pick" 2 (.cons (.v 2) (.cons (.c (.int 2)) .nil))) (.c (.int 0))) .nil) [none,none,some 0]))
 (.cons (.ret (.own "_law_rule_of" 4 (.cons (.v 0) (.cons (.v 1) (.cons (.tup (.cons (.c (.int 0)) .nil)) (.cons (.v 2) .nil))))))
 .nil)))
noncomputable def ca:Ss:=
 (.cons (.set 3 (.lst .nil))
 (.cons (.loop (.nm 4) (.rng (.cons (.v 2) .nil)) (.cons (.set 5 (.own "_law_pick" 2 (.cons (.v 0) (.cons (.bi .len (.cons (.ix (.v 1) (.c (.int 0))) .nil)) .nil))))
 (.cons (.ex (.me .append (.v 3) (.cons (.tup (.cons (.v 5) (.cons (.bi .tuple (.cons (.comp (.own "_law_pick" 2 (.cons (.v 2) (.cons (.bi .len (.cons (.ix (.v 3) (.c (.int 1))) .nil)) .nil))) (.nm 1) (.rng (.cons (.v 4) .nil)) .nil [none,none,some 0,some 1]) .nil)) .nil))) .nil)))
 .nil)))
 (.cons (.ret (.bi .tuple (.cons (.v 3) .nil)))
 .nil)))
noncomputable def bF:Ss:=
 (.cons (.ite (.cmp .is (.v 1) (.c .non)) (.cons (.ret (.cmp .is (.v 0) (.c .non)))
 .nil) .nil)
 (.cons (.ite (.or (.isi "bool" (.v 1)) (.isi "bool" (.v 0))) (.cons (.ret (.and (.isi "bool" (.v 1)) (.and (.isi "bool" (.v 0)) (.cmp .eq (.v 0) (.v 1)))))
 .nil) .nil)
 (.cons (.ite (.isi "int" (.v 1)) (.cons (.ret (.and (.isi "int" (.v 0)) (.cmp .eq (.v 0) (.v 1))))
 .nil) .nil)
 (.cons (.ite (.isi "str" (.v 1)) (.cons (.ret (.and (.isi "str" (.v 0)) (.cmp .eq (.v 0) (.v 1))))
 .nil) .nil)
 (.cons (.ite (.or (.cmp .ne (.isi "tuple" (.v 1)) (.isi "tuple" (.v 0))) (.cmp .ne (.isi "list" (.v 1)) (.isi "list" (.v 0)))) (.cons (.ret (.c (.bl false)))
 .nil) .nil)
 (.cons (.ret (.and (.cmp .eq (.bi .len (.cons (.v 0) .nil)) (.bi .len (.cons (.v 1) .nil))) (.bi .all (.cons (.comp (.own "_law_alike" 2 (.cons (.ix (.v 3) (.v 1)) (.cons (.ix (.v 2) (.v 1)) .nil))) (.nm 1) (.rng (.cons (.bi .len (.cons (.v 1) .nil)) .nil)) .nil [none,none,some 1,some 0]) .nil))))
 .nil))))))
noncomputable def Is (defs:List (Str×Df))(f:Str)(np nn:Nat)(b:Ss):Prop:=∃ df:Df,defs.lookup f=some df/\df.ps.length=np/\df.N.length=nn/\df.body=b
theorem aJ {defs:List (Str×Df)}{fuel d:Nat}{f:Str}{np nn:Nat}{b:Ss}{ws:List W}{S:aa}{Q:QW}(h:Is defs f np nn b)(hl:ws.length=np)(ok:gH b=true)
  (hb:∀ Q':QO,(∀ w S',Q (w,S')->Q' (.rt w,S'))->wZ (ap defs fuel d) fuel b (ws.map some++List.replicate (nn - np) none) S Q'):wO (bR (ap defs fuel (d+1)) f np ws S) Q:=by
 obtain⟨df,h1,h2,h3,h4⟩:=h;subst h4;refine DJ h1 hl (hl.trans h2.symm) ok fun Q' hR=>?_
 have:=hb Q' hR;unfold fE;rw[h3,hl];exact this
structure Gen (defs:List (Str×Df)):Prop where
 pick:Is defs ("_law_pick" : Str) 2 4 cN
 letters:Is defs ("_law_letters" : Str) 2 2 dt
 name:Is defs ("_law_name" : Str) 2 3 fG
 names:Is defs ("_law_names" : Str) 2 7 cO
 between:Is defs ("_law_between" : Str) 4 4 du
 part:Is defs ("_law_part" : Str) 3 6 fH
 turns:Is defs ("_law_turns" : Str) 0 0 ga
 figure:Is defs ("_law_figure" : Str) 2 2 dP
 backs:Is defs ("_law_backs" : Str) 2 3 eF
 rule_of:Is defs ("_law_rule_of" : Str) 4 6 dv
 free_three:Is defs ("_law_free_three" : Str) 3 5 cq
 sizes:Is defs ("_law_sizes" : Str) 1 2 eG
 any_rule:Is defs ("_law_any_rule" : Str) 1 6 cZ
 laying_kind:Is defs ("_law_laying_kind" : Str) 1 2 cf
 breaks:Is defs ("_law_breaks" : Str) 5 10 dQ
 numbered:Is defs ("_law_numbered" : Str) 3 12 bM
 laying_rule:Is defs ("_law_laying_rule" : Str) 1 15 cg
 rising:Is defs ("_law_rising" : Str) 1 4 dR
 free_rule:Is defs ("_law_free_rule" : Str) 1 9 cJ
 one_way_rule:Is defs ("_law_one_way_rule" : Str) 1 3 bY
structure FlA (S:aa)(r q:Nat)(ns:List Int)(i c x n:Int):Prop where
 at_r:S[r]?=some (.lst [.ref q,.int i,.int c,.int x,.int n])
 at_q:S[q]?=some (.lst (ns.map W.int))
 lt:q < r
 i0:0<=i
 c0:0<=c
 x0:0<=x
 x1:x < 2147483647
theorem FlA.ne {S:aa}{r q:Nat}{ns:List Int}{i c x n:Int}(h:FlA S r q ns i c x n):q≠r:=ID h.lt
noncomputable def Fl (S:aa)(r:Nat):Prop:=∃ (q:Nat) (ns:List Int) (i c x n:Int),FlA S r q ns i c x n
theorem FlA.put {S:aa}{r q:Nat}{ns:List Int}{i c x n i' c' x' n':Int}(h:FlA S r q ns i c x n)(h1:0<=i')(h2:0<=c')(h3:0<=x')(h4:x' < 2147483647):FlA (S.set r (.lst [.ref q,.int i',.int c',.int x',.int n'])) r q ns i' c' x' n':=
 ⟨bX h.at_r,by rw[b8 (Ne.symm h.ne)]; exact h.at_q,h.lt,h1,h2,h3,h4⟩
theorem Fl.keep {S S':aa}{r:Nat}(h:Fl S r)(h1:S'[r]?=S[r]?)(k:Kp r S S'):Fl S' r:=
 let ⟨q,ns,i,c,x,n,f⟩:=h; ⟨q,ns,i,c,x,n,by rw[h1]; exact f.at_r,k.get _ _ f.ne f.at_q,f.lt,f.i0,f.c0,f.x0,f.x1⟩
theorem Fl.lt {S:aa}{r:Nat}(h:Fl S r):r < S.length:=let ⟨_,_,_,_,_,_,f⟩:=h; dg f.at_r
structure Ka (S S':aa):Prop where
 get:∀ (j:Nat) (o:O),S[j]?=some o->S'[j]?=some o
 len:S.length<=S'.length
theorem Ka.refl {S:aa}:Ka S S:=⟨fun _ _ h=>h,Ip _⟩
theorem Ka.trans {S S' S'':aa}(a:Ka S S')(b:Ka S' S''):Ka S S'':=⟨fun j o h=>b.get j o (a.get j o h),IC a.len b.len⟩
theorem Ka.push {S:aa}{o:O}:Ka S (S++[o]):=⟨fun j u h=>aq h,by simp⟩
theorem Ka.late {t:Nat}{S0 S:aa}{o:O}(a:Ka S0 S)(h:S0.length<=t):Ka S0 (S.set t o):=
 ⟨fun j u e=>by have:=dg e; rw[b8 (by omega)]; exact a.get j u e,by simpa using a.len⟩
theorem Ka.kp {S S':aa}(a:Ka S S')(r:Nat):Kp r S S':=⟨fun j o _ h=>a.get j o h,a.len⟩
theorem Fl.ka {S S':aa}{r:Nat}(h:Fl S r)(k:Ka S S'):Fl S' r:=h.keep (by obtain⟨q,ns,i,c,x,n,f⟩:=h; rw[k.get _ _ f.at_r,f.at_r]) (k.kp r)
theorem Fl.own {S:aa}{r t:Nat}{o:O}(h:Fl S r)(ht:r < t):Fl (S.set t o) r:=by
 obtain⟨q,ns,i,c,x,n,f⟩:=h;have:=f.lt;exact⟨q,ns,i,c,x,n,by rw[b8 (by omega)]; exact f.at_r,by rw[b8 (by omega)]; exact f.at_q,f.lt,f.i0,f.c0,f.x0,f.x1⟩
theorem eB {S:aa}{r:Nat}{xs:List W}{i:Nat}{w:W}{Q:QW}(h:S[r]?=some (.lst xs))(hw:xs[i]?=some w)(q:Q (w,S)):wO (pI (.ref r) (.int (i:Int)) S) Q:=ae (ym h (IG i) (by rw[(IB)]; exact hw)) q
theorem ny {S:aa}{r:Nat}{xs:List W}{i:Nat}{w:W}{Q:aa->Prop}(h:S[r]?=some (.lst xs))(hi:Nat.ble (i+1) xs.length=true)(q:Q (S.set r (.lst (xs.set i w)))):wO (iJ (.ref r) (.int (i:Int)) w S) Q:=ae (Cb h (IG i) (by rw[(IB)]; exact Nat.le_of_ble_eq_true hi)) (by rw[(IB)]; exact q)
section
variable {defs:List (Str×Df)} {fuel d:Nat} {S:aa} {r:Nat} {Q:QW}
theorem bc (hd:Is defs ("_law_pick" : Str) 2 4 cN){m:Int}(hf:Fl S r)(h0:0 < m)(h1:m < 1073741824)(k:∀ v S',0<=v->v < m->Fl S' r->Kp r S S'->Q (.int v,S')) :
  wO (bR (ap defs fuel (d+1)) "_law_pick" 2 [.ref r,.int m] S) Q:=by
 obtain⟨q,ns,i,c,x,n,f⟩:=hf;refine aJ hd rfl rfl fun Q' hR=>?_
 replace k:∀ v S',0<=v->v < m->Fl S' r->Kp r S S'->Q' (.rt (.int v),S'):=fun v S' a b c e=>hR _ _ (k v S' a b c e)
 clear hR;show wZ _ _ cN [some (.ref r),some (.int m),none,none] S Q';have bT:∀ (S1:aa) (w2:Option W) (i1 c1 x1 n1:Int),FlA S1 r q ns i1 c1 x1 n1->Kp r S S1->wZ (ap defs fuel d) fuel (match cN with|.cons _ ss=>ss|.nil=>.nil) [some (.ref r),some (.int m),w2,none] S1 Q':=by
  intro S1 w2 i1 c1 x1 n1 f1 k1;dsimp only[cN];refine st ?_;dsimp only[wS,wT,wE,wV,wG];refine eB (i:=2) f1.at_r rfl ?_;dsimp only[Bn,wO,wB];refine aD (Q0:=Q') (fun hg Q2 hn hr=>?_) (fun hg Q2 hn hr=>?_)
  ·clear hn;refine st ?_;dsimp only[wS,wE,wV,wG];refine eB (i:=2) f1.at_r rfl (ae (iO h0) ?_);refine st ?_;dsimp only[wS,wE,wV,wG,List.set];refine eB (i:=2) f1.at_r rfl (ae (ib h0 h1) (ny (i:=2) f1.at_r rfl ?_));refine st ?_;dsimp only[wS,wE,wV,wG,List.set];exact hr _ _ (k _ _ (JS _ (by omega)) (JM _ h0) ⟨q,ns,i1,c1 / m,x1,n1,f1.put f1.i0 (Int.ediv_nonneg f1.c0 (by omega)) f1.x0 f1.x1⟩ (k1.trans .set))
  ·refine cH (hn _ _ ?_);clear hn hr;have f2:FlA (S1.set r (.lst [.ref q,.int i1,.int c1,.int x1,.int (n1+1)])) r q ns i1 c1 x1 (n1+1):=f1.put f1.i0 f1.c0 f1.x0 f1.x1;refine st ?_;dsimp only[wS,wE,wV,wG];refine eB (i:=4) f1.at_r rfl ?_;dsimp only[cW,wO];refine ny (i:=4) f1.at_r rfl ?_;refine st ?_;dsimp only[wS,wE,wV,wG,List.set];refine eB (i:=3) f2.at_r rfl (ae (qQ (by decide) (by decide)) ?_)
   dsimp only[cW,wO];refine eB (i:=4) f2.at_r rfl ?_;dsimp only[cW,wO];refine(ny (i:=3) f2.at_r rfl ?_);have f3:FlA ((S1.set r (.lst [.ref q,.int i1,.int c1,.int x1,.int (n1+1)])).set r (.lst [.ref q,.int i1,.int c1,.int ((x1*48271+12820163+(n1+1)) % 2147483647),.int (n1+1)])) r q ns i1 c1 ((x1*48271+12820163+(n1+1)) % 2147483647) (n1+1):=f2.put f1.i0 f1.c0 (JS _ (by decide)) (JM _ (by decide))
   dsimp only[List.set];generalize(x1*48271+12820163+(n1+1)) % 2147483647=y at f3 ⊢;have b1:y / 65521+7919 < 2 ^ 64:=by
    have:=f3.x1;have:=Int.ediv_le_self 65521 f3.x0;omega
   have b2 : -(2 ^ 64) < y / 65521+7919:=by
    have:=Int.ediv_nonneg f3.x0 (show(0:Int)<=65521 by decide)
    omega
   refine st ?_;dsimp only[wS,wE,wV,wG,List.set];refine eB (i:=3) f3.at_r rfl (ae (iO (by decide)) ?_)
   dsimp only[cW,wO];refine eB (i:=3) f3.at_r rfl ?_;dsimp only[cW,wO];refine ae (qQ b2 b1) ?_;refine ae (iO h0) ?_;exact k _ _ (JS _ (by omega)) (JM _ h0) ⟨q,ns,_,_,_,_,f3⟩ (k1.trans (Kp.set.trans .set))
 dsimp only[cN]at bT ⊢;refine st ?_;dsimp only[wS,wT,wE,wV,wG,wA];refine eB (i:=2) f.at_r rfl ?_;dsimp only[ic,wO,wB];have skip:∀ Q2:QO,(∀ ρ' S',wZ (ap defs fuel d) fuel _ ρ' S' Q'->Q2 (.nx ρ',S'))->Q2 (.nx [some (.ref r),some (.int m),none,none],S):=fun Q2 hn=>hn _ _ (bT S none i c x n f .refl)
 refine⟨fun _=>?_,fun _ Q2 hn hr=>⟨fun z=>(by cases z),fun _=>(cH (skip Q2 hn)).out⟩⟩
 refine eB (i:=1) f.at_r rfl (eB (i:=0) f.at_r rfl (ae (Cc f.at_q) ?_));dsimp only[Bm,wO,wB];refine aD (Q0:=Q') (fun hl Q2 hn _=>?_) (fun hg Q2 hn hr=>cH (skip Q2 hn))
 clear skip;have hl':i.toNat < ns.length:=by
  have:=IK hl;rw[(Im)]at this;have:=f.i0;omega
 have hcell:(ns.map W.int)[i.toNat]?=some (.int ns[i.toNat]):=by simp[hl']
 generalize ns[i.toNat]=cell at hcell;have f1:FlA (S.set r (.lst [.ref q,.int (i+1),.int c,.int x,.int n])) r q ns (i+1) c x n:=f.put (by have:=f.i0; omega) f.c0 f.x0 f.x1
 refine st ?_;dsimp only[wS,wE,wV,wG];refine eB (i:=0) f.at_r rfl (eB (i:=1) f.at_r rfl (ae (ym f.at_q f.i0 hcell) ?_));refine st ?_;dsimp only[wS,wE,wV,wG,List.set];refine eB (i:=1) f.at_r rfl ?_;dsimp only[cW,wO];refine ny (i:=1) f.at_r rfl ?_;refine st ?_;dsimp only[wS,wT,wE,wV,wG,DH,Ho,wO,wB];refine aD (Q0:=Q') (fun hg Q3 hn3 _=>?_) (fun hg Q3 hn3 _=>?_)
 ·refine st ?_;dsimp only[wS,wE,wV,wG];refine ny (i:=2) f1.at_r rfl (cH (hn3 _ _ (cH (hn _ _ ?_))));exact bT _ _ (i+1) cell x n (f1.put f1.i0 (by have:=IK hg; omega) f.x0 f.x1) (Kp.set.trans .set)
 ·refine st ?_;dsimp only[wS,wE,wV,wG];refine eB (i:=3) f1.at_r rfl (ae (qQ (by decide) (by decide)) (ae (iO (by decide)) ?_))
  dsimp only[cW,wO];refine ny (i:=3) f1.at_r rfl (cH (hn3 _ _ (cH (hn _ _ ?_))));exact bT _ _ (i+1) c _ n (f1.put f1.i0 f.c0 (JS _ (by decide)) (JM _ (by decide))) (Kp.set.trans .set)
end
noncomputable def dr:Nat->Ss->Ss
 | 0,ss=>ss
 | n+1,.cons _ ss=>dr n ss
 | _,.nil=>.nil
theorem aQ {α:Type}{a:α}{Q:α->Prop}:wO (some a) Q=Q a:=rfl
theorem aZ {Φ:Str->FF}{fuel:Nat}{ρ:Fm}{S:aa}{Q:QO}{s:Sm}{ss:Ss}(h:∀ K:Fm->aa->Prop,(∀ ρ' S',wZ Φ fuel ss ρ' S' Q->K ρ' S')->wS Φ fuel s ρ S K Q):wZ Φ fuel (.cons s ss) ρ S Q:=st (h _ fun _ _ h=>h)
theorem FZ {Φ:Str->FF}{fuel:Nat}{ρ:Fm}{S:aa}{i:Nat}{e:E}{K:Fm->aa->Prop}{Q:QO}(h:wE Φ e ρ S fun p=>K (ρ.set i (some p.1)) p.2):wS Φ fuel (.set i e) ρ S K Q:=by rw[wS]; exact h
theorem iR {n:Nat}(h:Nat.ble n 1000=true):n<=sizeLine:=IC (Nat.le_of_ble_eq_true h) (by rw[(Ja)]; decide)
theorem kF {n:Nat}(h:n<=1000):n<=sizeLine:=IC h (by rw[(Ja)]; decide)
theorem fM {S:aa}{r:Nat}{xs:List W}{i:Int}{w:W}{Q:QW}(h:S[r]?=some (.lst xs))(h0:0<=i)(hw:xs[i.toNat]?=some w)(q:Q (w,S)):wO (pI (.ref r) (.int i) S) Q:=ae (ym h h0 hw) q
theorem aw {S:aa}{xs:List W}{i:Int}{w:W}{Q:QW}(h0:0<=i)(hw:xs[i.toNat]?=some w)(q:Q (w,S)):wO (pI (.tup xs) (.int i) S) Q:=ae (FP h0 hw) q
theorem nz {S:aa}{r:Nat}{xs:List W}{y:W}{Q:QW}(h:S[r]?=some (.lst xs))(hl:xs.length < 1000)(q:Q (.non,S.set r (.lst (xs++[y])))):wO (Me.append.fn (.ref r) [y] S) Q:=ae (ue h (IH hl (iR rfl))) q
theorem en {S:aa}{r:Nat}{xs:List W}{Q:QW}(h:S[r]?=some (.lst xs))(q:Q (.int xs.length,S)):wO (Bi.len.fn [.ref r] S) Q:=ae (Cc h) q
theorem bZ {S:aa}{xs:List W}{Q:QW}(q:Q (.int xs.length,S)):wO (Bi.len.fn [.tup xs] S) Q:=q
theorem eu {S:aa}{r:Nat}{xs:List W}{Q:QW}(h:S[r]?=some (.lst xs))(q:Q (.tup xs,S)):wO (Bi.tuple.fn [.ref r] S) Q:=ae (FQ h) q
section
variable {Φ:Str->FF} {fuel:Nat} {ρ:Fm} {S S1:aa} {K:Fm->aa->Prop}
theorem cj {t:E}{a:Ss}{Q:QO}(ht:∀ Q:QB,Q (false,S1)->wT Φ t ρ S Q)(h:K ρ S1):wS Φ fuel (.ite t a .nil) ρ S K Q:=by
 rw[wS];exact ht _ fun Q' h1 h2=>⟨fun z=>(by cases z),fun _=>(cH (h1 _ _ h)).out⟩
theorem qR {t:E}{a b:Ss}{Q:QO}(ht:∀ Q:QB,Q (true,S1)->wT Φ t ρ S Q)(h:∀ Q':QO,(∀ ρ' S',K ρ' S'->Q' (.nx ρ',S'))->(∀ w S',Q (.rt w,S')->Q' (.rt w,S'))->wZ Φ fuel a ρ S1 Q'):wS Φ fuel (.ite t a b) ρ S K Q:=by
 rw[wS];exact ht _ fun Q' h1 h2=>⟨fun _=>(h Q' h1 fun w S' q=>h2 (.rt w) S' (fun _ z=>nomatch z) q).out,fun z=>(by cases z)⟩
end
theorem yp:∀ k:Fin 26,("abcdefghijklmnopqrstuvwxyz" : Str).cps.toList[k.val]?=some (97+k.val):=by decide
theorem uj:("abcdefghijklmnopqrstuvwxyz" : Str).length<=sizeLine:=by decide
theorem lr:∀ cs:List Nat,jg (cs.map fun c=>W.str ⟨#[c]⟩)=some (cs.map fun c=>(⟨#[c]⟩ : Str))
 | []=>rfl
 | c::cs=>by simp[jg,lr cs]
theorem nA:∀ cs:List Nat,((cs.map fun c=>(⟨#[c]⟩ : Str)).map (·.length)).sum=cs.length
 | []=>rfl
 | c::cs=>by
  have:=nA cs;simp only[List.map_cons,List.sum_cons,List.length_cons];rw[this];show 1+cs.length=_;omega
theorem fI (a b:Str):(a++b).cps.toList=a.cps.toList++b.cps.toList:=Array.toList_append
theorem lu:∀ cs:List Nat,(Str.join "" (cs.map fun c=>(⟨#[c]⟩ : Str))).cps.toList=cs
 | []=>rfl
 | [c]=>rfl
 | c::d::cs=>by
  have ih:=lu (d::cs);show(((⟨#[c]⟩ : Str)++("" : Str)++Str.join "" ((d::cs).map fun c=>(⟨#[c]⟩ : Str))).cps).toList=_
  rw[fI,fI,ih];rfl
theorem qS (cs:List Nat):(Txt.join "" (cs.map fun c=>(⟨#[c]⟩ : Str))).cps.toList=cs:=by
 show(Builtin.Str.glued "" _).cps.toList=_;rw[StrLaws.glued_eq_join];exact lu cs
noncomputable def uk (y:Str):Prop:=∀ c∈y.cps.toList,97<=c/\c<=122
noncomputable def Name (y:Str):Prop:=1<=y.cps.toList.length/\y.cps.toList.length<=8/\uk y
theorem ul (y:Str):y.length=y.cps.toList.length:=by simp[Str.length]
noncomputable def yq:List Str:=["markss","mark","way","wayss","bars","ba","somex","eachx","note","no","ands","ors","o","iss"]
theorem vD:∀ y∈yq,Name y:=by
 have h:yq.all (fun y=>decide (1<=y.cps.toList.length/\y.cps.toList.length<=8)&&y.cps.toList.all fun c=>decide (97<=c/\c<=122))=true:=by decide
 intro y hy;have:=IJ.mp h y hy;rw[(Iq)]at this;obtain⟨a,b⟩:=this;exact⟨(IK a).1,(IK a).2,fun c hc=>IK (IJ.mp b c hc)⟩
theorem lv {α:Type}{f:α->W}{xs:List α}{i:Nat}(h:i < xs.length):∃ x∈xs,(xs.map f)[i]?=some (f x):=⟨xs[i],IQ _,by rw[(Iu),List.getElem?_eq_getElem h]; rfl⟩
section
variable {defs:List (Str×Df)} {fuel d:Nat} {S:aa} {r:Nat} {Q:QW}
theorem jt (G:Gen defs){m:Int}(hf:Fl S r)(h0:0<=m)(h1:m<=1000)(k:∀ y S',y.cps.toList.length=m.toNat->uk y->Fl S' r->Kp r S S'->Q (.str y,S')) :
  wO (bR (ap defs fuel (d+2)) "_law_letters" 2 [.ref r,.int m] S) Q:=by
 refine aJ G.letters rfl rfl fun Q' hR=>?_
 show wZ _ _ dt [some (.ref r),some (.int m)] S Q';dsimp only[dt];refine st ?_;dsimp only[wS,wE,wA];refine⟨rfl,cY m (fun i ys ρ S'=>(∃ a,ρ=[none,a,some (.ref r)])/\Fl S' r/\Kp r S S'/\∃ cs:List Nat,ys=cs.map (fun c=>W.str ⟨#[c]⟩)/\cs.length=i/\∀ c∈cs,97<=c/\c<=122) rfl rfl rfl ⟨by omega,by omega⟩ ⟨rfl,⟨none,rfl⟩,hf,.refl,[],rfl,rfl,fun _ h=>nomatch h⟩ ?_ ?_⟩
 ·rintro i ys ρ S1 hi ⟨⟨a,rfl⟩,f1,k1,cs,rfl,hl,hc⟩;dsimp only[kE,wC,wE,wA,wV,wG,List.set];refine⟨fun _=>bc (d:=d) G.pick f1 (by decide) (by decide) fun v S2 h2 h3 f2 k2=>?_,fun z=>by cases z⟩
  have ha:=yp ⟨v.toNat,by omega⟩
  refine ae (Ca uj h2 ha) ⟨⟨_,rfl⟩,f2,k1.trans k2,cs++[97+v.toNat],by simp,by simp[hl],fun c hx=>?_⟩
  rcases IL.mp hx with h|h
  ·exact hc c h
  ·rw[List.mem_singleton.mp h]; omega
 ·rintro ys ρ S1 ⟨_,f1,k1,cs,rfl,hl,hc⟩;refine⟨by rw[(Im),hl,(Ja)]; omega,?_⟩
  have hz:((cs.map fun c=>(⟨#[c]⟩ : Str)).map (·.length)).sum+(cs.map fun c=>(⟨#[c]⟩ : Str)).length*("" : Str).length<=16777216:=by
   rw[nA,show("" : Str).length=0 from rfl,Nat.mul_zero]
   omega
  refine ae (a:=(.str (Txt.join "" (cs.map fun c=>(⟨#[c]⟩ : Str))),S1++[.lst (cs.map fun c=>W.str ⟨#[c]⟩)])) ?_ (hR _ _ (k _ _ (by rw[qS,hl]) (fun c h=>hc c (by rw[qS]at h; exact h)) (f1.ka .push) (k1.trans .push)))
  simp only[Me.fn,sZ,eW,aK ag,lr];rw[if_pos hz]
theorem DK (G:Gen defs){y:Str}(hf:Fl S r)(h0:y.cps.toList.length<=6)(h1:uk y)(k:∀ z S',Name z->Fl S' r->Kp r S S'->Q (.str z,S')) :
  wO (bR (ap defs fuel (d+3)) "_law_name" 2 [.ref r,.str y] S) Q:=by
 refine aJ G.name rfl rfl fun Q' hR=>?_
 replace k:∀ z S',Name z->Fl S' r->Kp r S S'->Q' (.rt (.str z),S'):=fun z S' a b c=>hR _ _ (k z S' a b c)
 clear hR;show wZ _ _ fG [some (.ref r),some (.str y),none] S Q';dsimp only[fG];refine aZ fun K hK=>?_
 dsimp only[wS,wT,wE,wV,wG,FN,wO,wB];refine aD (Q0:=Q') (fun _ Q2 _ hr=>?_) (fun _ Q2 hn _=>?_)
 ·refine st ?_;dsimp only[wS,wE,wA,wV,wG];refine bc (d:=d+1) G.pick hf (by decide) (by decide) fun v S1 v0 v1 f1 k1=>?_
  dsimp only[cW,wO];refine jt (d:=d) G f1 (by omega) (by omega) fun z S2 hz hs f2 k2=>?_
  have hl:(y++z).cps.toList.length=y.cps.toList.length+z.cps.toList.length:=by rw[fI,(Iv)]
  refine ae (DI (by rw[ul,ul,(Ja)]; omega)) (hr _ _ (k _ _ ⟨by omega,by omega,fun c hc=>?_⟩ f2 (k1.trans k2)))
  rw[fI]at hc;exact(IL.mp hc).elim (h1 c) (hs c)
 ·refine cH (hn _ _ (hK _ _ ?_));clear hn hK;refine aZ fun K hK=>?_
  dsimp only[wS,wT,wE,wA,wV,wG];refine bc (d:=d+1) G.pick hf (by decide) (by decide) fun v S1 v0 v1 f1 k1=>?_
  dsimp only[ic,wO,wB];refine aD (Q0:=Q') (fun _ Q2 _ hr=>?_) (fun _ Q2 hn _=>?_)
  ·refine st ?_;dsimp only[wS,wE,wA,wV,wG,List.set];refine st ?_;dsimp only[wS,wE,wA,wV,wG,List.set];refine ae (sE (i:=S1.length) (j:=(S1++[_]).length) (aq ag) ag (iR rfl)) ?_;dsimp only;refine st ?_;dsimp only[wS,wE,wA,wV,wG,List.set];refine bc (d:=d+1) G.pick (((f1.ka .push).ka .push).ka .push) (by decide) (by decide) fun v S2 v0 v1 f2 k2=>?_
   have e:=k2.get _ _ (by have:=f1.lt; simp only[List.length_append]; omega) ag
   obtain⟨z,hz,ez⟩:=lv (f:=W.str) (xs:=yq) (i:=v.toNat) (by show v.toNat < 14; omega)
   exact fM e v0 ez (hr _ _ (k _ _ (vD z hz) f2 (k1.trans (Kp.push.trans (Kp.push.trans (Kp.push.trans k2))))))
  ·refine cH (hn _ _ (hK _ _ ?_));clear hn hK;refine st ?_;dsimp only[wS,wE,wA,wV,wG];refine bc (d:=d+1) G.pick f1 (by decide) (by decide) fun v S2 v0 v1 f2 k2=>?_
   dsimp only[cW,wO];exact jt (d:=d) G f2 (by omega) (by omega) fun z S3 hz hs f3 k3=>k _ _ ⟨by omega,by omega,hs⟩ f3 (k1.trans (k2.trans k3))
end
theorem oR {α:Type}[DecidableEq α]:∀ (l m:List α),l.Nodup->(∀ x∈l,x∈m)->l.length<=m.length
 | [],_,_,_=>Jn _
 | x::l,m,hn,hs=>by
  rw[(Kv)]at hn;have hx:x∈m:=hs x (.head _);have h1:=oR l (m.erase x) hn.2 fun y hy=>(List.mem_erase_of_ne (fun(e:y=x)=>hn.1 (by rw[<- e]; exact hy))).mpr (hs y (.tail _ hy))
  rw[List.length_erase_of_mem hx]at h1;have:=List.length_pos_of_mem hx;rw[(JN)]; omega
noncomputable def l4 (k:Nat):Str:=⟨#[97+k]⟩
theorem yr {a b:Nat}(h:l4 a=l4 b):a=b:=by
 unfold l4 at h;injection h with h
 injection h with h
 injection h with h
 omega
theorem qT (s:Nat):((List.range s).map l4).Nodup:=by
 unfold List.Nodup;rw[List.pairwise_map];exact List.nodup_range.imp fun h e=>h (yr e)
theorem vE {k:Nat}(h:k < 26):Name (l4 k):=⟨Ip 1,(by decide:1<=8),fun c hc=>by
 cases IN.mp (show c∈[97+k]from hc)
 omega⟩
noncomputable def ig:List Str:=["marks","ways","bar","some","each","not","and","or","is"]
theorem yt (zs:List Str):(zs.map W.str).all cv=true:=by
 rw[(IJ)];intro x hx;obtain⟨z,_,rfl⟩:=IF.mp hx;rfl
theorem Bq (zs:List Str)(y:Str):((zs.map W.str).any fun z=>zv z (.str y))=decide (y∈zs):=by
 induction zs with
 | nil=>rfl
 | cons z zs ih=>
  rw[(JX),(Kd),ih];show((z==y)||_)=_
  by_cases h:z=y
  ·subst h; simp
  ·have:(z==y)=false:=by simpa using h
   rw[this,Bool.false_or];have h2:(y∈z::zs)=(y∈zs):=by simp[Ne.symm h]
   simp only[h2]
theorem vF {S:aa}{t:Nat}{zs:List Str}{y:Str}(h:S[t]?=some (.lst (zs.map W.str))):dh .isin (.str y) (.ref t) S=some (.bl (decide (y∈zs)),S):=by
 simp only[dh,kD h,jd,Ei,BX,eW,aK h];rw[if_pos (by rw[yt]; rfl),Bq]
 rfl
theorem DL {S:aa}{k:Nat}:fS .mul (.str ⟨#[k]⟩) (.int 1) S=some (.str ⟨#[k]⟩,S):=by
 simp only[fS,wK];rw[if_pos ⟨by decide,by decide,by show 1*1<=sizeLine; rw[sizeLine_eq]; decide⟩]
 rfl
theorem qU {xs:List W}{k:Nat}:je xs none (some (k:Int))=xs.take k:=by
 unfold je;rw[HT.kL,HT.sO,List.drop_zero,Nat.sub_zero]
 by_cases h:k<=xs.length
 ·rw[Nat.min_eq_left h]
 ·rw[Nat.min_eq_right (by omega),List.take_of_length_le (Nat.le_refl _),List.take_of_length_le (by omega)]
theorem qV {xs:List W}{k:Nat}:je xs (some (k:Int)) none=xs.drop k:=by
 unfold je;rw[HT.kL,HT.sO]
 by_cases h:k<=xs.length
 ·rw[Nat.min_eq_left h,List.take_of_length_le (by rw[List.length_drop]; exact Ip _)]
 ·rw[Nat.min_eq_right (by omega),List.drop_of_length_le (Nat.le_refl _),List.drop_of_length_le (by omega)]; exact List.take_nil
section
variable {defs:List (Str×Df)} {fuel d:Nat} {S:aa} {r:Nat} {Q:QW}
theorem Br {Φ:Str->FF}{m z w:W}{t:Nat}{y:Str}{zs:List Str}{K:Fm->aa->Prop}{Q:QO}(hfu:20 < fuel)(hy:Name y)(e:S[t]?=some (.lst (zs.map W.str)))(hl:zs.length<=15)
  (k:∀ y s,Name y->y∉zs->K [some (.ref r),some m,some z,some (.ref t),some w,some (.str y),some s] S) :
  wS Φ fuel (.whl (.cmp .isin (.v 5) (.v 3)) (.cons (.set 5 (.op .mul (.ix (.c (.str "abcdefghijklmnopqrstuvwxyz")) (.op .mod (.v 6) (.c (.int 26)))) (.op .add (.c (.int 1)) (.op .fdiv (.v 6) (.c (.int 26)))))) (.cons (.set 6 (.op .add (.v 6) (.c (.int 1)))) .nil)))
   [some (.ref r),some m,some z,some (.ref t),some w,some (.str y),some (.int 0)] S K Q:=by
 rw[wS];refine Cf (fun mm ρ S'=>∃ (s:Nat) (y:Str),ρ=[some (.ref r),some m,some z,some (.ref t),some w,some (.str y),some (.int s)]/\S'=S/\mm+s=18/\s<=16/\Name y/\(0 < s->y=l4 (s - 1))/\∀ k,k+1 < s->l4 k∈zs) 18 rfl rfl (by omega) ⟨0,y,rfl,rfl,rfl,by omega,hy,fun h=>absurd h (by omega),fun k h=>absurd h (by omega)⟩ ?_
 rintro mm ρ S' ⟨s,y',rfl,rfl,hm,hs,hy',hc1,hc2⟩;dsimp only[wT,wE,wV,wG];refine ae (vF e) ⟨fun hin=>?_,fun hout=>k _ _ hy' (Ju hout)⟩
 have all:∀ k,k < s->l4 k∈zs:=fun k hk=>by
  by_cases h:k+1 < s
  ·exact hc2 k h
  ·have e:k=s - 1:=by omega
   rw[e,<- hc1 (by omega)]; exact IK hin
 have hs15:s<=15:=by
  have h7:=oR ((List.range s).map l4) zs (qT s) fun x hx=>by
   obtain⟨k,hk,rfl⟩:=IF.mp hx;exact all k (IU.mp hk)
  rw[(Im),(IS)]at h7;omega
 refine⟨mm - 1,by omega,fun Q2 hn _=>?_⟩
 have em:((s:Int) % 26)=s:=Int.emod_eq_of_lt (by omega) (by omega)
 have ed:((s:Int) / 26)=0:=Int.ediv_eq_zero_of_lt (by omega) (by omega)
 refine st ?_;dsimp only[wS,wE,wV,wG,List.set];refine ae (iO (by decide)) ?_
 rw[em];refine ae (Ca (i:=(s:Int)) uj (IG s) (yp ⟨s,by omega⟩)) ?_
 have e2:fS .fdiv (.int s) (.int 26) S'=some (.int 0,S'):=by rw[ib (by omega) (by omega),ed]
 dsimp only;rw[e2];dsimp only[cW,aQ];rw[show(1:Int)+0=1 from rfl]
 refine ae DL ?_;refine st ?_;dsimp only[wS,wE,wV,wG,List.set,cW,aQ];exact cH (hn _ _ ⟨s+1,l4 s,rfl,rfl,by omega,by omega,vE (by omega),fun _=>rfl,fun k hk=>all k (by omega)⟩)
theorem Bs (hfu:20 < fuel)(G:Gen defs){m:Nat}(hf:Fl S r)(h1:m<=6)(k:∀ (ys:List Str) S',ys.length=m->(∀ y∈ys,Name y)->(ig++ys).Nodup->Fl S' r->Kp r S S'->Q (.tup (ys.map W.str),S')) :
  wO (bR (ap defs fuel (d+4)) "_law_names" 2 [.ref r,.int m] S) Q:=by
 refine aJ G.names rfl rfl fun Q' hR=>?_
 replace k:∀ (ys:List Str) S',ys.length=m->(∀ y∈ys,Name y)->(ig++ys).Nodup->Fl S' r->Kp r S S'->Q' (.rt (.tup (ys.map W.str)),S'):=fun z S' a b c e f=>hR _ _ (k z S' a b c e f)
 clear hR;show wZ _ _ cO [some (.ref r),some (.int m),none,none,none,none,none] S Q';have bT:∀ (z:Str) (S2:aa),z.cps.toList.length<=6->uk z->Fl S2 r->Kp r S S2->wZ (ap defs fuel (d+3)) fuel (dr 2 cO) [some (.ref r),some (.int m),some (.str z),none,none,none,none] S2 Q':=by
  intro z S2 hz1 hz2 f2 k2;dsimp only[dr,cO];have hrt:=f2.lt;have hSt:=k2.len;refine st ?_;dsimp only[wS,wE,wA,wV,wG,List.set];refine aZ fun K hK=>?_
  refine dq (m:Int) (fun i ρ S'=>∃ a4 a5 a6 ys,ρ=[some (.ref r),some (.int m),some (.str z),some (.ref S2.length),a4,a5,a6]/\S'[S2.length]?=some (.lst ((ig++ys).map W.str))/\ys.length=i/\(∀ y∈ys,Name y)/\(ig++ys).Nodup/\Fl S' r/\Kp r S S') rfl rfl (by omega) ?_ ?_ ?_
  ·dsimp only[wE,wV,wG];exact⟨rfl,none,none,none,[],rfl,ag,rfl,fun _ h=>(nomatch h),by decide,f2.ka .push,k2.trans .push⟩
  ·rintro i ρ S3 hi ⟨a4,a5,a6,ys,rfl,e3,hy1,hy2,hy3,f3,k3⟩ Q2 hn _;clear hK;refine st ?_;dsimp only[wS,wE,wA,wV,wG,List.set];refine DK (d:=d) G f3 hz1 hz2 fun y S4 hy f4 k4=>?_
   have e4:=k4.get _ _ (by omega) e3
   refine st ?_;dsimp only[wS,wE,wA,wV,wG,List.set];refine st (Br hfu hy e4 (by rw[(Iv),hy1]; show 9+i<=15; omega) fun y' s hy' hnot=>?_)
   refine st ?_;dsimp only[wS,wE,wA,wV,wG,List.set];refine⟨dj e4,nz e4 (by rw[(Im),(Iv),hy1]; show 9+i < 1000; omega) ?_⟩
   refine cH (hn _ _ ⟨_,_,_,ys++[y'],rfl,?_,by rw[(Iv),hy1]; rfl,fun x hx=>?_,?_,f4.own hrt,(k3.trans k4).late hSt⟩)
   ·rw[bX e4,<- (JK),List.map_append (l₁:=ig++ys)]; rfl
   ·rcases IL.mp hx with h|h
    ·exact hy2 x h
    ·rw[List.mem_singleton.mp h]; exact hy'
   ·rw[<- (JK),(JP)];refine⟨hy3,by simp,fun a ha b hb e=>?_⟩
    rw[List.mem_singleton.mp hb]at e;exact hnot (e ▸ ha)
  ·rintro ρ S3 ⟨a4,a5,a6,ys,rfl,e3,hy1,hy2,hy3,f3,k3⟩;refine hK _ _ (st ?_);dsimp only[wS,wE,wA,wV,wG,wP,wN];have hs:w6 (.ref S2.length) (some 9) none S3=some (.ref S3.length,S3++[.lst (ys.map W.str)]):=by
    have:je ((ig++ys).map W.str) (some ((9:Nat):Int)) none=ys.map W.str:=by
     rw[qV,(IV)];exact List.drop_left' rfl
    simp only[w6,aK e3];rw[show(some 9:Option Int)=some ((9:Nat):Int)from rfl,this]
   refine ae hs (eu ag (k _ _ ?_ hy2 hy3 (f3.ka .push) (k3.trans .push)));rw[hy1]; exact IB m
 dsimp only[cO];refine st ?_;dsimp only[wS,wE,List.set];refine aZ fun K hK=>?_
 dsimp only[wS,wT,wE,wA,wV,wG];refine bc (d:=d+2) G.pick hf (by decide) (by decide) fun v S1 v0 v1 f1 k1=>?_
 dsimp only[ic,wO,wB];refine aD (Q0:=Q') (fun _ Q2 hn _=>?_) (fun _ Q2 hn _=>?_)
 ·refine st ?_;dsimp only[wS,wE,wA,wV,wG,List.set];refine bc (d:=d+2) G.pick f1 (by decide) (by decide) fun v S2 v0 v1 f2 k2=>?_
  dsimp only[cW,wO];exact jt (d:=d+1) G f2 (by omega) (by omega) fun z S3 hz hs f3 k3=>cH (hn _ _ (hK _ _ (bT z S3 (by omega) hs f3 (k1.trans (k2.trans k3)))))
 ·exact cH (hn _ _ (hK _ _ (bT "" S1 (by decide) (fun c hc=>nomatch hc) f1 k1)))
end
noncomputable abbrev Pt:=Int×List Int
noncomputable abbrev Wd:=List Pt
noncomputable def fm (p:Pt):W:=.tup [.int p.1,.tup (p.2.map W.int)]
noncomputable def aY (u:Wd):W:=.tup (u.map fm)
noncomputable def oT (p:Pt):T:=.tup [.int p.1,.tup (p.2.map T.int)]
noncomputable def dw (u:Wd):T:=.tup (u.map oT)
theorem um:∀ xs:List Int,T.ws (xs.map T.int)=xs.map W.int
 | []=>rfl
 | x::xs=>by simp[T.ws,T.w,um xs]
theorem F0 (p:Pt):(oT p).w=fm p:=by simp[oT,fm,T.w,T.ws,um]
theorem yu:∀ u:Wd,T.ws (u.map oT)=u.map fm
 | []=>rfl
 | p::u=>by simp[T.ws,F0,yu u]
theorem yv (u:Wd):(dw u).w=aY u:=by simp[dw,aY,T.w,yu]
theorem F1 (u:Wd):W.t (aY u)=some (dw u):=by rw[<- yv]; exact T.w_t _
theorem sF:∀ us:List Wd,T.ws (us.map dw)=us.map aY
 | []=>rfl
 | u::us=>by simp[T.ws,yv,sF us]
theorem yw (us:List Wd):W.ts (us.map aY)=some (us.map dw):=by rw[<- sF]; exact T.ws_ts _
theorem lw:∀ xs:List Int,T.depths (xs.map T.int)=0
 | []=>rfl
 | x::xs=>by simp[T.depths,T.depth,lw xs]
theorem yy (p:Pt):(oT p).depth=2:=by simp[oT,T.depth,T.depths,lw]
theorem nB:∀ u:Wd,T.depths (u.map oT)<=2
 | []=>by simp[T.depths]
 | p::u=>by
  have:=nB u;simp only[List.map_cons,T.depths,yy]; omega
theorem lx (u:Wd):(dw u).depth<=3:=by
 have:=nB u;simp only[dw,T.depth]; omega
theorem gA:∀ us:List Wd,T.depths (us.map dw)<=3
 | []=>by simp[T.depths]
 | u::us=>by
  have:=gA us;have:=lx u;simp only[List.map_cons,T.depths]; omega
theorem DM (u:Wd):gE (aY u)=some (dw u):=by
 unfold gE;rw[F1];show(if (dw u).isTup=true/\(dw u).depth<=aE then _ else _)=_
 rw[if_pos ⟨rfl,by have:=lx u; unfold aE; omega⟩]
mutual
noncomputable def oU:T->T->Bool
 | .int _,.int _=>true
 | .str _,.str _=>true
 | .tup xs,.tup ys=>fq xs ys
 | _,_=>false
noncomputable def fq:List T->List T->Bool
 | [],_=>true
 | _,[]=>true
 | x::xs,y::ys=>oU x y&&fq xs ys
end
mutual
theorem yz:∀ x y:T,oU x y=true->(lV x y).isSome=true
 | .int _,.int _,_=>rfl
 | .str _,.str _,_=>rfl
 | .tup xs,.tup ys,h=>by
  simp only[oU]at h;simp only[lV];exact uq xs ys h
 | .int _,.str _,h|.int _,.tup _,h|.str _,.int _,h|.str _,.tup _,h|.tup _,.int _,h|.tup _,.str _,h=>by simp[oU]at h
theorem uq:∀ xs ys:List T,fq xs ys=true->(fO xs ys).isSome=true
 | [],[],_=>rfl
 | [],_::_,_=>rfl
 | _::_,[],_=>rfl
 | x::xs,y::ys,h=>by
  simp only[fq,Bool.and_eq_true]at h;simp only[fO];split
  ·exact uq xs ys h.2
  ·exact yz x y h.1
end
theorem qW:∀ xs ys:List Int,fq (xs.map T.int) (ys.map T.int)=true
 | [],_=>by simp[fq]
 | _::_,[]=>by simp[fq]
 | x::xs,y::ys=>by simp[fq,oU,qW xs ys]
theorem DN (p q:Pt):oU (oT p) (oT q)=true:=by simp[oT,oU,fq,qW]
theorem ur:∀ u v:Wd,fq (u.map oT) (v.map oT)=true
 | [],_=>by simp[fq]
 | _::_,[]=>by simp[fq]
 | p::u,q::v=>by simp[fq,DN,ur u v]
theorem DO (u v:Wd):oU (dw u) (dw v)=true:=by simp[dw,oU,ur]
theorem ju (us:List Wd):gQ (us.map dw)=true:=by
 unfold gQ;rw[(IJ)];intro x hx;obtain⟨u,_,rfl⟩:=IF.mp hx;rw[(IJ)];intro y hy;obtain⟨v,_,rfl⟩:=IF.mp hy;exact yz _ _ (DO u v)
theorem yA (us:List Wd)(h:∀ u∈us,u≠[]):(sd (us.map dw)).isSome=true:=by
 unfold sd;split
 ·rfl
 ·split
  ·rfl
  ·split
   ·rfl
   ·split
    ·rfl
    ·split
     ·rfl
     ·rename_i h5;exfalso;apply h5;rw[(IJ)];intro x hx;obtain⟨u,hu,rfl⟩:=IF.mp hx;cases u with
      | nil=>exact absurd rfl (h [] hu)
      | cons p u=>rfl
noncomputable def eQ (bs:List Int)(u:Wd)(i j:Nat):Int:=if j < i then((u.getD i (0,[])).2).getD j 0 else bs.getD (((u.getD j (0,[])).2).getD i 0).toNat 0
noncomputable def aT (bs:List Int)(u:Wd)(ps:List Nat):Wd:=(List.range ps.length).map fun k=>((u.getD (ps.getD k 0) (0,[])).1,(ps.take k).map fun j=>eQ bs u (ps.getD k 0) j)
noncomputable def bz:List (List Nat):=[[0,1,2],[0,2,1],[1,0,2],[1,2,0],[2,0,1],[2,1,0]]
noncomputable def j4 (bs:List Int)(u:Wd):Wd:=(bz.map (aT bs u)).getD (sg ((bz.map (aT bs u)).map dw)) []
noncomputable def bA (n:Str)(b:Int):W:=.tup [.str n,.int b]
structure GoodW (a n:Nat)(u:Wd):Prop where
 mark:∀ (k:Nat) (p:Pt),u[k]?=some p->0<=p.1/\p.1 < a
 len:∀ (k:Nat) (p:Pt),u[k]?=some p->p.2.length=k
 way:∀ (k:Nat) (p:Pt),u[k]?=some p->∀ w∈p.2,0<=w/\w < n
noncomputable def GoodB (bs:List Int):Prop:=bs=[0]\/bs=[0,1]\/bs=[1,0]\/bs=[0,1,2]\/bs=[1,0,2]\/bs=[0,2,1]
theorem GoodB.rng {bs:List Int}(h:GoodB bs):∀ k:Nat,k < bs.length->∃ b:Int,bs[k]?=some b/\0<=b/\b < bs.length:=by
 rcases h with rfl|rfl|rfl|rfl|rfl|rfl <;> intro k hk
 ·match k,hk with
  | 0,_=>exact⟨0,rfl,by decide,by decide⟩
 ·match k,hk with
  | 0,_=>exact⟨0,rfl,by decide,by decide⟩
  | 1,_=>exact⟨1,rfl,by decide,by decide⟩
 ·match k,hk with
  | 0,_=>exact⟨1,rfl,by decide,by decide⟩
  | 1,_=>exact⟨0,rfl,by decide,by decide⟩
 ·match k,hk with
  | 0,_=>exact⟨0,rfl,by decide,by decide⟩
  | 1,_=>exact⟨1,rfl,by decide,by decide⟩
  | 2,_=>exact⟨2,rfl,by decide,by decide⟩
 ·match k,hk with
  | 0,_=>exact⟨1,rfl,by decide,by decide⟩
  | 1,_=>exact⟨0,rfl,by decide,by decide⟩
  | 2,_=>exact⟨2,rfl,by decide,by decide⟩
 ·match k,hk with
  | 0,_=>exact⟨0,rfl,by decide,by decide⟩
  | 1,_=>exact⟨2,rfl,by decide,by decide⟩
  | 2,_=>exact⟨1,rfl,by decide,by decide⟩
theorem getD_some {α:Type}{xs:List α}{i:Nat}{x d:α}(h:xs[i]?=some x):xs.getD i d=x:=by simp[h]
theorem aS {α:Type}{xs:List α}{i:Nat}{d:α}(h:i < xs.length):xs[i]?=some (xs.getD i d):=by simp[h]
theorem ii {ns:List Str}{bs:List Int}{k:Nat}{n:Str}{b:Int}(h1:ns[k]?=some n)(h2:bs[k]?=some b):(List.zipWith bA ns bs)[k]?=some (bA n b):=by
 rw[List.getElem?_zipWith,h1,h2]
noncomputable def ak (ps:List Nat):List W:=ps.map fun(p:Nat)=>W.int (p:Int)
theorem kG {ps:List Nat}{k p:Nat}(h:ps[k]?=some p):(ak ps)[k]?=some (.int p):=by simp[ak,h]
theorem jv (bs:List Int)(u:Wd)(ps:List Nat):(aT bs u ps).length=ps.length:=by unfold aT; rw[List.length_map,List.length_range]
theorem nC {u:Wd}{i:Nat}(hi:i < u.length):(u.map fm)[((i:Nat):Int).toNat]?=some (fm (u.getD i (0,[]))):=by
 rw[(IB),(Iu),aS hi]; rfl
section
variable {defs:List (Str×Df)} {fuel d:Nat} {S:aa} {r:Nat} {Q:QW}
theorem yB {Φ:Str->FF}{m0 b0:W}{ns:List Str}{bs:List Int}{a:Nat}{u:Wd}{i j:Nat}{Q:QO}(hb:GoodB bs)(hl:ns.length=bs.length)(hu:GoodW a bs.length u)(hi:i < u.length)(hj:j < u.length)(hij:i≠j)(k:Q (.rt (.int (eQ bs u i j)),S)) :
  wZ Φ fuel du [some (.tup [m0,.tup (List.zipWith bA ns bs),b0]),some (aY u),some (.int i),some (.int j)] S Q:=by
 have hpi:=aS (d:=(0,[])) hi;have hpj:=aS (d:=(0,[])) hj;unfold eQ at k;dsimp only[du];refine aZ fun K hK=>?_
 dsimp only[wS,wT,wE,wV,wG,Bm,wO,wB,aY];refine aD (Q0:=Q) (fun h Q2 _ hr=>?_) (fun h Q2 hn _=>?_)
 ·have hji:j < i:=by have:=IK h; omega
  rw[if_pos hji]at k;have hw:j < (u.getD i (0,[])).2.length:=by rw[hu.len i _ hpi]; exact hji
  refine st ?_;dsimp only[wS,wE,wV,wG];refine aw (IG i) (nC hi) (aw (by decide) rfl (aw (IG j) ?_ (hr _ _ k)))
  rw[(IB),(Iu),aS (d:=0) hw]; rfl
 ·have hji:¬ j < i:=by have:=Ju h; omega
  rw[if_neg hji]at k;refine cH (hn _ _ (hK _ _ ?_));clear hn hK;have hw:i < (u.getD j (0,[])).2.length:=by rw[hu.len j _ hpj]; omega
  have hg:=aS (d:=0) hw;obtain⟨g1,g2⟩:=hu.way j _ hpj _ (IA hg);obtain⟨b,hb1,hb2,hb3⟩:=hb.rng ((u.getD j (0,[])).2.getD i 0).toNat (by omega)
  have hn:((u.getD j (0,[])).2.getD i 0).toNat < ns.length:=by omega
  rw[getD_some hb1]at k;refine st ?_;dsimp only[wS,wE,wV,wG];refine aw (by decide) rfl (aw (IG j) (nC hj) (aw (by decide) rfl (aw (IG i) ?_ (aw g1 (ii (Iw hn) hb1) (aw (by decide) rfl k)))))
  rw[(IB),(Iu),hg]; rfl
theorem vG (G:Gen defs){m0 b0:W}{ns:List Str}{bs:List Int}{a:Nat}{u:Wd}{i j:Nat}(hb:GoodB bs)(hl:ns.length=bs.length)(hu:GoodW a bs.length u)(hi:i < u.length)(hj:j < u.length)(hij:i≠j)(k:Q (.int (eQ bs u i j),S)) :
  wO (bR (ap defs fuel (d+1)) "_law_between" 4 [.tup [m0,.tup (List.zipWith bA ns bs),b0],aY u,.int i,.int j] S) Q:=
 aJ G.between rfl rfl fun Q' hR=>yB hb hl hu hi hj hij (hR _ _ k)
theorem oV (G:Gen defs){m0 b0:W}{ns:List Str}{bs:List Int}{a:Nat}{u:Wd}{ps:List Nat}(hb:GoodB bs)(hl:ns.length=bs.length)(hu:GoodW a bs.length u)(hps:∀ p∈ps,p < u.length)(hnd:ps.Nodup)(hsz:ps.length < 1000)(k:∀ S',Ka S S'->Q (aY (aT bs u ps),S')) :
  wO (bR (ap defs fuel (d+2)) "_law_part" 3 [.tup [m0,.tup (List.zipWith bA ns bs),b0],aY u,.tup (ak ps)] S) Q:=by
 refine aJ G.part rfl rfl fun Q' hR=>?_
 replace k:∀ S',Ka S S'->Q' (.rt (aY (aT bs u ps)),S'):=fun S' a=>hR _ _ (k S' a)
 clear hR;show wZ _ _ fH [some (.tup [m0,.tup (List.zipWith bA ns bs),b0]),some (aY u),some (.tup (ak ps)),none,none,none] S Q';generalize hR0:W.tup [m0,.tup (List.zipWith bA ns bs),b0]=R;dsimp only[fH];refine st ?_;dsimp only[wS,wE,wA,List.set];refine aZ fun K hK=>?_
 have nl:(ak ps).length=ps.length:=Im ..;refine dq (ps.length:Int) (fun k ρ S'=>∃ a4 a5,ρ=[some R,some (aY u),some (.tup (ak ps)),some (.ref S.length),a4,a5]/\S'[S.length]?=some (.lst (((aT bs u ps).take k).map fm))/\Ka S S') rfl rfl (by omega) ?_ ?_ ?_
 ·dsimp only[wE,wA,wV,wG];refine bZ ?_;rw[nl];exact⟨rfl,none,none,rfl,ag,.push⟩
 ·rintro i ρ S1 hi ⟨a4,a5,rfl,e1,k1⟩ Q2 hn _;clear hK;have hi':i < ps.length:=by omega
  have hp:ps[i]?=some ps[i]:=Iw hi';have hpu:ps[i] < u.length:=hps _ (IQ hi');refine st ?_;dsimp only[wS,wE,wV,wG,List.set];refine aw (IG i) (by rw[(IB)]; exact kG hp) ?_
  refine st ?_;dsimp only[wS,wE,wA,wV,wG,List.set];refine⟨dj e1,aw (IG _) (nC hpu) (aw (by decide) rfl ?_)⟩
  refine oP (ak (ps.take i)) (fun j ys ρ2 S2=>(∃ a1,ρ2=[none,a1,some (.int ps[i]),some R,some (aY u)])/\ys=((ps.take i).take j).map (fun q=>W.int (eQ bs u ps[i] q))/\Ka S1 S2) rfl rfl rfl ?_ ?_ ?_
  ·dsimp only[wE,wP,wV,wG,wN];refine ae (a:=(.tup (ak (ps.take i)),S1)) ?_ ⟨rfl,⟨none,rfl⟩,rfl,.refl⟩;simp only[w6,qU];unfold ak;rw[List.map_take]
  ·rintro j w ys ρ2 S2 hw ⟨⟨a1,rfl⟩,rfl,k2⟩;have hjl:j < (ps.take i).length:=by
    have:=(Ir.mp hw).1;unfold ak at this
    rwa [Im]at this
   have hq:(ps.take i)[j]?=some (ps.take i)[j]:=Iw hjl;cases(kG hq).symm.trans hw;have hj:j < i:=by rw[(Jq)]at hjl; omega
   have eq:(ps.take i)[j]=ps[j]'(by omega):=List.getElem_take
   generalize(ps.take i)[j]=q at hq eq ⊢;refine ae (show hX (.nm 1) (.int (q:Int)) [none,a1,some (.int ps[i]),some R,some (aY u)] S2=some ([none,some (.int (q:Int)),some (.int ps[i]),some R,some (aY u)],S2)from rfl) ?_
   dsimp only[kE,wC,wE,wA,wV,wG];subst hR0;refine⟨fun _=>vG (d:=d) G hb hl hu hpu (by rw[eq]; exact hps _ (IQ _)) ?_ ⟨⟨_,rfl⟩,?_,k2⟩,fun z=>by cases z⟩
   ·rw[eq];intro h;have:=(List.getElem_inj hnd).mp h;omega
   ·rw[(IT),hq];simp
  ·rintro ys ρ2 S2 ⟨_,rfl,k2⟩;rw[show(ak (ps.take i)).length=(ps.take i).length from List.length_map ..,(Jf)]
   refine⟨kF (by rw[(Im),(Jq)]; omega),eu ag ?_⟩
   have e2:=aq (u:=O.lst ((ps.take i).map fun q=>W.int (eQ bs u ps[i] q))) (k2.get _ _ e1)
   refine nz e2 (by rw[(Im),(Jq)]; omega) (cH (hn _ _ ⟨_,_,rfl,?_,((k1.trans k2).trans .push).late (Ip _)⟩))
   rw[bX e2];have ep:(aT bs u ps)[i]?=some ((u.getD ps[i] (0,[])).1,(ps.take i).map fun q=>eQ bs u ps[i] q):=by
    unfold aT;rw[(Iu),List.getElem?_range hi',Option.map_some,getD_some hp]
   rw[(IT),ep];simp[fm,Function.comp_def]
 ·rintro ρ S1 ⟨a4,a5,rfl,e1,k1⟩;rw[(IB),<- jv bs u ps,(Jf)]at e1;refine hK _ _ (st ?_);dsimp only[wS,wE,wA,wV,wG];exact eu e1 (k _ k1)
theorem oW (G:Gen defs)(k:Q (.ref S.length,S++[.lst (bz.map fun t=>W.tup (ak t))])):wO (bR (ap defs fuel (d+1)) "_law_turns" 0 [] S) Q:=by
 refine aJ G.turns rfl rfl fun Q' hR=>?_
 dsimp only[ga];refine st ?_;dsimp only[wS,wE,wA];exact hR _ _ k
theorem ij (bt:Nat->Nat->Bool):∀ n:Nat,argBest bt n<=n
 | 0=>Ip _
 | n+1=>by have:=ij bt n; simp only[argBest]; split <;> omega
theorem iS (G:Gen defs){m0 b0:W}{ns:List Str}{bs:List Int}{a:Nat}{u:Wd}(hb:GoodB bs)(hl:ns.length=bs.length)(hu:GoodW a bs.length u)(h3:u.length=3)(k:∀ S',Ka S S'->Q (aY (j4 bs u),S')) :
  wO (bR (ap defs fuel (d+3)) "_law_figure" 2 [.tup [m0,.tup (List.zipWith bA ns bs),b0],aY u] S) Q:=by
 refine aJ G.figure rfl rfl fun Q' hR=>?_
 replace k:∀ S',Ka S S'->Q' (.rt (aY (j4 bs u)),S'):=fun S' a=>hR _ _ (k S' a)
 clear hR;show wZ _ _ dP [some (.tup [m0,.tup (List.zipWith bA ns bs),b0]),some (aY u)] S Q';generalize hR0:W.tup [m0,.tup (List.zipWith bA ns bs),b0]=R;dsimp only[dP];refine st ?_;dsimp only[wS,wE,wA];refine oQ S.length (bz.map fun t=>W.tup (ak t)) (fun i ys ρ2 S2=>(∃ a1,ρ2=[none,a1,some R,some (aY u)])/\ys=((bz.take i).map fun t=>aY (aT bs u t))/\Ka (S++[.lst (bz.map fun t=>W.tup (ak t))]) S2) rfl rfl rfl ?_ ?_ ?_ ?_
 ·dsimp only[wE,wA];exact oW (d:=d+1) G ⟨rfl,⟨none,rfl⟩,rfl,.refl⟩
 ·rintro i ys ρ2 S2 ⟨_,_,k2⟩;exact k2.get _ _ ag
 ·rintro i w ys ρ2 S2 hw ⟨⟨a1,rfl⟩,rfl,k2⟩;rw[(Iu),(Io)]at hw;obtain⟨t,ht,rfl⟩:=hw;have ht3:(∀ p∈t,p < 3)/\t.Nodup/\t.length < 1000:=by
   have:∀ t∈bz,(∀ p∈t,p < 3)/\t.Nodup/\t.length < 1000:=by decide
   exact this t (IA ht)
  refine ae (show hX (.nm 1) (.tup (ak t)) [none,a1,some R,some (aY u)] S2=some ([none,some (.tup (ak t)),some R,some (aY u)],S2)from rfl) ?_
  dsimp only[kE,wC,wE,wA,wV,wG];subst hR0;refine⟨fun _=>oV (d:=d) G hb hl hu (fun p hp=>by rw[h3]; exact ht3.1 p hp) ht3.2.1 ht3.2.2 fun S3 k3=>⟨⟨_,rfl⟩,?_,k2.trans k3⟩,fun z=>by cases z⟩
  rw[(IT),ht];simp
 ·rintro ys ρ2 S2 ⟨_,rfl,k2⟩;have e:((bz.take (bz.map fun t=>W.tup (ak t)).length).map fun t=>aY (aT bs u t))=(bz.map (aT bs u)).map aY:=by
   rw[(Im),(Jf),(J4)]; rfl
  rw[e];refine⟨iR rfl,ae (a:=(aY (j4 bs u),S2++[.lst ((bz.map (aT bs u)).map aY)])) ?_ (k _ ((Ka.push.trans k2).trans .push))⟩;simp only[Bi.fn,Au,aK ag,yw];rw[if_pos ⟨by have:=gA (bz.map (aT bs u)); unfold cF; omega,ju _⟩]
  unfold j4;have hlt:sg ((bz.map (aT bs u)).map dw) < (bz.map (aT bs u)).length:=Nat.lt_of_le_of_lt (ij _ _) (by decide:5 < 6)
  rw[(Iu),aS (d:=[]) hlt];rfl
end
noncomputable def af (xs:List Int):List W:=xs.map W.int
noncomputable def c7 (us:List Wd):List Wd:=dB (qm (us.map dw)) [] us
theorem qX {α β:Type}{lt:Nat->Nat->Bool}{d:α}{d':β}{f:α->β}{us:List α}:dB lt d' (us.map f)=(dB lt d us).map f:=by
 unfold dB;rw[(Im)];split
 ·rfl
 ·rw[(J4)];refine JB fun i hi=>?_
  have hl:i < us.length:=kB (by omega) i hi
  simp[hl]
theorem sG {S:aa}{x:W}{us:List Wd}(h:d6 S x=some (us.map aY))(h64:us.length < 64)(hne:∀ u∈us,u≠[]):fD [x] S=some (.ref S.length,S++[.lst ((c7 us).map aY)]):=by
 have ok:hE (us.map dw)=true:=by
  unfold hE;simp only[Bool.and_eq_true,Bool.or_eq_true,decide_eq_true_eq,List.length_map];exact⟨⟨h64,by have:=gA us; unfold cF; omega⟩,.inr ⟨yA us hne,ju us⟩⟩
 simp only[fD,h,yw];rw[if_pos ok,qX (d:=[])];rfl
noncomputable def dJ (ms ns:List Str)(bs:List Int)(us:List Wd):W:=.tup [.tup (ms.map W.str),.tup (List.zipWith bA ns bs),.tup (us.map aY)]
structure GoodN (ms ns:List Str):Prop where
 name:∀ y∈ms++ns,Name y
 nd:(ig++(ms++ns)).Nodup
theorem GoodW.nil {a n:Nat}:GoodW a n []:=⟨fun k p h=>(by simp at h),fun k p h=>(by simp at h),fun k p h=>(by simp at h)⟩
theorem GoodW.snoc {a n:Nat}{u:Wd}{m:Int}{ws:List Int}(h:GoodW a n u)(h1:0<=m/\m < a)(h2:ws.length=u.length)(h3:∀ w∈ws,0<=w/\w < (n:Int)):GoodW a n (u++[(m,ws)]):=by
 have key:∀ (k:Nat) (p:Pt),(u++[(m,ws)])[k]?=some p->u[k]?=some p\/(k=u.length/\p=(m,ws)):=fun k p e=>by
  rcases Nat.lt_or_ge k u.length with hk|hk
  ·rw[List.getElem?_append_left hk]at e; exact .inl e
  ·rw[List.getElem?_append_right hk]at e;have:k - u.length=0:=by
    have:=(Ir.mp e).1;simp at this; omega
   rw[this]at e;cases e;exact .inr ⟨by omega,rfl⟩
 refine⟨fun k p e=>?_,fun k p e=>?_,fun k p e=>?_⟩ <;> rcases key k p e with e|⟨rfl,rfl⟩
 ·exact h.mark k p e
 ·exact h1
 ·exact h.len k p e
 ·exact h2
 ·exact h.way k p e
 ·exact h3
theorem GoodB.at {bs:List Int}(h:GoodB bs){x:Int}(h0:0<=x)(h1:x < bs.length):bs[x.toNat]?=some (bs.getD x.toNat 0)/\0<=bs.getD x.toNat 0/\bs.getD x.toNat 0 < bs.length:=by
 obtain⟨b,h2,h3⟩:=h.rng x.toNat (by omega)
 rw[getD_some h2];exact⟨h2,h3⟩
theorem Bt {S:aa}{x:W}{xs:List W}(h:d6 S x=some xs):cV [x] S=none:=by
 cases x with
 | ref i=>
  have e2:Ek S i=none:=by
   unfold Ek;cases e:S[i]? with
   | none=>rfl
   | some o=>
    cases o with
    | stt ss=>simp[d6,iz,jP,e]at h
    | _=>rfl
  simp only[cV,e2]
 | _=>rfl
theorem yC {S:aa}{x:W}{us:List Wd}{Q:QW}(h:d6 S x=some (us.map aY))(h64:us.length < 64)(hne:∀ u∈us,u≠[])(q:Q (.ref S.length,S++[.lst ((c7 us).map aY)])):wO (Bi.sorted.fn [x] S) Q:=by
 refine ae ?_ q;show(match cV [x] S with
  | some r=>some r
  | none=>fD [x] S)=_
 rw[Bt h];exact sG h h64 hne
noncomputable def yD:List (Nat×Nat):=[(1,1),(2,1),(3,1),(1,2),(1,2),(2,2),(2,2),(3,2),(1,3),(1,3),(2,3)]
theorem yE:∀ p∈yD,1<=p.1/\p.1<=3/\1<=p.2/\p.2<=3/\p.1*p.2<=6:=by decide
noncomputable def ly:Nat->List (List Int)
 | 1=>[[0]]
 | 2=>[[0,1],[1,0]]
 | _=>[[0,1,2],[1,0,2],[0,2,1]]
theorem yF:∀ n:Nat,1<=n->n<=3->(∀ b∈ly n,GoodB b/\b.length=n)/\0 < (ly n).length/\(ly n).length<=3
 | 1,_,_=>⟨fun b h=>by cases IN.mp h; exact⟨.inl rfl,rfl⟩,by decide,by decide⟩
 | 2,_,_=>⟨fun b h=>by
   rcases IR.mp h with rfl|h
   ·exact⟨.inr (.inl rfl),rfl⟩
   ·cases IN.mp h; exact⟨.inr (.inr (.inl rfl)),rfl⟩,by decide,by decide⟩
 | 3,_,_=>⟨fun b h=>by
   rcases IR.mp h with rfl|h
   ·exact⟨.inr (.inr (.inr (.inl rfl))),rfl⟩
   ·rcases IR.mp h with rfl|h
    ·exact⟨.inr (.inr (.inr (.inr (.inl rfl)))),rfl⟩
    ·cases IN.mp h; exact⟨.inr (.inr (.inr (.inr (.inr rfl)))),rfl⟩,by decide,by decide⟩
 | 0,h,_=>absurd h (by decide)
 | n+4,_,h=>absurd h (by omega)
section
variable {defs:List (Str×Df)} {fuel d:Nat} {S:aa} {r:Nat} {Q:QW}
theorem oX (G:Gen defs)(hf:Fl S r)(k:∀ (a n:Nat) S',1<=a->a<=3->1<=n->n<=3->a*n<=6->Fl S' r->Kp r S S'->Q (.tup [.int a,.int n],S')) :
  wO (bR (ap defs fuel (d+2)) "_law_sizes" 1 [.ref r] S) Q:=by
 refine aJ G.sizes rfl rfl fun Q' hR=>?_
 show wZ _ _ eG [some (.ref r),none] S Q';dsimp only[eG];refine st ?_;dsimp only[wS,wE,wA,List.set];refine st ?_;dsimp only[wS,wE,wA,wV,wG];refine bc (d:=d) G.pick (hf.ka .push) (by decide) (by decide) fun v S1 v0 v1 f1 k1=>?_
 have e:=k1.get _ _ (J2 hf.lt) ag;obtain⟨p,hp,ep⟩:=lv (f:=fun p:Nat×Nat=>W.tup [.int p.1,.int p.2]) (xs:=yD) (i:=v.toNat) (by show v.toNat < 11; omega)
 obtain⟨a1,a3,n1,n3,an⟩:=yE p hp;exact fM e v0 ep (hR _ _ (k _ _ _ a1 a3 n1 n3 an f1 (Kp.push.trans k1)))
theorem oY (G:Gen defs){n:Nat}(hf:Fl S r)(h1:1<=n)(h3:n<=3)(k:∀ (bs:List Int) S',GoodB bs->bs.length=n->Fl S' r->Kp r S S'->Q (.tup (af bs),S')) :
  wO (bR (ap defs fuel (d+2)) "_law_backs" 2 [.ref r,.int n] S) Q:=by
 refine aJ G.backs rfl rfl fun Q' hR=>?_
 replace k:∀ (bs:List Int) S',GoodB bs->bs.length=n->Fl S' r->Kp r S S'->Q' (.rt (.tup (af bs)),S'):=fun z S' a b c e=>hR _ _ (k z S' a b c e)
 clear hR;show wZ _ _ eF [some (.ref r),some (.int n),none] S Q';dsimp only[eF];refine aZ fun K hK=>?_
 dsimp only[wS,wE,wA,wV,wG,List.set];dsimp only[B8,aQ];obtain⟨hg,g0,g3⟩:=yF n h1 h3;have fin:∀ (t:Nat) (S1:aa),S.length<=t->S1[t]?=some (.lst ((ly n).map fun b=>.tup (af b)))->Ka S S1->K [some (.ref r),some (.int n),some (.ref t)] S1:=by
  intro t S1 ht et ka;refine hK _ _ (st ?_);dsimp only[wS,wE,wA,wV,wG];refine en et ?_;rw[(Im)];refine bc (d:=d) G.pick (hf.ka ka) (by omega) (by omega) fun v S2 v0 v1 f2 k2=>?_
  have e2:=k2.get _ _ (by have:=hf.lt; omega) et
  obtain⟨b,hb,eb⟩:=lv (f:=fun b:List Int=>W.tup (af b)) (xs:=ly n) (i:=v.toNat) (by omega)
  exact fM e2 v0 eb (k b S2 (hg b hb).1 (hg b hb).2 f2 ((ka.kp r).trans k2))
 clear hK g0 g3 hg;rcases(show n=1\/n=2\/n=3 by omega)with rfl|rfl|rfl
 ·exact eB (i:=0) ag rfl (fin _ _ (Ip _) (aq (aq (aq ag))) (Ka.push.trans (Ka.push.trans (Ka.push.trans .push))))
 ·exact eB (i:=1) ag rfl (fin _ _ (by simp) (aq (aq ag)) (Ka.push.trans (Ka.push.trans (Ka.push.trans .push))))
 ·exact eB (i:=2) ag rfl (fin _ _ (by simp only[List.length_append]; omega) (aq ag) (Ka.push.trans (Ka.push.trans (Ka.push.trans .push))))
theorem nD (hfu:20 < fuel)(G:Gen defs){a:Nat}{bs:List Int}{x:W}{us:List Wd}(hf:Fl S r)(ha:a<=3)(hb:bs.length<=3)(hx:∀ S',Kp r S S'->d6 S' x=some (us.map aY))(h64:us.length < 64)(hne:∀ u∈us,u≠[])
  (k:∀ (ms ns:List Str) S',ms.length=a->ns.length=bs.length->GoodN ms ns->Fl S' r->Kp r S S'->Q (dJ ms ns bs (c7 us),S')) :
  wO (bR (ap defs fuel (d+5)) "_law_rule_of" 4 [.ref r,.int a,.tup (af bs),x] S) Q:=by
 refine aJ G.rule_of rfl rfl fun Q' hR=>?_
 replace k:∀ (ms ns:List Str) S',ms.length=a->ns.length=bs.length->GoodN ms ns->Fl S' r->Kp r S S'->Q' (.rt (dJ ms ns bs (c7 us)),S'):=fun z y S' a b c e f=>hR _ _ (k z y S' a b c e f)
 clear hR;show wZ _ _ dv [some (.ref r),some (.int a),some (.tup (af bs)),some x,none,none] S Q';have hbl:(af bs).length=bs.length:=Im ..;dsimp only[dv];refine aZ fun K hK=>?_
 dsimp only[wS,wE,wA,wV,wG,List.set];refine bZ ?_;rw[hbl];dsimp only[cW,aQ];refine Bs (d:=d) (m:=a+bs.length) hfu G hf (by omega) fun ys S1 q2 q3 q4 f1 k1=>hK _ _ ?_
 clear hK K;have hzl:(List.zipWith bA (ys.drop a) bs).length=bs.length:=by
  rw[(J9),(KC)]; omega
 refine aZ fun K hK=>?_
 dsimp only[wS,wE,wA,List.set];refine cY (bs.length:Int) (fun k zs ρ2 S2=>(∃ a1,ρ2=[none,a1,some (.tup (af bs)),some (.int a),some (.tup (ys.map W.str))])/\zs=((List.zipWith bA (ys.drop a) bs).take k)/\S2=S1) rfl rfl rfl (by omega) ?_ ?_ ?_
 ·dsimp only[wE,wA,wV,wG];refine bZ ?_;rw[hbl];exact⟨rfl,⟨none,rfl⟩,rfl,rfl⟩
 ·rintro i zs ρ2 S2 hi ⟨⟨a1,rfl⟩,rfl,rfl⟩;clear hK;have hi':i < bs.length:=by omega
  have h1:a+i < ys.length:=by omega
  dsimp only[kE,wC,wE,wA,wV,wG,List.set,cW,aQ];refine⟨fun _=>aw (by omega) (w:=.str ys[a+i]) ?_ (aw (by omega) (w:=.int bs[i]) ?_ ⟨⟨_,rfl⟩,?_,rfl⟩),fun z=>by cases z⟩
  ·rw[show((a:Int)+(i:Int)).toNat=a+i by omega,(Iu),List.getElem?_eq_getElem h1]; rfl
  ·unfold af;rw[(IB),(Iu),List.getElem?_eq_getElem hi']; rfl
  ·have ez:(List.zipWith bA (ys.drop a) bs)[i]?=some (bA ys[a+i] bs[i]):=ii (by rw[List.getElem?_drop]; exact Iw h1) (Iw hi')
   rw[(IT),ez];rfl
 ·rintro zs ρ2 S2 ⟨_,rfl,rfl⟩;rw[(IB),<- hzl,(Jf)];refine⟨kF (by omega),eu ag (hK _ _ ?_)⟩
  clear hK K;refine st ?_;dsimp only[wS,wE,wA,wP,wV,wG,wN];have hs:w6 (.tup (ys.map W.str)) none (some (a:Int)) (S2++[O.lst (List.zipWith bA (ys.drop a) bs)])=some (.tup ((ys.take a).map W.str),S2++[O.lst (List.zipWith bA (ys.drop a) bs)]):=by
   simp only[w6,qU];rw[List.map_take]
  refine ae hs (yC (hx _ (k1.trans .push)) h64 hne (eu ag ?_));refine k (ys.take a) (ys.drop a) _ ?_ ?_ ⟨?_,?_⟩ ((f1.ka .push).ka .push) (k1.trans (Kp.push.trans .push))
  ·rw[(Jq)]; omega
  ·rw[(KC)]; omega
  ·rw[List.take_append_drop]; exact q3
  ·rw[List.take_append_drop]; exact q4
theorem fJ (hfu:20 < fuel)(G:Gen defs){a:Nat}{bs:List Int}(hf:Fl S r)(ha:a<=3)(hb:bs.length<=3)
  (k:∀ (ms ns:List Str) S',ms.length=a->ns.length=bs.length->GoodN ms ns->Fl S' r->Kp r S S'->Q (dJ ms ns bs [],S')) :
  wO (bR (ap defs fuel (d+5)) "_law_rule_of" 4 [.ref r,.int a,.tup (af bs),.tup []] S) Q:=
 nD hfu G hf ha hb (us:=[]) (fun _ _=>rfl) (by decide) (fun _ h=>nomatch h) k
theorem draws {Φ:Str->FF}{ρ:Fm}{elt e:E}{cap:List (Option Nat)}{n i:Nat}{R:Fm}(oe:fj elt=true)(oi:fj e=true)(h1:i<=1000)(hc:hW cap ρ=none::none::R)(hf:Fl S r)(he:∀ Q:QW,Q (.int i,S)->wE Φ e ρ S Q)
  (hp:∀ (a:Option W) (S1:aa) (Q:QW),Fl S1 r->(∀ v S',0<=v->v < (n:Int)->Fl S' r->Kp r S1 S'->Q (.int v,S'))->wE Φ elt (none::a::R) S1 Q)
  (k:∀ (vs:List Int) S',vs.length=i->(∀ w∈vs,0<=w/\w < (n:Int))->Fl S' r->Kp r S S'->Q (.ref S'.length,S'++[.lst (af vs)])) :
  Wp (aF Φ (.comp elt (.nm 1) (.rng (.cons e .nil)) .nil cap) ρ S) Q:=by
 refine cY (i:Int) (fun j ys ρ2 S3=>(∃ a1,ρ2=none::a1::R)/\(∃ vs:List Int,ys=af vs/\vs.length=j/\∀ w∈vs,0<=w/\w < (n:Int))/\Fl S3 r/\Kp r S S3) oi oe rfl (by omega) (he _ ⟨rfl,⟨none,hc⟩,⟨[],rfl,rfl,fun _ h=>nomatch h⟩,hf,.refl⟩) ?_ ?_
 ·rintro j ys ρ2 S3 hj ⟨⟨a1,rfl⟩,⟨vs,rfl,hvl,hv⟩,f3,k3⟩;refine⟨fun _=>hp _ _ _ f3 fun v S4 v0 v1 f4 k4=>⟨⟨_,rfl⟩,⟨vs++[v],(IV (l₁:=vs) (l₂:=[v])).symm,by rw[(Iv),hvl]; rfl,fun w hw=>?_⟩,f4,k3.trans k4⟩,fun z=>by cases z⟩
  rcases IL.mp hw with h|h
  ·exact hv w h
  ·rw[List.mem_singleton.mp h]; exact⟨v0,v1⟩
 ·rintro ys ρ2 S3 ⟨_,⟨vs,rfl,hvl,hv⟩,f3,k3⟩;rw[(IB)]at hvl;exact⟨kF (by rw[show(af vs).length=vs.length from List.length_map ..]; omega),k vs S3 hvl hv f3 k3⟩
theorem iT (G:Gen defs){a n:Nat}(hf:Fl S r)(ha:0 < a)(ha3:a<=3)(hn:0 < n)(hn3:n<=3)(k:∀ (u:Wd) S',u.length=3->GoodW a n u->Fl S' r->Kp r S S'->Q (aY u,S')) :
  wO (bR (ap defs fuel (d+2)) "_law_free_three" 3 [.ref r,.int a,.int n] S) Q:=by
 refine aJ G.free_three rfl rfl fun Q' hR=>?_
 replace k:∀ (u:Wd) S',u.length=3->GoodW a n u->Fl S' r->Kp r S S'->Q' (.rt (aY u),S'):=fun z S' a b c e=>hR _ _ (k z S' a b c e)
 clear hR;show wZ _ _ cq [some (.ref r),some (.int a),some (.int n),none,none] S Q';dsimp only[cq];have hrt:=hf.lt;refine st ?_;dsimp only[wS,wE,wA,List.set];refine aZ fun K hK=>?_
 refine dq 3 (fun k ρ S'=>∃ a4 u,ρ=[some (.ref r),some (.int a),some (.int n),some (.ref S.length),a4]/\S'[S.length]?=some (.lst (u.map fm))/\u.length=k/\GoodW a n u/\Fl S' r/\Kp r S S') rfl rfl (by decide) ⟨rfl,none,[],rfl,ag,rfl,.nil,hf.ka .push,.push⟩ ?_ ?_
 ·rintro i ρ S1 hi ⟨a4,u,rfl,e1,hul,hu,f1,k1⟩ Q2 hn' _;clear hK;refine st ?_;dsimp only[wS,wE,wA,wV,wG,List.set];refine⟨dj e1,bc (d:=d) G.pick f1 (by omega) (by omega) fun v S2 v0 v1 f2 k2=>?_⟩
  have e2:=k2.get _ _ (by omega) e1
  refine draws (n:=n) (i:=i) (R:=[some (.ref r),some (.int n)]) rfl rfl (by omega) rfl f2 (fun Q q=>q) (fun a S1 Q f q=>bc (d:=d) G.pick f (by omega) (by omega) q) fun vs S3 hvl hv f3 k3=>?_
  have e3:=aq (u:=O.lst (af vs)) (k3.get _ _ (by omega) e2)
  refine eu ag (nz e3 (by rw[(Im)]; omega) (cH (hn' _ _ ⟨_,u++[(v,vs)],rfl,?_,by rw[(Iv),hul]; rfl,hu.snoc ⟨v0,v1⟩ (hvl.trans hul.symm) hv,(f3.ka .push).own hrt,(k1.trans (k2.trans (k3.trans .push))).late (Ip _)⟩)))
  rw[bX e3,(IV)]; rfl
 ·rintro ρ S1 ⟨a4,u,rfl,e1,hul,hu,f1,k1⟩;refine hK _ _ (st ?_);dsimp only[wS,wE,wA,wV,wG];exact eu e1 (k u _ hul hu f1 k1)
theorem jV (G:Gen defs)(hg:Is defs ("_law_any_world" : Str) 3 6 ca){a:Nat}{bs:List Int}{ms ns:List Str}{b0:W}{many:Nat}(hf:Fl S r)(ha:0 < a)(ha3:a<=3)(hb:GoodB bs)(hml:ms.length=a)(hnl:ns.length=bs.length)(hm:many<=999)(k:∀ (u:Wd) S',u.length=many->GoodW a bs.length u->Fl S' r->Kp r S S'->Q (aY u,S')) :
  wO (bR (ap defs fuel (d+2)) "_law_any_world" 3 [.ref r,.tup [.tup (ms.map W.str),.tup (List.zipWith bA ns bs),b0],.int many] S) Q:=by
 refine aJ hg rfl rfl fun Q' hR=>?_
 replace k:∀ (u:Wd) S',u.length=many->GoodW a bs.length u->Fl S' r->Kp r S S'->Q' (.rt (aY u),S'):=fun z S' a b c e=>hR _ _ (k z S' a b c e)
 clear hR;have hb1:1<=bs.length/\bs.length<=3:=by rcases hb with rfl|rfl|rfl|rfl|rfl|rfl <;> decide
 have hzl:(List.zipWith bA ns bs).length=bs.length:=by rw[(J9)]; omega
 have hmm:(ms.map W.str).length=a:=by rw[(Im),hml]
 generalize ms.map W.str=M at hmm;generalize List.zipWith bA ns bs=N at hzl;show wZ _ _ ca [some (.ref r),some (.tup [.tup M,.tup N,b0]),some (.int many),none,none,none] S Q';dsimp only[ca];have hrt:=hf.lt;refine st ?_;dsimp only[wS,wE,wA,List.set];refine aZ fun K hK=>?_
 refine dq (many:Int) (fun k ρ S'=>∃ a4 a5 u,ρ=[some (.ref r),some (.tup [.tup M,.tup N,b0]),some (.int many),some (.ref S.length),a4,a5]/\S'[S.length]?=some (.lst (u.map fm))/\u.length=k/\GoodW a bs.length u/\Fl S' r/\Kp r S S') rfl rfl (by omega) ⟨rfl,none,none,[],rfl,ag,rfl,.nil,hf.ka .push,.push⟩ ?_ ?_
 ·rintro i ρ S1 hi ⟨a4,a5,u,rfl,e1,hul,hu,f1,k1⟩ Q2 hn' _;clear hK;refine st ?_;dsimp only[wS,wE,wA,wV,wG,List.set];refine aw (by decide) rfl (bZ ?_)
  rw[hmm];refine bc (d:=d) G.pick f1 (by omega) (by omega) fun v S2 v0 v1 f2 k2=>?_
  have e2:=k2.get _ _ (by omega) e1
  refine st ?_;dsimp only[wS,wE,wA,wV,wG,List.set];refine⟨dj e2,draws (n:=bs.length) (i:=i) (R:=[some (.ref r),some (.tup [.tup M,.tup N,b0])]) rfl rfl (by omega) rfl f2 (fun Q q=>q) (fun a S1 Q f q=>?_) fun vs S3 hvl hv f3 k3=>?_⟩
  ·dsimp only[wE,wA,wV,wG];refine aw (by decide) rfl (bZ ?_)
   rw[hzl];exact bc (d:=d) G.pick f (by omega) (by omega) q
  have e3:=aq (u:=O.lst (af vs)) (k3.get _ _ (by omega) e2)
  refine eu ag (nz e3 (by rw[(Im)]; omega) (cH (hn' _ _ ⟨_,_,u++[(v,vs)],rfl,?_,by rw[(Iv),hul]; rfl,hu.snoc ⟨v0,v1⟩ (hvl.trans hul.symm) hv,(f3.ka .push).own hrt,(k1.trans (k2.trans (k3.trans .push))).late (Ip _)⟩)))
  rw[bX e3,(IV)]; rfl
 ·rintro ρ S1 ⟨a4,a5,u,rfl,e1,hul,hu,f1,k1⟩;refine hK _ _ (st ?_);dsimp only[wS,wE,wA,wV,wG];exact eu e1 (k u _ (by omega) hu f1 k1)
end
noncomputable def eR (n:Nat):List Int:=(List.range n).map fun(k:Nat)=>(k:Int)
noncomputable def yG (a n:Nat):List Wd:=(eR a).flatMap fun m0=>(eR a).flatMap fun m1=>(eR a).flatMap fun m2=>(eR n).flatMap fun w1=>(eR n).flatMap fun w2=>(eR n).map fun w3=>[(m0,[]),(m1,[w1]),(m2,[w2,w3])]
noncomputable def bn (a:Nat)(bs:List Int):List Wd:=((yG a bs.length).map (j4 bs)).eraseDups
theorem c8 {n:Nat}{x:Int}(h0:0<=x)(h1:x < n):x∈eR n:=IF.mpr ⟨x.toNat,IU.mpr (by omega),by omega⟩
theorem vH {a n:Nat}{u:Wd}(h:GoodW a n u)(h3:u.length=3):u∈yG a n:=by
 match u,h3 with
 | [(m0,w0),(m1,w1),(m2,w2)],_=>
  have l0:=h.len 0 _ rfl;have l1:=h.len 1 _ rfl;have l2:=h.len 2 _ rfl;simp only at l0 l1 l2
  match w0,l0 with
  | [],_=>
   match w1,l1 with
   | [x],_=>
    match w2,l2 with
    | [y,z],_=>
     have a0:=h.mark 0 _ rfl;have a1:=h.mark 1 _ rfl;have a2:=h.mark 2 _ rfl;have b1:=h.way 1 _ rfl x (by simp)
     have b2:=h.way 2 _ rfl y (by simp)
     have b3:=h.way 2 _ rfl z (by simp)
     unfold yG;simp only[List.mem_flatMap,List.mem_map];exact⟨m0,c8 a0.1 a0.2,m1,c8 a1.1 a1.2,m2,c8 a2.1 a2.2,x,c8 b1.1 b1.2,y,c8 b2.1 b2.2,z,c8 b3.1 b3.2,rfl⟩
theorem ut {a:Nat}{bs:List Int}{u:Wd}(h:GoodW a bs.length u)(h3:u.length=3):j4 bs u∈bn a bs:=by
 unfold bn;rw[List.mem_eraseDups];exact IF.mpr ⟨u,vH h h3,rfl⟩
structure SizeOk (a:Nat)(bs:List Int):Prop where
 pos:0 < a
 good:GoodB bs
 most:a*bs.length<=6
 a3:a<=3
theorem SizeOk.n3 {a:Nat}{bs:List Int}(h:SizeOk a bs):0 < bs.length/\bs.length<=3:=by
 rcases h.good with rfl|rfl|rfl|rfl|rfl|rfl <;> decide
theorem Hr:(bn 1 [0]).length < 64/\(bn 2 [0]).length < 64/\(bn 3 [0]).length < 64:=by decide +kernel
theorem Go:(bn 1 [0,1]).length < 64/\(bn 2 [0,1]).length < 64/\(bn 1 [1,0]).length < 64/\(bn 2 [1,0]).length < 64:=by decide +kernel
theorem Hs:(bn 1 [0,1,2]).length < 64/\(bn 1 [1,0,2]).length < 64/\(bn 1 [0,2,1]).length < 64:=by decide +kernel
theorem Ht:(bn 3 [0,1]).length < 64:=by decide +kernel
theorem Hu:(bn 3 [1,0]).length < 64:=by decide +kernel
theorem Hv:(bn 2 [0,1,2]).length < 64:=by decide +kernel
theorem Hw:(bn 2 [1,0,2]).length < 64:=by decide +kernel
theorem Hx:(bn 2 [0,2,1]).length < 64:=by decide +kernel
theorem oZ {a:Nat}{bs:List Int}(h:SizeOk a bs):(bn a bs).length < 64:=by
 obtain⟨h0,hb,hm,h3⟩:=h;have ha:a=1\/a=2\/a=3:=by omega
 rcases hb with rfl|rfl|rfl|rfl|rfl|rfl <;> rcases ha with rfl|rfl|rfl
 ·exact Hr.1
 ·exact Hr.2.1
 ·exact Hr.2.2
 ·exact Go.1
 ·exact Go.2.1
 ·exact Ht
 ·exact Go.2.2.1
 ·exact Go.2.2.2
 ·exact Hu
 ·exact Hs.1
 ·exact Hv
 ·simp at hm
 ·exact Hs.2.1
 ·exact Hw
 ·simp at hm
 ·exact Hs.2.2
 ·exact Hx
 ·simp at hm
theorem yH (bs:List Int)(u:Wd):∃ t∈bz,j4 bs u=aT bs u t:=by
 have h7:(bz.map (aT bs u)).length=6:=by rw[(Im)]; rfl
 have h8:((bz.map (aT bs u)).map dw).length=6:=by rw[(Im),h7]
 have hlt:sg ((bz.map (aT bs u)).map dw) < (bz.map (aT bs u)).length:=by
  unfold sg;have h6:=ij (qm ((bz.map (aT bs u)).map dw)) (((bz.map (aT bs u)).map dw).length - 1);rw[h7]; omega
 unfold j4;rw[getD_some (List.getElem?_eq_getElem hlt)];obtain⟨t,ht,e⟩:=IF.mp (IQ hlt);exact⟨t,ht,e.symm⟩
theorem Bu (bs:List Int)(u:Wd):j4 bs u≠[]:=by
 obtain⟨t,ht,e⟩:=yH bs u;rw[e];have:∀ t∈bz,t≠[]:=by decide
 have h:=this t ht;intro z;have hl:(aT bs u t).length=t.length:=by simp[aT]
 rw[z]at hl;exact h (JJ.mp hl.symm)
theorem qY:∀ {xs ys:List Int},xs.map T.int=ys.map T.int->xs=ys
 | [],[],_=>rfl
 | [],_::_,h=>by cases h
 | _::_,[],h=>by cases h
 | x::xs,y::ys,h=>by
  rw[(JX),(JX)]at h;injection h with h1 h2
  injection h1 with h1
  rw[h1,qY h2]
theorem Bv {p q:Pt}(h:oT p=oT q):p=q:=by
 unfold oT at h;injection h with h
 injection h with h1 h2
 injection h1 with h1
 injection h2 with h2 _
 injection h2 with h2
 exact Prod.ext h1 (qY h2)
theorem o4 {u v:Wd}(h:dw u=dw v):u=v:=by
 unfold dw at h;injection h with h
 have inj:∀ {u v:Wd},u.map oT=v.map oT->u=v:=by
  intro u
  induction u with
  | nil=>intro v h; cases v with
   | nil=>rfl
   | cons _ _=>cases h
  | cons p u ih=>intro v h; cases v with
   | nil=>cases h
   | cons q v=>
    rw[(JX),(JX)]at h;injection h with h1 h2
    rw[Bv h1,ih h2]
 exact inj h
theorem nE {kvs:List (T×W)}{k:T}{v:W}:(eN kvs k v).map (·.1)=if k∈kvs.map (·.1)then kvs.map (·.1)else kvs.map (·.1)++[k]:=by
 have hany:(kvs.any fun p=>decide (p.1=k))=decide (k∈kvs.map (·.1)):=by
  induction kvs with
  | nil=>rfl
  | cons p kvs ih=>
   rw[(Kd),ih,(JX)]
   by_cases e:p.1=k
   ·subst e; simp
   ·rw[decide_eq_false e,Bool.false_or];have:(k∈p.1::kvs.map (·.1))=(k∈kvs.map (·.1)):=by simp[Ne.symm e]
    simp only[this]
 unfold eN;rw[hany]
 by_cases h:k∈kvs.map (·.1)
 ·rw[if_pos h,if_pos (decide_eq_true h),(J4)];refine JB fun p _=>?_
  show(if p.1=k then(p.1,v)else p).1=p.1
  split <;> rfl
 ·rw[if_neg h,if_neg (by simpa using h),(IV)]
  rfl
structure FigD (L:List Wd)(kvs:List (T×W))(fs:List Wd):Prop where
 keys:kvs.map (·.1)=fs.map dw
 nd:fs.Nodup
 mem:∀ f∈fs,f∈L
theorem FigD.nil {L:List Wd}:FigD L [] []:=⟨rfl,List.nodup_nil,fun _ h=>nomatch h⟩
theorem FigD.len {L:List Wd}{kvs:List (T×W)}{fs:List Wd}(h:FigD L kvs fs):kvs.length=fs.length/\fs.length<=L.length:=by
 have:=congrArg List.length h.keys;rw[(Im),(Im)]at this;exact⟨this,oR fs L h.nd h.mem⟩
theorem FigD.put {L:List Wd}{kvs:List (T×W)}{fs:List Wd}{f:Wd}{v:W}(h:FigD L kvs fs)(hf:f∈L):∃ fs',FigD L (eN kvs (dw f) v) fs':=by
 by_cases hm:f∈fs
 ·refine⟨fs,?_,h.nd,h.mem⟩;rw[nE,if_pos (by rw[h.keys]; exact IF.mpr ⟨f,hm,rfl⟩),h.keys]
 ·refine⟨fs++[f],?_,?_,fun g hg=>?_⟩
  ·rw[nE,if_neg,h.keys,(IV)]
   ·rfl
   ·rw[h.keys];intro z;obtain⟨g,hg,e⟩:=IF.mp z;exact hm (o4 e ▸ hg)
  ·rw[(JP)];refine⟨h.nd,by simp,fun a ha b hb e=>?_⟩
   rw[List.mem_singleton.mp hb]at e;exact hm (e ▸ ha)
  ·rcases IL.mp hg with h'|h'
   ·exact h.mem g h'
   ·rw[List.mem_singleton.mp h']; exact hf
theorem FigD.items {S:aa}{t:Nat}{L:List Wd}{kvs:List (T×W)}{fs:List Wd}(h:FigD L kvs fs)(e:S[t]?=some (.dic kvs)):d6 S (.ref t)=some (fs.map aY):=by
 simp only[d6,oN e,dk e,Option.map_some];congr 1;have:(kvs.map (·.1)).map T.w=(fs.map dw).map T.w:=by rw[h.keys]
 rw[(J4),(J4)]at this
 calc kvs.map (fun p=>p.1.w)=kvs.map (T.w∘fun x=>x.1):=rfl
  _=fs.map (T.w∘dw):=this
  _=fs.map aY:=by
   refine JB fun f _=>?_
   exact yv f
theorem qZ {a:Nat}{bs:List Int}{f:Wd}(h:f∈bn a bs):f≠[]:=by
 unfold bn at h;rw[List.mem_eraseDups]at h;obtain⟨u,_,rfl⟩:=IF.mp h;exact Bu bs u
theorem F2 {S:aa}{t:Nat}{kvs:List (T×W)}{u:Wd}{v:W}(h:S[t]?=some (.dic kvs))(hl:kvs.length < sizeLine):iJ (.ref t) (aY u) v S=some (S.set t (.dic (eN kvs (dw u) v))):=by
 have hk:=DM u;unfold aY at hk ⊢;simp only[iJ,on,h,hk];rw[if_pos hl]
structure RuleAt (a:Nat)(bs:List Int)(ms ns:List Str)(gs:List Wd):Prop where
 size:SizeOk a bs
 ml:ms.length=a
 nl:ns.length=bs.length
 nm:GoodN ms ns
 nd:gs.Nodup
 mem:∀ g∈gs,g∈bn a bs
noncomputable def ev (w:W):Prop:=∃ a bs ms ns gs,w=dJ ms ns bs (c7 gs)/\RuleAt a bs ms ns gs
section
variable {Φ:Str->FF} {fuel:Nat} {ρ:Fm} {S:aa} {K:Fm->aa->Prop} {Q:QO}
theorem iU {i0:Nat}{e:E}{b:Ss}(oe:fj e=true)(ok:gH b=true)(he:wE Φ e ρ S fun p=>∃ (j:Int) (I:Nat->Fm->aa->Prop),p.1=.int j/\(-(2 ^ 62)<=j/\j < 2 ^ 62)/\I 0 ρ p.2/\
  (∀ (i:Nat) (ρ:Fm) (S:aa),(i:Int) < j->I i ρ S->vW Φ fuel b (ρ.set i0 (some (.int i))) S (I (i+1)) Q)/\∀ ρ S,I j.toNat ρ S->K ρ S):Wp (fX Φ fuel (.loop (.nm i0) (.rng (.cons e .nil)) b) ρ S) (rK K Q):=by
 obtain⟨w,S1,e1,j,I,rfl,hj,h0,hs,hend⟩:=cX oe he;have hl:(dF 0 j.toNat).length=j.toNat:=by simp[dF]
 refine ie (mi:=.its (dF 0 j.toNat)) (S1:=S1) (xs:=dF 0 j.toNat) I ok ?_ (fun _ _ _ _=>rfl) rfl h0 (fun i w ρ S hw hI=>?_) fun ρ S hI=>hend ρ S (hl ▸ hI)
 ·simp only[nt,dC,eY,lg,vw,e1];rw[if_pos hj]
 ·rw[d8]at hw;split at hw
  ·rename_i hk;cases hw;rw[Int.zero_add];exact hs i ρ S (by omega) hI
  ·cases hw
theorem lz {tg:Tg}{e:E}{b:Ss}(oe:fj e=true)(ok:gH b=true)(he:wE Φ e ρ S fun p=>∃ (t:Nat) (xs:List W) (I:Nat->Fm->aa->Prop),p.1=.ref t/\I 0 ρ p.2/\(∀ i ρ S,I i ρ S->S[t]?=some (.lst xs))/\
  (∀ (i:Nat) (w:W) (ρ:Fm) (S:aa),xs[i]?=some w->I i ρ S->wO (hX tg w ρ S) fun q=>vW Φ fuel b q.1 q.2 (I (i+1)) Q)/\∀ ρ S,I xs.length ρ S->K ρ S):Wp (fX Φ fuel (.loop tg (.seq e) b) ρ S) (rK K Q):=by
 obtain⟨w,S1,e1,t,xs,I,rfl,h0,hat,hs,hend⟩:=cX oe he;exact ie (mi:=.live t) (S1:=S1) I ok (by simp only[nt,fL,e1,aK (hat _ _ _ h0)]) (fun i ρ S h=>by simp only[MI.at,aK (hat _ _ _ h)]) (by simp only[MI.len,aK (hat _ _ _ h0),Option.map_some]) h0 hs hend
end
section
variable {defs:List (Str×Df)} {fuel d:Nat} {S:aa} {r:Nat} {Q:QW}
theorem yI {q:Nat}{a:Nat}{bs:List Int}{ms ns:List Str}{fs0:List Wd}{kvs:List (T×W)}{fs:List Wd}(h3:S[q]?=some (.dic kvs))(h4:FigD (bn a bs) kvs fs)(hs:SizeOk a bs)(hml:ms.length=a)(hnl:ns.length=bs.length)(hnm:GoodN ms ns)(k:∀ w S',ev w->Ka S S'->Q (w,S')) :
  wO (pI (dJ ms ns bs fs0) (.int 0) S) fun p=>wO (pI (dJ ms ns bs fs0) (.int 1) p.2) fun q'=>wO (Bi.sorted.fn [.ref q] q'.2) fun s=>wO (Bi.tuple.fn [s.1] s.2) fun z=>Q (.tup [p.1,q'.1,z.1],z.2):=by
 refine aw (by decide) rfl (aw (by decide) rfl ?_)
 have hl:=h4.len;exact yC (h4.items h3) (by have:=oZ hs; omega) (fun f hf=>qZ (h4.mem f hf)) (eu ag (k _ _ ⟨a,bs,ms,ns,fs,rfl,hs,hml,hnl,hnm,h4.nd,h4.mem⟩ .push))
theorem yJ {q:Nat}{a:Nat}{bs:List Int}{u:Wd}{kvs:List (T×W)}{fs:List Wd}{Q:aa->Prop}(h3:S[q]?=some (.dic kvs))(h4:FigD (bn a bs) kvs fs)(hs:SizeOk a bs)(hu:GoodW a bs.length u)(hu3:u.length=3)
  (k:∀ o,(∃ kvs fs,(S.set q o)[q]?=some (.dic kvs)/\FigD (bn a bs) kvs fs)->Q (S.set q o)):wO (iJ (.ref q) (aY (j4 bs u)) (.bl true) S) Q:=by
 have hl:=h4.len;have:=oZ hs;obtain⟨fs',h5⟩:=h4.put (v:=.bl true) (ut hu hu3);exact ae (F2 h3 (by rw[(Ja)]; omega)) (k _ ⟨_,fs',bX h3,h5⟩)
theorem sH (hfu:20 < fuel)(G:Gen defs)(hf:Fl S r)(k:∀ w S',ev w->Fl S' r->Kp r S S'->Q (w,S')):wO (bR (ap defs fuel (d+6)) "_law_any_rule" 1 [.ref r] S) Q:=by
 refine aJ G.any_rule rfl rfl fun Q' hR=>?_
 replace k:∀ w S',ev w->Fl S' r->Kp r S S'->Q' (.rt w,S'):=fun z S' a b c=>hR _ _ (k z S' a b c)
 clear hR;show wZ _ _ cZ [some (.ref r),none,none,none,none,none] S Q';dsimp only[cZ];refine aZ fun K hK=>?_
 dsimp only[wS,wE,wA,wV,wG];refine oX (d:=d+3) G hf fun a n S1 a1 a3 n1 n3 an f1 k1=>?_
 dsimp only[wU];refine ae (show d7 [1,2] [.int a,.int n] [some (.ref r),none,none,none,none,none]=some [some (.ref r),some (.int a),some (.int n),none,none,none]from rfl) (hK _ _ ?_)
 clear hK K;refine aZ fun K hK=>?_
 dsimp only[wS,wE,wA,wV,wG,List.set];refine oY (d:=d+3) G f1 n1 n3 fun bs S2 hb hbl f2 k2=>?_
 have hsz:SizeOk a bs:=⟨by omega,hb,by rw[hbl]; exact an,a3⟩
 refine fJ (d:=d) hfu G f2 a3 (by omega) fun ms ns S3 hml hnl hnm f3 k3=>hK _ _ ?_
 clear hK K;have hrt:=f3.lt;replace k3:Kp r S S3:=k1.trans (k2.trans k3);clear k1 k2 f1 f2;refine st ?_;dsimp only[wS,wE,List.set];refine aZ fun K hK=>?_
 refine iU rfl rfl ?_;dsimp only[wE,wA,wV,wG];refine bc (d:=d+4) G.pick (f3.ka .push) (by decide) (by decide) fun v S4 v0 v9 f4 k4=>?_
 refine⟨v,fun k ρ S'=>(∃ a5,ρ=[some (.ref r),some (.int a),some (.int n),some (dJ ms ns bs []),some (.ref S3.length),a5])/\(∃ kvs fs,S'[S3.length]?=some (.dic kvs)/\FigD (bn a bs) kvs fs)/\Fl S' r/\Kp r S S',rfl,by omega,⟨⟨none,rfl⟩,⟨[],[],k4.get _ _ (by omega) ag,.nil⟩,f4,(k3.trans .push).trans k4⟩,?_,?_⟩
 ·rintro i ρ S5 hi ⟨⟨a5,rfl⟩,⟨kvs,fs,e5,hd⟩,f5,k5⟩ Q2 hn _;clear hK;refine st ?_;dsimp only[wS,wE,wA,wV,wG,List.set];refine iT (d:=d+3) G f5 (by omega) a3 (by omega) n3 fun u S6 hu3 hu f6 k6=>?_
  have hu:GoodW a bs.length u:=hbl.symm ▸ hu;refine iS (d:=d+2) G hb hnl hu hu3 fun S7 k7=>?_
  have e7:=k7.get _ _ (k6.get _ _ (by omega) e5)
  exact yJ e7 hd hsz hu hu3 fun o ho=>cH (hn _ _ ⟨⟨_,rfl⟩,ho,(f6.ka k7).own hrt,((k5.trans k6).trans (k7.kp r)).late k3.len⟩)
 ·rintro ρ S5 ⟨⟨a5,rfl⟩,⟨kvs,fs,e5,hd⟩,f5,k5⟩;refine hK _ _ (st ?_);dsimp only[wS,wE,wA,wV,wG];exact yI (Q:=fun p=>Q' (.rt p.1,p.2)) e5 hd hsz hml hnl hnm fun w S6 hw k6=>k w S6 hw (f5.ka k6) (k5.trans (k6.kp r))
end
noncomputable def o5 (t:Int×Int×Int):W:=.tup [.int t.1,.int t.2.1,.int t.2.2]
noncomputable def q8 (a:Nat)(t:Int×Int×Int):Prop:=(0<=t.1/\t.1 < a)/\(0<=t.2.1/\t.2.1 < a)/\(0<=t.2.2/\t.2.2 < a)
noncomputable def yK (k:Int):Wd:=[(k,[]),(k,[0]),(k,[0,0])]
theorem Hy:∀ k∈eR 1,yK k∈bn 1 [0]:=by decide +kernel
theorem Hz:∀ k∈eR 2,yK k∈bn 2 [0]:=by decide +kernel
theorem HA:∀ k∈eR 3,yK k∈bn 3 [0]:=by decide +kernel
theorem Bw {a:Nat}{k:Int}(h0:1<=a)(h3:a<=3)(hk:0<=k)(hk2:k < a):yK k∈bn a [0]:=by
 have ha:a=1\/a=2\/a=3:=by omega
 rcases ha with rfl|rfl|rfl
 ·exact Hy k (c8 hk hk2)
 ·exact Hz k (c8 hk hk2)
 ·exact HA k (c8 hk hk2)
theorem Bx {a b:Int}(h:yK a=yK b):a=b:=by
 unfold yK at h;injection h with h1 h2
 injection h1
theorem o7:GoodB [0]:=.inl rfl
theorem F3 {S:aa}{i j:Nat}{xs:List W}(h1:S[i]?=some (.lst xs))(h2:S[j]?=some (.lst [])):dh .eq (.ref i) (.ref j) S=some (.bl xs.isEmpty,S):=by
 show(ja S (19+1) (.ref i) (.ref j)).map _=_;simp only[ja,cG h1,cG h2];cases xs with
 | nil=>rfl
 | cons x xs=>rfl
theorem By {S:aa}{f:Int}{ws:List Int}:∃ b,dh .notin (.int f) (.tup (af ws)) S=some (.bl b,S):=by
 have hf:(cv (.int f)&&(af ws).all cv)=true:=by
  simp only[cv,Bool.true_and,List.all_eq_true];intro x hx;obtain⟨z,_,rfl⟩:=IF.mp hx;rfl
 refine⟨!(af ws).any fun z=>zv z (.int f),?_⟩
 show jd .notin (.int f) (.tup (af ws)) S=_;simp only[jd,Ei,BX,eW,hf,if_true,Option.map_some]
section
variable {Φ:Str->FF} {fuel:Nat} {ρ:Fm} {S:aa} {K:Fm->aa->Prop} {Q:QO}
theorem yL {i0:Nat}{a b:E}{bd:Ss}(i j:Int)(I:Nat->Fm->aa->Prop)(oa:fj a=true)(ob:fj b=true)(ok:gH bd=true)(hj : -(2 ^ 62)<=i/\i < 2 ^ 62/\-(2 ^ 62)<=j/\j < 2 ^ 62)(he:wE Φ a ρ S fun p=>p.1=.int i/\wE Φ b ρ p.2 fun q=>q.1=.int j/\I 0 ρ q.2)
  (hstep:∀ (k:Nat) (ρ:Fm) (S:aa),(k:Int) < j - i->I k ρ S->vW Φ fuel bd (ρ.set i0 (some (.int (i+k)))) S (I (k+1)) Q) (hend:∀ ρ S,I (j - i).toNat ρ S->K ρ S):Wp (fX Φ fuel (.loop (.nm i0) (.rng2 (.cons a (.cons b .nil))) bd) ρ S) (rK K Q):=by
 obtain⟨w,S1,e1,rfl,h1⟩:=cX oa he;obtain⟨w,S2,e2,rfl,h0⟩:=cX ob h1;have hl:(dF i (j - i).toNat).length=(j - i).toNat:=by simp[dF]
 refine ie (mi:=.its (dF i (j - i).toNat)) (S1:=S2) (xs:=dF i (j - i).toNat) I ok ?_ (fun _ _ _ _=>rfl) rfl h0 (fun k w ρ S hw hI=>?_) fun ρ S hI=>hend ρ S (hl ▸ hI)
 ·simp only[nt,dC,eY,lg,iRng2,e1,e2];rw[if_pos hj]
 ·rw[d8]at hw;split at hw
  ·rename_i hk;cases hw;exact hstep k ρ S (by omega) hI
  ·cases hw
theorem yM {elt a b:E}{i0:Nat}{cs:Es}{cap:List (Option Nat)}{Q:QW}(i j:Int)(I:Nat->List W->Fm->aa->Prop)(oa:fj a=true)(ob:fj b=true)(oe:fj elt=true)(oc:ug cs=true)(hj : -(2 ^ 62)<=i/\i < 2 ^ 62/\-(2 ^ 62)<=j/\j < 2 ^ 62)(he:wE Φ a ρ S fun p=>p.1=.int i/\wE Φ b ρ p.2 fun q=>q.1=.int j/\I 0 [] (hW cap ρ) q.2)
  (hstep:∀ (k:Nat) (ys:List W) (ρ:Fm) (S:aa),(k:Int) < j - i->I k ys ρ S->kE Φ elt cs (ρ.set i0 (some (.int (i+k)))) S (fun y=>I (k+1) (ys++[y])) (I (k+1) ys))
  (hend:∀ ys ρ S,I (j - i).toNat ys ρ S->ys.length<=sizeLine/\Q (.ref S.length,S++[.lst ys])):Wp (aF Φ (.comp elt (.nm i0) (.rng2 (.cons a (.cons b .nil))) cs cap) ρ S) Q:=by
 obtain⟨w,S1,e1,rfl,h1⟩:=cX oa he;obtain⟨w,S2,e2,rfl,h0⟩:=cX ob h1;have hl:(dF i (j - i).toNat).length=(j - i).toNat:=by simp[dF]
 refine lq (mi:=.its (dF i (j - i).toNat)) (S1:=S2) (xs:=dF i (j - i).toNat) I oe oc ?_ (fun _ _ _ _ _=>rfl) rfl h0 (fun k w ys ρ S hw hI=>?_) fun ys ρ S hI=>hend ys ρ S (hl ▸ hI)
 ·simp only[nt,dC,eY,lg,iRng2,e1,e2];rw[if_pos hj]
 ·rw[d8]at hw;split at hw
  ·rename_i hk;cases hw;exact hstep k ys ρ S (by omega) hI
  ·cases hw
end
section
variable {defs:List (Str×Df)} {fuel d:Nat} {S:aa} {r:Nat} {Q:QW}
theorem yN (G:Gen defs){a:Nat}(ha:a<=3)(k:∀ (q:Nat) (ts:List (Int×Int×Int)) (S':aa),S'[q]?=some (.lst (ts.map o5))->(∀ t∈ts,q8 a t)->S.length<=q->Ka S S'->Q (.ref q,S')) :
  wO (bR (ap defs fuel (d+1)) "_law_rising" 1 [.int a] S) Q:=by
 refine aJ G.rising rfl rfl fun Q' hR=>?_
 replace k:∀ (q:Nat) (ts:List (Int×Int×Int)) (S':aa),S'[q]?=some (.lst (ts.map o5))->(∀ t∈ts,q8 a t)->S.length<=q->Ka S S'->Q' (.rt (.ref q),S'):=fun q ts S' a b c e=>hR _ _ (k q ts S' a b c e)
 clear hR;show wZ _ _ dR [some (.int a),none,none,none] S Q';dsimp only[dR];refine st ?_;dsimp only[wS,wE,wA,List.set];refine aZ fun K hK=>?_
 refine dq (a:Int) (fun i ρ S'=>∃ (q:Nat) (ts:List (Int×Int×Int)) (a2 a3:Option W),ρ=[some (.int a),some (.ref q),a2,a3]/\S'[q]?=some (.lst (ts.map o5))/\(∀ t∈ts,q8 a t)/\S.length<=q/\ts.length<=9*i/\Ka S S') rfl rfl (by omega) ⟨rfl,_,[],_,_,rfl,ag,fun _ h=>(nomatch h),Ip _,Jn _,.push⟩ ?_ ?_
 ·rintro i ρ S1 hi ⟨q,ts,a2,a3,rfl,e1,ht,hq,hl,k1⟩ Q2 hn _;clear hK k;refine aZ fun K hK=>?_
  refine yL (i:Int) (a:Int) (fun j ρ S'=>∃ (q:Nat) (ts:List (Int×Int×Int)) (a3:Option W),ρ=[some (.int a),some (.ref q),some (.int i),a3]/\S'[q]?=some (.lst (ts.map o5))/\(∀ t∈ts,q8 a t)/\S.length<=q/\ts.length<=9*i+3*j/\Ka S S') rfl rfl rfl (by omega) ⟨rfl,rfl,q,ts,a3,rfl,e1,ht,hq,by omega,k1⟩ ?_ ?_
  ·rintro j ρ S2 hj ⟨q,ts,a3,rfl,e2,ht,hq,hl,k2⟩ Q3 hn3 _;clear hK hn;refine st ?_;dsimp only[wS,wE,wV,wG,List.set];refine yM ((i:Int)+j) (a:Int) (fun m ys ρ2 S3=>(∃ a1,ρ2=[none,a1,some (.int i),some (.int ((i:Int)+j))])/\(∃ us:List (Int×Int×Int),ys=us.map o5/\us.length=m/\∀ t∈us,q8 a t)/\S3=S2) rfl rfl rfl rfl (by omega) ⟨rfl,rfl,⟨none,rfl⟩,⟨[],rfl,rfl,fun _ h=>nomatch h⟩,rfl⟩ ?_ ?_
   ·rintro m ys ρ2 S3 hm ⟨⟨a1,rfl⟩,⟨us,rfl,hul,hu⟩,rfl⟩;refine⟨fun _=>⟨⟨_,rfl⟩,⟨us++[((i:Int),(i:Int)+j,(i:Int)+j+m)],by rw[(IV)]; rfl,by rw[(Iv),hul]; rfl,fun t h=>?_⟩,rfl⟩,fun z=>by cases z⟩
    rcases IL.mp h with h|h
    ·exact hu t h
    ·rw[List.mem_singleton.mp h];exact⟨⟨by omega,by omega⟩,⟨by dsimp only; omega,by dsimp only; omega⟩,⟨by dsimp only; omega,by dsimp only; omega⟩⟩
   ·rintro ys ρ2 S3 ⟨_,⟨us,rfl,hul,hu⟩,rfl⟩;refine⟨kF (by rw[(Im)]; omega),ae (sE (aq e2) ag ?_) (cH (hn3 _ _ ⟨_,ts++us,_,rfl,?_,fun t h=>(IL.mp h).elim (ht t) (hu t),?_,?_,k2.trans (Ka.push.trans .push)⟩))⟩
    ·refine kF ?_;rw[(Iv),(Im),(Im)];omega
    ·rw[(IV)]; exact ag
    ·have:=k2.len;simp only[List.length_append]; omega
    ·rw[(Iv)]; omega
  ·rintro ρ S2 ⟨q,ts,a3,rfl,e2,ht,hq,hl,k2⟩;exact hK _ _ (cH (hn _ _ ⟨q,ts,_,_,rfl,e2,ht,hq,by omega,k2⟩))
 ·rintro ρ S1 ⟨q,ts,a2,a3,rfl,e1,ht,hq,hl,k1⟩;refine hK _ _ (st ?_);exact k q ts S1 e1 ht hq k1
theorem vI (hfu:20 < fuel)(G:Gen defs)(hf:Fl S r)(k:∀ w S',ev w->Fl S' r->Kp r S S'->Q (w,S')):wO (bR (ap defs fuel (d+6)) "_law_one_way_rule" 1 [.ref r] S) Q:=by
 refine aJ G.one_way_rule rfl rfl fun Q' hR=>?_
 replace k:∀ w S',ev w->Fl S' r->Kp r S S'->Q' (.rt w,S'):=fun z S' a b c=>hR _ _ (k z S' a b c)
 clear hR;show wZ _ _ bY [some (.ref r),none,none] S Q';dsimp only[bY];refine aZ fun K hK=>?_
 dsimp only[wS,wE,wA,wV,wG,List.set];refine bc (d:=d+4) G.pick hf (by decide) (by decide) fun v S1 v0 v3 f1 k1=>?_
 dsimp only[cW,aQ];obtain⟨a,ea⟩ : ∃ a:Nat,1+v=a:=⟨(1+v).toNat,by omega⟩
 rw[ea];refine hK _ _ ?_;clear hK K;refine aZ fun K hK=>?_
 dsimp only[wS,wE,List.set];refine cY (a:Int) (fun k zs ρ2 S2=>(∃ a1,ρ2=[none,a1,some (.ref r)])/\(∃ ks:List Int,zs=(ks.map yK).map aY/\ks.Pairwise (·≠·)/\ks.length<=k/\∀ x∈ks,0<=x/\x < k)/\Fl S2 r/\Kp r S1 S2) rfl rfl rfl (by omega) ⟨rfl,⟨none,rfl⟩,⟨[],rfl,.nil,Ip _,fun _ h=>(nomatch h)⟩,f1,.refl⟩ ?_ ?_
 ·rintro i zs ρ2 S2 hi ⟨⟨a1,rfl⟩,⟨ks,rfl,hkp,hkl,hks⟩,f2,k2⟩;clear hK k;dsimp only[kE,wC,wT,wE,wA,wV,wG,List.set];refine bc (d:=d+4) G.pick f2 (by decide) (by decide) fun v S3 _ _ f3 k3=>?_
  dsimp only[ic,aQ,wB];refine⟨fun _=>⟨⟨_,rfl⟩,⟨ks++[(i:Int)],by simp[yK,aY,fm],?_,by rw[(Iv)]; exact Nat.succ_le_succ hkl,fun x hx=>?_⟩,f3,k2.trans k3⟩,fun _=>⟨⟨_,rfl⟩,⟨ks,rfl,hkp,by omega,fun x hx=>⟨(hks x hx).1,by have:=(hks x hx).2; omega⟩⟩,f3,k2.trans k3⟩⟩
  ·rw[List.pairwise_append];refine⟨hkp,by simp,fun x hx y hy e=>?_⟩
   have:=(hks x hx).2;rw[List.mem_singleton.mp hy]at e;omega
  ·rcases IL.mp hx with h|h
   ·exact⟨(hks x h).1,by have:=(hks x h).2; omega⟩
   ·rw[List.mem_singleton.mp h]; omega
 ·rintro zs ρ2 S2 ⟨_,⟨ks,rfl,hkp,hkl,hks⟩,f2,k2⟩;rw[(IB)]at hkl hks;refine⟨kF (by rw[(Im),(Im)]; omega),hK _ _ (st ?_)⟩
  clear hK K;dsimp only[wS,wE,wA,wV,wG,List.set];have hlt:=f2.lt;refine nD (d:=d) (a:=a) (bs:=[0]) (us:=ks.map yK) hfu G (f2.ka .push) (by omega) (by decide) (fun S' kk=>?_) (by rw[(Im)]; omega) (fun u hu=>by obtain⟨x,_,rfl⟩:=IF.mp hu; exact List.cons_ne_nil _ _) fun ms ns S3 hml hnl hnm f3 k3=>?_
  ·simp only[d6,aK (kk.get _ _ (by omega) ag)]
  refine k _ _ ⟨a,[0],ms,ns,ks.map yK,rfl,⟨⟨by omega,o7,by simp; omega,by omega⟩,hml,hnl,hnm,?_,fun g hg=>?_⟩⟩ f3 (k1.trans (k2.trans (Kp.push.trans k3)))
  ·unfold List.Nodup;rw[List.pairwise_map];exact hkp.imp fun h e=>h (Bx e)
  ·obtain⟨x,hx,rfl⟩:=IF.mp hg;exact Bw (by omega) (by omega) (hks x hx).1 (hks x hx).2
theorem q9 (hfu:20 < fuel)(G:Gen defs)(hf:Fl S r)(k:∀ w S',ev w->Fl S' r->Kp r S S'->Q (w,S')):wO (bR (ap defs fuel (d+6)) "_law_free_rule" 1 [.ref r] S) Q:=by
 refine aJ G.free_rule rfl rfl fun Q' hR=>?_
 replace k:∀ w S',ev w->Fl S' r->Kp r S S'->Q' (.rt w,S'):=fun z S' a b c=>hR _ _ (k z S' a b c)
 clear hR;show wZ _ _ cJ [some (.ref r),none,none,none,none,none,none,none,none] S Q';dsimp only[cJ];refine aZ fun K hK=>?_
 dsimp only[wS,wE,wA,wV,wG];refine oX (d:=d+3) G hf fun a n S1 a1 a3 n1 n3 an f1 k1=>?_
 dsimp only[wU];refine ae (show d7 [1,2] [.int a,.int n] [some (.ref r),none,none,none,none,none,none,none,none]=some [some (.ref r),some (.int a),some (.int n),none,none,none,none,none,none]from rfl) (hK _ _ ?_)
 clear hK K;refine aZ fun K hK=>?_
 dsimp only[wS,wE,wA,wV,wG,List.set];refine oY (d:=d+3) G f1 n1 n3 fun bs S2 hb hbl f2 k2=>?_
 have hsz:SizeOk a bs:=⟨by omega,hb,by rw[hbl]; exact an,a3⟩
 refine fJ (d:=d) hfu G f2 a3 (by omega) fun ms ns S3 hml hnl hnm f3 k3=>hK _ _ ?_
 clear hK K;have hrt:=f3.lt;replace k3:Kp r S S3:=k1.trans (k2.trans k3);clear k1 k2 f1 f2;refine aZ fun K hK=>?_
 dsimp only[wS,wE,List.set];refine cY (n:Int) (fun i zs ρ2 S2=>(∃ a1,ρ2=[none,a1,some (dJ ms ns bs [])])/\(∃ ks:List Int,zs=af ks/\ks.length<=i)/\S2=S3) rfl rfl rfl (by omega) ⟨rfl,⟨none,rfl⟩,⟨[],rfl,Ip _⟩,rfl⟩ ?_ ?_
 ·rintro i zs ρ2 S2 hi ⟨⟨a1,rfl⟩,⟨ks,rfl,hkl⟩,rfl⟩;clear hK k;have hi':i < bs.length:=by omega
  dsimp only[kE,wC,wT,wE,wA,wV,wG,List.set];refine aw (by decide) rfl (aw (IG i) (by rw[(IB)]; exact ii (Iw (by omega)) (Iw hi')) (aw (by decide) rfl ?_))
  dsimp only[ic,aQ,wB];exact⟨fun _=>⟨⟨_,rfl⟩,⟨ks++[(i:Int)],by unfold af; rw[List.map_append]; rfl,by rw[List.length_append]; exact Nat.succ_le_succ hkl⟩,rfl⟩,fun _=>⟨⟨_,rfl⟩,⟨ks,rfl,by omega⟩,rfl⟩⟩
 ·rintro zs ρ2 S2 ⟨_,⟨ks,rfl,hkl⟩,rfl⟩;rw[(IB)]at hkl;have il:(af ks).length=ks.length:=Im ..;refine⟨kF (by omega),hK _ _ ?_⟩
  clear hK K;refine aZ fun K hK=>?_
  dsimp only[wS,wT,wE,wA,wV,wG,List.set];refine ae (F3 (aq ag) ag) ?_;dsimp only[wB];have f4:=(f3.ka (Ka.push (o:=O.lst (af ks)))).ka (Ka.push (o:=O.lst []));have k4:=k3.trans ((Kp.push (o:=O.lst (af ks))).trans (Kp.push (o:=O.lst [])));have e4:=aq (u:=O.lst []) (ag (S:=S2) (o:=O.lst (af ks)));have hl4:S2.length < (S2++[O.lst (af ks)]++[O.lst []]).length:=by simp
  generalize hS4:S2++[O.lst (af ks)]++[O.lst []]=S4 at f4 k4 e4 hl4;clear hS4;have ret:∀ Q2:QO,(∀ w S',Q' (.rt w,S')->Q2 (.rt w,S'))->wZ (ap defs fuel (d+5)) fuel (.cons (.ret (.v 3)) .nil) [some (.ref r),some (.int a),some (.int n),some (dJ ms ns bs []),none,some (.ref S2.length),none,none,none] S4 Q2:=fun Q2 hr=>st (hr _ _ (k _ _ ⟨a,bs,ms,ns,[],rfl,hsz,hml,hnl,hnm,.nil,fun _ h=>(nomatch h)⟩ f4 k4))
  refine⟨fun _=>aD (Q0:=Q') (fun _ Q2 _ hr=>ret Q2 hr) (fun z=>by cases z),fun hne=>?_⟩
  dsimp only[ic,aQ,wB];refine aD (Q0:=Q') (fun _ Q2 _ hr=>ret Q2 hr) (fun _ Q2 hn _=>cH (hn _ _ (hK _ _ ?_)))
  clear hK ret hn;have hk0:0 < ks.length:=by
   cases ks with
   | nil=>cases hne
   | cons x ks=>exact Nat.succ_pos _
  refine aZ fun K hK=>?_
  dsimp only[wS,wE,wA,wV,wG,List.set];refine en e4 ?_;rw[il];refine bc (d:=d+4) G.pick f4 (by omega) (by omega) fun v S5 v0 v1 f5 k5=>?_
  have e5:=k5.get _ _ (by omega) e4
  obtain⟨x,_,ex⟩:=lv (f:=W.int) (xs:=ks) (i:=v.toNat) (by omega)
  refine fM e5 v0 ex (hK _ _ ?_);clear hK K;replace k5:Kp r S S5:=k4.trans k5;have hrt5:=f5.lt;refine st ?_;dsimp only[wS,wE,List.set];refine aZ fun K hK=>?_
  refine iU rfl rfl ?_;dsimp only[wE,wA,wV,wG];refine bc (d:=d+4) G.pick (f5.ka .push) (by decide) (by decide) fun v S6 v0 v9 f6 k6=>?_
  refine⟨v,fun _ ρ S'=>(∃ a4 a8,ρ=[some (.ref r),some (.int a),some (.int n),some (dJ ms ns bs []),a4,some (.ref S2.length),some (.int x),some (.ref S5.length),a8])/\(∃ kvs fs,S'[S5.length]?=some (.dic kvs)/\FigD (bn a bs) kvs fs)/\Fl S' r/\Kp r S S',rfl,by omega,⟨⟨none,none,rfl⟩,⟨[],[],k6.get _ _ (by omega) ag,.nil⟩,f6,(k5.trans .push).trans k6⟩,?_,?_⟩
  ·rintro i ρ S7 hi ⟨⟨a4,a8,rfl⟩,⟨kvs,fs,e7,hd⟩,f7,k7⟩ Q2 hn _;clear hK k;refine st ?_;dsimp only[wS,wE,wA,wV,wG,List.set];refine iT (d:=d+3) G f7 (by omega) a3 (by omega) n3 fun u S8 hu3 hu f8 k8=>?_
   have hu:GoodW a bs.length u:=hbl.symm ▸ hu;have e8:=k8.get _ _ (by omega) e7
   obtain⟨p0,p1,p2,rfl⟩ : ∃ p0 p1 p2,u=[p0,p1,p2]:=by
    match u,hu3 with
    | [p0,p1,p2],_=>exact⟨p0,p1,p2,rfl⟩
   have l1:=hu.len 1 p1 rfl;obtain⟨m1,ws1⟩:=p1;obtain⟨w1,rfl⟩ : ∃ w1,ws1=[w1]:=by
    match ws1,l1 with
    | [w1],_=>exact⟨w1,rfl⟩
   obtain⟨b,hb2⟩:=By (S:=S8) (f:=x) (ws:=p2.2);have kk:=k7.trans k8;refine aZ fun K hK=>?_
   dsimp only[wS,wT,wE,wA,wV,wG];refine aw (by decide) rfl (aw (by decide) rfl (aw (by decide) rfl ?_))
   dsimp only[Hn,aQ,wB];have skip:K [some (.ref r),some (.int a),some (.int n),some (dJ ms ns bs []),some (.int i),some (.ref S2.length),some (.int x),some (.ref S5.length),some (aY [p0,(m1,[w1]),p2])] S8:=hK _ _ (cH (hn _ _ ⟨⟨_,_,rfl⟩,⟨kvs,fs,e8,hd⟩,f8,kk⟩));refine⟨fun _=>?_,fun _=>aD (Q0:=Q2) (fun z=>by cases z) fun _ Q3 hn3 _=>cH (hn3 _ _ skip)⟩
   refine aw (by decide) rfl (aw (by decide) rfl (ae hb2 ?_))
   dsimp only[wB];refine aD (Q0:=Q2) (fun _ Q3 hn3 _=>?_) fun _ Q3 hn3 _=>cH (hn3 _ _ skip)
   clear skip;refine st ?_;dsimp only[wS,wE,wA,wV,wG];refine iS (d:=d+2) G hb hnl hu hu3 fun S9 k9=>?_
   exact yJ (k9.get _ _ e8) hd hsz hu hu3 fun o ho=>cH (hn3 _ _ (hK _ _ (cH (hn _ _ ⟨⟨_,_,rfl⟩,ho,(f8.ka k9).own hrt5,(kk.trans (k9.kp r)).late k5.len⟩))))
  ·rintro ρ S7 ⟨⟨a4,a8,rfl⟩,⟨kvs,fs,e7,hd⟩,f7,k7⟩;refine hK _ _ (st ?_);dsimp only[wS,wE,wA,wV,wG];exact yI (Q:=fun p=>Q' (.rt p.1,p.2)) e7 hd hsz hml hnl hnm fun w S8 hw k8=>k w S8 hw (f7.ka k8) (k7.trans (k8.kp r))
end
noncomputable def bW (u v:Int):T:=.tup [.int u,.int v]
noncomputable def dE (u v:Int):W:=.tup [.int u,.int v]
theorem iV {u v:Int}:gE (dE u v)=some (bW u v):=rfl
theorem yO {kvs:List (T×W)}{k:T}{v:W}{p:T×W}(h:p∈eN kvs k v):p∈kvs\/p=(k,v):=by
 unfold eN at h;split at h
 ·obtain⟨q,hq,rfl⟩:=IF.mp h;split
  ·rename_i e; exact .inr (by rw[e])
  ·exact .inl hq
 ·rcases IL.mp h with h|h
  ·exact .inl h
  ·exact .inr (IN.mp h)
theorem rc {kvs:List (T×W)}{k:T}{v:W}(h:cL kvs k=some v):(k,v)∈kvs:=by
 unfold cL at h;rw[(Io)]at h;obtain⟨p,h1,rfl⟩:=h;have:=List.find?_some h1;rw[<- of_decide_eq_true this];exact List.mem_of_find?_eq_some h1
theorem Bz {kvs:List (T×W)}{p:T×W}(h:p∈kvs):∃ v,cL kvs p.1=some v:=by
 unfold cL;cases e:kvs.find? fun q=>decide (q.1=p.1)with
 | some q=>exact⟨q.2,rfl⟩
 | none=>exact absurd (List.find?_eq_none.mp e p h) (by simp)
noncomputable def MustE (S:aa)(n b:Nat)(kvs:List (T×W)):Prop:=∀ p∈kvs,∃ (u v:Int) (l:Nat) (ws:List Int),p=(bW u v,W.ref l)/\(0<=u/\u < n)/\(0<=v/\v < n)/\b<=l/\S[l]?=some (.lst (af ws))/\ws.length<=3/\∀ w∈ws,0<=w/\w < (n:Int)
theorem MustE.mono {S S':aa}{n b:Nat}{kvs:List (T×W)}(h:MustE S n b kvs)(k:∀ (l:Nat) (ws:List Int),b<=l->S[l]?=some (.lst (af ws))->S'[l]?=some (.lst (af ws))):MustE S' n b kvs:=fun p hp=>
 let ⟨u,v,l,ws,h1,h2,h3,h4,h5,h6⟩:=h p hp
 ⟨u,v,l,ws,h1,h2,h3,h4,k l ws h4 h5,h6⟩
theorem MustE.ka {S S':aa}{n b:Nat}{kvs:List (T×W)}(h:MustE S n b kvs)(k:Ka S S'):MustE S' n b kvs:=h.mono fun l ws _ e=>k.get _ _ e
theorem MustE.kp {S S':aa}{n b r:Nat}{kvs:List (T×W)}(h:MustE S n b kvs)(hr:r < b)(k:Kp r S S'):MustE S' n b kvs:=h.mono fun l ws hl e=>k.get _ _ (by omega) e
theorem MustE.set {S:aa}{n b t:Nat}{kvs k:List (T×W)}{o:O}(h:MustE S n b kvs)(ht:S[t]?=some (.dic k)):MustE (S.set t o) n b kvs:=h.mono fun l ws hl e=>by
 rw[b8 (by rintro rfl; rw[ht]at e; cases e)]; exact e
theorem MustE.put {S:aa}{n b:Nat}{kvs:List (T×W)}{u v:Int}{l:Nat}{ws:List Int}(h:MustE S n b kvs)(h2:0<=u/\u < n)(h3:0<=v/\v < n)(h4:b<=l)(h5:S[l]?=some (.lst (af ws)))(h6:ws.length<=3)(h7:∀ w∈ws,0<=w/\w < (n:Int)):MustE S n b (eN kvs (bW u v) (.ref l)):=fun p hp=>by
 rcases yO hp with hp|rfl
 ·exact h p hp
 ·exact⟨u,v,l,ws,rfl,h2,h3,h4,h5,h6,h7⟩
noncomputable abbrev BA:=Int×Int×List Int
noncomputable def re (ws:List Int):Es:=ws.foldr (fun w es=>.cons (.c (.int w)) es) .nil
noncomputable def uu:List BA->Es
 | []=>.nil
 | e::L=>.cons (.tup (.cons (.c (.int e.1)) (.cons (.c (.int e.2.1)) .nil))) (.cons (.lst (re e.2.2)) (uu L))
noncomputable def vJ:List BA->Nat->List W
 | [],_=>[]
 | e::L,s=>dE e.1 e.2.1::.ref s::vJ L (s+1)
noncomputable def vK (L:List BA):aa:=L.map fun e=>O.lst (af e.2.2)
noncomputable def uw (n:Nat)(e:BA):Bool:=decide ((0<=e.1/\e.1 < n)/\(0<=e.2.1/\e.2.1 < n)/\e.2.2.length<=3)&&e.2.2.all fun w=>decide (0<=w/\w < (n:Int))
section
variable {Φ:Str->FF} {ρ:Fm}
theorem sI {S:aa}:∀ {ws:List Int} {Q:List W×aa->Prop},Q (af ws,S)->wA Φ (re ws) ρ S Q
 | [],Q,q=>by show wA Φ .nil ρ S Q; rw[wA]; exact q
 | w::ws,Q,q=>by show wA Φ (.cons (.c (.int w)) (re ws)) ρ S Q; rw[wA,wE]; exact sI q
theorem yP:∀ {L:List BA} {S:aa} {Q:List W×aa->Prop},Q (vJ L S.length,S++vK L)->wA Φ (uu L) ρ S Q
 | [],S,Q,q=>by
  show wA Φ .nil ρ S Q;rw[wA]
  rwa [show S++vK []=S from Jy S]at q
 | e::L,S,Q,q=>by
  show wA Φ (.cons (.tup (.cons (.c (.int e.1)) (.cons (.c (.int e.2.1)) .nil))) (.cons (.lst (re e.2.2)) (uu L))) ρ S Q;dsimp only[wA,wE];refine sI (yP ?_);rw[(Iv),(JK)];exact q
end
theorem nF {S:aa}{n b:Nat}:∀ (L:List BA) (s:Nat) (kvs:List (T×W)),MustE S n b kvs->b<=s->(∀ e∈L,uw n e=true)->(∀ i e,L[i]?=some e->S[s+i]?=some (.lst (af e.2.2)))->∃ kvs',dG kvs (vJ L s)=some kvs'/\MustE S n b kvs'/\kvs'.length<=kvs.length+L.length
 | [],s,kvs,hm,hb,hL,hS=>⟨kvs,by simp[vJ,dG],hm,by simp⟩
 | e::L,s,kvs,hm,hb,hL,hS=>by
  have h1:=hL e (by simp)
  unfold uw at h1;rw[(Iq),(IJ)]at h1;obtain⟨h2,h3,h4⟩:=IK h1.1;obtain⟨kvs',k1,k2,k3⟩:=nF L (s+1) (eN kvs (bW e.1 e.2.1) (.ref s)) (hm.put h2 h3 hb (by have:=hS 0 e rfl; simpa using this) h4 (fun w hw=>IK (h1.2 w hw))) (by omega) (fun x hx=>hL x (by simp[hx])) (fun i x hx=>by have:=hS (i+1) x (by simpa using hx); rw[show s+1+i=s+(i+1) by omega]; exact this)
  refine⟨kvs',?_,k2,?_⟩
  ·simp only[vJ,dG,iV]; exact k1
  ·have:=dA kvs (bW e.1 e.2.1) (.ref s);rw[(JN)]; omega
noncomputable def KB:List (List Int):=[[1,0],[0,2,1],[0,1],[0,1,2]]
noncomputable def KindOk (S:aa)(b:Nat)(w:W):Prop:=∃ (bs:List Int) (q:Nat) (kvs:List (T×W)) (most:Int),w=.tup [.tup (af bs),.ref q,.int most]/\bs∈KB/\1<=most/\most<=3/\most*bs.length<=6/\S[q]?=some (.dic kvs)/\b<=q/\kvs.length<=4/\MustE S bs.length b kvs
theorem KindOk.mono {S S':aa}{b:Nat}{w:W}(h:KindOk S b w)(k1:∀ (l:Nat) (ws:List Int),b<=l->S[l]?=some (.lst (af ws))->S'[l]?=some (.lst (af ws)))(k2:∀ (l:Nat) (kvs:List (T×W)),b<=l->S[l]?=some (.dic kvs)->S'[l]?=some (.dic kvs)):KindOk S' b w:=
 let ⟨bs,q,kvs,most,h1,h2,h3,h4,h5,h6,h7,h8,h9⟩:=h
 ⟨bs,q,kvs,most,h1,h2,h3,h4,h5,k2 _ _ h7 h6,h7,h8,h9.mono k1⟩
theorem KindOk.ka {S S':aa}{b:Nat}{w:W}(h:KindOk S b w)(k:Ka S S'):KindOk S' b w:=h.mono (fun l ws _ e=>k.get _ _ e) (fun l ws _ e=>k.get _ _ e)
noncomputable def yQ (bs:List Int)(L:List BA)(most:Int):E:=.tup (.cons (.tup (re bs)) (.cons (.disp (uu L)) (.cons (.c (.int most)) .nil)))
section
variable {Φ:Str->FF} {ρ:Fm} {S:aa}
theorem o8 (bs:List Int)(L:List BA)(most:Int){b:Nat}{Q:QW}(hb:b<=S.length)(h1:bs∈KB)(h2:1<=most/\most<=3/\most*bs.length<=6)(hL:∀ e∈L,uw bs.length e=true)(h4:L.length<=4)(k:∀ w S',KindOk S' b w->Ka S S'->Q (w,S')) :
  wE Φ (yQ bs L most) ρ S Q:=by
 unfold yQ;dsimp only[wE,wA];refine sI (yP ?_);obtain⟨kvs,k1,k2,k3⟩:=nF (S:=S++[O.dic []]++vK L) (n:=bs.length) (b:=b) L (S.length+1) [] (fun _ h=>nomatch h) (by omega) hL (fun i e he=>by
  rw[List.getElem?_append_right (by simp),show S.length+1+i - (S++[O.dic []]).length=i by simp]
  simp[vK,he])
 have hat:(S++[O.dic []]++vK L)[S.length]?=some (.dic []):=by
  rw[List.getElem?_append_left (by simp)]; exact ag
 refine⟨hat,ae (show dG [] (vJ L (S++[O.dic []]).length)=some kvs by rw[(Iv)]; exact k1) (k _ _ ⟨bs,S.length,kvs,most,rfl,h1,h2.1,h2.2.1,h2.2.2,bX hat,hb,?_,k2.set hat⟩ ⟨fun j o h=>?_,by simp⟩)⟩
 ·simp only[List.length_nil]at k3; omega
 ·have:j < S.length:=dg h;show((S++[O.dic []]++vK L).set S.length (O.dic kvs))[j]?=some o;rw[b8 (by omega),List.getElem?_append_left (by simp; omega)]
  exact aq h
structure Menu (S0 S:aa)(r t m:Nat):Prop where
 at_t:∃ xs:List W,S[t]?=some (.lst xs)/\xs.length=m/\∀ x∈xs,KindOk S S0.length x
 pos:0 < m
 kF:m<=9
 fl:Fl S r
 kp:Kp r S0 S
 lt:S0.length<=t
 rlt:r < S0.length
theorem rf {S0 S S':aa}{r t m:Nat}{w:W}(h:Menu S0 S r t m)(hw:KindOk S' S0.length w)(k:Ka S S')(hm:m < 9):∃ xs,S'[t]?=some (.lst xs)/\xs.length < sizeLine/\Menu S0 (S'.set t (.lst (xs++[w]))) r t (m+1):=by
 obtain⟨⟨xs,h1,h2,h3⟩,hp,hf,fl,kp,lt,rlt⟩:=h;have e:S'[t]?=some (.lst xs):=k.get _ _ h1;have stay:∀ x,KindOk S' S0.length x->KindOk (S'.set t (.lst (xs++[w]))) S0.length x:=fun x hx=>hx.mono (fun l ws hl el=>by
  by_cases hlt:t=l
  ·exfalso;subst hlt;rw[e]at el;injection el with el
   injection el with el
   match xs,h2,h3 with
   | [],h2,_=>simp at h2; omega
   | x::xs,_,h3=>
    obtain⟨bs,q,kvs,most,hx,_⟩:=h3 x (by simp)
    subst hx
    match ws with
    | []=>simp[af]at el
    | w::ws=>simp[af]at el
  ·rw[b8 hlt]; exact el) (fun l kvs hl el=>by
  rw[b8 (by rintro rfl; rw[e]at el; cases el)]; exact el)
 refine⟨xs,e,(by rw[(Ja)]; omega),⟨xs++[w],bX e,by simp; omega,fun x hx=>?_⟩,by omega,by omega,(fl.ka k).own (by omega),(kp.trans (k.kp r)).late lt,lt,rlt⟩
 rcases IL.mp hx with hx|hx
 ·exact stay x ((h3 x hx).ka k)
 ·rw[List.mem_singleton.mp hx]; exact stay w hw
theorem rg (bs:List Int)(L:List BA)(most:Int){fuel:Nat}{S0:aa}{r t m:Nat}{x0:Option W}{K:Fm->aa->Prop}{Q:QO}(h:Menu S0 S r t m)(hm:m < 9)(h1:bs∈KB)(h2:1<=most/\most<=3/\most*bs.length<=6)(hL:∀ e∈L,uw bs.length e=true)(h4:L.length<=4)(k:∀ S',Menu S0 S' r t (m+1)->K [x0,some (.ref t)] S') :
  wS Φ fuel (.ex (.me .append (.v 1) (.cons (yQ bs L most) .nil))) [x0,some (.ref t)] S K Q:=by
 dsimp only[wS,wE,wA,wV,wG];obtain⟨xs,e1,e2,e3⟩:=h.at_t;refine⟨dj e1,o8 bs L most (IC h.lt (Kf (dg e1))) h1 h2 hL h4 fun w S' k1 k2=>?_⟩
 obtain⟨xs',f1,f2,f3⟩:=rf h k1 k2 hm;exact ae (ue f1 f2) (k _ f3)
theorem l5 {defs:List (Str×Df)}{fuel d:Nat}{r:Nat}{Q:QW}(G:Gen defs)(hf:Fl S r)(k:∀ w S',KindOk S' S.length w->Fl S' r->Kp r S S'->Q (w,S')):wO (bR (ap defs fuel (d+2)) "_law_laying_kind" 1 [.ref r] S) Q:=by
 refine aJ G.laying_kind rfl rfl fun Q' hR=>?_
 replace k:∀ w S',KindOk S' S.length w->Fl S' r->Kp r S S'->Q' (.rt w,S'):=fun z S' a b c=>hR _ _ (k z S' a b c)
 clear hR;show wZ _ _ cf [some (.ref r),none] S Q';have hrt:=hf.lt;unfold cf;refine aZ fun K hK=>?_
 refine FZ ?_;rw[wE,wA];refine o8 [1,0] [(0,0,[0])] 3 (b:=S.length) (Ip _) (by decide) (by decide) (by decide) (by decide) fun w1 S1 k1 a1=>?_
 rw[wA];refine o8 [0,2,1] [(1,1,[1])] 2 (b:=S.length) a1.len (by decide) (by decide) (by decide) (by decide) fun w2 S2 k2 a2=>?_
 have a12:=a1.trans a2;rw[wA];refine o8 [0,1] [(1,1,[1])] 3 (b:=S.length) a12.len (by decide) (by decide) (by decide) (by decide) fun w3 S3 k3 a3=>?_
 have a13:=a12.trans a3;rw[wA];refine hK _ _ ?_;clear hK K;have m3:Menu S (S3++[O.lst [w1,w2,w3]]) r S3.length 3:=by
  refine⟨⟨[w1,w2,w3],ag,rfl,fun x hx=>?_⟩,by decide,by decide,(hf.ka a13).ka .push,(a13.trans .push).kp r,a13.len,hrt⟩
  rcases IR.mp hx with rfl|hx
  ·exact(k1.ka (a2.trans a3)).ka .push
  ·rcases IR.mp hx with rfl|hx
   ·exact(k2.ka a3).ka .push
   ·rw[List.mem_singleton.mp hx];exact k3.ka .push
 dsimp only[List.set];clear k1 k2 k3 a1 a2 a3 a12 a13;generalize S3.length=t at m3;generalize S3++[O.lst [w1,w2,w3]]=S3' at m3;refine aZ fun K hK=>rg [0,1] [(1,1,[1]),(0,0,[1])] 3 m3 (by decide) (by decide) (by decide) (by decide) (by decide) fun S4 m4=>hK _ _ ?_
 refine aZ fun K hK=>rg [0,1] [(1,1,[])] 1 m4 (by decide) (by decide) (by decide) (by decide) (by decide) fun S5 m5=>hK _ _ ?_
 refine aZ fun K hK=>rg [0,2,1] [(0,0,[0]),(0,1,[1]),(1,0,[1]),(1,1,[1])] 2 m5 (by decide) (by decide) (by decide) (by decide) (by decide) fun S6 m6=>hK _ _ ?_
 refine aZ fun K hK=>?_
 dsimp only[wS,wE,wA,wV,wG];obtain⟨xs,e1,e2,e3⟩:=m6.at_t;obtain⟨xs',f1,f2,m7⟩:=rf (S':=S6++[O.dic []]) (w:=.tup [.tup (af [1,0]),.ref S6.length,.int 3]) m6 ⟨[1,0],S6.length,[],3,rfl,by decide,by decide,by decide,by decide,ag,m6.kp.len,by decide,fun _ h=>(nomatch h)⟩ .push (by decide)
 refine⟨dj e1,ae (ue f1 f2) (hK _ _ ?_)⟩;refine aZ fun K hK=>rg [0,1,2] [(2,2,[2]),(1,2,[1]),(2,1,[1]),(1,1,[1,2])] 2 m7 (by decide) (by decide) (by decide) (by decide) (by decide) fun S8 m8=>hK _ _ ?_
 refine aZ fun K hK=>rg [0,1,2] [(0,0,[0,1])] 2 m8 (by decide) (by decide) (by decide) (by decide) (by decide) fun S9 m9=>hK _ _ ?_
 refine st ?_;dsimp only[wS,wE,wA,wV,wG];refine bc (d:=d) G.pick m9.fl (by decide) (by decide) fun v S10 v0 v9 f10 k10=>?_
 obtain⟨xs,g1,g2,g3⟩:=m9.at_t;have hlt:=m9.lt;have hv:v.toNat < xs.length:=by omega
 exact fM (k10.get _ _ (by omega) g1) v0 (Iw hv) (k _ _ ((g3 _ (IQ hv)).mono (fun l ws hl e=>k10.get _ _ (by omega) e) (fun l ws hl e=>k10.get _ _ (by omega) e)) f10 (m9.kp.trans k10))
end
noncomputable def rh (bs:List Int):List (List Int):=if bs=[0,1,2]then[[0,1,2],[0,2,1],[1,0,2],[1,2,0],[2,0,1],[2,1,0]]else if bs.length=2 then[[0,1],[1,0]]else[[0,1,2],[0,2,1],[2,0,1],[2,1,0]]
noncomputable def gU (bs nm:List Int):Nat->List Int
 | 0=>List.replicate bs.length 0
 | k+1=>(gU bs nm k).set (nm.getD k 0).toNat (nm.getD (bs.getD k 0).toNat 0)
theorem jw (bs nm:List Int):∀ k,(gU bs nm k).length=bs.length
 | 0=>by simp[gU]
 | k+1=>by simp[gU,jw bs nm k]
theorem BB:∀ bs∈KB,∀ nm∈rh bs,nm.length=bs.length/\(∀ x∈nm,0<=x/\x < (bs.length:Int))/\(∀ x∈bs,0<=x/\x < (bs.length:Int))/\GoodB (gU bs nm bs.length):=by
 unfold GoodB;decide +kernel
theorem yR:∀ bs∈KB,(bs.length=2\/bs.length=3)/\0 < (rh bs).length/\(rh bs).length < 10:=by decide
section
variable {Φ:Str->FF} {fuel:Nat} {ρ:Fm} {S:aa} {K:Fm->aa->Prop} {Q:QO}
theorem BC {tg:Tg}{e:E}{b:Ss}(r:Nat)(kvs:List (T×W))(I:Nat->Fm->aa->Prop)(oe:fj e=true)(ok:gH b=true)(he:wE Φ e ρ S fun p=>p.1=.ref r/\p.2[r]?=some (.dic kvs)/\I 0 ρ (p.2.set r (.frd kvs)))
  (hstep:∀ (i:Nat) (p:T×W) (ρ:Fm) (S:aa),kvs[i]?=some p->I i ρ S->wO (hX tg p.1.w ρ S) fun q=>vW Φ fuel b q.1 q.2 (I (i+1)) Q) (hend:∀ ρ S,I kvs.length ρ S->K ρ S):Wp (fX Φ fuel (.loop tg (.seq e) b) ρ S) (rK K Q):=by
 obtain⟨w,S1,e1,rfl,e2,h0⟩:=cX oe he;refine ie (mi:=.its (kvs.map fun p=>p.1.w)) (S1:=S1.set r (.frd kvs)) (xs:=kvs.map fun p=>p.1.w) I ok (by simp only[nt,fL,e1,oN e2,dk e2]) (fun _ _ _ _=>rfl) rfl h0 (fun i w ρ S hw hI=>?_) fun ρ S hI=>hend ρ S (by rwa [Im]at hI)
 rw[(Iu),(Io)]at hw;obtain⟨p,hp,rfl⟩:=hw;exact hstep i p ρ S hp hI
end
section
variable {defs:List (Str×Df)} {fuel d:Nat} {S:aa} {r:Nat} {Q:QW}
theorem F4 {i n:Nat}{x:W}(h:S[i]?=some (.lst [x]))(hn:n<=1000)(q:Q (.ref S.length,S++[.lst (List.replicate n x)])):wO (fS .mul (.ref i) (.int (n:Int)) S) Q:=by
 refine ae ?_ q;have:n<=sizeLine:=kF hn;simp only[fS,wK,cG h];rw[if_pos ⟨by omega,by omega,by simpa using this⟩]
 unfold lY;simp[this]
theorem nG {q:Nat}{kvs:List (T×W)}{u v:Int}{w:W}(h:jP S q=some kvs)(hg:cL kvs (bW u v)=some w):pI (.ref q) (.tup [.int u,.int v]) S=some (w,S):=by
 have hk:gE (.tup [.int u,.int v])=some (bW u v):=iV;simp only[pI,h,hk,hg,Option.map_some]
theorem yS {q:Nat}{kvs:List (T×W)}{u v:Int}{w:W}(h:S[q]?=some (.dic kvs))(hl:kvs.length < sizeLine):iJ (.ref q) (.tup [.int u,.int v]) w S=some (S.set q (.dic (eN kvs (bW u v) w))):=by
 have hk:gE (.tup [.int u,.int v])=some (bW u v):=iV;simp only[iJ,on,h,hk];rw[if_pos hl]
theorem jx {xs:List Int}{x:Int}(h0:0<=x)(h1:x.toNat < xs.length):(af xs)[x.toNat]?=some (.int (xs.getD x.toNat 0)):=by
 unfold af;rw[(Iu),aS (d:=0) h1]; rfl
theorem gc {xs:List Int}{i:Nat}(h:i < xs.length):xs.getD i 0∈xs:=IA (aS (d:=0) h)
theorem l7 (G:Gen defs){Q:QO}{bs:List Int}{x0 x2:Option W}(hb:bs∈KB)
  (hk:∀ (m s:Nat) (S':aa),Ka S S'->S'[s]?=some (.lst ((rh bs).map fun nm=>W.tup (af nm)))->S.length<=s->wZ (ap defs fuel (d+1)) fuel (dr 5 bM) [x0,some (.tup (af bs)),x2,some (.int bs.length),some (.ref m),some (.ref s),none,none,none,none,none,none] S' Q) :
  wZ (ap defs fuel (d+1)) fuel bM [x0,some (.tup (af bs)),x2,none,none,none,none,none,none,none,none,none] S Q:=by
 generalize hd5:dr 5 bM=bT at hk;unfold bM at hd5 ⊢;dsimp only[dr]at hd5;rw[hd5];clear hd5;refine aZ fun K hK=>?_
 dsimp only[wS,wE,wA,wV,wG,List.set];refine bZ ?_;rw[show(af bs).length=bs.length from List.length_map ..]
 refine hK _ _ ?_;clear hK K;refine aZ fun K hK=>?_
 dsimp only[wS,wE,wA,wV,wG,List.set];have hm:(((S++[O.lst [.tup [.int 0]]])++[O.lst [.tup [.int 0,.int 1],.tup [.int 1,.int 0]]])++[O.lst [.ref S.length,.ref (S++[O.lst [.tup [.int 0]]]).length]])[((S++[O.lst [.tup [.int 0]]])++[O.lst [.tup [.int 0,.int 1],.tup [.int 1,.int 0]]]).length]?=some (.lst [.ref S.length,.ref (S++[O.lst [.tup [.int 0]]]).length]):=ag;refine hK _ _ ?_;clear hK K;generalize hS1:S++[O.lst [.tup [.int 0]]]=S1 at hm ⊢;generalize hS2:S1++[O.lst [.tup [.int 0,.int 1],.tup [.int 1,.int 0]]]=S2 at hm ⊢;generalize hS3:S2++[O.lst [.ref S.length,.ref S1.length]]=S3 at hm ⊢;have l1:S1.length=S.length+1:=by rw[<- hS1]; simp
 have l2:S2.length=S1.length+1:=by rw[<- hS2]; simp
 have l3:S3.length=S2.length+1:=by rw[<- hS3]; simp
 have kS2:Ka S S2:=by rw[<- hS2,<- hS1]; exact Ka.push.trans .push
 refine aZ fun K hK=>?_
 dsimp only[wS,wE,wA,wV,wG,List.set];refine⟨dj hm,nz (aq hm) (by decide:2 < 1000) (hK _ _ ?_)⟩
 clear hK K;generalize hS5:(S3++[O.lst [.tup [.int 0,.int 1,.int 2],.tup [.int 0,.int 2,.int 1],.tup [.int 2,.int 0,.int 1],.tup [.int 2,.int 1,.int 0]]]).set S2.length (.lst ([.ref S.length,.ref S1.length]++[.ref S3.length]))=S5;have k5:Ka S S5:=by
  rw[<- hS5,<- hS3];exact Ka.late (kS2.trans (Ka.push.trans .push)) (by omega)
 have m5:S5[S2.length]?=some (.lst [.ref S.length,.ref S1.length,.ref S3.length]):=by
  rw[<- hS5]; exact bX (aq hm)
 have p5:S5[S1.length]?=some (.lst [.tup [.int 0,.int 1],.tup [.int 1,.int 0]]):=by
  rw[<- hS5,b8 (by omega),<- hS3,<- hS2]
  exact aq (aq ag)
 have t5:S5[S3.length]?=some (.lst [.tup [.int 0,.int 1,.int 2],.tup [.int 0,.int 2,.int 1],.tup [.int 2,.int 0,.int 1],.tup [.int 2,.int 1,.int 0]]):=by
  rw[<- hS5,b8 (by omega)]
  exact ag
 have h1:S.length<=S1.length:=by omega
 have h3:S.length<=S3.length:=by omega
 clear hS1 hS2 hS3 hS5 hm l1 l2 l3 kS2;refine aZ fun K hK=>?_
 dsimp only[wS,wE,wA,wV,wG,List.set,B8,aQ];have hb':bs=[1,0]\/bs=[0,2,1]\/bs=[0,1]\/bs=[0,1,2]:=by simpa [KB]using hb
 rcases hb' with rfl|rfl|rfl|rfl
 ·refine eB (i:=1) m5 rfl (hK _ _ (aZ fun K hK=>cj (fun Q q=>q) (hK _ _ (hk _ _ _ k5 p5 h1))))
 ·refine eB (i:=2) m5 rfl (hK _ _ (aZ fun K hK=>cj (fun Q q=>q) (hK _ _ (hk _ _ _ k5 t5 h3))))
 ·refine eB (i:=1) m5 rfl (hK _ _ (aZ fun K hK=>cj (fun Q q=>q) (hK _ _ (hk _ _ _ k5 p5 h1))))
 ·refine eB (i:=2) m5 rfl (hK _ _ (aZ fun K hK=>qR (fun Q q=>q) fun Q2 hn _=>?_))
  refine st ?_;dsimp only[wS,wE,wA,wV,wG,List.set];exact oW (d:=d) G (cH (hn _ _ (hK _ _ (hk _ _ _ (k5.trans .push) ag k5.len))))
theorem sJ (G:Gen defs){S0:aa}{bs:List Int}{q:Nat}{kvs:List (T×W)}(hb:bs∈KB)(hf:Fl S r)(hr:r < S0.length)(kp:Kp r S0 S)(hq:S[q]?=some (.dic kvs))(hq0:S0.length<=q)(h4:kvs.length<=4)(hm:MustE S bs.length S0.length kvs)
  (k:∀ (bs':List Int) (q':Nat) (kvs':List (T×W)) S',GoodB bs'->bs'.length=bs.length->S'[q']?=some (.dic kvs')->S0.length<=q'->MustE S' bs.length S0.length kvs'->Fl S' r->Kp r S0 S'->Q (.tup [.tup (af bs'),.ref q'],S')) :
  wO (bR (ap defs fuel (d+2)) "_law_numbered" 3 [.ref r,.tup (af bs),.ref q] S) Q:=by
 refine aJ G.numbered rfl rfl fun Q' hR=>?_
 replace k:∀ (bs':List Int) (q':Nat) (kvs':List (T×W)) S',GoodB bs'->bs'.length=bs.length->S'[q']?=some (.dic kvs')->S0.length<=q'->MustE S' bs.length S0.length kvs'->Fl S' r->Kp r S0 S'->Q' (.rt (.tup [.tup (af bs'),.ref q']),S'):=fun a b c e f g h i j l m=>hR _ _ (k a b c e f g h i j l m)
 clear hR;refine l7 (d:=d) G hb ?_;intro m s S1 k1 e1 hs;dsimp only[dr,bM];have hrt:=hf.lt;obtain⟨hb1,hb2,hb3⟩:=yR bs hb;refine aZ fun K hK=>?_
 dsimp only[wS,wE,wA,wV,wG,List.set];refine en e1 ?_;rw[(Im)];refine bc (d:=d) G.pick (hf.ka k1) (by omega) (by omega) fun v S2 v0 v1 f2 k2=>?_
 obtain⟨nm,hnmm,enm⟩:=lv (f:=fun nm=>W.tup (af nm)) (xs:=rh bs) (i:=v.toNat) (by omega)
 obtain⟨n1,n2,n3,n4⟩:=BB bs hb nm hnmm;refine fM (k2.get _ _ (by omega) e1) v0 enm (hK _ _ ?_)
 clear hK K;refine aZ fun K hK=>?_
 dsimp only[wS,wE,wA,wV,wG,List.set];refine F4 ag (by omega) (hK _ _ ?_)
 clear hK K;generalize hS4:S2++[O.lst [.int 0]]=S4;have k24:Ka S2 S4:=hS4 ▸ .push;have f4:Fl S4 r:=f2.ka k24;have kp4:Kp r S0 S4:=(kp.trans (k1.kp r)).trans (k2.trans (k24.kp r));have q4:S4[q]?=some (.dic kvs):=k24.get _ _ (k2.get _ _ (by omega) (k1.get _ _ hq))
 have m4:MustE S4 bs.length S0.length kvs:=((hm.ka k1).kp hr k2).ka k24;clear hS4 k24 hm hq f2 k2 k1 e1 enm hf;refine aZ fun K hK=>?_
 refine dq (bs.length:Int) (fun k ρ S'=>(∃ x8,ρ=[some (.ref r),some (.tup (af bs)),some (.ref q),some (.int bs.length),some (.ref m),some (.ref s),some (.tup (af nm)),some (.ref S4.length),x8,none,none,none])/\S'[S4.length]?=some (.lst (af (gU bs nm k)))/\Ka S4 S') rfl rfl (by omega) ⟨rfl,⟨_,rfl⟩,?_,.push⟩ ?_ ?_
 ·rw[ag]; simp[gU,af]
 ·rintro i ρ S5 hi ⟨⟨x8,rfl⟩,e5,k5⟩ Q2 hn _;clear hK k;have hi':i < bs.length:=by omega
  have hi1:i < nm.length:=by omega
  have c:=n3 _ (gc hi');have c2:=n2 _ (gc hi1);refine st ?_;dsimp only[wS,wE,wA,wV,wG,List.set];refine aw (IG i) (jx (IG i) hi') (aw c.1 (jx c.1 (by rw[(IB)]; omega)) (aw (IG i) (jx (IG i) hi1) ?_))
  rw[(IB)];refine ae (Cb e5 c2.1 (by rw[show(af (gU bs nm i)).length=_ from List.length_map ..,jw]; omega)) (cH (hn _ _ ⟨⟨_,rfl⟩,?_,k5.late (Ip _)⟩))
  rw[bX e5];unfold af;rw[gU,List.map_set]
 ·rintro ρ S5 ⟨⟨x8,rfl⟩,e5,k5⟩;rw[(IB)]at e5;refine hK _ _ (st ?_);clear hK K;dsimp only[wS,wE,List.set];have f5:Fl S5 r:=f4.ka k5;have q5:S5[q]?=some (.dic kvs):=k5.get _ _ q4;have m5:MustE S5 bs.length S0.length kvs:=m4.ka k5;have kp5:Kp r S0 S5:=kp4.trans (k5.kp r);have hq5:=dg q5;have ht5:=dg e5;have hqt:q≠S4.length:=by rintro rfl; rw[e5]at q5; cases q5
  have hn9:(bs.length:Int)<=3:=by omega
  have hr5:=f5.lt;clear k5 m4 q4 f4;refine aZ fun K hK=>?_
  refine BC q kvs (fun k ρ S'=>(∃ x10 x11,ρ=[some (.ref r),some (.tup (af bs)),some (.ref q),some (.int bs.length),some (.ref m),some (.ref s),some (.tup (af nm)),some (.ref S4.length),x8,some (.ref S5.length),x10,x11])/\S'[q]?=some (.frd kvs)/\MustE S' bs.length S0.length kvs/\S'[S4.length]?=some (.lst (af (gU bs nm bs.length)))/\(∃ kvs',S'[S5.length]?=some (.dic kvs')/\kvs'.length<=k/\MustE S' bs.length S0.length kvs')/\Fl S' r/\Kp r S0 S') rfl rfl ⟨rfl,aq q5,⟨none,none,rfl⟩,bX (aq q5),(m5.ka .push).set (aq q5),?_,⟨[],?_,Ip _,fun _ h=>(nomatch h)⟩,(f5.ka .push).own (by omega),(kp5.trans .push).late hq0⟩ ?_ ?_
  ·rw[b8 hqt]; exact aq e5
  ·rw[b8 (by omega)]; exact ag
  ·rintro i p ρ S6 hp ⟨⟨x10,x11,rfl⟩,q6,m6,t6,⟨kvs',o6,l6,mm6⟩,f6,kp6⟩;clear hK k;have hpm:=IA hp;have hil:=(Ir.mp hp).1;obtain⟨u,v',l,ws,rfl,hu,hv',hl,hws,hl3,hw3⟩:=m6 p hpm;obtain⟨g,hg⟩:=Bz hpm;obtain⟨u2,v2,l2,ws2,he2,_,_,hl2,hws2,hl32,hw32⟩:=m6 _ (rc hg);injection he2 with _ he2
   subst he2;have hul:u.toNat < nm.length:=by omega
   have hvl:v'.toNat < nm.length:=by omega
   refine ae (show hX (.tp [10,11]) (bW u v',W.ref l).1.w [some (.ref r),some (.tup (af bs)),some (.ref q),some (.int bs.length),some (.ref m),some (.ref s),some (.tup (af nm)),some (.ref S4.length),x8,some (.ref S5.length),x10,x11] S6=some ([some (.ref r),some (.tup (af bs)),some (.ref q),some (.int bs.length),some (.ref m),some (.ref s),some (.tup (af nm)),some (.ref S4.length),x8,some (.ref S5.length),some (.int u),some (.int v')],S6)from rfl) fun Q2 hn _=>?_
   refine st ?_;dsimp only[wS,wE,wA,wV,wG,List.set];refine oQ l2 (af ws2) (fun i zs ρ2 S7=>(∃ a1,ρ2=[none,a1,some (.tup (af nm))])/\zs=af ((ws2.take i).map fun w=>nm.getD w.toNat 0)/\S7=S6) rfl rfl rfl ?_ ?_ ?_ ?_
   ·dsimp only[wE,wA,wV,wG];exact ae (nG (Bp q6) hg) ⟨rfl,⟨_,rfl⟩,rfl,rfl⟩
   ·rintro i zs ρ2 S7 ⟨_,_,rfl⟩;exact hws2
   ·rintro i w zs ρ2 S7 hw ⟨⟨a1,rfl⟩,rfl,rfl⟩;unfold af at hw;rw[(Iu),(Io)]at hw;obtain⟨x,hx,rfl⟩:=hw;obtain⟨x0,x1⟩:=hw32 x (IA hx);have hxl:x.toNat < nm.length:=by omega
    refine ae (show hX (.nm 1) (.int x) [none,a1,some (.tup (af nm))] S7=some ([none,some (.int x),some (.tup (af nm))],S7)from rfl) ?_
    dsimp only[kE,wC,wE,wA,wV,wG];refine⟨fun _=>aw x0 (jx x0 hxl) ⟨⟨_,rfl⟩,?_,rfl⟩,fun z=>by cases z⟩
    rw[(IT),hx];simp[af]
   ·rintro zs ρ2 S7 ⟨_,rfl,rfl⟩;rw[show(af ws2).length=ws2.length from List.length_map ..,(Jf)]
    refine⟨kF (by simp[af]; omega),aw hu.1 (jx hu.1 hul) (aw hv'.1 (jx hv'.1 hvl) ?_)⟩
    refine ae (yS (aq o6) (by rw[(Ja)]; omega)) (cH (hn _ _ ⟨⟨_,_,rfl⟩,?_,(m6.ka .push).set (aq o6),?_,⟨_,bX (aq o6),?_,?_⟩,(f6.ka .push).own (by omega),(kp6.trans .push).late kp5.len⟩))
    ·rw[b8 (by omega)]; exact aq q6
    ·rw[b8 (by omega)]; exact aq t6
    ·exact IC (dA ..) (Nat.succ_le_succ l6)
    ·refine((mm6.ka .push).put (n2 _ (gc hul)) (n2 _ (gc hvl)) kp6.len ag (by simp; omega) ?_).set (aq o6)
     intro w hw;obtain⟨x,hx,rfl⟩:=IF.mp hw;obtain⟨x0,x1⟩:=hw32 x hx;exact n2 _ (gc (by omega))
  ·rintro ρ S6 ⟨⟨x10,x11,rfl⟩,q6,m6,t6,⟨kvs',o6,l6,mm6⟩,f6,kp6⟩;refine hK _ _ (st ?_);dsimp only[wS,wE,wA,wV,wG];exact eu t6 (k _ _ kvs' _ n4 (jw _ _ _) o6 kp5.len mm6 f6 kp6)
end
noncomputable def vL (x y z:Int):List (T×W):=[(bW 1 0,.int x),(bW 2 0,.int y),(bW 2 1,.int z)]
noncomputable def BE (x y z a b c:Int):Nat->List (T×W)
 | 0=>vL x y z
 | 1=>vL x y z++[(bW 0 1,.int a)]
 | 2=>vL x y z++[(bW 0 1,.int a),(bW 0 2,.int b)]
 | _=>vL x y z++[(bW 0 1,.int a),(bW 0 2,.int b),(bW 1 2,.int c)]
theorem DP {n x y z a b c:Int}(hx:0<=x/\x < n)(hy:0<=y/\y < n)(hz:0<=z/\z < n)(ha:0<=a/\a < n)(hb:0<=b/\b < n)(hc:0<=c/\c < n):∀ i j:Nat,i < 3->j < 3->i≠j->∃ p:Int,cL (BE x y z a b c 3) (bW i j)=some (.int p)/\0<=p/\p < n:=by
 intro i j hi hj hij
 match i,j,hi,hj,hij with
 | 0,0,_,_,h=>exact absurd rfl h
 | 0,1,_,_,_=>exact⟨a,by rfl,ha⟩
 | 0,2,_,_,_=>exact⟨b,by rfl,hb⟩
 | 1,0,_,_,_=>exact⟨x,by rfl,hx⟩
 | 1,1,_,_,h=>exact absurd rfl h
 | 1,2,_,_,_=>exact⟨c,by rfl,hc⟩
 | 2,0,_,_,_=>exact⟨y,by rfl,hy⟩
 | 2,1,_,_,_=>exact⟨z,by rfl,hz⟩
 | 2,2,_,_,h=>exact absurd rfl h
theorem rj:∀ t∈bz,t.length=3/\t.getD 0 0 < 3/\t.getD 1 0 < 3/\t.getD 2 0 < 3/\t.getD 0 0≠t.getD 1 0/\t.getD 1 0≠t.getD 2 0/\t.getD 0 0≠t.getD 2 0:=by decide
theorem yT {t:List Nat}(h:t∈bz):∃ i j k:Nat,t=[i,j,k]/\i < 3/\j < 3/\k < 3/\i≠j/\j≠k/\i≠k:=by
 obtain⟨h1,h2⟩:=rj t h
 match t,h1,h2 with
 | [i,j,k],_,h2=>exact⟨i,j,k,rfl,h2⟩
section
variable {defs:List (Str×Df)} {fuel d:Nat} {S:aa} {r:Nat} {Q:QW}
theorem yU {l:Nat}{f:Int}{ws:List Int}(h:S[l]?=some (.lst (af ws))):∃ b,dh .notin (.int f) (.ref l) S=some (.bl b,S):=by
 have hf:(cv (.int f)&&(af ws).all cv)=true:=by
  simp only[cv,Bool.true_and,List.all_eq_true];intro x hx;obtain⟨z,_,rfl⟩:=IF.mp hx;rfl
 refine⟨!(af ws).any fun z=>zv z (.int f),?_⟩
 simp only[dh,kD h,jd,Ei,BX,eW,aK h,hf,if_true,Option.map_some]
theorem DQ {q:Nat}{kvs:List (T×W)}(h:S[q]?=some (.dic kvs)):tyOk "dict" S (.ref q)=true:=by simp[tyOk,dk h]
theorem BF {q:Nat}{kvs:List (T×W)}(h:S[q]?=some (.dic kvs))(k:Q (.ref S.length,S++[.lst (kvs.map fun p=>p.1.w)])):wO (Bi.list.fn [.ref q] S) Q:=by
 refine ae ?_ k;have h1:u6 S q=none:=by simp[u6,h]
 have h2:jO [.ref q] S=none:=by simp[jO,h1,iA,eW,oN h]
 simp only[Bi.fn,Bc,h2,mY,dk h]
theorem yV (G:Gen defs){bs:List Int}{q b0:Nat}{kvs:List (T×W)}{x y z:Int}(hb:GoodB bs)(hx:0<=x/\x < bs.length)(hy:0<=y/\y < bs.length)(hz:0<=z/\z < bs.length)(hq:S[q]?=some (.dic kvs))(hm:MustE S bs.length b0 kvs)
  (k:∀ b S',Ka S S'->Q (.bl b,S')):wO (bR (ap defs fuel (d+2)) "_law_breaks" 5 [.tup (af bs),.ref q,.int x,.int y,.int z] S) Q:=by
 refine aJ G.breaks rfl rfl fun Q' hR=>?_
 replace k:∀ b S',Ka S S'->Q' (.rt (.bl b),S'):=fun a b c=>hR _ _ (k a b c)
 clear hR;show wZ _ _ dQ [some (.tup (af bs)),some (.ref q),some (.int x),some (.int y),some (.int z),none,none,none,none,none] S Q';obtain⟨a,ha1,ha⟩:=hb.rng x.toNat (by omega)
 obtain⟨b,hb1,hb2⟩:=hb.rng y.toNat (by omega)
 obtain⟨c,hc1,hc⟩:=hb.rng z.toNat (by omega)
 have hqt:=dg hq;unfold dQ;refine aZ fun K hK=>?_
 dsimp only[wS,wE,wA,wV,wG,List.set];refine⟨ag,ae (show dG [] [.tup [.int 1,.int 0],.int x,.tup [.int 2,.int 0],.int y,.tup [.int 2,.int 1],.int z]=some (vL x y z)from rfl) (hK _ _ ?_)⟩
 clear hK K;have e1:((S++[O.dic []]).set S.length (.dic (vL x y z)))[S.length]?=some (.dic (vL x y z)):=bX ag;have k1:Ka S ((S++[O.dic []]).set S.length (.dic (vL x y z))):=Ka.push.late (Ip _);have l1:((S++[O.dic []]).set S.length (.dic (vL x y z))).length=S.length+1:=by simp
 generalize(S++[O.dic []]).set S.length (.dic (vL x y z))=S1 at e1 k1 l1 ⊢;refine aZ fun K hK=>?_
 refine lz rfl rfl ?_;dsimp only[wE,wA,wV,wG];refine BF e1 ⟨S1.length,[dE 1 0,dE 2 0,dE 2 1],(fun k ρ S'=>(∃ x6,ρ=[some (.tup (af bs)),some (.ref q),some (.int x),some (.int y),some (.int z),some (.ref S.length),x6,none,none,none])/\S'[S.length]?=some (.dic (BE x y z a b c k))/\S'[S1.length]?=some (.lst [dE 1 0,dE 2 0,dE 2 1])/\Ka S S'),rfl,⟨⟨_,rfl⟩,aq e1,ag,k1.trans .push⟩,fun i ρ S' h=>h.2.2.1,?_,?_⟩
 ·have step:∀ (u v f g:Int) (kv kv':List (T×W)) (S':aa) (i:Nat),cL kv (bW u v)=some (.int f)->0<=f->bs[f.toNat]?=some g->kv.length < 10->eN kv (bW v u) (.int g)=kv'->BE x y z a b c (i+1)=kv'->∀ x6:Option W,S'[S.length]?=some (.dic kv)->S'[S1.length]?=some (.lst [dE 1 0,dE 2 0,dE 2 1])->Ka S S'->
    wO (hX (.nm 6) (dE u v) [some (.tup (af bs)),some (.ref q),some (.int x),some (.int y),some (.int z),some (.ref S.length),x6,none,none,none] S') fun p=>vW (ap defs fuel (d+1)) fuel (.cons (.put (.v 5) (.tup (.cons (.ix (.v 6) (.c (.int 1))) (.cons (.ix (.v 6) (.c (.int 0))) .nil))) (.ix (.v 0) (.ix (.v 5) (.v 6)))) .nil) p.1 p.2 (fun ρ S'=>(∃ x6,ρ=[some (.tup (af bs)),some (.ref q),some (.int x),some (.int y),some (.int z),some (.ref S.length),x6,none,none,none])/\S'[S.length]?=some (.dic (BE x y z a b c (i+1)))/\S'[S1.length]?=some (.lst [dE 1 0,dE 2 0,dE 2 1])/\Ka S S') Q':=by
   clear hK k;intro u v f g kv kv' S' i h1 h2 h3 h4 h5 h6 x6 e e' k;refine ae (show hX (.nm 6) (dE u v) [some (.tup (af bs)),some (.ref q),some (.int x),some (.int y),some (.int z),some (.ref S.length),x6,none,none,none] S'=some ([some (.tup (af bs)),some (.ref q),some (.int x),some (.int y),some (.int z),some (.ref S.length),some (dE u v),none,none,none],S')from rfl) fun Q2 hn _=>?_
   refine st ?_;dsimp only[wS,wE,wA,wV,wG];refine ae (nG (dk e) h1) (aw h2 (w:=.int g) (by unfold af; rw[List.getElem?_map,h3]; rfl) (aw (by decide) rfl (aw (by decide) rfl ?_)))
   refine ae (yS e (by rw[(Ja)]; omega)) (cH (hn _ _ ⟨⟨_,rfl⟩,?_,?_,k.late (Ip _)⟩))
   ·rw[bX e,h5,h6]
   ·rw[b8 (by omega)]; exact e'
  rintro i w ρ S2 hw ⟨⟨x6,rfl⟩,e2,l2,k2⟩
  match i,hw,e2 with
  | 0,hw,e2=>cases hw; exact step 1 0 x a _ _ S2 0 (by rfl) hx.1 ha1 (by simp[BE,vL]) (by rfl) (by rfl) x6 e2 l2 k2
  | 1,hw,e2=>cases hw; exact step 2 0 y b _ _ S2 1 (by rfl) hy.1 hb1 (by simp[BE,vL]) (by rfl) (by rfl) x6 e2 l2 k2
  | 2,hw,e2=>cases hw; exact step 2 1 z c _ _ S2 2 (by rfl) hz.1 hc1 (by simp[BE,vL]) (by rfl) (by rfl) x6 e2 l2 k2
  | n+3,hw,_=>simp at hw
 ·rintro ρ S2 ⟨⟨x6,rfl⟩,e2,l2,k2⟩;have hv:=DP hx hy hz ha hb2 hc;have e2:S2[S.length]?=some (.dic (BE x y z a b c 3)):=e2;refine hK _ _ ?_;clear hK K;have hlt2:=dg e2;refine aZ fun K hK=>?_
  refine lz rfl rfl ?_;dsimp only[wE,wA,wV,wG];refine oW (d:=d) G ⟨S2.length,bz.map (fun t=>W.tup (ak t)),(fun k ρ S'=>(∃ x7 x8 x9,ρ=[some (.tup (af bs)),some (.ref q),some (.int x),some (.int y),some (.int z),some (.ref S.length),x6,x7,x8,x9])/\S'[S.length]?=some (.dic (BE x y z a b c 3))/\S'[S2.length]?=some (.lst (bz.map (fun t=>W.tup (ak t))))/\Ka S S'),rfl,⟨⟨_,_,_,rfl⟩,aq e2,ag,k2.trans .push⟩,fun i ρ S' h=>h.2.2.1,?_,?_⟩
  ·rintro i w ρ S3 hw ⟨⟨x7,x8,x9,rfl⟩,e3,l3,k3⟩;clear hK;rw[(Iu),(Io)]at hw;obtain⟨t,ht,rfl⟩:=hw;obtain⟨i1,j1,h1,rfl,hi1,hj1,hh1,n1,n2,n3⟩:=yT (IA ht);obtain⟨p1,g1,r1⟩:=hv i1 j1 hi1 hj1 n1;obtain⟨p2,g2,r2⟩:=hv j1 h1 hj1 hh1 n2;obtain⟨p3,g3,r3⟩:=hv i1 h1 hi1 hh1 n3;have q3:=k3.get _ _ hq;refine ae (show hX (.tp [7,8,9]) (W.tup (ak [i1,j1,h1])) [some (.tup (af bs)),some (.ref q),some (.int x),some (.int y),some (.int z),some (.ref S.length),x6,x7,x8,x9] S3=some ([some (.tup (af bs)),some (.ref q),some (.int x),some (.int y),some (.int z),some (.ref S.length),x6,some (.int i1),some (.int j1),some (.int h1)],S3)from rfl) fun Q2 hn hr=>?_
   refine aZ fun K hK=>?_
   dsimp only[wS,wT,wE,wA,wV,wG];refine ae (nG (dk e3) g3) ⟨DQ q3,ae (nG (dk e3) g1) (ae (nG (dk e3) g2) (ae (nG (dk e3) g3) ?_))⟩;have hget:Me.get.fn (.ref q) [.tup [.int p1,.int p2],.ref S3.length] (S3++[O.lst [.int p3]])=some ((cL kvs (bW p1 p2)).getD (.ref S3.length),S3++[O.lst [.int p3]]):=by
    have hk:gE (.tup [.int p1,.int p2])=some (bW p1 p2):=iV;simp only[Me.fn,tq,dk (aq q3),hk]
   refine ae hget ?_;have hres:∃ (l:Nat) (ws:List Int),(cL kvs (bW p1 p2)).getD (.ref S3.length)=.ref l/\(S3++[O.lst [.int p3]])[l]?=some (.lst (af ws)):=by
    cases hg:cL kvs (bW p1 p2)with
    | none=>exact⟨S3.length,[p3],rfl,ag⟩
    | some g=>
     obtain⟨u,v,l,ws,he,_,_,_,hl,_⟩:=(hm.ka k3) _ (rc hg);injection he with _ he
     subst he;exact⟨l,ws,rfl,aq hl⟩
   obtain⟨l,ws,hl1,hl2⟩:=hres;dsimp only;rw[hl1];obtain⟨kb,hkb⟩:=yU (f:=p3) hl2;refine ae hkb ?_;dsimp only[wB];refine aD (Q0:=Q2) (fun _ Q3 _ hr3=>st (hr3 _ _ (hr _ _ (k _ _ (k3.trans .push))))) fun _ Q3 hn3 _=>cH (hn3 _ _ (hK _ _ (cH (hn _ _ ⟨⟨_,_,_,rfl⟩,aq e3,aq l3,k3.trans .push⟩))))
  ·rintro ρ S3 ⟨⟨x7,x8,x9,rfl⟩,e3,l3,k3⟩;exact hK _ _ (st (k _ _ k3))
end
theorem F5 {a n:Nat}{m0 m1 m2 x y z:Int}(h0:0<=m0/\m0 < a)(h1:0<=m1/\m1 < a)(h2:0<=m2/\m2 < a)(hx:0<=x/\x < n)(hy:0<=y/\y < n)(hz:0<=z/\z < n):GoodW a n [(m0,[]),(m1,[x]),(m2,[y,z])]:=by
 refine⟨fun k p h=>?_,fun k p h=>?_,fun k p h=>?_⟩ <;> match k,h with
 | 0,h=>cases h; first|exact h0|rfl|(intro w hw; cases hw)
 | 1,h=>cases h; first|exact h1|rfl|(intro w hw; rw[List.mem_singleton.mp hw]; exact hx)
 | 2,h=>cases h; first|exact h2|rfl|(intro w hw; rcases IR.mp hw with e|hw <;> first|exact e ▸ hy|(rw[List.mem_singleton.mp hw]; exact hz))
 | n+3,h=>simp at h
theorem DR {Φ:Str->FF}{ρ:Fm}{S:aa}{i n:Nat}{Q:QW}(hv:∀ Q:W->Prop,Q (.int n)->wV ρ i Q)(hn:n<=3)(k:∀ j:Int,0<=j->j<=27->j=(n:Int)*n*n->Q (.int j,S)):wE Φ (.op .mul (.op .mul (.v i) (.v i)) (.v i)) ρ S Q:=by
 have b1 : -(2 ^ 64) < (n:Int):=by omega
 have b2:(n:Int) < 2 ^ 64:=by omega
 have hc:(n:Int)*n*n<=27/\0<=(n:Int)*n*n:=by rcases(show n=0\/n=1\/n=2\/n=3 by omega)with h|h|h|h <;> rw[h] <;> decide
 dsimp only[wE];have em:∀ m:Int,fS .mul (.int m) (.int n) S=some (.int (m*n),S):=fun m=>qQ b1 b2
 generalize fS .mul=B at em ⊢;refine hv _ ?_;refine hv _ ?_;refine ae (em _) ?_;refine hv _ ?_;refine ae (em _) ?_;have:=k _ hc.2 hc.1 rfl;exact this
theorem yW {Φ:Str->FF}{fuel:Nat}{ρ:Fm}{S:aa}{K:Fm->aa->Prop}{Q:QO}{i0 i n:Nat}{b:Ss}(hv:∀ Q:W->Prop,Q (.int n)->wV ρ i Q)(hn:n<=3)(ok:gH b=true)
  (h:∀ j:Int,0<=j->j<=27->j=(n:Int)*n*n->∃ I:Nat->Fm->aa->Prop,I 0 ρ S/\(∀ (i:Nat) (ρ:Fm) (S:aa),(i:Int) < j->I i ρ S->vW Φ fuel b (ρ.set i0 (some (.int i))) S (I (i+1)) Q)/\∀ ρ S,I j.toNat ρ S->K ρ S) :
  Wp (fX Φ fuel (.loop (.nm i0) (.rng (.cons (.op .mul (.op .mul (.v i) (.v i)) (.v i)) .nil)) b) ρ S) (rK K Q):=
 have hw:=DR (Φ:=Φ) (S:=S) (Q:=fun p=>∃ (j:Int) (I:Nat->Fm->aa->Prop),p.1=.int j/\(-(2 ^ 62)<=j/\j < 2 ^ 62)/\I 0 ρ p.2/\(∀ (i:Nat) (ρ:Fm) (S:aa),(i:Int) < j->I i ρ S->vW Φ fuel b (ρ.set i0 (some (.int i))) S (I (i+1)) Q)/\∀ ρ S,I j.toNat ρ S->K ρ S) hv hn fun j j0 j27 e=>let ⟨I,h0,h1,h2⟩:=h j j0 j27 e; ⟨j,I,rfl,by omega,h0,h1,h2⟩
 iU rfl ok hw
section
variable {defs:List (Str×Df)} {fuel d:Nat} {S:aa} {r:Nat} {Q:QW}
theorem yX (hfu:20 < fuel)(G:Gen defs)(hf:Fl S r)(k:∀ w S',ev w->Fl S' r->Kp r S S'->Q (w,S')):wO (bR (ap defs fuel (d+7)) "_law_laying_rule" 1 [.ref r] S) Q:=by
 refine aJ G.laying_rule rfl rfl fun Q' hR=>?_
 replace k:∀ w S',ev w->Fl S' r->Kp r S S'->Q' (.rt w,S'):=fun z S' a b c=>hR _ _ (k z S' a b c)
 clear hR;show wZ _ _ cg [some (.ref r),none,none,none,none,none,none,none,none,none,none,none,none,none,none] S Q';unfold cg;refine aZ fun K hK=>?_
 dsimp only[wS,wE,wA,wV,wG,List.set];refine bc (d:=d+5) G.pick hf (by decide) (by decide) fun v S1 v0 v7 f1 k1=>hK _ _ ?_
 clear hK K;refine aZ fun K hK=>?_
 dsimp only[wS,wT,wE,wV,wG,ic,aQ,wB];refine aD (Q0:=Q') (fun _ Q2 _ hr=>?_) (fun _ Q2 hn _=>cH (hn _ _ (hK _ _ ?_)))
 ·refine st ?_;dsimp only[wS,wE,wA,wV,wG];exact q9 (d:=d) hfu G f1 fun w S2 a b c=>hr _ _ (k w S2 a b (k1.trans c))
 clear hK K hn;refine aZ fun K hK=>?_
 dsimp only[wS,wT,wE,wV,wG,ic,aQ,wB];refine aD (Q0:=Q') (fun _ Q2 _ hr=>?_) (fun _ Q2 hn _=>cH (hn _ _ (hK _ _ ?_)))
 ·refine st ?_;dsimp only[wS,wE,wA,wV,wG];exact vI (d:=d) hfu G f1 fun w S2 a b c=>hr _ _ (k w S2 a b (k1.trans c))
 clear hK K hn;have hr1:=f1.lt;refine aZ fun K hK=>?_
 dsimp only[wS,wE,wA,wV,wG];refine l5 (d:=d+4) G f1 fun w2 S2 hw2 f2 k2=>?_
 obtain⟨bs0,q0,kvs0,most,rfl,hbs0,m1,m3,m6,hq0,hq0l,h40,hm0⟩:=hw2;dsimp only[wU];refine ae (show d7 [2,3,4] [.tup (af bs0),.ref q0,.int most] [some (.ref r),some (.int v),none,none,none,none,none,none,none,none,none,none,none,none,none]=some [some (.ref r),some (.int v),some (.tup (af bs0)),some (.ref q0),some (.int most),none,none,none,none,none,none,none,none,none,none]from rfl) (hK _ _ ?_)
 clear hK K;refine aZ fun K hK=>?_
 dsimp only[wS,wE,wA,wV,wG,List.set];refine bc (d:=d+5) G.pick f2 (by omega) (by omega) fun v3 S3 v30 v3m f3 k3=>?_
 dsimp only[cW,aQ];obtain⟨a,ea⟩ : ∃ a:Nat,1+v3=a:=⟨(1+v3).toNat,by omega⟩
 rw[ea];refine hK _ _ ?_;clear hK K;refine aZ fun K hK=>?_
 dsimp only[wS,wE,wA,wV,wG];refine sJ (d:=d+4) G (S0:=S1) hbs0 f3 hr1 (k2.trans k3) (k3.get _ _ (by omega) hq0) hq0l h40 (hm0.kp hr1 k3) fun bs q kvs S4 hb hbl hq hql hm f4 k4=>?_
 dsimp only[wU];refine ae (show d7 [2,3] [.tup (af bs),.ref q] [some (.ref r),some (.int v),some (.tup (af bs0)),some (.ref q0),some (.int most),some (.int a),none,none,none,none,none,none,none,none,none]=some [some (.ref r),some (.int v),some (.tup (af bs)),some (.ref q),some (.int most),some (.int a),none,none,none,none,none,none,none,none,none]from rfl) (hK _ _ ?_)
 clear hK K;rw[<- hbl]at hm m6;have hn:bs.length=2\/bs.length=3:=by rw[hbl]; exact(yR bs0 hbs0).1
 have hsz:SizeOk a bs:=⟨by omega,hb,by
  have h1:(a:Int)*bs.length<=most*bs.length:=Int.mul_le_mul_of_nonneg_right (by omega) (by omega)
  exact_mod_cast Int.le_trans h1 m6,by omega⟩
 clear m6 hm0 hq0 hq0l h40 hbl hbs0 k2 k3 f2 f3;refine aZ fun K hK=>?_
 dsimp only[wS,wE,wA,wV,wG,List.set];refine fJ (d:=d+1) hfu G f4 (by omega) (by omega) fun ms ns S5 hml hnl hnm f5 k5=>hK _ _ ?_
 clear hK K;have kk:Kp r S S5:=k1.trans (k4.trans k5);have hrt:=f5.lt;have hq5:S5[q]?=some (.dic kvs):=k5.get _ _ (by omega) hq
 have hm5:MustE S5 bs.length S1.length kvs:=hm.kp hr1 k5;have hqn:q < S5.length:=dg hq5;clear k1 k4 k5 f4 hm hq hql f1;refine st ?_;dsimp only[wS,wE,List.set];refine aZ fun K hK=>?_
 dsimp only[wS,wE,wA,wV,wG,List.set];refine bZ ?_;rw[show(af bs).length=bs.length from List.length_map ..]
 refine hK _ _ ?_;clear hK K;refine aZ fun K hK=>?_
 refine yW (n:=bs.length) (fun Q q=>q) (by omega) rfl fun j j0 j27 hj=>?_
 refine⟨(fun _ ρ S'=>(∃ x9 x10 x11 x12 x13 x14,ρ=[some (.ref r),some (.int v),some (.tup (af bs)),some (.ref q),some (.int most),some (.int a),some (dJ ms ns bs []),some (.ref S5.length),some (.int bs.length),x9,x10,x11,x12,x13,x14])/\(∃ kvs fs,S'[S5.length]?=some (.dic kvs)/\FigD (bn a bs) kvs fs)/\S'[q]?=some (.dic kvs)/\MustE S' bs.length S1.length kvs/\Fl S' r/\Kp r S S'),⟨⟨_,_,_,_,_,_,rfl⟩,⟨[],[],ag,.nil⟩,aq hq5,hm5.ka .push,f5.ka .push,kk.trans .push⟩,?_,?_⟩
 ·rintro i ρ S6 hi ⟨⟨x9,x10,x11,x12,x13,x14,rfl⟩,⟨kvd,fs,e6,hd⟩,hq6,hm6,f6,k6⟩ Q2 hn2 _;clear hK k;have hnp:(0:Int) < bs.length:=by omega
  have hnb:(bs.length:Int) < 1073741824:=by omega
  have y1:0<=(i:Int) % bs.length/\(i:Int) % bs.length < bs.length:=⟨JS _ (by omega),JM _ hnp⟩
  have y2:0<=(i:Int) / bs.length % bs.length/\(i:Int) / bs.length % bs.length < bs.length:=⟨JS _ (by omega),JM _ hnp⟩
  have y3:0<=(i:Int) / bs.length / bs.length/\(i:Int) / bs.length / bs.length < bs.length:=by
   rcases hn with h|h <;> rw[h]at hj ⊢ <;> omega
  refine aZ fun K hK=>?_
  dsimp only[wS,wE,wA,wV,wG,List.set];refine ae (iO hnp) (ae (ib hnp hnb) (ae (iO hnp) ?_));dsimp only[w2];refine hK _ _ ?_;clear hK K;refine aZ fun K hK=>?_
  dsimp only[wS,wE,wA,wV,wG,List.set];refine ae (ib hnp hnb) (ae (ib hnp hnb) (hK _ _ ?_));clear hK K;dsimp only;generalize(i:Int) % bs.length=z1 at y1 ⊢;generalize(i:Int) / bs.length % bs.length=z2 at y2 ⊢;generalize(i:Int) / bs.length / bs.length=z3 at y3 ⊢;refine aZ fun K hK=>?_
  dsimp only[wS,wT,wA,wE,wV,wG];refine yV (d:=d+4) G hb y1 y2 y3 hq6 hm6 fun b S7 k7=>?_
  dsimp only[gD,aQ];refine aD (Q0:=Q2) (fun _ Q3 hn3 _=>?_) (fun _ Q3 hn3 _=>cH (hn3 _ _ (hK _ _ (cH (hn2 _ _ ⟨⟨_,_,_,_,_,_,rfl⟩,⟨kvd,fs,k7.get _ _ e6,hd⟩,k7.get _ _ hq6,hm6.ka k7,f6.ka k7,k6.trans (k7.kp r)⟩)))))
  refine aZ fun K3 hK3=>?_
  refine lz rfl rfl ?_;dsimp only[wE,wA,wV,wG];have h56:S5.length < S6.length:=dg e6;have h67:=k7.len;refine yN (d:=d+5) G (a:=a) (by omega) fun t ts S8 e8 ht ht7 k8=>?_
  refine⟨t,ts.map o5,(fun _ ρ S'=>(∃ x9 x13 x14,ρ=[some (.ref r),some (.int v),some (.tup (af bs)),some (.ref q),some (.int most),some (.int a),some (dJ ms ns bs []),some (.ref S5.length),some (.int bs.length),x9,some (.int z1),some (.int z2),some (.int z3),x13,x14])/\(∃ kvs fs,S'[S5.length]?=some (.dic kvs)/\FigD (bn a bs) kvs fs)/\S'[q]?=some (.dic kvs)/\MustE S' bs.length S1.length kvs/\S'[t]?=some (.lst (ts.map o5))/\Fl S' r/\Kp r S S'),rfl,⟨⟨_,_,_,rfl⟩,⟨kvd,fs,k8.get _ _ (k7.get _ _ e6),hd⟩,k8.get _ _ (k7.get _ _ hq6),(hm6.ka k7).ka k8,e8,(f6.ka k7).ka k8,k6.trans ((k7.trans k8).kp r)⟩,fun i ρ S' h=>h.2.2.2.2.1,?_,?_⟩
  ·rintro j w ρ S9 hw ⟨⟨x9,x13,x14,rfl⟩,⟨kvd,fs,e9,hd⟩,hq9,hm9,ht9,f9,k9⟩;clear hK3 hn3 hK hn2;rw[(Iu),(Io)]at hw;obtain⟨⟨tr1,tr2,tr3⟩,htr,rfl⟩:=hw;obtain⟨t1,t2,t3⟩:=ht _ (IA htr);refine ae (show hX (.nm 13) (o5 (tr1,tr2,tr3)) [some (.ref r),some (.int v),some (.tup (af bs)),some (.ref q),some (.int most),some (.int a),some (dJ ms ns bs []),some (.ref S5.length),some (.int bs.length),x9,some (.int z1),some (.int z2),some (.int z3),x13,x14] S9=some ([some (.ref r),some (.int v),some (.tup (af bs)),some (.ref q),some (.int most),some (.int a),some (dJ ms ns bs []),some (.ref S5.length),some (.int bs.length),x9,some (.int z1),some (.int z2),some (.int z3),some (o5 (tr1,tr2,tr3)),x14],S9)from rfl) fun Q4 hn4 _=>?_
   have hu:GoodW a bs.length [(tr1,[]),(tr2,[z1]),(tr3,[z2,z3])]:=F5 t1 t2 t3 y1 y2 y3;refine aZ fun K hK=>?_
   dsimp only[wS,wE,wA,wV,wG,List.set];refine aw (by decide) rfl (aw (by decide) rfl (hK _ _ ?_))
   clear hK K;refine st ?_;dsimp only[wS,wE,wA,wV,wG];refine aw (by decide) rfl (ae (jq (iR rfl)) ?_)
   refine iS (d:=d+3) (m0:=.tup (ms.map W.str)) (b0:=.tup []) (u:=[(tr1,[]),(tr2,[z1]),(tr3,[z2,z3])]) G hb hnl hu rfl fun S10 k10=>?_
   have e10:=k10.get _ _ e9;exact yJ e10 hd hsz hu rfl fun o ho=>cH (hn4 _ _ ⟨⟨_,_,_,rfl⟩,ho,by rw[b8 (by omega)]; exact k10.get _ _ hq9,(hm9.ka k10).set e10,by rw[b8 (by omega)]; exact k10.get _ _ ht9,(f9.ka k10).own hrt,(k9.trans (k10.kp r)).late kk.len⟩)
  ·rintro ρ S9 ⟨⟨x9,x13,x14,rfl⟩,hdd,hq9,hm9,ht9,f9,k9⟩;exact hK3 _ _ (cH (hn3 _ _ (hK _ _ (cH (hn2 _ _ ⟨⟨_,_,_,_,_,_,rfl⟩,hdd,hq9,hm9,f9,k9⟩)))))
 ·rintro ρ S6 ⟨⟨x9,x10,x11,x12,x13,x14,rfl⟩,⟨kvd,fs,e6,hd⟩,hq6,hm6,f6,k6⟩;refine hK _ _ (st ?_);dsimp only[wS,wE,wA,wV,wG];exact yI (Q:=fun p=>Q' (.rt p.1,p.2)) e6 hd hsz hml hnl hnm fun w S8 hw k8=>k w S8 hw (f6.ka k8) (k6.trans (k8.kp r))
end
section
variable {defs:List (Str×Df)} {fuel d:Nat} {S:aa} {r:Nat} {Q:QW}
end
noncomputable def Tr:Nat->W->Prop
 | _,.int _=>True
 | _,.str _=>True
 | n+1,.tup xs=>xs.length<=1000/\∀ x∈xs,Tr n x
 | _,_=>False
theorem jy:∀ n:Nat,hG (List.replicate n (.bl true))=some (List.replicate n true)
 | 0=>rfl
 | n+1=>by rw[(JA),hG,jy n]; rfl
theorem uy (n:Nat):(List.replicate n true).all id=true:=by
 rw[(IJ)];intro x hx;rw[(List.mem_replicate.mp hx).2]; rfl
section
variable {defs:List (Str×Df)} {fuel:Nat}
theorem BG (hg:Is defs ("_law_alike" : Str) 2 2 bF):∀ (n d:Nat) (w:W) (S:aa) (Q:QW),Tr n w->(∀ S',Ka S S'->Q (.bl true,S'))->wO (bR (ap defs fuel (d+n+1)) "_law_alike" 2 [w,w] S) Q:=by
 intro n
 induction n with
 | zero=>
  intro d w S Q hw k;refine aJ hg rfl rfl fun Q' hR=>?_
  replace k:=hR _ _ (k S .refl);clear hR;show wZ _ _ bF [some w,some w] S Q';dsimp only[bF];cases w with
  | int x=>
   refine aZ fun K hK=>cj (fun Q q=>q) (hK _ _ ?_)
   refine aZ fun K hK=>cj (fun Q q=>⟨fun z=>(by cases z),fun _=>q⟩) (hK _ _ ?_)
   refine aZ fun K hK=>qR (fun Q q=>q) fun Q2 _ hr=>st ?_
   dsimp only[wS,wE,wV,wG];refine ae (show vx S (.int x) "int" = some true from rfl) ⟨fun _=>?_,fun z=>by cases z⟩
   dsimp only[ic,aQ];rw[(Jh)];exact hr _ _ k
  | str x=>
   refine aZ fun K hK=>cj (fun Q q=>q) (hK _ _ ?_)
   refine aZ fun K hK=>cj (fun Q q=>⟨fun z=>(by cases z),fun _=>q⟩) (hK _ _ ?_)
   refine aZ fun K hK=>cj (fun Q q=>q) (hK _ _ ?_)
   refine aZ fun K hK=>qR (fun Q q=>q) fun Q2 _ hr=>st ?_
   dsimp only[wS,wE,wV,wG];refine ae (show vx S (.str x) "str" = some true from rfl) ⟨fun _=>?_,fun z=>by cases z⟩
   dsimp only[B9,aQ];rw[(Jh)];exact hr _ _ k
  | _=>exact hw.elim
 | succ n ih=>
  intro d w S Q hw k;refine aJ hg rfl rfl fun Q' hR=>?_
  replace k:∀ S',Ka S S'->Q' (.rt (.bl true),S'):=fun S' a=>hR _ _ (k S' a)
  clear hR;show wZ _ _ bF [some w,some w] S Q';dsimp only[bF];cases w with
  | int x=>
   refine aZ fun K hK=>cj (fun Q q=>q) (hK _ _ ?_)
   refine aZ fun K hK=>cj (fun Q q=>⟨fun z=>(by cases z),fun _=>q⟩) (hK _ _ ?_)
   refine aZ fun K hK=>qR (fun Q q=>q) fun Q2 _ hr=>st ?_
   dsimp only[wS,wE,wV,wG];refine ae (show vx S (.int x) "int" = some true from rfl) ⟨fun _=>?_,fun z=>by cases z⟩
   dsimp only[ic,aQ];rw[(Jh)];exact hr _ _ (k _ .refl)
  | str x=>
   refine aZ fun K hK=>cj (fun Q q=>q) (hK _ _ ?_)
   refine aZ fun K hK=>cj (fun Q q=>⟨fun z=>(by cases z),fun _=>q⟩) (hK _ _ ?_)
   refine aZ fun K hK=>cj (fun Q q=>q) (hK _ _ ?_)
   refine aZ fun K hK=>qR (fun Q q=>q) fun Q2 _ hr=>st ?_
   dsimp only[wS,wE,wV,wG];refine ae (show vx S (.str x) "str" = some true from rfl) ⟨fun _=>?_,fun z=>by cases z⟩
   dsimp only[B9,aQ];rw[(Jh)];exact hr _ _ (k _ .refl)
  | tup xs=>
   obtain⟨hl,hx⟩:=hw;refine aZ fun K hK=>cj (fun Q q=>q) (hK _ _ ?_)
   refine aZ fun K hK=>cj (fun Q q=>⟨fun z=>(by cases z),fun _=>q⟩) (hK _ _ ?_)
   refine aZ fun K hK=>cj (fun Q q=>q) (hK _ _ ?_)
   refine aZ fun K hK=>cj (fun Q q=>q) (hK _ _ ?_)
   refine aZ fun K hK=>cj (fun Q q=>⟨fun z=>(by cases z),fun _=>q⟩) (hK _ _ ?_)
   refine st ?_;dsimp only[wS,wE,wA,wV,wG];refine bZ (bZ ?_);dsimp only[ic,aQ,wB];rw[(Jh)];refine⟨fun _=>?_,fun z=>by cases z⟩
   refine cY (xs.length:Int) (fun i ys ρ2 S2=>(∃ a1,ρ2=[none,a1,some (.tup xs),some (.tup xs)])/\ys=List.replicate i (.bl true)/\Ka S S2) rfl rfl rfl (by omega) ?_ ?_ ?_
   ·dsimp only[wE,wA,wV,wG];exact bZ ⟨rfl,⟨none,rfl⟩,rfl,.refl⟩
   ·rintro i ys ρ2 S2 hi ⟨⟨a1,rfl⟩,rfl,k2⟩;have hi':i < xs.length:=by omega
    dsimp only[kE,wC,wE,wA,wV,wG,List.set];refine⟨fun _=>aw (IG i) (by rw[(IB)]; exact Iw hi') (aw (IG i) (by rw[(IB)]; exact Iw hi') (ih d _ _ _ (hx _ (IQ hi')) fun S3 k3=>⟨⟨_,rfl⟩,?_,k2.trans k3⟩)),fun z=>by cases z⟩
    rw[List.replicate_succ']
   ·rintro ys ρ2 S2 ⟨_,rfl,k2⟩;rw[(IB)];refine⟨kF (by rw[List.length_replicate]; exact hl),ae (a:=(.bl true,S2++[.lst (List.replicate xs.length (.bl true))])) ?_ (k _ (k2.trans .push))⟩
    simp only[Bi.fn,Av,aK ag,jy,Option.map_some,uy]
  | _=>exact hw.elim
end
noncomputable def uz:Ss:=
 (.cons (.ite (.cmp .gt (.v 2) (.v 3)) (.cons (.ret (.ix (.ix (.ix (.v 1) (.v 2)) (.c (.int 1))) (.v 3)))
 .nil) .nil)
 (.cons (.ret (.ix (.ix (.ix (.v 0) (.c (.int 1))) (.ix (.ix (.ix (.v 1) (.v 3)) (.c (.int 1))) (.v 2))) (.c (.int 1))))
 .nil))
noncomputable def dS:Ss:=
 (.cons (.ret (.tup (.cons (.ix (.ix (.v 1) (.v 3)) (.c (.int 0))) (.cons (.bi .tuple (.cons (.comp (.own "way" 4 (.cons (.v 3) (.cons (.v 4) (.cons (.v 2) (.cons (.v 1) .nil))))) (.nm 1) (.seq (.v 2)) .nil [none,none,some 3,some 0,some 1]) .nil)) .nil))))
 .nil)
noncomputable def bN:Ss:=
 (.cons (.set 3 (.bi .list (.cons (.bi .range (.cons (.v 1) .nil)) .nil)))
 (.cons (.set 4 (.lst .nil))
 (.cons (.whl (.cmp .lt (.bi .len (.cons (.v 4) .nil)) (.v 2)) (.cons (.ex (.me .append (.v 4) (.cons (.me .pop (.v 3) (.cons (.own "_law_pick" 2 (.cons (.v 0) (.cons (.bi .len (.cons (.v 3) .nil)) .nil))) .nil)) .nil)))
 .nil))
 (.cons (.ret (.bi .tuple (.cons (.v 4) .nil)))
 .nil))))
noncomputable def cr:Ss:=
 (.cons (.set 2 (.lst (.cons (.tup .nil) .nil)))
 (.cons (.loop (.nm 3) (.rng (.cons (.v 1) .nil)) (.cons (.set 2 (.comp (.op .add (.ix (.v 3) (.op .fdiv (.v 1) (.v 2))) (.tup (.cons (.op .mod (.v 1) (.v 2)) .nil))) (.nm 1) (.rng (.cons (.op .mul (.bi .len (.cons (.v 2) .nil)) (.v 0)) .nil)) .nil [none,none,some 0,some 2]))
 .nil))
 (.cons (.ret (.v 2))
 .nil)))
noncomputable def c9:Ss:=
 (.cons (.set 2 (.lst (.cons (.tup .nil) .nil)))
 (.cons (.loop (.nm 3) (.rng (.cons (.v 1) .nil)) (.cons (.set 4 (.lst .nil))
 (.cons (.loop (.nm 5) (.rng (.cons (.bi .len (.cons (.ix (.v 0) (.c (.int 0))) .nil)) .nil)) (.cons (.ex (.me .extend (.v 4) (.cons (.comp (.tup (.cons (.v 2) (.cons (.v 1) .nil))) (.nm 1) (.seq (.own "_law_digits" 2 (.cons (.bi .len (.cons (.ix (.v 0) (.c (.int 1))) .nil)) (.cons (.v 3) .nil)))) .nil [none,none,some 5]) .nil)))
 .nil))
 (.cons (.set 2 (.comp (.op .add (.ix (.v 3) (.op .fdiv (.v 1) (.bi .len (.cons (.v 2) .nil)))) (.tup (.cons (.ix (.v 2) (.op .mod (.v 1) (.bi .len (.cons (.v 2) .nil)))) .nil))) (.nm 1) (.rng (.cons (.op .mul (.bi .len (.cons (.v 2) .nil)) (.bi .len (.cons (.v 4) .nil))) .nil)) .nil [none,none,some 4,some 2]))
 .nil))))
 (.cons (.ret (.v 2))
 .nil)))
section
variable {defs:List (Str×Df)} {fuel d:Nat} {S:aa} {r:Nat} {Q:QW}
theorem yY {Φ:Str->FF}{m0 b0:W}{ns:List Str}{bs:List Int}{a:Nat}{u:Wd}{i j:Nat}{Q:QO}(hb:GoodB bs)(hl:ns.length=bs.length)(hu:GoodW a bs.length u)(hi:i < u.length)(hj:j < u.length)(hij:i≠j)(k:Q (.rt (.int (eQ bs u i j)),S)) :
  wZ Φ fuel uz [some (.tup [m0,.tup (List.zipWith bA ns bs),b0]),some (aY u),some (.int i),some (.int j)] S Q:=by
 have hpi:=aS (d:=(0,[])) hi;have hpj:=aS (d:=(0,[])) hj;unfold eQ at k;dsimp only[uz];refine aZ fun K hK=>?_
 dsimp only[wS,wT,wE,wV,wG,Bn,wO,wB,aY];refine aD (Q0:=Q) (fun h Q2 _ hr=>?_) (fun h Q2 hn _=>?_)
 ·have hji:j < i:=by have:=IK h; omega
  rw[if_pos hji]at k;have hw:j < (u.getD i (0,[])).2.length:=by rw[hu.len i _ hpi]; exact hji
  refine st ?_;dsimp only[wS,wE,wV,wG];refine aw (IG i) (nC hi) (aw (by decide) rfl (aw (IG j) ?_ (hr _ _ k)))
  rw[(IB),(Iu),aS (d:=0) hw]; rfl
 ·have hji:¬ j < i:=by have:=Ju h; omega
  rw[if_neg hji]at k;refine cH (hn _ _ (hK _ _ ?_));clear hn hK;have hw:i < (u.getD j (0,[])).2.length:=by rw[hu.len j _ hpj]; omega
  have hg:=aS (d:=0) hw;obtain⟨g1,g2⟩:=hu.way j _ hpj _ (IA hg);obtain⟨b,hb1,hb2,hb3⟩:=hb.rng ((u.getD j (0,[])).2.getD i 0).toNat (by omega)
  have hn:((u.getD j (0,[])).2.getD i 0).toNat < ns.length:=by omega
  rw[getD_some hb1]at k;refine st ?_;dsimp only[wS,wE,wV,wG];refine aw (by decide) rfl (aw (IG j) (nC hj) (aw (by decide) rfl (aw (IG i) ?_ (aw g1 (ii (Iw hn) hb1) (aw (by decide) rfl k)))))
  rw[(IB),(Iu),hg]; rfl
structure Parts (defs:List (Str×Df)):Prop where
 way:Is defs ("way" : Str) 4 4 uz
 over:Is defs ("point_over" : Str) 4 4 dS
theorem F6 (P:Parts defs){m0 b0:W}{ns:List Str}{bs:List Int}{a:Nat}{u:Wd}{i j:Nat}(hb:GoodB bs)(hl:ns.length=bs.length)(hu:GoodW a bs.length u)(hi:i < u.length)(hj:j < u.length)(hij:i≠j)(k:Q (.int (eQ bs u i j),S)) :
  wO (bR (ap defs fuel (d+1)) "way" 4 [.tup [m0,.tup (List.zipWith bA ns bs),b0],aY u,.int i,.int j] S) Q:=
 aJ P.way rfl rfl fun Q' hR=>yY hb hl hu hi hj hij (hR _ _ k)
theorem DS (P:Parts defs){m0 b0:W}{ns:List Str}{bs:List Int}{a:Nat}{u:Wd}{ps:List Nat}{i:Nat}(hb:GoodB bs)(hl:ns.length=bs.length)(hu:GoodW a bs.length u)(hps:∀ p∈ps,p < u.length/\i≠p)(hi:i < u.length)(hsz:ps.length<=1000)(k:∀ S',Ka S S'->Q (fm ((u.getD i (0,[])).1,ps.map fun q=>eQ bs u i q),S')) :
  wO (bR (ap defs fuel (d+2)) "point_over" 4 [.tup [m0,.tup (List.zipWith bA ns bs),b0],aY u,.tup (ak ps),.int i] S) Q:=by
 refine aJ P.over rfl rfl fun Q' hR=>?_
 replace k:∀ S',Ka S S'->Q' (.rt (fm ((u.getD i (0,[])).1,ps.map fun q=>eQ bs u i q)),S'):=fun S' a=>hR _ _ (k S' a)
 clear hR;show wZ _ _ dS [some (.tup [m0,.tup (List.zipWith bA ns bs),b0]),some (aY u),some (.tup (ak ps)),some (.int i)] S Q';generalize hR0:W.tup [m0,.tup (List.zipWith bA ns bs),b0]=R;dsimp only[dS];refine st ?_;dsimp only[wS,wE,wA,wV,wG];refine aw (IG i) (nC hi) (aw (by decide) rfl ?_)
 refine oP (ak ps) (fun j ys ρ2 S2=>(∃ a1,ρ2=[none,a1,some (.int i),some R,some (aY u)])/\ys=(ps.take j).map (fun q=>W.int (eQ bs u i q))/\Ka S S2) rfl rfl rfl ⟨rfl,⟨none,rfl⟩,rfl,.refl⟩ ?_ ?_
 ·rintro j w ys ρ2 S2 hw ⟨⟨a1,rfl⟩,rfl,k2⟩;unfold ak at hw;rw[(Iu),(Io)]at hw;obtain⟨q,hq,rfl⟩:=hw;obtain⟨hqu,hqi⟩:=hps q (IA hq);refine ae (show hX (.nm 1) (.int (q:Int)) [none,a1,some (.int i),some R,some (aY u)] S2=some ([none,some (.int (q:Int)),some (.int i),some R,some (aY u)],S2)from rfl) ?_
  dsimp only[kE,wC,wE,wA,wV,wG];subst hR0;refine⟨fun _=>F6 (d:=d) P hb hl hu hi hqu hqi ⟨⟨_,rfl⟩,?_,k2⟩,fun z=>by cases z⟩
  rw[(IT),hq];simp
 ·rintro ys ρ2 S2 ⟨_,rfl,k2⟩;rw[show(ak ps).length=ps.length from List.length_map ..,(Jf)]
  refine⟨kF (by rw[(Im)]; exact hsz),eu ag ?_⟩
  have:=k _ (k2.trans (Ka.push (o:=O.lst (ps.map fun q=>W.int (eQ bs u i q)))))
  unfold fm at this;rw[(J4)]at this;exact this
end
section
variable {S:aa} {Q:QW}
theorem rm:∀ (xs:List Nat) (i:Nat),(ak xs).eraseIdx i=ak (xs.eraseIdx i)
 | [],i=>by cases i <;> rfl
 | x::xs,0=>rfl
 | x::xs,i+1=>by
  show W.int (x:Nat)::(ak xs).eraseIdx i=W.int (x:Nat)::ak (xs.eraseIdx i);rw[rm xs i]
theorem nH (n:Nat):At 0 ((n:Int) - 0).toNat=ak (List.range n):=by
 unfold At ak;rw[show((n:Int) - 0).toNat=n by omega]
 exact JB fun k _=>by rw[Int.zero_add]
theorem uA {i n:Nat}(h:S[i]?=some (.rng 0 n))(hn:n<=1000)(q:Q (.ref S.length,S++[.lst (ak (List.range n))])):wO (Bi.list.fn [.ref i] S) Q:=by
 refine ae ?_ q;have h1:u6 S i=some (0,(n:Int)):=by simp[u6,h]
 have h2:jO [.ref i] S=some (.ref S.length,S++[.lst (ak (List.range n))]):=by
  simp only[jO,h1];rw[if_pos ⟨by omega,by omega,by omega,by omega,by rw[sizeLine_eq]; omega⟩,nH]
 simp only[Bi.fn,Bc,h2]
theorem vM {Φ:Str->FF}{fuel:Nat}{ρ:Fm}{K:Fm->aa->Prop}{Q:QO}{i j n:Nat}{m:Int}(hm:m=n)(hv:∀ Q:W->Prop,Q (.int m)->wV ρ i Q)(hn:n<=1000)(k:∀ (t:Nat) (S':aa),t=S.length+1->S'=S++[O.rng 0 n]++[.lst (ak (List.range n))]->K (ρ.set j (some (.ref t))) S') :
  wS Φ fuel (.set j (.bi .list (.cons (.bi .range (.cons (.v i) .nil)) .nil))) ρ S K Q:=by
 have e:Bi.range.fn [.int m] S=some (.ref S.length,S++[.rng 0 m]):=by
  simp only[Bi.fn,jh];rw[if_pos ⟨by omega,by omega⟩]
 have h:wO (Bi.list.fn [.ref S.length] (S++[O.rng 0 m])) fun p=>K (ρ.set j (some p.1)) p.2:=by
  subst hm;exact uA ag hn (k _ _ (by simp) rfl)
 have g:wO (Bi.range.fn [.int m] S) fun p=>wO (Bi.list.fn [p.1] p.2) fun p=>K (ρ.set j (some p.1)) p.2:=by
  rw[e];exact h
 dsimp only[wS,wE,wA];exact hv _ g
theorem F7 {t:Nat}{xs:List W}{v:Int}{w:W}(h:S[t]?=some (.lst xs))(h0:0<=v)(hw:xs[v.toNat]?=some w)(hl:xs.length<=1000)(q:Q (w,S.set t (.lst (xs.eraseIdx v.toNat)))):wO (Me.pop.fn (.ref t) [.int v] S) Q:=by
 refine ae ?_ q;have hv:=(Ir.mp hw).1;have hs:seqIndex? v xs.length=some v.toNat:=by
  unfold seqIndex?;rw[if_neg (show ¬ v < 0 by omega)]
  exact if_pos (by rw[(Iq)]; exact⟨Kx h0,Kx (by omega)⟩)
 simp only[Me.fn,As,cG h];rw[if_pos ⟨by omega,by omega⟩]
 simp only[hs,hw]
end
section
variable {defs:List (Str×Df)} {fuel d:Nat} {S:aa} {r:Nat} {Q:QW}
theorem BH (G:Gen defs)(hg:Is defs ("_law_drawn_points" : Str) 3 5 bN){many size:Nat}(hf:Fl S r)(hm:many<=900)(hs:size<=many)(hfu:size < fuel)(k:∀ (ps:List Nat) S',ps.length=size->ps.Nodup->(∀ p∈ps,p < many)->Fl S' r->Kp r S S'->Q (.tup (ak ps),S')) :
  wO (bR (ap defs fuel (d+2)) "_law_drawn_points" 3 [.ref r,.int many,.int size] S) Q:=by
 refine aJ hg rfl rfl fun Q' hR=>?_
 replace k:∀ (ps:List Nat) S',ps.length=size->ps.Nodup->(∀ p∈ps,p < many)->Fl S' r->Kp r S S'->Q' (.rt (.tup (ak ps)),S'):=fun a b c e f g h=>hR _ _ (k a b c e f g h)
 clear hR;show wZ _ _ bN [some (.ref r),some (.int many),some (.int size),none,none] S Q';have hrt:=hf.lt;dsimp only[bN];refine aZ fun K hK=>?_
 generalize hM:(many:Int)=M at hK ⊢;refine vM hM.symm (fun Q q=>q) (by omega) fun t S1 ht hS1=>hK _ _ ?_
 clear hK K;subst hM;dsimp only[List.set];have e1:S1[t]?=some (.lst (ak (List.range many))):=by
  rw[hS1,show t=(S++[O.rng 0 many]).length by rw[ht]; simp]; exact ag
 have l1:S.length < t:=by omega
 have f1:Fl S1 r:=by rw[hS1]; exact(hf.ka .push).ka .push
 have k1:Kp r S S1:=by rw[hS1]; exact Kp.push.trans .push
 have l2:=dg e1;clear hS1 ht;refine st ?_;dsimp only[wS,wE,wA,List.set];refine aZ fun K hK=>?_
 have nl:∀ xs:List Nat,(ak xs).length=xs.length:=fun xs=>Im ..
 refine Cf (fun m ρ S'=>ρ=[some (.ref r),some (.int many),some (.int size),some (.ref t),some (.ref S1.length)]/\∃ ls ps:List Nat,S'[t]?=some (.lst (ak ls))/\S'[S1.length]?=some (.lst (ak ps))/\(ls++ps).Nodup/\(∀ p∈ls++ps,p < many)/\ls.length+ps.length=many/\ps.length+m=size/\Fl S' r/\Kp r S S') size rfl rfl hfu ⟨rfl,List.range many,[],aq e1,ag,by rw[(Jy)]; exact List.nodup_range,fun p hp=>by rw[(Jy)]at hp; exact IU.mp hp,by simp,by simp,f1.ka .push,k1.trans .push⟩ ?_
 rintro m ρ S2 ⟨rfl,ls,ps,e2,e3,nd,lt,hl,hsz,f2,k2⟩;dsimp only[wT,wE,wA,wV,wG];refine en e3 ?_;rw[nl];dsimp only[Bm,aQ,wB];refine⟨fun h=>?_,fun h=>?_⟩
 ·have h:(ps.length:Int) < size:=IK h;refine⟨m - 1,by omega,fun Q2 hn _=>?_⟩
  clear hK k;refine st ?_;dsimp only[wS,wE,wA,wV,wG];refine⟨dj e3,dj e2,en e2 ?_⟩;rw[nl];refine bc (d:=d) G.pick f2 (by omega) (by omega) fun v S3 v0 v1 f3 k3=>?_
  have e2':=k3.get _ _ (by omega) e2
  have e3':=k3.get _ _ (by omega) e3
  have hv:v.toNat < ls.length:=by omega
  refine F7 e2' v0 (kG (Iw hv)) (by rw[nl]; omega) ?_
  have e3s:(S3.set t (.lst ((ak ls).eraseIdx v.toNat)))[S1.length]?=some (.lst (ak ps)):=by rw[b8 (by omega)]; exact e3'
  refine nz e3s (by rw[nl]; omega) (cH (hn _ _ ⟨rfl,ls.eraseIdx v.toNat,ps++[ls[v.toNat]],?_,?_,?_,?_,?_,?_,(f3.own (by omega)).own (by omega),((k2.trans k3).late (by omega)).late (by have:=k1.len; omega)⟩))
  ·rw[b8 (by omega),bX e2']
   rw[rm]
  ·rw[bX e3s];unfold ak;rw[(IV)]; rfl
  ·have hp:(ls.eraseIdx v.toNat++(ps++[ls[v.toNat]])).Perm (ls++ps):=by
    have h1:(ls[v.toNat]::ls.eraseIdx v.toNat).Perm ls:=iD hv;have h2:(ls.eraseIdx v.toNat++(ps++[ls[v.toNat]])).Perm (ls[v.toNat]::(ls.eraseIdx v.toNat++ps)):=by
     rw[<- (JK)]; exact List.perm_append_singleton _ _
    exact h2.trans ((h1.append_right ps))
   exact hp.nodup_iff.mpr nd
  ·intro p hp;refine lt p ?_;rcases IL.mp hp with h|h
   ·exact Jv _ (List.mem_of_mem_eraseIdx h)
   ·rcases IL.mp h with h|h
    ·exact II _ h
    ·rw[List.mem_singleton.mp h]; exact Jv _ (IQ hv)
  ·rw[List.length_eraseIdx_of_lt hv,(Iv),(JC)]; omega
  ·rw[(Iv),(JC)]; omega
 ·have h:¬ (ps.length:Int) < size:=Ju h;refine hK _ _ (st ?_);dsimp only[wS,wE,wA,wV,wG];exact eu e3 (k ps _ (by omega) (JP.mp nd).2.1 (fun p hp=>lt p (II _ hp)) f2 k2)
end
noncomputable def ci (n:Nat):Nat->List (List Int)
 | 0=>[[]]
 | k+1=>(List.range ((ci n k).length*n)).map fun i=>(ci n k).getD (i / n) []++[((i % n:Nat):Int)]
noncomputable def cm (a n k:Nat):List Pt:=(List.range a).flatMap fun(m:Nat)=>(ci n k).map fun ds=>(((m:Nat):Int),ds)
noncomputable def cQ (a n:Nat):Nat->List Wd
 | 0=>[[]]
 | k+1=>(List.range ((cQ a n k).length*(cm a n k).length)).map fun i=>(cQ a n k).getD (i / (cm a n k).length) []++[(cm a n k).getD (i % (cm a n k).length) (0,[])]
theorem BI {n k:Nat}{ds:List Int}:ds∈ci n k->ds.length<=k:=by
 induction k generalizing ds with
 | zero=>intro h; cases IN.mp h; exact Ip _
 | succ k ih=>
  intro h;obtain⟨i,hi,rfl⟩:=IF.mp h;have hi:=IU.mp hi;have hn:0 < n:=by
   rcases Nat.eq_zero_or_pos n with h|h
   ·rw[h,Nat.mul_zero]at hi; omega
   ·exact h
  have hlt:i / n < (ci n k).length:=JH (by rw[(KF)]; exact hi)
  have:=ih (IA (aS (d:=[]) hlt));rw[(Iv),(JC)]; omega
theorem Cg {Φ:Str->FF}{ρ:Fm}{S:aa}{a b:E}{x y:Int}{Q:QW}(ha:∀ Q:QW,Q (.int x,S)->wE Φ a ρ S Q)(hb:∀ Q:QW,Q (.int y,S)->wE Φ b ρ S Q)(h1 : -(2 ^ 64) < y)(h2:y < 2 ^ 64)(q:Q (.int (x*y),S)):wE Φ (.op .mul a b) ρ S Q:=by
 have em:fS .mul (.int x) (.int y) S=some (.int (x*y),S):=qQ h1 h2;rw[wE];refine ha _ ?_;refine hb _ ?_;dsimp only;rw[em];exact q
theorem lA {n k:Nat}(hn:n<=3)(hk:k<=2):(ci n k).length<=9/\(k<=1->(ci n k).length<=3):=by
 rcases(show k=0\/k=1\/k=2 by omega)with rfl|rfl|rfl <;> rcases(show n=0\/n=1\/n=2\/n=3 by omega)with rfl|rfl|rfl|rfl <;> decide
section
variable {defs:List (Str×Df)} {fuel d:Nat} {S:aa} {r:Nat} {Q:QW}
theorem yZ (hg:Is defs ("_law_digits" : Str) 2 4 cr){n k:Nat}(hn1:1<=n)(hn3:n<=3)(hk2:k<=2)(kk:∀ (q:Nat) (S':aa),S'[q]?=some (.lst ((ci n k).map fun ds=>.tup (af ds)))->S.length<=q->Ka S S'->Q (.ref q,S')) :
  wO (bR (ap defs fuel (d+1)) "_law_digits" 2 [.int n,.int k] S) Q:=by
 refine aJ hg rfl rfl fun Q' hR=>?_
 replace kk:∀ (q:Nat) (S':aa),S'[q]?=some (.lst ((ci n k).map fun ds=>.tup (af ds)))->S.length<=q->Ka S S'->Q' (.rt (.ref q),S'):=fun a b c e f=>hR _ _ (kk a b c e f)
 clear hR;show wZ _ _ cr [some (.int n),some (.int k),none,none] S Q';dsimp only[cr];refine st ?_;dsimp only[wS,wE,wA,List.set];refine aZ fun K hK=>?_
 refine dq (k:Int) (fun i ρ S'=>∃ (q:Nat) (a3:Option W),ρ=[some (.int n),some (.int k),some (.ref q),a3]/\S'[q]?=some (.lst ((ci n i).map fun ds=>.tup (af ds)))/\S.length<=q/\Ka S S') rfl rfl (by omega) ⟨rfl,_,_,rfl,ag,Ip _,.push⟩ ?_ ?_
 ·rintro i ρ S1 hi ⟨q,a3,rfl,e1,hq,k1⟩ Q2 hn _;clear hK kk;obtain⟨b9,b3⟩:=lA (n:=n) (k:=i) hn3 (by omega)
  have b3:=b3 (by omega)
  have hP:(ci n i).length*n<=9:=Nat.mul_le_mul b3 hn3;have hPz:(((ci n i).length:Int)*(n:Int))=(((ci n i).length*n:Nat):Int):=(Int.natCast_mul ..).symm;refine st ?_;dsimp only[wS,wE,List.set];refine cY ((((ci n i).length*n:Nat)):Int) (fun j ys ρ2 S2=>(∃ a1,ρ2=[none,a1,some (.int n),some (.ref q)])/\ys=((ci n (i+1)).take j).map (fun ds=>.tup (af ds))/\S2=S1) rfl rfl rfl (by omega) ?_ ?_ ?_
  ·refine Cg (x:=(ci n i).length) (y:=n) (fun Q q=>?_) (fun Q q=>q) (by omega) (by omega) ⟨by rw[hPz],⟨none,rfl⟩,rfl,rfl⟩
   dsimp only[wE,wA,wV,wG];refine en e1 ?_;rw[(Im)];exact q
  ·rintro j ys ρ2 S2 hj ⟨⟨a1,rfl⟩,rfl,rfl⟩;have hj':j < (ci n i).length*n:=by omega
   have hlt:j / n < (ci n i).length:=JH (by rw[(KF)]; exact hj')
   have hg:=aS (d:=[]) hlt;have hdl:=BI (IA hg);dsimp only[kE,wC,wE,wA,wV,wG,List.set];refine⟨fun _=>ae (ib (by omega) (by omega)) ?_,fun z=>by cases z⟩
   refine fM e1 (w:=.tup (af ((ci n i).getD (j / n) []))) (Int.ediv_nonneg (by omega) (by omega)) (by rw[show((j:Int) / (n:Int)).toNat=j / n from rfl,(Iu),hg]; rfl) ?_
   refine ae (iO (by omega)) (ae (jq (kF (by rw[(Iv),show(af ((ci n i).getD (j / n) [])).length=((ci n i).getD (j / n) []).length from Im ..]; show _+1<=1000; omega))) ⟨⟨_,rfl⟩,?_,rfl⟩)
   have ed:(ci n (i+1))[j]?=some ((ci n i).getD (j / n) []++[((j % n:Nat):Int)]):=by
    rw[ci,(Iu),List.getElem?_range hj']; rfl
   rw[(IT),ed];simp[af]
  ·rintro ys ρ2 S2 ⟨_,rfl,rfl⟩;have hl:(ci n (i+1)).length=(ci n i).length*n:=by rw[ci,(Im),(IS)]
   rw[(IB),<- hl,(Jf)];refine⟨kF (by rw[(Im),hl]; omega),cH (hn _ _ ⟨_,_,rfl,ag,k1.len,k1.trans .push⟩)⟩
 ·rintro ρ S1 ⟨q,a3,rfl,e1,hq,k1⟩;exact hK _ _ (st (kk q S1 (by rw[(IB)]at e1; exact e1) hq k1))
end
theorem BJ {a n k:Nat}{u:Wd}:u∈cQ a n k->u.length<=k:=by
 induction k generalizing u with
 | zero=>intro h; cases IN.mp h; exact Ip _
 | succ k ih=>
  intro h;obtain⟨i,hi,rfl⟩:=IF.mp h;have hi:=IU.mp hi;have hlt:i / (cm a n k).length < (cQ a n k).length:=JH (by rw[(KF)]; exact hi)
  have:=ih (IA (aS (d:=[]) hlt));rw[(Iv),(JC)]; omega
theorem lB {n:Nat}:∀ k:Nat,(ci n k).length=n ^ k
 | 0=>rfl
 | k+1=>by rw[ci,(Im),(IS),lB k,Nat.pow_succ]
theorem lC {a n k:Nat}:(cm a n k).length=a*n ^ k:=by
 unfold cm
 induction a with
 | zero=>simp
 | succ a ih=>rw[(JW),List.flatMap_append,(Iv),ih]; simp[lB,Nat.succ_mul]
theorem ey {a n:Nat}(k:Nat):(cQ a n (k+1)).length=(cQ a n k).length*(cm a n k).length:=by rw[cQ,(Im),(IS)]
theorem rn {a n k:Nat}(ha1:1<=a)(ha:a<=3)(hn1:1<=n)(hn:n<=3)(han:a*n<=6)(hk:k<=2):1<=(cm a n k).length/\(cm a n k).length<=27/\(cQ a n k).length*(cm a n k).length<=216:=by
 have w0:(cQ a n 0).length=1:=rfl;have w1:=ey (a:=a) (n:=n) 0;have w2:=ey (a:=a) (n:=n) 1;simp only[lC]at w1 w2 ⊢;rcases(show k=0\/k=1\/k=2 by omega)with rfl|rfl|rfl <;> rcases(show a=1\/a=2\/a=3 by omega)with rfl|rfl|rfl <;> rcases(show n=1\/n=2\/n=3 by omega)with rfl|rfl|rfl <;> simp_all
theorem lD {Φ:Str->FF}{ρ:Fm}{S:aa}{elt e:E}{tg:Tg}{cs:Es}{cap:List (Option Nat)}{Q:QW}(oi:fj e=true)(oe:fj elt=true)(oc:ug cs=true)(he:wE Φ e ρ S fun p=>∃ (t:Nat) (xs:List W) (I:Nat->List W->Fm->aa->Prop),p.1=.ref t/\I 0 [] (hW cap ρ) p.2/\(∀ i ys ρ S,I i ys ρ S->S[t]?=some (.lst xs))/\
  (∀ (i:Nat) (w:W) (ys:List W) (ρ:Fm) (S:aa),xs[i]?=some w->I i ys ρ S->wO (hX tg w ρ S) fun q=>kE Φ elt cs q.1 q.2 (fun y=>I (i+1) (ys++[y])) (I (i+1) ys))/\
  ∀ ys ρ S,I xs.length ys ρ S->ys.length<=sizeLine/\Q (.ref S.length,S++[.lst ys])):Wp (aF Φ (.comp elt tg (.seq e) cs cap) ρ S) Q:=by
 obtain⟨w,S1,e1,t,xs,I,rfl,h0,hat,hstep,hend⟩:=cX oi he;exact lq (mi:=.live t) (S1:=S1) I oe oc (by simp only[nt,fL,e1,aK (hat _ _ _ _ h0)]) (fun i ys ρ S h=>by simp only[MI.at,aK (hat _ _ _ _ h)]) (by simp only[MI.len,aK (hat _ _ _ _ h0),Option.map_some]) h0 hstep hend
section
variable {defs:List (Str×Df)} {fuel d:Nat} {S:aa} {r:Nat} {Q:QW}
theorem F8 {t l:Nat}{xs ys:List W}(h:S[t]?=some (.lst xs))(h2:S[l]?=some (.lst ys))(hl:xs.length+ys.length<=1000)(q:Q (.non,S.set t (.lst (xs++ys)))):wO (Me.extend.fn (.ref t) [.ref l] S) Q:=by
 refine ae ?_ q;simp only[Me.fn,iC,cG h,cG h2];rw[if_pos (kF hl)]
theorem y4 (hd:Is defs ("_law_digits" : Str) 2 4 cr)(hg:Is defs ("_law_worlds" : Str) 2 6 c9){a n:Nat}{M N:List W}{b0:W}(hM:M.length=a)(hN:N.length=n)(ha1:1<=a)(ha3:a<=3)(hn1:1<=n)(hn3:n<=3)(han:a*n<=6)
  (kk:∀ (q:Nat) (S':aa),S'[q]?=some (.lst ((cQ a n 3).map aY))->S.length<=q->Ka S S'->Q (.ref q,S')) :
  wO (bR (ap defs fuel (d+2)) "_law_worlds" 2 [.tup [.tup M,.tup N,b0],.int 3] S) Q:=by
 refine aJ hg rfl rfl fun Q' hR=>?_
 replace kk:∀ (q:Nat) (S':aa),S'[q]?=some (.lst ((cQ a n 3).map aY))->S.length<=q->Ka S S'->Q' (.rt (.ref q),S'):=fun a b c e f=>hR _ _ (kk a b c e f)
 clear hR;show wZ _ _ c9 [some (.tup [.tup M,.tup N,b0]),some (.int 3),none,none,none,none] S Q';generalize hR0:W.tup [.tup M,.tup N,b0]=R;dsimp only[c9];refine st ?_;dsimp only[wS,wE,wA,List.set];refine aZ fun K hK=>?_
 refine dq 3 (fun i ρ S'=>∃ (q:Nat) (a3 a4 a5:Option W),ρ=[some R,some (.int 3),some (.ref q),a3,a4,a5]/\S'[q]?=some (.lst ((cQ a n i).map aY))/\S.length<=q/\Ka S S') rfl rfl (by decide) ⟨rfl,_,_,_,_,rfl,ag,Ip _,.push⟩ ?_ ?_
 ·rintro i ρ S1 hi ⟨q,a3,a4,a5,rfl,e1,hq,k1⟩ Q2 hn _;clear hK kk;have hi2:i<=2:=by omega
  obtain⟨p1,p27,hP⟩:=rn (k:=i) ha1 ha3 hn1 hn3 han hi2;have hq1:=dg e1;refine st ?_;dsimp only[wS,wE,wA,List.set];refine aZ fun K hK=>?_
  refine iU rfl rfl ?_;dsimp only[wE,wA,wV,wG];subst hR0;refine aw (by decide) rfl (bZ ?_)
  rw[hM];refine⟨(a:Int),fun m ρ S'=>∃ a5,ρ=[some (.tup [.tup M,.tup N,b0]),some (.int 3),some (.ref q),some (.int i),some (.ref S1.length),a5]/\S'[S1.length]?=some (.lst ((cm m n i).map fm))/\S'[q]?=some (.lst ((cQ a n i).map aY))/\Ka S S',rfl,by omega,⟨a5,rfl,ag,aq e1,k1.trans .push⟩,?_,?_⟩
  ·rintro m ρ S2 hm ⟨a5,rfl,e2,e2q,k2⟩ Q3 hn3' _;clear hK hn;have hS12:=dg e2;refine st ?_;dsimp only[wS,wE,wA,wV,wG,List.set];refine⟨dj e2,?_⟩;refine lD rfl rfl rfl ?_;dsimp only[wE,wA,wV,wG];refine aw (by decide) rfl (bZ ?_)
   rw[hN];refine yZ (d:=d) hd hn1 hn3 hi2 fun l S3 e3 hl k3=>?_
   refine⟨l,(ci n i).map fun ds=>.tup (af ds),fun j ys ρ2 S4=>(∃ a1,ρ2=[none,a1,some (.int m)])/\ys=((ci n i).take j).map (fun ds=>fm ((m:Int),ds))/\S4=S3,rfl,⟨⟨none,rfl⟩,rfl,rfl⟩,fun j ys ρ2 S4 h=>by rw[h.2.2]; exact e3,?_,?_⟩
   ·rintro j w ys ρ2 S4 hw ⟨⟨a1,rfl⟩,rfl,rfl⟩;rw[(Iu),(Io)]at hw;obtain⟨ds,hds,rfl⟩:=hw;refine ae (show hX (.nm 1) (.tup (af ds)) [none,a1,some (.int m)] S4=some ([none,some (.tup (af ds)),some (.int m)],S4)from rfl) ?_
    refine⟨fun _=>⟨⟨_,rfl⟩,?_,rfl⟩,fun z=>by cases z⟩
    rw[(IT),hds];simp[fm,af]
   ·rintro ys ρ2 S4 ⟨_,rfl,rfl⟩;rw[show((ci n i).map fun ds=>W.tup (af ds)).length=(ci n i).length from List.length_map ..,(Jf)]
    have hdl:=(lA (n:=n) (k:=i) hn3 hi2).1;have e2':=aq (u:=O.lst ((ci n i).map fun ds=>fm ((m:Int),ds))) (k3.get _ _ e2)
    have hpm:(cm m n i).length<=27:=by
     rw[lC]at p27 ⊢;exact IC (Nat.mul_le_mul_right _ (by omega)) p27
    refine⟨kF (by rw[(Im)]; omega),F8 e2' ag (by rw[(Im),(Im)]; omega) (cH (hn3' _ _ ⟨_,rfl,?_,?_,((k2.trans k3).trans .push).late k1.len⟩))⟩
    ·rw[bX e2'];unfold cm;rw[(JW),List.flatMap_append,(IV)];simp
    ·rw[b8 (by omega)]; exact aq (k3.get _ _ e2q)
  ·rintro ρ S2 ⟨a5,rfl,e2,e2q,k2⟩;rw[(IB)]at e2;refine hK _ _ ?_;clear hK K;have hPz:(((cQ a n i).length:Int)*((cm a n i).length:Int))=(((cQ a n i).length*(cm a n i).length:Nat):Int):=(Int.natCast_mul ..).symm;refine st ?_;dsimp only[wS,wE,List.set];refine cY (((cQ a n i).length*(cm a n i).length:Nat):Int) (fun j ys ρ2 S3=>(∃ a1,ρ2=[none,a1,some (.ref S1.length),some (.ref q)])/\ys=((cQ a n (i+1)).take j).map aY/\S3=S2) rfl rfl rfl (by omega) ?_ ?_ ?_
   ·refine Cg (x:=(cQ a n i).length) (y:=(cm a n i).length) (fun Q q'=>?_) (fun Q q'=>?_) (by omega) (by omega) ⟨by rw[hPz],⟨none,rfl⟩,rfl,rfl⟩
    ·dsimp only[wE,wA,wV,wG];refine en e2q ?_;rw[(Im)];exact q'
    ·dsimp only[wE,wA,wV,wG];refine en e2 ?_;rw[(Im)];exact q'
   ·rintro j ys ρ2 S3 hj ⟨⟨a1,rfl⟩,rfl,rfl⟩;have hj':j < (cQ a n i).length*(cm a n i).length:=by omega
    have hlt:j / (cm a n i).length < (cQ a n i).length:=JH (by rw[(KF)]; exact hj')
    have hg:=aS (d:=[]) hlt;have hwl:=BJ (IA hg);have hmod:j % (cm a n i).length < (cm a n i).length:=Nat.mod_lt _ p1;have hp:=aS (d:=(0,[])) hmod;dsimp only[kE,wC,wE,wA,wV,wG,List.set];refine⟨fun _=>en e2 ?_,fun z=>by cases z⟩
    rw[(Im)];refine ae (ib (by omega) (by omega)) ?_
    refine fM e2q (w:=aY ((cQ a n i).getD (j / (cm a n i).length) [])) (Int.ediv_nonneg (by omega) (by omega)) (by rw[show((j:Int) / ((cm a n i).length:Int)).toNat=j / (cm a n i).length from rfl,(Iu),hg]; rfl) (en e2 ?_)
    rw[(Im)];refine ae (iO (by omega)) (fM e2 (w:=fm ((cm a n i).getD (j % (cm a n i).length) (0,[]))) (JS _ (by omega)) (by rw[show((j:Int) % ((cm a n i).length:Int)).toNat=j % (cm a n i).length from rfl,(Iu),hp]; rfl) ?_)
    refine ae (jq (kF (by rw[(Iv),(Im)]; show _+1<=1000; omega))) ⟨⟨_,rfl⟩,?_,rfl⟩
    have ed:(cQ a n (i+1))[j]?=some ((cQ a n i).getD (j / (cm a n i).length) []++[(cm a n i).getD (j % (cm a n i).length) (0,[])]):=by
     rw[cQ,(Iu),List.getElem?_range hj']; rfl
    rw[(IT),ed];simp[aY]
   ·rintro ys ρ2 S3 ⟨_,rfl,rfl⟩;rw[(IB),<- ey,(Jf)];exact⟨kF (by rw[(Im),ey]; omega),cH (hn _ _ ⟨_,_,_,_,rfl,ag,k2.len,k2.trans .push⟩)⟩
 ·rintro ρ S1 ⟨q,a3,a4,a5,rfl,e1,hq,k1⟩;exact hK _ _ (st (kk q S1 e1 hq k1))
end
noncomputable def dH (a:Nat)(bs:List Int):List Wd:=(cQ a bs.length 3).map (j4 bs)
noncomputable def cp (a:Nat)(bs:List Int):Bool:=match jR ((dH a bs).map dw)with
 | some ks=>decide ks.Nodup && !ks.isEmpty
 | none=>false
theorem HB:cp 1 [0]=true/\cp 2 [0]=true/\cp 3 [0]=true:=by decide +kernel
theorem Gp:cp 1 [0,1]=true/\cp 2 [0,1]=true/\cp 1 [1,0]=true/\cp 2 [1,0]=true:=by decide +kernel
theorem HC:cp 1 [0,1,2]=true/\cp 1 [1,0,2]=true/\cp 1 [0,2,1]=true:=by decide +kernel
theorem HD:cp 3 [0,1]=true:=by decide +kernel
theorem HE:cp 3 [1,0]=true:=by decide +kernel
theorem HF:cp 2 [0,1,2]=true:=by decide +kernel
theorem HG:cp 2 [1,0,2]=true:=by decide +kernel
theorem HH:cp 2 [0,2,1]=true:=by decide +kernel
noncomputable def gW (bs:List Int)(v:Wd)(ps:List Nat)(i:Nat):Pt:=((v.getD i (0,[])).1,ps.map fun q=>eQ bs v i q)
noncomputable def da (n:Nat)(os:List (List Nat)):List (List Nat):=os.flatMap fun o=>((List.range n).filter fun p=>decide (p∉o)).map fun p=>o++[p]
noncomputable def bE (bs:List Int)(u v:Wd):Nat->List (List Nat)
 | 0=>[[]]
 | k+1=>(da v.length (bE bs u v k)).filter fun o=>decide (gW bs v o.dropLast (o.getLastD 0)=u.getD k (0,[]))
noncomputable def dL (bs:List Int)(u v:Wd):Nat->List (List Nat)
 | 0=>[[]]
 | k+1=>(dL bs u v k).flatMap fun o=>((List.range v.length).filter fun p=>decide (p∉o)&&decide (aT bs u (List.range (k+1))=aT bs v (o++[p]))).map fun p=>o++[p]
theorem nI (bs:List Int)(v:Wd)(o:List Nat)(p:Nat):aT bs v (o++[p])=aT bs v o++[gW bs v o p]:=by
 unfold aT gW;rw[(Iv),(JC),(JW),(IV)];congr 1
 ·refine JB fun k hk=>?_
  have hk:=IU.mp hk;rw[show(o++[p]).getD k 0=o.getD k 0 by simp[List.getElem?_append_left hk],List.take_append_of_le_length (by omega)]
 ·simp
theorem sK {xs:List Int}{k:Nat}(h:xs.length=k):(List.range k).map (fun q=>xs.getD q 0)=xs:=by
 apply Kh
 ·simp[h]
 ·intro i h1 h2; simp[h2]
theorem nJ {bs:List Int}{a n:Nat}{u:Wd}{k:Nat}(hu:GoodW a n u)(hk:k < u.length):gW bs u (List.range k) k=u.getD k (0,[]):=by
 unfold gW;have hl:=hu.len k _ (aS (d:=(0,[])) hk);have e:((List.range k).map fun q=>eQ bs u k q)=(u.getD k (0,[])).2:=by
  refine Eq.trans (JB fun q hq=>?_) (sK hl)
  have hq:=IU.mp hq;unfold eQ;rw[if_pos hq]
 rw[e]
theorem y6 {α:Type}{a b:List α}{x y:α}(h:a=b):(a++[x]=b++[y])=(y=x):=by
 subst h; simp[eq_comm]
structure LkOk (bs:List Int)(u v:Wd)(k:Nat)(o:List Nat):Prop where
 len:o.length=k
 nd:o.Nodup
 lt:∀ p∈o,p < v.length
 prt:aT bs u (List.range k)=aT bs v o
theorem o9 {bs:List Int}{u v:Wd}:∀ {k:Nat},∀ o∈dL bs u v k,LkOk bs u v k o
 | 0,o,h=>by
  cases IN.mp h;exact⟨rfl,.nil,fun p hp=>by simp at hp,rfl⟩
 | k+1,o,h=>by
  obtain⟨o',h1,h2⟩:=List.mem_flatMap.mp h;obtain⟨p,hp,rfl⟩:=IF.mp h2;obtain⟨hp1,hp2⟩:=JE.mp hp;simp only[Bool.and_eq_true,decide_eq_true_eq]at hp2;have ih:=o9 o' h1;refine⟨by rw[(Iv),ih.len]; rfl,?_,fun q hq=>?_,hp2.2⟩
  ·rw[(JP)];exact⟨ih.nd,by simp,fun a ha b hb=>by rw[List.mem_singleton.mp hb]; exact fun e=>hp2.1 (e ▸ ha)⟩
  ·rcases IL.mp hq with h|h
   ·exact ih.lt q h
   ·rw[List.mem_singleton.mp h]; exact IU.mp hp1
theorem jW {α β:Type}{f:α->List β}{q:β->Bool}:∀ xs:List α,(xs.flatMap f).filter q=xs.flatMap fun x=>(f x).filter q
 | []=>rfl
 | x::xs=>by rw[(J7),(J7),(Kj),jW xs]
theorem lE {α β:Type}{f g:α->List β}:∀ {xs:List α},(∀ x∈xs,f x=g x)->xs.flatMap f=xs.flatMap g
 | [],_=>rfl
 | x::xs,h=>by rw[(J7),(J7),h x (.head _),lE fun y hy=>h y (.tail _ hy)]
theorem gB {bs:List Int}{a n:Nat}{u v:Wd}(hu:GoodW a n u):∀ {k:Nat},k<=u.length->bE bs u v k=dL bs u v k
 | 0,_=>rfl
 | k+1,hk=>by
  rw[bE,dL,gB hu (by omega),da,jW]
  refine lE fun o ho=>?_
  have ok:=o9 o ho;rw[List.filter_map,List.filter_filter];congr 1;refine List.filter_congr fun p hp=>?_
  rw[nI,(JW),nI];have e1:=nJ (bs:=bs) hu (show k < u.length by omega)
  simp only[Function.comp,List.dropLast_concat,y6 ok.prt,e1];rw[show(o++[p]).getLastD 0=p by simp]
  rw[Bool.and_comm]
theorem nK {bs:List Int}{a n:Nat}{u:Wd}(hu:GoodW a n u):∀ {k:Nat},k<=u.length->List.range k∈bE bs u u k
 | 0,_=>by simp[bE]
 | k+1,hk=>by
  rw[bE,(JE)];refine⟨List.mem_flatMap.mpr ⟨List.range k,nK hu (by omega),IF.mpr ⟨k,JE.mpr ⟨IU.mpr (by omega),by simp⟩,JW.symm⟩⟩,?_⟩
  rw[(JW),List.dropLast_concat,show(List.range k++[k]).getLastD 0=k by simp,nJ hu (by omega)]
  simp
theorem iW {n:Nat}:∀ os:List (List Nat),(da n os).length<=os.length*n
 | []=>by simp[da]
 | o::os=>by
  have ih:=iW (n:=n) os;unfold da at ih ⊢;rw[(J7),(Iv),(Im),(JN),Nat.succ_mul];have:=JO (fun p=>decide (p∉o)) (List.range n)
  rw[(IS)]at this;omega
theorem vN {n:Nat}{os:List (List Nat)}{i:Nat}:(da n (os.take i)).length<=os.length*n:=by
 refine IC (iW _) (Nat.mul_le_mul_right _ ?_);rw[(Jq)]; omega
theorem gf {bs:List Int}{u v:Wd}:∀ k:Nat,(bE bs u v k).length<=v.length ^ k
 | 0=>Ip _
 | k+1=>by
  rw[bE,Nat.pow_succ];exact IC (JO _ _) (IC (iW _) (Nat.mul_le_mul_right _ (gf k)))
theorem nL {bs:List Int}{u v:Wd}{k:Nat}{o:List Nat}(h:o∈da v.length (bE bs u v k)):(∀ o'∈bE bs u v k,o'.length=k/\o'.Nodup/\∀ p∈o',p < v.length)->o.length=k+1/\o.Nodup/\∀ p∈o,p < v.length:=fun ih=>by
 obtain⟨o',h1,h2⟩:=List.mem_flatMap.mp h;obtain⟨p,hp,rfl⟩:=IF.mp h2;obtain⟨hp1,hp2⟩:=JE.mp hp;have hp2:p∉o':=IK hp2;obtain⟨i1,i2,i3⟩:=ih o' h1;refine⟨by rw[(Iv),i1]; rfl,?_,fun q hq=>?_⟩
 ·rw[(JP)];exact⟨i2,by simp,fun a ha b hb=>by rw[List.mem_singleton.mp hb]; exact fun e=>hp2 (e ▸ ha)⟩
 ·rcases IL.mp hq with h|h
  ·exact i3 q h
  ·rw[List.mem_singleton.mp h]; exact IU.mp hp1
theorem gg {bs:List Int}{u v:Wd}:∀ {k:Nat},∀ o∈bE bs u v k,o.length=k/\o.Nodup/\∀ p∈o,p < v.length
 | 0,o,h=>by cases IN.mp h; exact⟨rfl,.nil,fun p hp=>by simp at hp⟩
 | k+1,o,h=>by
  rw[bE]at h;exact nL (JE.mp h).1 gg
theorem jz {S:aa}{d:Nat}:∀ xs ys:List Int,g7 (ja S d) (xs.map W.int) (ys.map W.int)=some (decide (xs=ys))
 | [],[]=>rfl
 | [],_::_=>rfl
 | _::_,[]=>rfl
 | x::xs,y::ys=>by
  have e:ja S d (.int x) (.int y)=some (x==y):=by cases d <;> rfl
  simp only[List.map_cons,g7,e,jz xs ys]
  by_cases h:x=y
  ·subst h; by_cases h2:xs=ys <;> simp[h2]
  ·have h':(x==y)=false:=by simpa using h
   simp[h,h']
theorem y8 {S:aa}{d:Nat}(p q:Pt):ja S (d+2) (fm p) (fm q)=some (decide (p=q)):=by
 obtain⟨m,ws⟩:=p;obtain⟨m',ws'⟩:=q;show g7 (ja S (d+1)) [.int m,.tup (ws.map W.int)] [.int m',.tup (ws'.map W.int)]=_;have e:ja S (d+1) (.int m) (.int m')=some (m==m'):=rfl;have e2:ja S (d+1) (.tup (ws.map W.int)) (.tup (ws'.map W.int))=some (decide (ws=ws')):=jz ws ws';simp only[g7,e,e2]
 by_cases h:m=m'
 ·subst h; by_cases h2:ws=ws' <;> simp[h2]
 ·have h':(m==m')=false:=by simpa using h
  simp[h,h']
theorem rq {S:aa}{d:Nat}:∀ u v:Wd,g7 (ja S (d+2)) (u.map fm) (v.map fm)=some (decide (u=v))
 | [],[]=>rfl
 | [],_::_=>rfl
 | _::_,[]=>rfl
 | x::xs,y::ys=>by
  simp only[List.map_cons,g7,y8,rq xs ys]
  by_cases h:x=y
  ·subst h; by_cases h2:xs=ys <;> simp[h2]
  ·simp[h]
theorem F9 {S:aa}{p q:Pt}:dh .eq (fm p) (fm q) S=some (.bl (decide (p=q)),S):=by
 show(ja S (18+2) (fm p) (fm q)).map _=_;rw[y8]; rfl
theorem DT {S:aa}{u v:Wd}:dh .eq (aY u) (aY v) S=some (.bl (decide (u=v)),S):=by
 show(g7 (ja S (17+2)) (u.map fm) (v.map fm)).map _=_;rw[rq]; rfl
theorem vO (ps:List Nat):ak ps=(ps.map fun(p:Nat)=>(p:Int)).map W.int:=by unfold ak; rw[List.map_map]; rfl
theorem rz {p:Nat}:∀ ps:List Nat,((ak ps).any fun z=>zv z (.int p))=decide (p∈ps)
 | []=>rfl
 | q::ps=>by
  show((q:Int)==(p:Int)||(ak ps).any _)=_
  rw[rz ps]
  by_cases h:q=p
  ·subst h; simp
  ·have h1:((q:Int)==(p:Int))=false:=by simp; omega
   have h2:¬ p=q:=fun e=>h e.symm
   rw[h1]; simp[h2]
theorem vP (ps:List Nat):(ak ps).all cv=true:=by
 rw[(IJ)];intro x hx;obtain⟨p,_,rfl⟩:=IF.mp hx;rfl
theorem rA {S:aa}{p:Nat}{ps:List Nat}:dh .notin (.int p) (.tup (ak ps)) S=some (.bl (decide (p∉ps)),S):=by
 show jd .notin (.int p) (.tup (ak ps)) S=_;have hf:(cv (.int p)&&(ak ps).all cv)=true:=by rw[vP]; rfl
 simp only[jd,Ei,BX,eW,hf,if_true,Option.map_some,rz];congr 3
 by_cases h:p∈ps <;> simp[h]
theorem y9 {xs:List W}:je xs none (some (-1))=xs.dropLast:=by
 unfold je;rw[HT.kL,List.drop_zero,Nat.sub_zero,List.dropLast_eq_take];congr 1;show(if (-1:Int) < 0 then((-1:Int)+(xs.length:Int)).toNat else min (-1:Int).toNat xs.length)=_
 rw[if_pos (by decide)]; omega
theorem vQ (ps:List Nat):(ak ps).dropLast=ak ps.dropLast:=by unfold ak; rw[List.map_dropLast]
theorem BK {S:aa}{ps:List Nat}(h:ps≠[]):pI (.tup (ak ps)) (.int (-1)) S=some (.int (ps.getLastD 0:Nat),S):=by
 have hl:(ak ps).length=ps.length:=Im ..;have hp:0 < ps.length:=List.length_pos_iff.mpr h;have hs:sQ (ak ps).length (-1)=some (ps.length - 1):=by
  rw[hl];unfold sQ;rw[if_neg (by decide)]
  exact(if_pos (by omega)).trans (by congr 1; omega)
 have hg:(ak ps)[ps.length - 1]?=some (.int (ps.getLastD 0:Nat)):=by
  refine kG ?_;rw[List.getLastD_eq_getLast?,List.getLast?_eq_getElem?];have:ps.length - 1 < ps.length:=by omega
  simp[this]
 simp only[pI,uT,pP,hs,hg,Option.bind_some,Option.map_some]
noncomputable def bB:Ss:=
 (.cons (.set 2 (.lst .nil))
 (.cons (.loop (.nm 3) (.seq (.v 0)) (.cons (.ex (.me .extend (.v 2) (.cons (.comp (.op .add (.v 2) (.tup (.cons (.v 1) .nil))) (.nm 1) (.rng (.cons (.v 1) .nil)) (.cons (.cmp .notin (.v 1) (.v 2)) .nil) [none,none,some 3]) .nil)))
 .nil))
 (.cons (.ret (.v 2))
 .nil)))
noncomputable def cu:Ss:=
 (.cons (.set 3 (.lst (.cons (.tup .nil) .nil)))
 (.cons (.loop (.nm 4) (.seq (.v 1)) (.cons (.set 5 (.own "longer_orders" 2 (.cons (.v 3) (.cons (.bi .len (.cons (.v 2) .nil)) .nil))))
 (.cons (.set 3 (.comp (.v 1) (.nm 1) (.seq (.v 5)) (.cons (.cmp .eq (.own "point_over" 4 (.cons (.v 4) (.cons (.v 2) (.cons (.sl (.v 1) .no (.yes (.neg (.c (.int 1))))) (.cons (.ix (.v 1) (.neg (.c (.int 1)))) .nil))))) (.v 3)) .nil) [none,none,some 2,some 4,some 0]))
 .nil)))
 (.cons (.ret (.v 3))
 .nil)))
noncomputable def aL (os:List (List Nat)):List W:=os.map fun o=>.tup (ak o)
section
variable {defs:List (Str×Df)} {fuel d:Nat} {S:aa} {Q:QW}
theorem DU {t l:Nat}{xs ys:List W}(h:S[t]?=some (.lst xs))(h2:S[l]?=some (.lst ys))(hl:xs.length+ys.length<=1000000)(q:Q (.non,S.set t (.lst (xs++ys)))):wO (Me.extend.fn (.ref t) [.ref l] S) Q:=by
 refine ae ?_ q;simp only[Me.fn,iC,cG h,cG h2];rw[if_pos (by rw[sizeLine_eq]; omega)]
theorem lF {n:Nat}(h:n<=1000000):n<=sizeLine:=by rw[(Ja)]; omega
theorem za (hg:Is defs ("longer_orders" : Str) 2 4 bB){n l:Nat}{os:List (List Nat)}(e:S[l]?=some (.lst (aL os)))(hn:n<=100)(hol:∀ o∈os,o.length<=100)(hos:os.length*n<=100000)
  (k:∀ (q:Nat) (S':aa),S'[q]?=some (.lst (aL (da n os)))->S.length<=q->Ka S S'->Q (.ref q,S')) :
  wO (bR (ap defs fuel (d+1)) "longer_orders" 2 [.ref l,.int n] S) Q:=by
 refine aJ hg rfl rfl fun Q' hR=>?_
 replace k:∀ (q:Nat) (S':aa),S'[q]?=some (.lst (aL (da n os)))->S.length<=q->Ka S S'->Q' (.rt (.ref q),S'):=fun a b c e f=>hR _ _ (k a b c e f)
 clear hR;show wZ _ _ bB [some (.ref l),some (.int n),none,none] S Q';have hlS:=dg e;dsimp only[bB];refine st ?_;dsimp only[wS,wE,wA,List.set];refine aZ fun K hK=>?_
 refine uh l (aL os) (fun i ρ S'=>(∃ a3,ρ=[some (.ref l),some (.int n),some (.ref S.length),a3])/\S'[l]?=some (.lst (aL os))/\S'[S.length]?=some (.lst (aL (da n (os.take i))))/\Ka S S') rfl rfl ⟨rfl,⟨none,rfl⟩,aq e,ag,.push⟩ (fun i ρ S' h=>h.2.1) ?_ ?_
 ·rintro i w ρ S1 hw ⟨⟨a3,rfl⟩,e0,e1,k1⟩;clear hK k;unfold aL at hw;rw[(Iu),(Io)]at hw;obtain⟨o,ho,rfl⟩:=hw;have hol:=hol o (IA ho);refine ae (show hX (.nm 3) (.tup (ak o)) [some (.ref l),some (.int n),some (.ref S.length),a3] S1=some ([some (.ref l),some (.int n),some (.ref S.length),some (.tup (ak o))],S1)from rfl) ?_
  intro Q2 hn _;refine st ?_;dsimp only[wS,wE,wA,wV,wG];refine⟨dj e1,?_⟩;refine cY (n:Int) (fun j ys ρ2 S2=>(∃ a1,ρ2=[none,a1,some (.tup (ak o))])/\ys=aL (((List.range j).filter fun p=>decide (p∉o)).map fun p=>o++[p])/\S2=S1) rfl rfl rfl (by omega) ⟨rfl,⟨none,rfl⟩,rfl,rfl⟩ ?_ ?_
  ·rintro j ys ρ2 S2 hj ⟨⟨a1,rfl⟩,rfl,rfl⟩;dsimp only[kE,wC,wE,wA,wV,wG,List.set];refine ae rA ?_;dsimp only[wB];have er:(List.range (j+1)).filter (fun p=>decide (p∉o))=(List.range j).filter (fun p=>decide (p∉o))++(if j∉o then[j]else[]):=by
    rw[(JW),(Kj)];congr 1
    by_cases h:j∈o <;> simp[h]
   refine⟨fun h=>?_,fun h=>⟨⟨_,rfl⟩,?_,rfl⟩⟩
   ·have h:j∉o:=IK h;refine ae (jq (lF (by rw[(Iv),show(ak o).length=o.length from List.length_map ..]; show _+1<=_; omega))) ⟨⟨_,rfl⟩,?_,rfl⟩
    rw[er,if_pos h,(IV)];unfold aL;rw[(IV)];simp[ak]
   ·have h:¬ j∉o:=Ju h;rw[er,if_neg h,(Jy)]
  ·rintro ys ρ2 S2 ⟨_,rfl,rfl⟩;rw[(IB)];have hlen:(aL (((List.range n).filter fun p=>decide (p∉o)).map fun p=>o++[p])).length<=n:=by
    unfold aL;rw[(Im),(Im)];exact IC (JO _ _) (by rw[(IS)]; exact Ip _)
   have e1':=aq (u:=O.lst (aL (((List.range n).filter fun p=>decide (p∉o)).map fun p=>o++[p]))) e1
   have hlt:=vN (n:=n) (os:=os) (i:=i);have hlw:(aL (da n (os.take i))).length=(da n (os.take i)).length:=Im ..;refine⟨lF (by omega),DU e1' ag (by omega) (cH (hn _ _ ⟨⟨_,rfl⟩,?_,?_,(k1.trans .push).late (Ip _)⟩))⟩
   ·rw[b8 (by omega)]; exact aq e0
   ·rw[bX e1'];unfold da aL;rw[(IT),ho];simp
 ·rintro ρ S1 ⟨⟨a3,rfl⟩,e0,e1,k1⟩;rw[show(aL os).length=os.length from List.length_map ..,(Jf)]at e1
  exact hK _ _ (st (k _ _ e1 (Ip _) k1))
theorem dU (P:Parts defs)(hg:Is defs ("longer_orders" : Str) 2 4 bB)(hl:Is defs ("likenesses" : Str) 3 6 cu){m0 b0:W}{ns:List Str}{bs:List Int}{a:Nat}{u v:Wd}(hb:GoodB bs)(hnl:ns.length=bs.length)(hv:GoodW a bs.length v)(hu5:u.length<=5)(hv5:v.length<=5)
  (k:∀ (q:Nat) (S':aa),S'[q]?=some (.lst (aL (bE bs u v u.length)))->S.length<=q->Ka S S'->Q (.ref q,S')) :
  wO (bR (ap defs fuel (d+3)) "likenesses" 3 [.tup [m0,.tup (List.zipWith bA ns bs),b0],aY u,aY v] S) Q:=by
 refine aJ hl rfl rfl fun Q' hR=>?_
 replace k:∀ (q:Nat) (S':aa),S'[q]?=some (.lst (aL (bE bs u v u.length)))->S.length<=q->Ka S S'->Q' (.rt (.ref q),S'):=fun a b c e f=>hR _ _ (k a b c e f)
 clear hR;show wZ _ _ cu [some (.tup [m0,.tup (List.zipWith bA ns bs),b0]),some (aY u),some (aY v),none,none,none] S Q';generalize hR0:W.tup [m0,.tup (List.zipWith bA ns bs),b0]=R;dsimp only[cu];refine st ?_;dsimp only[wS,wE,wA,List.set];refine aZ fun K hK=>?_
 refine for_tup (u.map fm) (fun i ρ S'=>∃ (q:Nat) (a4 a5:Option W),ρ=[some R,some (aY u),some (aY v),some (.ref q),a4,a5]/\S'[q]?=some (.lst (aL (bE bs u v i)))/\S.length<=q/\Ka S S') rfl rfl ⟨rfl,_,_,_,rfl,ag,Ip _,.push⟩ ?_ ?_
 ·rintro i w ρ S1 hw ⟨q,a4,a5,rfl,e1,hq,k1⟩;clear hK k;rw[(Iu),(Io)]at hw;obtain⟨p,hp,rfl⟩:=hw;have hi:i < u.length:=(Ir.mp hp).1;have hlen:(bE bs u v i).length<=3125:=IC (gf i) (IC (Kn hv5 i) (IC (Kc (by decide) (show i<=5 by omega)) (by decide)))
  have hmul:(bE bs u v i).length*v.length<=15625:=Nat.mul_le_mul hlen hv5;refine ae (show hX (.nm 4) (fm p) [some R,some (aY u),some (aY v),some (.ref q),a4,a5] S1=some ([some R,some (aY u),some (aY v),some (.ref q),some (fm p),a5],S1)from rfl) ?_
  intro Q2 hn _;refine st ?_;dsimp only[wS,wE,wA,wV,wG,List.set];refine bZ ?_;rw[show(v.map fm).length=v.length from List.length_map ..]
  refine za (d:=d+1) hg e1 (by omega) (fun o ho=>by have:=(gg o ho).1; omega) (by omega) fun l S2 e2 hl2 k2=>?_
  refine st ?_;dsimp only[wS,wE,wA,wV,wG,List.set];refine oQ l (aL (da v.length (bE bs u v i))) (fun j ys ρ2 S3=>(∃ a1,ρ2=[none,a1,some (aY v),some (fm p),some R])/\ys=aL (((da v.length (bE bs u v i)).take j).filter fun o=>decide (gW bs v o.dropLast (o.getLastD 0)=p))/\S3[l]?=some (.lst (aL (da v.length (bE bs u v i))))/\Ka S2 S3) rfl rfl rfl ⟨rfl,⟨none,rfl⟩,rfl,e2,.refl⟩ (fun j ys ρ2 S3 h=>h.2.2.1) ?_ ?_
  ·rintro j w ys ρ2 S3 hw ⟨⟨a1,rfl⟩,rfl,e3,k3⟩;unfold aL at hw;rw[(Iu),(Io)]at hw;obtain⟨o,ho,rfl⟩:=hw;obtain⟨g1,g2,g3⟩:=nL (IA ho) gg;have hne:o≠[]:=fun z=>by rw[z]at g1; cases g1
   have hod:o=o.dropLast++[o.getLastD 0]:=by
    conv=>lhs; rw[<- List.dropLast_concat_getLast hne]
    rw[List.getLastD_eq_getLast?,List.getLast?_eq_some_getLast hne]; rfl
   have hg2:o.getLastD 0 < v.length:=g3 _ (by rw[List.getLastD_eq_getLast?,List.getLast?_eq_some_getLast hne]; exact List.getLast_mem hne)
   refine ae (show hX (.nm 1) (.tup (ak o)) [none,a1,some (aY v),some (fm p),some R] S3=some ([none,some (.tup (ak o)),some (aY v),some (fm p),some R],S3)from rfl) ?_
   dsimp only[kE,wC,wE,wA,wP,wV,wG,wN];refine ae (BK hne) ?_;dsimp only;rw[y9,vQ];subst hR0;refine DS (d:=d) P hb hnl hv (fun q hq=>⟨g3 q ((List.dropLast_sublist o).subset hq),?_⟩) hg2 (by rw[List.length_dropLast]; omega) fun S4 k4=>?_
   ·rw[hod,(JP)]at g2;exact fun e=>g2.2.2 q hq _ (IN.mpr rfl) e.symm
   ·refine ae (F9 (p:=gW bs v o.dropLast (o.getLastD 0)) (q:=p)) ?_;dsimp only[wB];refine⟨fun h=>⟨⟨_,rfl⟩,?_,k4.get _ _ e3,k3.trans k4⟩,fun h=>⟨⟨_,rfl⟩,?_,k4.get _ _ e3,k3.trans k4⟩⟩
    ·have e:(Option.toList (some o)).filter (fun o=>decide (gW bs v o.dropLast (o.getLastD 0)=p))=[o]:=List.filter_cons_of_pos h
     rw[(IT),ho,(Kj),e];unfold aL;rw[(IV)]; rfl
    ·have e:(Option.toList (some o)).filter (fun o=>decide (gW bs v o.dropLast (o.getLastD 0)=p))=[]:=List.filter_cons_of_neg (by rw[h]; exact Je)
     rw[(IT),ho,(Kj),e,(Jy)]
  ·rintro ys ρ2 S3 ⟨_,rfl,e3,k3⟩;have hll:=iW (n:=v.length) (bE bs u v i);have ek:bE bs u v (i+1)=(da v.length (bE bs u v i)).filter fun o=>decide (gW bs v o.dropLast (o.getLastD 0)=p):=by
    rw[bE,getD_some hp]
   rw[show(aL (da v.length (bE bs u v i))).length=(da v.length (bE bs u v i)).length from List.length_map ..,(Jf),<- ek]
   refine⟨lF ?_,cH (hn _ _ ⟨_,_,_,rfl,ag,?_,((k1.trans k2).trans k3).trans .push⟩)⟩
   ·rw[ek];unfold aL;rw[(Im)];exact IC (JO _ _) (by omega)
   ·exact((k1.trans k2).trans k3).len
 ·rintro ρ S1 ⟨q,a4,a5,rfl,e1,hq,k1⟩;rw[show(u.map fm).length=u.length from List.length_map ..]at e1
  exact hK _ _ (st (k q S1 e1 hq k1))
end
noncomputable def eA:Ss:=
 (.cons (.set 3 (.lst (.cons (.tup .nil) .nil)))
 (.cons (.loop (.nm 4) (.rng (.cons (.bi .len (.cons (.v 1) .nil)) .nil)) (.cons (.set 5 (.own "_law_part" 3 (.cons (.v 0) (.cons (.v 1) (.cons (.bi .tuple (.cons (.bi .range (.cons (.op .add (.v 4) (.c (.int 1))) .nil)) .nil)) .nil)))))
 (.cons (.set 6 (.lst .nil))
 (.cons (.loop (.nm 7) (.seq (.v 3)) (.cons (.loop (.nm 8) (.rng (.cons (.bi .len (.cons (.v 2) .nil)) .nil)) (.cons (.ite (.and (.cmp .notin (.v 8) (.v 7)) (.cmp .eq (.v 5) (.own "_law_part" 3 (.cons (.v 0) (.cons (.v 2) (.cons (.op .add (.v 7) (.tup (.cons (.v 8) .nil))) .nil)))))) (.cons (.ex (.me .append (.v 6) (.cons (.op .add (.v 7) (.tup (.cons (.v 8) .nil))) .nil)))
 .nil) .nil)
 .nil))
 .nil))
 (.cons (.set 3 (.v 6))
 .nil)))))
 (.cons (.ret (.v 3))
 .nil)))
theorem nM {Φ:Str->FF}{ρ:Fm}{S:aa}{e:E}{n:Nat}{m:Int}{Q:QW}(hm:m=n)(he:∀ Q:QW,Q (.int m,S)->wE Φ e ρ S Q)(hn:n<=1000)(k:∀ S',Ka S S'->Q (.tup (ak (List.range n)),S')):wE Φ (.bi .tuple (.cons (.bi .range (.cons e .nil)) .nil)) ρ S Q:=by
 have e1:Bi.range.fn [.int m] S=some (.ref S.length,S++[.rng 0 m]):=by
  simp only[Bi.fn,jh];rw[if_pos ⟨by omega,by omega⟩]
 have e2:Bi.tuple.fn [.ref S.length] (S++[.rng 0 m])=some (.tup (ak (List.range n)),S++[.rng 0 m]):=by
  have h1:u6 (S++[.rng 0 m]) S.length=some (0,m):=by simp[u6]
  simp only[Bi.fn,jk,h1];rw[if_pos ⟨by omega,by omega,by omega,by omega,by rw[sizeLine_eq]; omega⟩,hm,nH]
 have g:wO (Bi.range.fn [.int m] S) fun p=>wO (Bi.tuple.fn [p.1] p.2) Q:=by
  rw[e1];show wO (Bi.tuple.fn [.ref S.length] (S++[.rng 0 m])) Q;rw[e2];exact k _ .push
 rw[wE,wA];rw[wE,wA];exact he _ g
theorem zb {Φ:Str->FF}{ρ:Fm}{S:aa}{j n:Nat}{z:Int}{Q:QW}(hz:z+1=n)(hv:∀ P:W->Prop,P (.int z)->wV ρ j P)(hn:n<=1000)(k:∀ S',Ka S S'->Q (.tup (ak (List.range n)),S')):wE Φ (.bi .tuple (.cons (.bi .range (.cons (.op .add (.v j) (.c (.int 1))) .nil)) .nil)) ρ S Q:=by
 refine nM (m:=z+1) hz (fun Q q=>?_) hn k
 dsimp only[wE];exact hv _ q
noncomputable def fN (bs:List Int)(u v:Wd)(k n:Nat)(o:List Nat):List (List Nat):=((List.range n).filter fun p=>decide (p∉o)&&decide (aT bs u (List.range (k+1))=aT bs v (o++[p]))).map fun p=>o++[p]
theorem rB {bs:List Int}{u v:Wd}{k n:Nat}{o:List Nat}:(fN bs u v k n o).length<=n:=by
 unfold fN;rw[(Im)];exact IC (JO _ _) (by rw[(IS)]; exact Ip _)
theorem rC {bs:List Int}{u v:Wd}{k n:Nat}:∀ os:List (List Nat),(os.flatMap (fN bs u v k n)).length<=os.length*n
 | []=>by simp
 | o::os=>by
  rw[(J7),(Iv),(JN),Nat.succ_mul];have:=rC (bs:=bs) (u:=u) (v:=v) (k:=k) (n:=n) os;have:=rB (bs:=bs) (u:=u) (v:=v) (k:=k) (n:=n) (o:=o);omega
section
variable {defs:List (Str×Df)} {fuel d:Nat} {S:aa} {Q:QW}
theorem zd {t:Nat}{xs:List W}{y:W}(h:S[t]?=some (.lst xs))(hl:xs.length < 1000000)(q:Q (.non,S.set t (.lst (xs++[y])))):wO (Me.append.fn (.ref t) [y] S) Q:=ae (ue h (by rw[(Ja)]; omega)) q
theorem DV (G:Gen defs){Q:QO}{ρ:Fm}{K:Fm->aa->Prop}{m0 b0:W}{ns:List Str}{bs:List Int}{a:Nat}{u:Wd}(hb:GoodB bs)(hnl:ns.length=bs.length)(hu:GoodW a bs.length u){z:Int}{n:Nat}(hz:z+1=n)(hn:n<=u.length/\n<=900)(h0:∀ P:W->Prop,P (.tup [m0,.tup (List.zipWith bA ns bs),b0])->wV ρ 0 P)(h1:∀ P:W->Prop,P (aY u)->wV ρ 1 P)(h4:∀ P:W->Prop,P (.int z)->wV ρ 4 P)
  (k:∀ S',Ka S S'->K (ρ.set 5 (some (aY (aT bs u (List.range n))))) S') :
  wS (ap defs fuel (d+2)) fuel (.set 5 (.own "_law_part" 3 (.cons (.v 0) (.cons (.v 1) (.cons (.bi .tuple (.cons (.bi .range (.cons (.op .add (.v 4) (.c (.int 1))) .nil)) .nil)) .nil))))) ρ S K Q:=by
 have hx:∀ Q:QW,(∀ S',Ka S S'->Q (.tup (ak (List.range n)),S'))->wE (ap defs fuel (d+2)) (.bi .tuple (.cons (.bi .range (.cons (.op .add (.v 4) (.c (.int 1))) .nil)) .nil)) ρ S Q:=fun Q h=>zb hz h4 (by omega) h
 generalize E.bi .tuple (.cons (.bi .range (.cons (.op .add (.v 4) (.c (.int 1))) .nil)) .nil)=c at hx;dsimp only[wS,wE,wA];refine h0 _ (h1 _ (hx _ fun S2 k2=>?_))
 dsimp only;exact oV (d:=d) G hb hnl hu (fun p hp=>by have:=IU.mp hp; omega) List.nodup_range (by rw[(IS)]; omega) fun S3 k3=>k _ (k2.trans k3)
theorem ze (G:Gen defs)(hg:Is defs ("_law_maps" : Str) 3 9 eA){m0 b0:W}{ns:List Str}{bs:List Int}{a:Nat}{u v:Wd}(hb:GoodB bs)(hnl:ns.length=bs.length)(hu:GoodW a bs.length u)(hv:GoodW a bs.length v)(hu5:u.length<=5)(hv5:v.length<=5)
  (k:∀ (q:Nat) (S':aa),S'[q]?=some (.lst (aL (dL bs u v u.length)))->S.length<=q->Ka S S'->Q (.ref q,S')) :
  wO (bR (ap defs fuel (d+3)) "_law_maps" 3 [.tup [m0,.tup (List.zipWith bA ns bs),b0],aY u,aY v] S) Q:=by
 refine aJ hg rfl rfl fun Q' hR=>?_
 replace k:∀ (q:Nat) (S':aa),S'[q]?=some (.lst (aL (dL bs u v u.length)))->S.length<=q->Ka S S'->Q' (.rt (.ref q),S'):=fun a b c e f=>hR _ _ (k a b c e f)
 clear hR;show wZ _ _ eA [some (.tup [m0,.tup (List.zipWith bA ns bs),b0]),some (aY u),some (aY v),none,none,none,none,none,none] S Q';generalize hR0:W.tup [m0,.tup (List.zipWith bA ns bs),b0]=R;dsimp only[eA];refine st ?_;dsimp only[wS,wE,wA,List.set];refine aZ fun K hK=>?_
 refine dq (u.length:Int) (fun i ρ S'=>∃ (q:Nat) (a4 a5 a6 a7 a8:Option W),ρ=[some R,some (aY u),some (aY v),some (.ref q),a4,a5,a6,a7,a8]/\S'[q]?=some (.lst (aL (dL bs u v i)))/\S.length<=q/\Ka S S') rfl rfl (by omega) ?_ ?_ ?_
 ·dsimp only[wE,wA,wV,wG];refine bZ ?_;rw[show(u.map fm).length=u.length from List.length_map ..]
  exact⟨rfl,_,_,_,_,_,_,rfl,ag,Ip _,.push⟩
 ·rintro i ρ S1 hi ⟨q,a4,a5,a6,a7,a8,rfl,e1,hq,k1⟩ Q2 hn _;clear hK k;have hi':i < u.length:=by omega
  have hlen:(dL bs u v i).length<=3125:=by
   rw[<- gB hu (by omega)]
   exact IC (gf i) (IC (Kn hv5 i) (IC (Kc (by decide) (show i<=5 by omega)) (by decide)))
  have hq1:=dg e1;dsimp only[List.set];refine aZ fun K hK=>?_
  generalize hρ:[some R,some (aY u),some (aY v),some (.ref q),some (.int (i:Int)),a5,a6,a7,a8]=ρ0 at hK ⊢;have v0:∀ P:W->Prop,P (.tup [m0,.tup (List.zipWith bA ns bs),b0])->wV ρ0 0 P:=fun P h=>by subst hR0; rw[<- hρ]; exact h
  have v1:∀ P:W->Prop,P (aY u)->wV ρ0 1 P:=fun P h=>by rw[<- hρ]; exact h
  have v4:∀ P:W->Prop,P (.int i)->wV ρ0 4 P:=fun P h=>by rw[<- hρ]; exact h
  refine DV (d:=d) G hb hnl hu (n:=i+1) (by omega) (by omega) v0 v1 v4 fun S3 k13=>hK _ _ ?_
  subst hρ;clear v0 v1 v4;clear hK K;dsimp only[List.set];generalize hh0:aT bs u (List.range (i+1))=hd;have e3:=k13.get _ _ e1;replace k13:Ka S S3:=k1.trans k13;clear k1;refine st ?_;dsimp only[wS,wE,wA,wV,wG,List.set];refine aZ fun K hK=>?_
  have hqt:q < S3.length:=dg e3;refine uh q (aL (dL bs u v i)) (fun j ρ S'=>(∃ a7 a8,ρ=[some R,some (aY u),some (aY v),some (.ref q),some (.int i),some (aY hd),some (.ref S3.length),a7,a8])/\S'[q]?=some (.lst (aL (dL bs u v i)))/\S'[S3.length]?=some (.lst (aL (((dL bs u v i).take j).flatMap (fN bs u v i v.length))))/\Ka S S') rfl rfl ⟨rfl,⟨a7,a8,rfl⟩,aq e3,ag,k13.trans .push⟩ (fun j ρ S' h=>h.2.1) ?_ ?_
  ·rintro j w ρ S4 hw ⟨⟨a7,a8,rfl⟩,e4,e5,k4⟩;clear hK hn;unfold aL at hw;rw[(Iu),(Io)]at hw;obtain⟨o,ho,rfl⟩:=hw;have ok:=o9 o (IA ho);have hol:=ok.len;refine ae (show hX (.nm 7) (.tup (ak o)) [some R,some (aY u),some (aY v),some (.ref q),some (.int i),some (aY hd),some (.ref S3.length),a7,a8] S4=some ([some R,some (aY u),some (aY v),some (.ref q),some (.int i),some (aY hd),some (.ref S3.length),some (.tup (ak o)),a8],S4)from rfl) ?_
   intro Q3 hn3 _;have hfl:(((dL bs u v i).take j).flatMap (fN bs u v i v.length)).length<=15625:=by
    refine IC (rC _) (IC (Nat.mul_le_mul ?_ hv5) (show 3125*5<=15625 by decide))
    rw[(Jq)]; omega
   generalize hpre:((dL bs u v i).take j).flatMap (fN bs u v i v.length)=pre at e5 hfl;refine aZ fun K hK=>?_
   refine dq (v.length:Int) (fun f ρ S'=>(∃ a8,ρ=[some R,some (aY u),some (aY v),some (.ref q),some (.int i),some (aY hd),some (.ref S3.length),some (.tup (ak o)),a8])/\S'[q]?=some (.lst (aL (dL bs u v i)))/\S'[S3.length]?=some (.lst (aL (pre++fN bs u v i f o)))/\Ka S S') rfl rfl (by omega) ?_ ?_ ?_
   ·dsimp only[wE,wA,wV,wG];refine bZ ?_;rw[show(v.map fm).length=v.length from List.length_map ..]
    refine⟨rfl,⟨a8,rfl⟩,e4,?_,k4⟩;rw[show fN bs u v i 0 o=[]from rfl,Jy]; exact e5
   ·rintro f ρ S5 hf ⟨⟨a8,rfl⟩,e6,e7,k5⟩ Q4 hn4 _;clear hK hn3;have hf':f < v.length:=by omega
    have es:fN bs u v i (f+1) o=fN bs u v i f o++(if f∉o/\hd=aT bs v (o++[f])then[o++[f]]else[]):=by
     unfold fN;rw[hh0,(JW),(Kj),(IV)];congr 1
     by_cases h1:f∈o
     ·simp[h1]
     ·by_cases h2:hd=aT bs v (o++[f]) <;> simp[h1,h2]
    dsimp only[List.set];refine aZ fun K hK=>?_
    dsimp only[wS,wT,wE,wA,wV,wG];refine ae rA ?_;dsimp only[wB];have skip:¬ (f∉o/\hd=aT bs v (o++[f]))->∀ (S6:aa),Ka S5 S6->K [some R,some (aY u),some (aY v),some (.ref q),some (.int i),some (aY hd),some (.ref S3.length),some (.tup (ak o)),some (.int f)] S6:=fun hno S6 k6=>by
     refine hK _ _ (cH (hn4 _ _ ⟨⟨_,rfl⟩,k6.get _ _ e6,?_,k5.trans k6⟩));rw[es,if_neg hno,(Jy)]; exact k6.get _ _ e7
    refine⟨fun h=>?_,fun h=>?_⟩
    ·have h:f∉o:=IK h;refine ae (jq (lF (by rw[(Iv),show(ak o).length=o.length from List.length_map ..]; show _+1<=_; omega))) ?_
     dsimp only;rw[show ak o++[W.int f]=ak (o++[f]) by unfold ak; rw[List.map_append]; rfl]
     subst hR0;refine oV (d:=d) G hb hnl hv (fun p hp=>?_) ?_ (by rw[(Iv),(JC)]; omega) fun S6 k6=>?_
     ·rcases IL.mp hp with z|z
      ·exact ok.lt p z
      ·rw[List.mem_singleton.mp z]; exact hf'
     ·rw[(JP)];exact⟨ok.nd,by simp,fun x hx y hy=>by rw[List.mem_singleton.mp hy]; exact fun e=>h (e ▸ hx)⟩
     refine ae DT ?_;dsimp only[wB];refine aD (Q0:=Q4) (fun h2 Q5 hn5 _=>?_) (fun h2 Q5 hn5 _=>cH (hn5 _ _ (skip (fun z=>Ju h2 z.2) S6 k6)))
     have h2:hd=aT bs v (o++[f]):=IK h2;refine st ?_;dsimp only[wS,wE,wA,wV,wG];have e7':=k6.get _ _ e7;refine⟨dj e7',?_⟩;refine ae (jq (lF (by rw[(Iv),show(ak o).length=o.length from List.length_map ..]; show _+1<=_; omega))) ?_
     dsimp only;rw[show ak o++[W.int f]=ak (o++[f]) by unfold ak; rw[List.map_append]; rfl]
     have hsl:=rB (bs:=bs) (u:=u) (v:=v) (k:=i) (n:=f) (o:=o);refine zd e7' (by unfold aL; rw[List.length_map,List.length_append]; omega) (cH (hn5 _ _ (hK _ _ (cH (hn4 _ _ ⟨⟨_,rfl⟩,?_,?_,(k5.trans k6).late k13.len⟩)))))
     ·rw[b8 (by omega)]; exact k6.get _ _ e6
     ·rw[bX e7',es,if_pos ⟨h,h2⟩,<- (JK)];unfold aL;rw[List.map_append (l₁:=pre++fN bs u v i f o)]; rfl
    ·exact aD (Q0:=Q4) (fun z=>by cases z) (fun _ Q5 hn5 _=>cH (hn5 _ _ (skip (fun z=>Ju h z.1) S5 .refl)))
   ·rintro ρ S5 ⟨⟨a8,rfl⟩,e6,e7,k5⟩;rw[(IB)]at e7;refine hK _ _ (cH (hn3 _ _ ⟨⟨_,_,rfl⟩,e6,?_,k5⟩));rw[(IT),ho,List.flatMap_append,hpre];simp only[Option.toList_some,List.flatMap_cons,List.flatMap_nil,List.append_nil];exact e7
  ·rintro ρ S4 ⟨⟨a7,a8,rfl⟩,e4,e5,k4⟩;rw[show(aL (dL bs u v i)).length=(dL bs u v i).length from List.length_map ..,(Jf)]at e5
   refine hK _ _ (st ?_);dsimp only[wS,wE,wV,wG,List.set];subst hR0;exact cH (hn _ _ ⟨_,_,_,_,_,_,rfl,e5,k13.len,k4⟩)
 ·rintro ρ S1 ⟨q,a4,a5,a6,a7,a8,rfl,e1,hq,k1⟩;rw[(IB)]at e1;exact hK _ _ (st (k q S1 e1 hq k1))
end
section
variable {defs:List (Str×Df)} {fuel d:Nat} {S:aa} {Q:QW}
theorem eH {i:Nat}{xs:List W}{c:String}(h:S[i]?=some (.lst xs))(hc:qH.contains c=true):vx S (.ref i) c=some ("list" == c||("list" == "bool" && c == "int")):=by
 have:Gm S (.ref i)=some "list":=by simp[Gm,aK h]
 unfold vx;rw[this];exact if_pos hc
theorem jA (hg:Is defs ("_law_alike" : Str) 2 2 bF){n i j:Nat}{xs:List W}(hi:S[i]?=some (.lst xs))(hj:S[j]?=some (.lst xs))(hl:xs.length<=100000)(hx:∀ x∈xs,Tr n x)(k:∀ S',Ka S S'->Q (.bl true,S')) :
  wO (bR (ap defs fuel (d+n+2)) "_law_alike" 2 [.ref i,.ref j] S) Q:=by
 refine aJ hg rfl rfl fun Q' hR=>?_
 replace k:∀ S',Ka S S'->Q' (.rt (.bl true),S'):=fun S' a=>hR _ _ (k S' a)
 clear hR;show wZ _ _ bF [some (.ref i),some (.ref j)] S Q';dsimp only[bF];refine aZ fun K hK=>cj (S1:=S) (fun Q q=>q) (hK _ _ ?_)
 clear hK K;refine aZ fun K hK=>cj (S1:=S) (fun Q q=>?_) (hK _ _ ?_)
 ·dsimp only[wT,wE,wV,wG];refine ae (eH hj (by decide)) ⟨fun z=>?_,fun _=>ae (eH hi (by decide)) q⟩
  exact absurd z (by decide)
 clear hK K;refine aZ fun K hK=>cj (S1:=S) (fun Q q=>?_) (hK _ _ ?_)
 ·dsimp only[wT,wE,wV,wG];exact ae (eH hj (by decide)) q
 clear hK K;refine aZ fun K hK=>cj (S1:=S) (fun Q q=>?_) (hK _ _ ?_)
 ·dsimp only[wT,wE,wV,wG];exact ae (eH hj (by decide)) q
 clear hK K;refine aZ fun K hK=>cj (S1:=S) (fun Q q=>?_) (hK _ _ ?_)
 ·dsimp only[wT,wE,wV,wG];refine ae (eH hj (by decide)) (ae (eH hi (by decide)) ?_)
  refine ae (show dh .ne (.bl false) (.bl false) S=some (.bl false,S)from rfl) ⟨fun z=>(by cases z),fun _=>?_⟩
  dsimp only;refine ae (eH hj (by decide)) (ae (eH hi (by decide)) ?_)
  exact ae (show dh .ne (.bl true) (.bl true) S=some (.bl false,S)from rfl) q
 clear hK K;refine st ?_;dsimp only[wS,wE,wA,wV,wG];refine en hi (en hj ?_);dsimp only[ic,aQ,wB];rw[(Jh)];refine⟨fun _=>?_,fun z=>by cases z⟩
 refine cY (xs.length:Int) (fun m ys ρ2 S2=>(∃ a1,ρ2=[none,a1,some (.ref j),some (.ref i)])/\ys=List.replicate m (.bl true)/\Ka S S2) rfl rfl rfl (by omega) ?_ ?_ ?_
 ·dsimp only[wE,wA,wV,wG];exact en hj ⟨rfl,⟨none,rfl⟩,rfl,.refl⟩
 ·rintro m ys ρ2 S2 hm ⟨⟨a1,rfl⟩,rfl,k2⟩;have hm':m < xs.length:=by omega
  dsimp only[kE,wC,wE,wA,wV,wG,List.set];refine⟨fun _=>fM (k2.get _ _ hi) (IG m) (by rw[(IB)]; exact Iw hm') (fM (k2.get _ _ hj) (IG m) (by rw[(IB)]; exact Iw hm') (BG hg n d _ _ _ (hx _ (IQ hm')) fun S3 k3=>⟨⟨_,rfl⟩,?_,k2.trans k3⟩)),fun z=>by cases z⟩
  rw[List.replicate_succ']
 ·rintro ys ρ2 S2 ⟨_,rfl,k2⟩;rw[(IB)];refine⟨lF (by rw[List.length_replicate]; omega),ae (a:=(.bl true,S2++[.lst (List.replicate xs.length (.bl true))])) ?_ (k _ (k2.trans .push))⟩
  simp only[Bi.fn,Av,aK ag,jy,Option.map_some,uy]
theorem pb {os:List (List Nat)}(h:∀ o∈os,o.length<=1000):∀ x∈aL os,Tr 1 x:=fun x hx=>by
 obtain⟨o,ho,rfl⟩:=IF.mp hx;refine⟨by rw[show(ak o).length=o.length from List.length_map ..]; exact h o ho,fun y hy=>?_⟩
 obtain⟨p,_,rfl⟩:=IF.mp hy;trivial
end
noncomputable def bV:Ss:=
 (.cons (.set 1 (.bi .list (.cons (.bi .range (.cons (.bi .len (.cons (.ix (.v 0) (.c (.int 1))) .nil)) .nil)) .nil)))
 (.cons (.ite (.and (.cmp .eq (.comp (.v 2) (.tp [1,2]) (.seq (.ix (.v 0) (.c (.int 1)))) .nil [none,none,none]) (.v 1)) (.cmp .gt (.bi .len (.cons (.v 1) .nil)) (.c (.int 1)))) (.cons (.set 1 (.op .add (.lst (.cons (.c (.int 1)) (.cons (.c (.int 0)) .nil))) (.sl (.v 1) (.yes (.c (.int 2))) .no)))
 .nil) .nil)
 (.cons (.ret (.tup (.cons (.ix (.v 0) (.c (.int 0))) (.cons (.bi .tuple (.cons (.comp (.tup (.cons (.ix (.ix (.ix (.v 3) (.c (.int 1))) (.v 1)) (.c (.int 0))) (.cons (.ix (.v 2) (.v 1)) .nil))) (.nm 1) (.rng (.cons (.bi .len (.cons (.v 1) .nil)) .nil)) .nil [none,none,some 1,some 0]) .nil)) (.cons (.tup .nil) .nil)))))
 .nil)))
noncomputable def eJ (bs:List Int):List Int:=if bs=eR bs.length/\1 < bs.length then[1,0]++(eR bs.length).drop 2 else eR bs.length
theorem nN {bs:List Int}(h:GoodB bs):GoodB (eJ bs)/\(eJ bs).length=bs.length:=by
 rcases h with rfl|rfl|rfl|rfl|rfl|rfl
 ·exact⟨.inl (by decide),by decide⟩
 ·exact⟨.inr (.inr (.inl (by decide))),by decide⟩
 ·exact⟨.inr (.inl (by decide)),by decide⟩
 ·exact⟨.inr (.inr (.inr (.inr (.inl (by decide))))),by decide⟩
 ·exact⟨.inr (.inr (.inr (.inl (by decide)))),by decide⟩
 ·exact⟨.inr (.inr (.inr (.inl (by decide)))),by decide⟩
theorem vR (n:Nat):ak (List.range n)=(eR n).map W.int:=by rw[vO]; rfl
theorem DW {S:aa}{i j:Nat}{xs ys:List Int}(h1:S[i]?=some (.lst (xs.map W.int)))(h2:S[j]?=some (.lst (ys.map W.int))):dh .eq (.ref i) (.ref j) S=some (.bl (decide (xs=ys)),S):=by
 show(ja S (19+1) (.ref i) (.ref j)).map _=_;simp only[ja,cG h1,cG h2,jz];split
 ·rfl
 ·rename_i h;have:xs≠ys:=fun e=>h (by rw[e])
  simp[this]
section
variable {defs:List (Str×Df)} {fuel d:Nat} {S:aa} {Q:QW}
theorem zf {Φ:Str->FF}{ρ:Fm}{K:Fm->aa->Prop}{Q:QO}{e:E}{j n:Nat}{m:Int}(hm:m=n)(he:∀ Q:QW,Q (.int m,S)->wE Φ e ρ S Q)(hn:n<=1000)(k:∀ (t:Nat) (S':aa),t=S.length+1->S'=S++[O.rng 0 n]++[.lst (ak (List.range n))]->K (ρ.set j (some (.ref t))) S') :
  wS Φ fuel (.set j (.bi .list (.cons (.bi .range (.cons e .nil)) .nil))) ρ S K Q:=by
 have e1:Bi.range.fn [.int m] S=some (.ref S.length,S++[.rng 0 m]):=by
  simp only[Bi.fn,jh];rw[if_pos ⟨by omega,by omega⟩]
 have h:wO (Bi.list.fn [.ref S.length] (S++[O.rng 0 m])) fun p=>K (ρ.set j (some p.1)) p.2:=by
  subst hm;exact uA ag hn (k _ _ (by simp) rfl)
 have g:wO (Bi.range.fn [.int m] S) fun p=>wO (Bi.list.fn [p.1] p.2) fun p=>K (ρ.set j (some p.1)) p.2:=by
  rw[e1];exact h
 dsimp only[wS,wE,wA];exact he _ g
theorem BL (hg:Is defs ("_law_other_rule" : Str) 1 2 bV){m0 b0:W}{ns:List Str}{bs:List Int}(hb:GoodB bs)(hnl:ns.length=bs.length)
  (k:∀ S',Ka S S'->Q (.tup [m0,.tup (List.zipWith bA ns (eJ bs)),.tup []],S')) :
  wO (bR (ap defs fuel (d+1)) "_law_other_rule" 1 [.tup [m0,.tup (List.zipWith bA ns bs),b0]] S) Q:=by
 refine aJ hg rfl rfl fun Q' hR=>?_
 replace k:∀ S',Ka S S'->Q' (.rt (.tup [m0,.tup (List.zipWith bA ns (eJ bs)),.tup []]),S'):=fun S' a=>hR _ _ (k S' a)
 clear hR;obtain⟨gb,gl⟩:=nN hb;have hb3:bs.length<=3:=by rcases hb with rfl|rfl|rfl|rfl|rfl|rfl <;> decide
 have zl:(List.zipWith bA ns bs).length=bs.length:=by rw[(J9),hnl]; omega
 show wZ _ _ bV [some (.tup [m0,.tup (List.zipWith bA ns bs),b0]),none] S Q';generalize hB:W.tup [m0,.tup (List.zipWith bA ns bs),b0]=R;dsimp only[bV];refine aZ fun K hK=>?_
 have he:∀ Q:QW,Q (.int ((List.zipWith bA ns bs).length:Nat),S)->wE (ap defs fuel d) (.bi .len (.cons (.ix (.v 0) (.c (.int 1))) .nil)) [some R,none] S Q:=fun Q q=>by
  dsimp only[wE,wA,wV,wG];subst hB;exact aw (by decide) rfl (bZ q)
 generalize hρ:[some R,none]=ρ0 at he hK ⊢;rw[zl]at he;refine zf rfl he (by omega) fun t S1 ht hS1=>hK _ _ ?_
 clear he hK K;subst hρ;dsimp only[List.set];have e1:S1[t]?=some (.lst ((eR bs.length).map W.int)):=by
  rw[hS1,show t=(S++[O.rng 0 bs.length]).length by rw[ht]; simp,<- vR]; exact ag
 have k1:Ka S S1:=by rw[hS1]; exact Ka.push.trans .push
 have l1:S.length<=t:=by omega
 clear hS1 ht;have tl:∀ (t2:Nat) (S2:aa),S2[t2]?=some (.lst ((eJ bs).map W.int))->Ka S S2->wZ (ap defs fuel d) fuel (.cons (.ret (.tup (.cons (.ix (.v 0) (.c (.int 0))) (.cons (.bi .tuple (.cons (.comp (.tup (.cons (.ix (.ix (.ix (.v 3) (.c (.int 1))) (.v 1)) (.c (.int 0))) (.cons (.ix (.v 2) (.v 1)) .nil))) (.nm 1) (.rng (.cons (.bi .len (.cons (.v 1) .nil)) .nil)) .nil [none,none,some 1,some 0]) .nil)) (.cons (.tup .nil) .nil))))) .nil) [some R,some (.ref t2)] S2 Q':=fun t2 S2 e2 k2=>by
  refine st ?_;dsimp only[wS,wE,wA,wV,wG];subst hB;refine aw (by decide) rfl ?_
  refine cY (bs.length:Int) (fun i ys ρ2 S3=>(∃ a1,ρ2=[none,a1,some (.ref t2),some (.tup [m0,.tup (List.zipWith bA ns bs),b0])])/\ys=(List.zipWith bA ns (eJ bs)).take i/\S3=S2) rfl rfl rfl (by omega) ?_ ?_ ?_
  ·dsimp only[wE,wA,wV,wG];refine en e2 ?_;rw[(Im),gl];exact⟨rfl,⟨none,rfl⟩,rfl,rfl⟩
  ·rintro i ys ρ2 S3 hi ⟨⟨a1,rfl⟩,rfl,rfl⟩;have hi':i < bs.length:=by omega
   have hn:ns[i]?=some (ns[i]'(by omega)):=Iw (by omega)
   have hbk:(eJ bs)[i]?=some ((eJ bs)[i]'(by omega)):=Iw (by omega)
   have hbb:bs[i]?=some bs[i]:=Iw hi';dsimp only[kE,wC,wE,wA,wV,wG,List.set];refine⟨fun _=>aw (by decide) rfl (aw (IG i) (by rw[(IB)]; exact ii hn hbb) (aw (by decide) rfl (fM e2 (IG i) (by rw[(IB),(Iu),hbk]; rfl) ⟨⟨_,rfl⟩,?_,rfl⟩))),fun z=>by cases z⟩
   rw[(IT),ii hn hbk]; rfl
  ·rintro ys ρ2 S3 ⟨_,rfl,rfl⟩;rw[(IB),List.take_of_length_le (by rw[List.length_zipWith]; omega)]
   exact⟨lF (by rw[(J9)]; omega),eu ag (k _ (k2.trans .push))⟩
 refine aZ fun K hK=>?_
 dsimp only[wS,wT,wE,wA,wV,wG];refine oP (List.zipWith bA ns bs) (fun i ys ρ2 S2=>(∃ a1 a2,ρ2=[none,a1,a2])/\ys=(bs.map W.int).take i/\S2=S1) rfl rfl rfl ?_ ?_ ?_
 ·dsimp only[wE,wV,wG];subst hB;exact aw (by decide) rfl ⟨rfl,⟨none,none,rfl⟩,rfl,rfl⟩
 ·rintro i w ys ρ2 S2 hw ⟨⟨a1,a2,rfl⟩,rfl,rfl⟩;have hi:i < bs.length:=by
   have:=(Ir.mp hw).1;omega
  have hn:ns[i]?=some (ns[i]'(by omega)):=Iw (by omega)
  have hbb:bs[i]?=some bs[i]:=Iw hi;cases(ii hn hbb).symm.trans hw;refine ae (show hX (.tp [1,2]) (bA (ns[i]'(by omega)) bs[i]) [none,a1,a2] S2=some ([none,some (.str (ns[i]'(by omega))),some (.int bs[i])],S2)from rfl) ?_
  dsimp only[kE,wC,wE,wV,wG];refine⟨fun _=>⟨⟨_,_,rfl⟩,?_,rfl⟩,fun z=>by cases z⟩
  rw[(IT),(Iu),hbb]; rfl
 ·rintro ys ρ2 S2 ⟨_,rfl,rfl⟩;rw[zl,List.take_of_length_le (by rw[List.length_map]; exact Ip _)]
  refine⟨lF (by rw[(Im)]; omega),?_⟩
  have e1':=aq (u:=O.lst (bs.map W.int)) e1;refine ae (DW ag e1') ?_;dsimp only[wB];have no:¬ (bs=eR bs.length/\1 < bs.length)->eJ bs=eR bs.length:=fun h=>if_neg h
  refine⟨fun h=>?_,fun h=>?_⟩
  ·have h:bs=eR bs.length:=IK h;refine en e1' ?_;rw[(Im),show(eR bs.length).length=bs.length by rw[<- h]]
   refine ae Bn ?_;dsimp only[wB];refine aD (Q0:=Q') (fun h2 Q2 hn2 _=>?_) (fun h2 Q2 hn2 _=>?_)
   ·have h2:(1:Int) < bs.length:=IK h2;refine st ?_;dsimp only[wS,wE,wA,wP,wV,wG,wN];refine ae (a:=(.ref (S2++[O.lst (bs.map W.int)]++[O.lst [.int 1,.int 0]]).length,S2++[O.lst (bs.map W.int)]++[O.lst [.int 1,.int 0]]++[O.lst (((eR bs.length).drop 2).map W.int)])) ?_ ?_
    ·simp only[w6,aK (aq (u:=O.lst [W.int 1,W.int 0]) e1')];rw[show(some (2:Int))=some (((2:Nat)):Int)from rfl,qV,List.map_drop]
    ·dsimp only;refine ae (sE (aq ag) ag (lF ?_)) (cH (hn2 _ _ (hK _ _ (tl _ _ (by rw[show eJ bs=[1,0]++(eR bs.length).drop 2 from if_pos ⟨h,by omega⟩,IV]; exact ag) ((((k1.trans .push).trans .push).trans .push).trans .push)))))
     rw[(Iv),(Im),(KC),<- h]; simp; omega
   ·have h2:¬ (1:Int) < bs.length:=Ju h2;exact cH (hn2 _ _ (hK _ _ (tl _ _ (by rw[no fun z=>h2 (by omega)]; exact e1') (k1.trans .push))))
  ·exact aD (Q0:=Q') (fun z=>by cases z) (fun _ Q2 hn2 _=>cH (hn2 _ _ (hK _ _ (tl _ _ (by rw[no fun z=>of_decide_eq_false h z.1]; exact e1') (k1.trans .push)))))
end
theorem BM {a:Nat}{bs:List Int}(h:SizeOk a bs):cp a bs=true:=by
 obtain⟨h0,hb,hm,h3⟩:=h;have ha:a=1\/a=2\/a=3:=by omega
 rcases hb with rfl|rfl|rfl|rfl|rfl|rfl <;> rcases ha with rfl|rfl|rfl
 ·exact HB.1
 ·exact HB.2.1
 ·exact HB.2.2
 ·exact Gp.1
 ·exact Gp.2.1
 ·exact HD
 ·exact Gp.2.2.1
 ·exact Gp.2.2.2
 ·exact HE
 ·exact HC.1
 ·exact HF
 ·exact absurd hm (by decide)
 ·exact HC.2.1
 ·exact HG
 ·exact absurd hm (by decide)
 ·exact HC.2.2
 ·exact HH
 ·exact absurd hm (by decide)
theorem rD:∀ {us vs:List Wd},us.map dw=vs.map dw->us=vs
 | [],[],_=>rfl
 | [],_::_,h=>by cases h
 | _::_,[],h=>by cases h
 | x::xs,y::ys,h=>by
  simp only[List.map_cons,List.cons.injEq]at h;rw[o4 h.1,rD h.2]
theorem rE:∀ xs:List Int,de (xs.map T.int)=true
 | []=>rfl
 | _::xs=>rE xs
theorem uB:∀ u:Wd,de (u.map oT)=true
 | []=>rfl
 | p::u=>by
  simp only[List.map_cons,de,Bool.and_eq_true];refine⟨?_,uB u⟩;simp[oT,fA,de,rE]
theorem zg (u:Wd):fA (dw u)=true:=uB u
theorem Ch:∀ {ks:List T} {L:List Wd},(∀ k∈ks,k∈L.map dw)->∃ us:List Wd,ks=us.map dw/\∀ u∈us,u∈L
 | [],_,_=>⟨[],rfl,fun _ h=>nomatch h⟩
 | k::ks,L,h=>by
  obtain⟨u,hu,rfl⟩:=IF.mp (h k (.head _));obtain⟨us,rfl,h2⟩:=Ch fun k hk=>h k (.tail _ hk)
  exact⟨u::us,rfl,fun v hv=>(IR.mp hv).elim (fun e=>e ▸ hu) (h2 v)⟩
theorem jX:∀ {us:List Wd},(us.map dw).Nodup->us.Nodup
 | [],_=>.nil
 | u::us,h=>by
  rw[(JX),(Kv)]at h;exact Kv.mpr ⟨fun z=>h.1 (IF.mpr ⟨u,z,rfl⟩),jX h.2⟩
theorem DX {n k:Nat}{ds:List Int}:ds∈ci n k->ds.length=k/\∀ w∈ds,0<=w/\w < (n:Int):=by
 induction k generalizing ds with
 | zero=>intro h; cases IN.mp h; exact⟨rfl,fun w hw=>nomatch hw⟩
 | succ k ih=>
  intro h;obtain⟨i,hi,rfl⟩:=IF.mp h;have hi:=IU.mp hi;have hn:0 < n:=by
   rcases Nat.eq_zero_or_pos n with h|h
   ·rw[h,Nat.mul_zero]at hi; omega
   ·exact h
  have hlt:i / n < (ci n k).length:=JH (by rw[(KF)]; exact hi)
  obtain⟨h1,h2⟩:=ih (IA (aS (d:=[]) hlt));refine⟨by rw[(Iv),h1]; rfl,fun w hw=>?_⟩
  rcases IL.mp hw with h|h
  ·exact h2 w h
  ·rw[List.mem_singleton.mp h];have:=Nat.mod_lt i hn;omega
theorem rF {a n k:Nat}{u:Wd}:u∈cQ a n k->GoodW a n u/\u.length=k:=by
 induction k generalizing u with
 | zero=>intro h; cases IN.mp h; exact⟨.nil,rfl⟩
 | succ k ih=>
  intro h;obtain⟨i,hi,rfl⟩:=IF.mp h;have hi:=IU.mp hi;have hpos:0 < (cm a n k).length:=by
   rcases Nat.eq_zero_or_pos (cm a n k).length with h|h
   ·rw[h,Nat.mul_zero]at hi; omega
   ·exact h
  have hlt:i / (cm a n k).length < (cQ a n k).length:=JH (by rw[(KF)]; exact hi)
  obtain⟨h1,h2⟩:=ih (IA (aS (d:=[]) hlt));have hp:=IA (aS (d:=(0,[])) (Nat.mod_lt i hpos));obtain⟨m,hm,hp⟩:=List.mem_flatMap.mp hp;obtain⟨ds,hds,e⟩:=IF.mp hp;obtain⟨g1,g2⟩:=DX hds;have hm:=IU.mp hm;rw[<- e];exact⟨h1.snoc ⟨by omega,by omega⟩ (by rw[g1,h2]) g2,by rw[(Iv),h2]; rfl⟩
theorem BN {a:Nat}{bs:List Int}(h:SizeOk a bs):∃ us:List Wd,jR ((dH a bs).map dw)=some (us.map dw)/\us.Nodup/\us.length < 64/\(∀ u∈us,u∈bn a bs)/\dH a bs≠[]:=by
 have p:=BM h;unfold cp at p;split at p
 ·rename_i ks hk;simp only[Bool.and_eq_true,decide_eq_true_eq]at p;have hm0:=xz hk;obtain⟨us,rfl,hm⟩:=Ch (L:=bn a bs) fun k hk=>by
   obtain⟨f,hf,rfl⟩:=IF.mp (hm0 k hk);obtain⟨u,hu,rfl⟩:=IF.mp hf;obtain⟨g1,g2⟩:=rF hu;exact IF.mpr ⟨_,ut g1 g2,rfl⟩
  have nd:=jX p.1;refine⟨us,hk,nd,Nat.lt_of_le_of_lt (oR us _ nd hm) (oZ h),hm,fun z=>?_⟩
  rw[z]at hk;have e:some (us.map dw)=some []:=hk.symm;rw[Option.some.inj e]at p;exact absurd p.2 (by decide)
 ·cases p
theorem rG {us:List Wd}(h:us.Nodup):Nice (us.map dw):=by
 refine⟨fun x hx=>?_,ju us,?_⟩
 ·obtain⟨u,_,rfl⟩:=IF.mp hx;exact zg u
 ·rw[List.nodup_iff_pairwise_ne,List.pairwise_map];exact h.imp fun hne e=>hne (o4 e)
theorem jB {us:List Wd}:(c7 us).map dw=eD (us.map dw):=by
 unfold c7 eD;rw[qX (d:=[])]
theorem vS {us vs:List Wd}(h:us.Nodup)(hs:vs.Sublist (c7 us)):c7 vs=vs:=by
 apply rD;rw[jB];refine xy (rG h) ?_;rw[<- jB];exact hs.map _
noncomputable def dy:Ss:=
 (.cons (.ret (.bi .sorted (.cons (.bi .set (.cons (.comp (.own "_law_figure" 2 (.cons (.v 2) (.cons (.v 1) .nil))) (.nm 1) (.seq (.own "_law_worlds" 2 (.cons (.v 0) (.cons (.c (.int 3)) .nil)))) .nil [none,none,some 0]) .nil)) .nil)))
 .nil)
noncomputable def cK:Ss:=
 (.cons (.set 1 (.own "_law_pick" 2 (.cons (.v 0) (.cons (.c (.int 4)) .nil))))
 (.cons (.ite (.cmp .eq (.v 1) (.c (.int 0))) (.cons (.ret (.own "_law_laying_rule" 1 (.cons (.v 0) .nil)))
 .nil) .nil)
 (.cons (.ite (.cmp .lt (.v 1) (.c (.int 3))) (.cons (.ret (.own "_law_any_rule" 1 (.cons (.v 0) .nil)))
 .nil) .nil)
 (.cons (.asg [2,3] (.own "_law_sizes" 1 (.cons (.v 0) .nil)))
 (.cons (.set 4 (.own "_law_rule_of" 4 (.cons (.v 0) (.cons (.v 2) (.cons (.own "_law_backs" 2 (.cons (.v 0) (.cons (.v 3) .nil))) (.cons (.tup .nil) .nil))))))
 (.cons (.ret (.tup (.cons (.ix (.v 4) (.c (.int 0))) (.cons (.ix (.v 4) (.c (.int 1))) (.cons (.bi .tuple (.cons (.comp (.v 1) (.nm 1) (.seq (.own "_law_figures" 1 (.cons (.v 4) .nil))) (.cons (.cmp .eq (.own "_law_pick" 2 (.cons (.v 2) (.cons (.c (.int 3)) .nil))) (.c (.int 0))) .nil) [none,none,some 0]) .nil)) .nil)))))
 .nil))))))
section
variable {defs:List (Str×Df)} {fuel d:Nat} {S:aa} {r:Nat} {Q:QW}
theorem DY {l:Nat}{us ks:List Wd}(h:S[l]?=some (.lst (us.map aY)))(hne:us≠[])(hk:jR (us.map dw)=some (ks.map dw))(q:Q (.ref S.length,S++[.stt (ks.map dw)])):wO (Bi.set.fn [.ref l] S) Q:=by
 refine ae ?_ q;have e2:lc [.ref l] S=some (.ref S.length,S++[.stt (ks.map dw)]):=by
  simp only[lc,aK h,yw];rw[if_pos,hk]
  ·rfl
  ·rw[(IJ)];intro x hx;obtain⟨u,_,rfl⟩:=IF.mp hx;have:=lx u;have kl:aE=6:=rfl;simp only[xA,zg,Bool.true_and,Bool.and_eq_true,decide_eq_true_eq];exact⟨rfl,by omega⟩
 exact e2
theorem BO {l:Nat}{us:List Wd}(h:S[l]?=some (.stt (us.map dw)))(h64:us.length < 64)(hnd:us.Nodup)(hne:∀ u∈us,u≠[])(q:Q (.ref S.length,S++[.lst ((c7 us).map aY)])):wO (Bi.sorted.fn [.ref l] S) Q:=by
 refine ae ?_ q;have hr:Ek S l=some (us.map dw):=by simp[Ek,h]
 have N:=rG hnd;have ok:lf (us.map dw)=true:=by
  simp only[lf,hE,Bool.and_eq_true,decide_eq_true_eq,Bool.or_eq_true,List.length_map];refine⟨⟨⟨IJ.mpr N.num,N.lt⟩,N.nd⟩,⟨⟨h64,by have:=gA us; unfold cF; omega⟩,.inr ⟨yA us hne,N.lt⟩⟩⟩
 have e1:cV [.ref l] S=some (.ref S.length,S++[.lst ((c7 us).map aY)]):=by
  simp only[cV,hr];rw[if_pos ok,<- jB,sF]
 show Bc cV fD [.ref l] S=_;unfold Bc;simp only[e1]
structure Full (defs:List (Str×Df)):Prop where
 digits:Is defs ("_law_digits" : Str) 2 4 cr
 worlds:Is defs ("_law_worlds" : Str) 2 6 c9
 figures:Is defs ("_law_figures" : Str) 1 1 dy
 full:Is defs ("_law_full_rule" : Str) 1 5 cK
theorem vT (G:Gen defs)(F:Full defs){ms ns:List Str}{a:Nat}{bs:List Int}{b0:W}(hs:SizeOk a bs)(hml:ms.length=a)(hnl:ns.length=bs.length)
  (k:∀ (us:List Wd) (q:Nat) (S':aa),us.Nodup->us.length < 64->(∀ u∈us,u∈bn a bs)->S'[q]?=some (.lst ((c7 us).map aY))->S.length<=q->Ka S S'->Q (.ref q,S')) :
  wO (bR (ap defs fuel (d+4)) "_law_figures" 1 [.tup [.tup (ms.map W.str),.tup (List.zipWith bA ns bs),b0]] S) Q:=by
 refine aJ F.figures rfl rfl fun Q' hR=>?_
 replace k:∀ (us:List Wd) (q:Nat) (S':aa),us.Nodup->us.length < 64->(∀ u∈us,u∈bn a bs)->S'[q]?=some (.lst ((c7 us).map aY))->S.length<=q->Ka S S'->Q' (.rt (.ref q),S'):=fun a b c e f g h i j=>hR _ _ (k a b c e f g h i j)
 clear hR;obtain⟨us,hk,hnd,h64,hmem,hne⟩:=BN hs;have hb3:=hs.n3;have hpos:=hs.pos;have h3:=hs.a3;have hmost:=hs.most;show wZ _ _ dy [some (.tup [.tup (ms.map W.str),.tup (List.zipWith bA ns bs),b0])] S Q';generalize hB:W.tup [.tup (ms.map W.str),.tup (List.zipWith bA ns bs),b0]=R;dsimp only[dy];refine st ?_;dsimp only[wS,wE,wA,wV,wG];refine lD rfl rfl rfl ?_;dsimp only[wE,wA,wV,wG];subst hB;refine y4 (d:=d+1) F.digits F.worlds (a:=a) (n:=bs.length) (by rw[(Im),hml]) (by rw[(J9),hnl]; omega) hpos h3 hb3.1 hb3.2 hmost fun l S1 e1 hl k1=>?_
 generalize hB:W.tup [.tup (ms.map W.str),.tup (List.zipWith bA ns bs),b0]=R;refine⟨l,(cQ a bs.length 3).map aY,fun j ys ρ2 S2=>(∃ a1,ρ2=[none,a1,some R])/\ys=((dH a bs).take j).map aY/\S2[l]?=some (.lst ((cQ a bs.length 3).map aY))/\Ka S S2,rfl,⟨⟨none,rfl⟩,rfl,e1,k1⟩,fun j ys ρ2 S2 h=>h.2.2.1,?_,?_⟩
 ·rintro j w ys ρ2 S2 hw ⟨⟨a1,rfl⟩,rfl,e2,k2⟩;rw[(Iu),(Io)]at hw;obtain⟨u,hu,rfl⟩:=hw;obtain⟨gu,hu3⟩:=rF (IA hu);refine ae (show hX (.nm 1) (aY u) [none,a1,some R] S2=some ([none,some (aY u),some R],S2)from rfl) ?_
  dsimp only[kE,wC,wE,wA,wV,wG];subst hB;refine⟨fun _=>iS (d:=d) G hs.good hnl gu hu3 fun S3 k3=>⟨⟨_,rfl⟩,?_,k3.get _ _ e2,k2.trans k3⟩,fun z=>by cases z⟩
  have:(dH a bs)[j]?=some (j4 bs u):=by unfold dH; rw[List.getElem?_map,hu]; rfl
  rw[(IT),this];simp
 ·rintro ys ρ2 S2 ⟨_,rfl,e2,k2⟩;have hfl:(dH a bs).length=((cQ a bs.length 3).map aY).length:=by unfold dH; rw[List.length_map,List.length_map]
  rw[<- hfl,(Jf)];have hl216:(dH a bs).length<=216:=by
   unfold dH;rw[(Im),ey];exact(rn (k:=2) hpos h3 hb3.1 hb3.2 hmost (by decide)).2.2
  refine⟨lF (by rw[(Im)]; omega),DY ag hne hk (BO ag h64 hnd (fun u hu=>qZ (hmem u hu)) ?_)⟩
  have kk:=((k2.trans (Ka.push (o:=O.lst ((dH a bs).map aY)))).trans (Ka.push (o:=O.stt (us.map dw)))).trans (Ka.push (o:=O.lst ((c7 us).map aY)));exact k us _ _ hnd h64 hmem ag (((k2.trans (Ka.push (o:=O.lst ((dH a bs).map aY)))).trans (Ka.push (o:=O.stt (us.map dw)))).len) kk
theorem DZ (hfu:20 < fuel)(G:Gen defs)(F:Full defs)(hf:Fl S r)(k:∀ w S',ev w->Fl S' r->Kp r S S'->Q (w,S')):wO (bR (ap defs fuel (d+8)) "_law_full_rule" 1 [.ref r] S) Q:=by
 refine aJ F.full rfl rfl fun Q' hR=>?_
 replace k:∀ w S',ev w->Fl S' r->Kp r S S'->Q' (.rt w,S'):=fun z S' a b c=>hR _ _ (k z S' a b c)
 clear hR;show wZ _ _ cK [some (.ref r),none,none,none,none] S Q';dsimp only[cK];refine aZ fun K hK=>?_
 dsimp only[wS,wE,wA,wV,wG,List.set];refine bc (d:=d+6) G.pick hf (by decide) (by decide) fun v S1 v0 v7 f1 k1=>hK _ _ ?_
 clear hK K;refine aZ fun K hK=>?_
 dsimp only[wS,wT,wE,wV,wG,ic,aQ,wB];refine aD (Q0:=Q') (fun _ Q2 _ hr=>?_) (fun _ Q2 hn _=>cH (hn _ _ (hK _ _ ?_)))
 ·refine st ?_;dsimp only[wS,wE,wA,wV,wG];exact yX (d:=d) hfu G f1 fun w S2 hw f2 k2=>hr _ _ (k w S2 hw f2 (k1.trans k2))
 clear hK K hn;refine aZ fun K hK=>?_
 dsimp only[wS,wT,wE,wV,wG,Bm,aQ,wB];refine aD (Q0:=Q') (fun _ Q2 _ hr=>?_) (fun _ Q2 hn _=>cH (hn _ _ (hK _ _ ?_)))
 ·refine st ?_;dsimp only[wS,wE,wA,wV,wG];exact sH (d:=d+1) hfu G f1 fun w S2 hw f2 k2=>hr _ _ (k w S2 hw f2 (k1.trans k2))
 clear hK K hn;refine aZ fun K hK=>?_
 dsimp only[wS,wE,wA,wV,wG];refine oX (d:=d+5) G f1 fun a n S2 a1 a3 n1 n3 an f2 k2=>?_
 dsimp only[wU];refine ae (show d7 [2,3] [.int a,.int n] [some (.ref r),some (.int v),none,none,none]=some [some (.ref r),some (.int v),some (.int a),some (.int n),none]from rfl) (hK _ _ ?_)
 clear hK K;refine aZ fun K hK=>?_
 dsimp only[wS,wE,wA,wV,wG,List.set];refine oY (d:=d+5) G f2 n1 n3 fun bs S3 hb hbl f3 k3=>?_
 have hsz:SizeOk a bs:=⟨by omega,hb,by rw[hbl]; exact an,a3⟩
 refine fJ (d:=d+2) hfu G f3 a3 (by omega) fun ms ns S4 hml hnl hnm f4 k4=>hK _ _ ?_
 clear hK K;have k14:Kp r S S4:=k1.trans (k2.trans (k3.trans k4));clear k1 k2 k3 k4;refine st ?_;dsimp only[wS,wE,wA,wV,wG];refine aw (by decide) rfl (aw (by decide) rfl ?_)
 refine lD rfl rfl rfl ?_;dsimp only[wE,wA,wV,wG];refine vT (d:=d+3) G F hsz hml hnl fun us q S5 hnd h64 hmem e5 hq k5=>?_
 have f5:=f4.ka k5;have hrq:r < q:=IH f4.lt hq;refine⟨q,(c7 us).map aY,fun j ys ρ2 S6=>(∃ a1,ρ2=[none,a1,some (.ref r)])/\(∃ vs:List Wd,ys=vs.map aY/\vs.Sublist ((c7 us).take j))/\S6[q]?=some (.lst ((c7 us).map aY))/\Fl S6 r/\Kp r S S6,rfl,⟨⟨none,rfl⟩,⟨[],rfl,by simp⟩,e5,f5,k14.trans (k5.kp r)⟩,fun j ys ρ2 S6 h=>h.2.2.1,?_,?_⟩
 ·rintro j w ys ρ2 S6 hw ⟨⟨a1,rfl⟩,⟨vs,rfl,hsub⟩,e6,f6,k6⟩;rw[(Iu),(Io)]at hw;obtain⟨u,hu,rfl⟩:=hw;refine ae (show hX (.nm 1) (aY u) [none,a1,some (.ref r)] S6=some ([none,some (aY u),some (.ref r)],S6)from rfl) ?_
  dsimp only[kE,wC,wE,wA,wV,wG];refine bc (d:=d+6) G.pick f6 (by decide) (by decide) fun v S7 _ _ f7 k7=>?_
  dsimp only[ic,aQ,wB];have e7:=k7.get _ _ (by omega) e6
  refine⟨fun _=>⟨⟨_,rfl⟩,⟨vs++[u],by rw[(IV)]; rfl,?_⟩,e7,f7,k6.trans k7⟩,fun _=>⟨⟨_,rfl⟩,⟨vs,rfl,?_⟩,e7,f7,k6.trans k7⟩⟩
  ·rw[(IT),hu];exact hsub.append (List.Sublist.refl _)
  ·rw[(IT)];exact hsub.trans (List.sublist_append_left _ _)
 ·rintro ys ρ2 S6 ⟨_,⟨vs,rfl,hsub⟩,e6,f6,k6⟩;rw[(Im),(Jf)]at hsub;have pu:(c7 us).Perm us:=eX;have hvl:vs.length<=us.length:=by rw[<- pu.length_eq]; exact hsub.length_le
  have hvs:=vS hnd hsub;refine⟨lF (by rw[(Im)]; omega),eu ag (k _ _ ⟨a,bs,ms,ns,vs,by rw[hvs]; rfl,hsz,hml,hnl,hnm,hsub.nodup (pu.nodup_iff.mpr hnd),fun g hg=>hmem g (pu.mem_iff.mp (hsub.subset hg))⟩ (f6.ka .push) (k6.trans .push))⟩
end
noncomputable def zh (p:List Nat):T:=.tup (p.map fun(n:Nat)=>T.int (n:Int))
theorem uC:∀ p:List Nat,W.ts (ak p)=some (p.map fun(n:Nat)=>T.int (n:Int))
 | []=>rfl
 | n::p=>by
  show(match W.t (.int n),W.ts (ak p)with
   | some y,some ys=>some (y::ys)
   | _,_=>none)=_
  rw[uC p]; rfl
theorem zj (p:List Nat):W.t (.tup (ak p))=some (zh p):=by
 simp only[W.t,uC]; rfl
theorem uD:∀ os:List (List Nat),W.ts (aL os)=some (os.map zh)
 | []=>rfl
 | o::os=>by
  show(match W.t (.tup (ak o)),W.ts (aL os)with
   | some y,some ys=>some (y::ys)
   | _,_=>none)=_
  rw[uD os,zj]; rfl
theorem zm (p:List Nat):T.depths (p.map fun(n:Nat)=>T.int (n:Int))=0:=by
 induction p with
 | nil=>rfl
 | cons n p ih=>simp only[List.map_cons,T.depths,ih]; rfl
theorem rH (p:List Nat):(zh p).depth=1:=by simp only[zh,T.depth,zm]
theorem rJ:∀ os:List (List Nat),T.depths (os.map zh)<=1
 | []=>by decide
 | o::os=>by
  have:=rJ os;simp only[List.map_cons,T.depths,rH]; omega
theorem zn {S:aa}{i:Nat}{p:List Nat}{os:List (List Nat)}(h:S[i]?=some (.lst (aL os)))(hp:p∈os):dh .notin (.tup (ak p)) (.ref i) S=some (.bl false,S):=by
 have e:Ej (.tup (ak p)) i S=some true:=by
  unfold Ej;rw[zj,aK h];dsimp only;rw[uD];dsimp only;rw[if_pos ⟨by rw[rH]; decide,IC (rJ os) (by decide)⟩]
  rw[decide_eq_true (List.mem_map.mpr ⟨p,hp,rfl⟩)]
 simp only[dh,kD h,e];rfl
theorem D0 {bs:List Int}{a:Nat}{v:Wd}{i j:Nat}(hb:GoodB bs)(hv:GoodW a bs.length v)(hi:i < v.length)(hj:j < v.length)(hij:i≠j):0<=eQ bs v i j/\eQ bs v i j < (bs.length:Int):=by
 unfold eQ
 by_cases h:j < i
 ·rw[if_pos h];have hp:=aS (d:=(0,[])) hi;have hw:j < (v.getD i (0,[])).2.length:=by rw[hv.len i _ hp]; exact h
  exact hv.way i _ hp _ (IA (aS (d:=0) hw))
 ·rw[if_neg h];have hp:=aS (d:=(0,[])) hj;have hw:i < (v.getD j (0,[])).2.length:=by rw[hv.len j _ hp]; omega
  obtain⟨g1,g2⟩:=hv.way j _ hp _ (IA (aS (d:=0) hw));exact(hb.at g1 g2).2
theorem vU {bs:List Int}{a:Nat}{v:Wd}{ps:List Nat}(hb:GoodB bs)(hv:GoodW a bs.length v)(hps:∀ p∈ps,p < v.length)(hnd:ps.Nodup):GoodW a bs.length (aT bs v ps):=by
 have at':∀ (k:Nat) (q:Pt),(aT bs v ps)[k]?=some q->∃ hk:k < ps.length,q=((v.getD ps[k] (0,[])).1,(ps.take k).map fun j=>eQ bs v ps[k] j):=fun k q e=>by
  have hk:k < ps.length:=by
   have:=(Ir.mp e).1;rw[jv]at this; exact this
  refine⟨hk,?_⟩;unfold aT at e;rw[(Iu),List.getElem?_range hk,Option.map_some,show ps.getD k 0=ps[k] by simp[hk]]at e
  exact(Jb e).symm
 refine⟨fun k q e=>?_,fun k q e=>?_,fun k q e=>?_⟩
 ·obtain⟨hk,rfl⟩:=at' k q e;have:=hv.mark _ _ (aS (d:=(0,[])) (hps _ (IQ hk)));exact this
 ·obtain⟨hk,rfl⟩:=at' k q e;dsimp only;rw[(Im),(Jq)]; omega
 ·obtain⟨hk,rfl⟩:=at' k q e;intro w hw;obtain⟨j,hj,rfl⟩:=IF.mp hw;have hjm:=JV hj;refine D0 hb hv (hps _ (IQ hk)) (hps _ hjm) fun e=>?_
  obtain⟨m,hm,e2⟩:=List.mem_iff_getElem.mp hj;rw[(Jq)]at hm;rw[List.getElem_take]at e2;have:=(List.getElem_inj hnd).mp (e.trans e2.symm);omega
section
variable {defs:List (Str×Df)} {fuel d:Nat} {S:aa} {Q:QW}
theorem D2 (hd:Is defs ("_law_flow" : Str) 1 1 ej){ns:List Int}{u:Nat}(hu:S[u]?=some (.fro (ns.map W.int)))(k:∀ r S',Ka S S'->Fl S' r->Q (.ref r,S')) :
  wO (bR (ap defs fuel (d+1)) "_law_flow" 1 [.ref u] S) Q:=by
 refine aJ hd rfl rfl fun Q' hR=>?_
 show wZ _ _ ej [some (.ref u)] S Q';dsimp only[ej];refine st ?_;dsimp only[wS,wE,wA,wV,wG];have e:Bi.list.fn [.ref u] S=some (.ref S.length,S++[.lst (ns.map W.int)]):=by
  have h1:u6 S u=none:=by simp[u6,hu]
  simp only[Bi.fn,Bc,jO,h1,iA,eW,Bo hu]
 refine ae e (hR _ _ (k _ _ (Ka.push.trans .push) ⟨S.length,ns,0,0,1,0,?_,?_,?_,by decide,by decide,by decide,by decide⟩))
 ·exact ag
 ·exact aq ag
 ·simp
theorem D5 (P:Parts defs)(hg:Is defs ("longer_orders" : Str) 2 4 bB)(hl:Is defs ("likenesses" : Str) 3 6 cu){Q:QO}{ρ:Fm}{K:Fm->aa->Prop}{m0 b0:W}{ns:List Str}{bs:List Int}{a:Nat}{u:Wd}(hb:GoodB bs)(hnl:ns.length=bs.length)(hu:GoodW a bs.length u)(hu5:u.length<=5)(h2:∀ P:W->Prop,P (.tup [m0,.tup (List.zipWith bA ns bs),b0])->wV ρ 2 P)(h5:∀ P:W->Prop,P (aY u)->wV ρ 5 P)
  (k:∀ S',Ka S S'->K ρ S') :
  wS (ap defs fuel (d+3)) fuel (.ite (.cmp .notin (.bi .tuple (.cons (.bi .range (.cons (.bi .len (.cons (.v 5) .nil)) .nil)) .nil)) (.own "likenesses" 3 (.cons (.v 2) (.cons (.v 5) (.cons (.v 5) .nil))))) (.cons (.ret (.c (.bl false))) .nil) .nil) ρ S K Q:=by
 have he:∀ m:Int,m=u.length->∀ Q:QW,Q (.int m,S)->wE (ap defs fuel (d+3)) (.bi .len (.cons (.v 5) .nil)) ρ S Q:=fun m hm Q q=>by
  subst hm;dsimp only[wE,wA];refine h5 _ (bZ ?_);rw[(Im)]; exact q
 have hx:∀ Q:QW,(∀ S',Ka S S'->Q (.tup (ak (List.range u.length)),S'))->wE (ap defs fuel (d+3)) (.bi .tuple (.cons (.bi .range (.cons (.bi .len (.cons (.v 5) .nil)) .nil)) .nil)) ρ S Q:=fun Q h=>by
  generalize hm:(u.length:Int)=m;have he:=he m hm.symm;generalize E.bi .len (.cons (.v 5) .nil)=e at he ⊢;exact nM hm.symm he (by omega) h
 generalize E.bi .tuple (.cons (.bi .range (.cons (.bi .len (.cons (.v 5) .nil)) .nil)) .nil)=c at hx ⊢;dsimp only[wS,wT,wE,wA];refine hx _ fun S1 k1=>h2 _ (h5 _ (h5 _ ?_))
 dsimp only;refine dU (d:=d) P hg hl hb hnl hu hu5 hu5 fun q S2 e2 _ k2=>?_
 refine ae (zn e2 (nK hu (Ip _))) ?_;dsimp only[wB];exact aD (Q0:=Q) (fun z=>by cases z) (fun _ Q5 hn5 _=>cH (hn5 _ _ (k _ (k1.trans k2))))
end
noncomputable def kH:Ss:=
 (.cons (.set 1 (.own "_law_flow" 1 (.cons (.v 0) .nil)))
 (.cons (.set 2 (.own "_law_full_rule" 1 (.cons (.v 1) .nil)))
 (.cons (.set 3 (.bi .int (.cons (.cmp .eq (.own "_law_pick" 2 (.cons (.v 1) (.cons (.c (.int 8)) .nil))) (.c (.int 0))) .nil)))
 (.cons (.set 4 (.own "_law_any_world" 3 (.cons (.v 1) (.cons (.v 2) (.cons (.own "_law_pick" 2 (.cons (.v 1) (.cons (.op .add (.c (.int 5)) (.v 3)) .nil))) .nil)))))
 (.cons (.set 5 (.own "_law_any_world" 3 (.cons (.v 1) (.cons (.v 2) (.cons (.own "_law_pick" 2 (.cons (.v 1) (.cons (.op .add (.c (.int 4)) (.v 3)) .nil))) .nil)))))
 (.cons (.ite (.cmp .gt (.own "_law_pick" 2 (.cons (.v 1) (.cons (.c (.int 3)) .nil))) (.c (.int 0))) (.cons (.set 6 (.own "_law_pick" 2 (.cons (.v 1) (.cons (.op .add (.bi .len (.cons (.v 4) .nil)) (.c (.int 1))) .nil))))
 (.cons (.set 5 (.own "_law_part" 3 (.cons (.v 2) (.cons (.v 4) (.cons (.own "_law_drawn_points" 3 (.cons (.v 1) (.cons (.bi .len (.cons (.v 4) .nil)) (.cons (.v 6) .nil)))) .nil)))))
 .nil)) .nil)
 (.cons (.set 7 (.own "_law_maps" 3 (.cons (.v 2) (.cons (.v 5) (.cons (.v 4) .nil)))))
 (.cons (.set 8 (.own "likenesses" 3 (.cons (.v 2) (.cons (.v 5) (.cons (.v 4) .nil)))))
 (.cons (.ite (.not (.own "_law_alike" 2 (.cons (.v 8) (.cons (.v 7) .nil)))) (.cons (.ret (.c (.bl false)))
 .nil) .nil)
 (.cons (.ex (.me .append (.v 8) (.cons (.c .non) .nil)))
 (.cons (.set 9 (.own "_law_other_rule" 1 (.cons (.v 2) .nil)))
 (.cons (.ite (.not (.own "_law_alike" 2 (.cons (.own "likenesses" 3 (.cons (.v 9) (.cons (.v 5) (.cons (.v 4) .nil)))) (.cons (.own "_law_maps" 3 (.cons (.v 9) (.cons (.v 5) (.cons (.v 4) .nil)))) .nil)))) (.cons (.ret (.c (.bl false)))
 .nil) .nil)
 (.cons (.ite (.cmp .notin (.bi .tuple (.cons (.bi .range (.cons (.bi .len (.cons (.v 5) .nil)) .nil)) .nil)) (.own "likenesses" 3 (.cons (.v 2) (.cons (.v 5) (.cons (.v 5) .nil))))) (.cons (.ret (.c (.bl false)))
 .nil) .nil)
 (.cons (.ret (.own "_law_alike" 2 (.cons (.own "likenesses" 3 (.cons (.v 2) (.cons (.v 5) (.cons (.v 4) .nil)))) (.cons (.v 7) .nil))))
 .nil))))))))))))))
structure Lw18 (defs:List (Str×Df)):Prop where
 gen:Gen defs
 full:Full defs
 parts:Parts defs
 longer:Is defs ("longer_orders" : Str) 2 4 bB
 likes:Is defs ("likenesses" : Str) 3 6 cu
 flow:Is defs ("_law_flow" : Str) 1 1 ej
 world:Is defs ("_law_any_world" : Str) 3 6 ca
 alike:Is defs ("_law_alike" : Str) 2 2 bF
 drawn:Is defs ("_law_drawn_points" : Str) 3 5 bN
 maps:Is defs ("_law_maps" : Str) 3 9 eA
 other:Is defs ("_law_other_rule" : Str) 1 2 bV
 law:Is defs ("law" : Str) 1 10 kH
section
variable {defs:List (Str×Df)} {fuel d:Nat}
theorem zo (hfu:50 < fuel)(L:Lw18 defs){zs:List Int}:∃ S',ap defs fuel (d+9) "law" [.ref 0] [.fro (zs.map W.int)]=some (.bl true,S'):=by
 suffices h:wO (bR (ap defs fuel (d+9)) "law" 1 [.ref 0] [.fro (zs.map W.int)]) (fun p=>p.1=.bl true) by
  obtain⟨⟨v,S'⟩,e,q⟩:=cz h;cases(show v=.bl true from q)
  exact⟨S',e⟩
 have G:=L.gen;refine aJ L.law rfl rfl fun Q' hR=>?_
 show wZ _ _ kH [some (.ref 0),none,none,none,none,none,none,none,none,none] [.fro (zs.map W.int)] Q';unfold kH;refine aZ fun K hK=>?_
 dsimp only[wS,wE,wA,wV,wG,List.set];refine D2 (d:=d+7) L.flow (ns:=zs) rfl fun r S1 _ f1=>hK _ _ ?_
 clear hK K;refine aZ fun K hK=>?_
 dsimp only[wS,wE,wA,wV,wG,List.set];refine DZ (d:=d) (by omega) G L.full f1 fun w S2 hw f2 _=>hK _ _ ?_
 clear hK K f1;obtain⟨a,bs,ms,ns,gs,rfl,hr⟩:=hw;have hb:=hr.size.good;have hnl:=hr.nl;have hml:=hr.ml;have hpos:=hr.size.pos;have ha3:=hr.size.a3;clear hr;unfold dJ;generalize W.tup ((c7 gs).map aY)=b0;clear gs;refine aZ fun K hK=>?_
 dsimp only[wS,wE,wA,wV,wG,List.set];refine bc (d:=d+7) G.pick f2 (by decide) (by decide) fun v S3 _ _ f3 _=>?_
 dsimp only[ic,aQ];obtain⟨g,hg1,eg⟩ : ∃ g:Nat,g<=1/\Bi.int.fn [.bl (v==0)] S3=some (.int (g:Int),S3):=by
  cases v==0
  ·exact⟨0,by decide,rfl⟩
  ·exact⟨1,by decide,rfl⟩
 refine ae eg (hK _ _ ?_);clear hK K f2 eg;dsimp only;refine aZ fun K hK=>?_
 dsimp only[wS,wE,wA,wV,wG,List.set];refine ae cW ?_;refine bc (d:=d+7) G.pick f3 (by omega) (by omega) fun v S4 v0 v1 f4 _=>?_
 obtain⟨n1,rfl⟩ : ∃ n:Nat,v=n:=⟨v.toNat,by omega⟩
 refine jV (d:=d+6) G L.world f4 hpos ha3 hb hml hnl (by omega) fun x S5 hx1 hx f5 _=>hK _ _ ?_
 have hx5:x.length<=5:=by omega
 clear hK K f4 f3 hx1 v0 v1;refine aZ fun K hK=>?_
 dsimp only[wS,wE,wA,wV,wG,List.set];refine ae cW ?_;refine bc (d:=d+7) G.pick f5 (by omega) (by omega) fun v S6 v0 v1 f6 _=>?_
 obtain⟨n2,rfl⟩ : ∃ n:Nat,v=n:=⟨v.toNat,by omega⟩
 refine jV (d:=d+6) G L.world f6 hpos ha3 hb hml hnl (by omega) fun y S7 hy1 hy f7 _=>hK _ _ ?_
 have hy5:y.length<=5:=by omega
 clear hK K f5 f6 hy1 v0 v1;refine aZ fun K hK=>?_
 have tl:∀ (u:Wd) (a6:Option W) (S8:aa),GoodW a bs.length u->u.length<=5->K [some (.ref 0),some (.ref r),some (.tup [.tup (ms.map W.str),.tup (List.zipWith bA ns bs),b0]),some (.int (g:Int)),some (aY x),some (aY u),a6,none,none,none] S8:=by
  intro u a6 S8 hu hu5;refine hK _ _ ?_;clear hK K f7 hy hy5 y;refine aZ fun K hK=>?_
  dsimp only[wS,wE,wA,wV,wG,List.set];refine ze (d:=d+5) G L.maps hb hnl hu hx hu5 hx5 fun qd S9 e9 _ _=>hK _ _ ?_
  clear hK K;rw[<- gB hu (Nat.le_refl _)]at e9;have hlen:(bE bs u x u.length).length<=3125:=IC (gf _) (IC (Kn hx5 _) (IC (Kc (by decide) hu5) (by decide)))
  have hol:∀ o∈bE bs u x u.length,o.length<=1000:=fun o ho=>by have:=(gg o ho).1; omega
  have hwl:(aL (bE bs u x u.length)).length<=100000:=by unfold aL; rw[List.length_map]; omega
  refine aZ fun K hK=>?_
  dsimp only[wS,wE,wA,wV,wG,List.set];refine dU (d:=d+5) L.parts L.longer L.likes hb hnl hx hu5 hx5 fun qf S10 e10 hq10 k10=>hK _ _ ?_
  clear hK K;have hqd:qd < qf:=IH (dg e9) hq10;have e9':=k10.get _ _ e9;clear e9 k10 hq10;refine aZ fun K hK=>?_
  dsimp only[wS,wT,wE,wA,wV,wG];refine jA (d:=d+5) (n:=1) L.alike e10 e9' hwl (pb hol) fun S11 k11=>?_
  refine ae (show gD S11 (.bl true)=some true from rfl) ?_
  refine aD (Q0:=Q') (fun z=>by cases z) (fun _ Q2 hn2 _=>cH (hn2 _ _ (hK _ _ ?_)))
  clear hn2 hK K;have e10':=k11.get _ _ e10;have e9:=k11.get _ _ e9';clear e10 e9' k11;refine aZ fun K hK=>?_
  dsimp only[wS,wE,wA,wV,wG];refine⟨dj e10',zd e10' (by omega) (hK _ _ ?_)⟩
  clear hK K;have e9s:(S11.set qf (.lst (aL (bE bs u x u.length)++[.non])))[qd]?=some (.lst (aL (bE bs u x u.length))):=by rw[b8 (by omega)]; exact e9
  generalize S11.set qf (.lst (aL (bE bs u x u.length)++[.non]))=S12 at e9s;clear e9 e10';obtain⟨gb,gl⟩:=nN hb;have hu':GoodW a (eJ bs).length u:=gl.symm ▸ hu;have hx':GoodW a (eJ bs).length x:=gl.symm ▸ hx;refine aZ fun K hK=>?_
  dsimp only[wS,wE,wA,wV,wG,List.set];refine BL (d:=d+7) L.other hb hnl fun S13 k13=>hK _ _ ?_
  clear hK K;refine aZ fun K hK=>?_
  dsimp only[wS,wT,wE,wA,wV,wG];refine dU (d:=d+5) L.parts L.longer L.likes gb (by rw[gl]; exact hnl) hx' hu5 hx5 fun q1 S14 e14 _ k14=>?_
  refine ze (d:=d+5) G L.maps gb (by rw[gl]; exact hnl) hu' hx' hu5 hx5 fun q2 S15 e15 _ k15=>?_
  rw[<- gB hu' (Nat.le_refl _)]at e15;have hlen':(bE (eJ bs) u x u.length).length<=3125:=IC (gf _) (IC (Kn hx5 _) (IC (Kc (by decide) hu5) (by decide)))
  refine jA (d:=d+5) (n:=1) L.alike (k15.get _ _ e14) e15 (by unfold aL; rw[List.length_map]; omega) (pb fun o ho=>by have:=(gg o ho).1; omega) fun S16 k16=>?_
  refine ae (show gD S16 (.bl true)=some true from rfl) ?_
  refine aD (Q0:=Q') (fun z=>by cases z) (fun _ Q2 hn2 _=>cH (hn2 _ _ (hK _ _ ?_)))
  clear hn2 hK K;have e16:=k16.get _ _ (k15.get _ _ (k14.get _ _ (k13.get _ _ e9s)));clear k16 k15 k14 k13 e14 e15 e9s;refine aZ fun K hK=>?_
  dsimp only;generalize hρ:[some (W.ref 0),some (.ref r),some (.tup [.tup (ms.map W.str),.tup (List.zipWith bA ns bs),b0]),some (.int (g:Int)),some (aY x),some (aY u),a6,some (.ref qd),some (.ref qf),some (.tup [.tup (ms.map W.str),.tup (List.zipWith bA ns (eJ bs)),.tup []])]=ρ0 at hK ⊢;have v2:∀ P:W->Prop,P (.tup [.tup (ms.map W.str),.tup (List.zipWith bA ns bs),b0])->wV ρ0 2 P:=fun P h=>by rw[<- hρ]; exact h
  have v5:∀ P:W->Prop,P (aY u)->wV ρ0 5 P:=fun P h=>by rw[<- hρ]; exact h
  refine D5 (d:=d+5) L.parts L.longer L.likes hb hnl hu hu5 v2 v5 fun S17 k17=>hK _ _ ?_
  clear v2 v5 hK K;subst hρ;refine st ?_;dsimp only[wS,wE,wA,wV,wG];refine dU (d:=d+5) L.parts L.longer L.likes hb hnl hx hu5 hx5 fun q3 S18 e18 _ k18=>?_
  exact jA (d:=d+5) (n:=1) L.alike e18 (k18.get _ _ (k17.get _ _ e16)) hwl (pb hol) fun S19 _=>hR _ _ rfl
 dsimp only[wS,wT,wE,wA,wV,wG];refine bc (d:=d+7) G.pick f7 (by decide) (by decide) fun v S8 _ _ f8 _=>?_
 dsimp only[Bn,aQ,wB];refine aD (Q0:=Q') (fun _ Q2 hn2 _=>?_) (fun _ Q2 hn2 _=>cH (hn2 _ _ (tl y none S8 hy hy5)))
 refine aZ fun K2 hK2=>?_
 dsimp only[wS,wE,wA,wV,wG,List.set];refine bZ ?_;rw[show(x.map fm).length=x.length from List.length_map ..]
 refine ae cW ?_;refine bc (d:=d+7) G.pick f8 (by omega) (by omega) fun v S9 v0 v1 f9 _=>hK2 _ _ ?_
 obtain⟨n,rfl⟩ : ∃ n:Nat,v=n:=⟨v.toNat,by omega⟩
 clear hK2 K2;refine aZ fun K2 hK2=>?_
 dsimp only[wS,wE,wA,wV,wG,List.set];refine bZ ?_;rw[show(x.map fm).length=x.length from List.length_map ..]
 refine BH (d:=d+6) G L.drawn (many:=x.length) (size:=n) f9 (by omega) (by omega) (by omega) fun ps S10 hpl hnd hpx f10 _=>?_
 refine oV (d:=d+6) G hb hnl hx hpx hnd (by omega) fun S11 _=>hK2 _ _ (cH (hn2 _ _ (tl _ _ S11 (vU hb hx hpx hnd) ?_)))
 rw[jv]; omega
end
noncomputable def aj (i:Nat):Stmt:=PySem.Challenge.pw_layworld_k18_likenesses_told.main.body.getD i (.Pass ⟨0,0,0,0⟩)
noncomputable def gX:Df:=⟨["rule","world","i","j"],["rule","world","i","j"],uz⟩
noncomputable def bo:Df:=⟨["rule","world","ahead","point"],["rule","world","ahead","point"],dS⟩
noncomputable def aM:Df:=⟨["orders","size"],["orders","size","longer","order"],bB⟩
noncomputable def bp:Df:=⟨["rule","one","other"],["rule","one","other","found","point","longer"],cu⟩
noncomputable def bG:Df:=⟨["_law_script"],["_law_script"],ej⟩
noncomputable def bH:Df:=⟨["_law_flow_here","_law_many"],["_law_flow_here","_law_many","_law_cell","_law_digit"],cN⟩
noncomputable def aU:Df:=⟨["_law_flow_here","_law_many"],["_law_flow_here","_law_many"],dt⟩
noncomputable def bI:Df:=⟨["_law_flow_here","_law_stem"],["_law_flow_here","_law_stem","_law_near"],fG⟩
noncomputable def bq:Df:=⟨["_law_flow_here","_law_many"],["_law_flow_here","_law_many","_law_stem","_law_names_here","_law_k","_law_name_here","_law_spare"],cO⟩
noncomputable def aV:Df:=⟨["_law_rule","_law_world","_law_i","_law_j"],["_law_rule","_law_world","_law_i","_law_j"],du⟩
noncomputable def bJ:Df:=⟨["_law_rule","_law_world","_law_points"],["_law_rule","_law_world","_law_points","_law_told","_law_k","_law_i"],fH⟩
noncomputable def br:Df:=⟨[],[],ga⟩
noncomputable def be:Df:=⟨["_law_rule","_law_three"],["_law_rule","_law_three"],dP⟩
noncomputable def bu:Df:=⟨["_law_flow_here","_law_many"],["_law_flow_here","_law_many","_law_menu"],eF⟩
noncomputable def aW:Df:=⟨["_law_flow_here","_law_marks","_law_backs_here","_law_barred"],["_law_flow_here","_law_marks","_law_backs_here","_law_barred","_law_names_here","_law_ways"],dv⟩
noncomputable def aB:Df:=⟨["_law_flow_here","_law_marks","_law_ways"],["_law_flow_here","_law_marks","_law_ways","_law_told","_law_k"],cq⟩
noncomputable def bv:Df:=⟨["_law_flow_here"],["_law_flow_here","_law_menu"],eG⟩
noncomputable def aN:Df:=⟨["_law_flow_here"],["_law_flow_here","_law_marks","_law_ways","_law_rule","_law_barred","_law_k"],cZ⟩
noncomputable def ay:Df:=⟨["_law_flow_here"],["_law_flow_here","_law_menu"],cf⟩
noncomputable def bf:Df:=⟨["_law_backs_here","_law_must","_law_to_one","_law_to_two","_law_between_here"],["_law_backs_here","_law_must","_law_to_one","_law_to_two","_law_between_here","_law_to","_law_pair","_law_x","_law_y","_law_z"],dQ⟩
noncomputable def aO:Df:=⟨["_law_flow_here","_law_backs_here","_law_must"],["_law_flow_here","_law_backs_here","_law_must","_law_many","_law_menu","_law_some","_law_numbers","_law_told","_law_k","_law_other","_law_u","_law_v"],bM⟩
noncomputable def az:Df:=⟨["_law_flow_here"],["_law_flow_here","_law_form","_law_backs_here","_law_must","_law_most","_law_marks","_law_rule","_law_barred","_law_many","_law_at","_law_one","_law_two","_law_between_here","_law_some","_law_first"],cg⟩
noncomputable def bg:Df:=⟨["_law_marks"],["_law_marks","_law_told","_law_i","_law_j"],dR⟩
noncomputable def aG:Df:=⟨["_law_flow_here"],["_law_flow_here","_law_marks","_law_ways","_law_rule","_law_k","_law_own","_law_free","_law_barred","_law_three"],cJ⟩
noncomputable def ar:Df:=⟨["_law_flow_here"],["_law_flow_here","_law_marks","_law_barred"],bY⟩
noncomputable def aH:Df:=⟨["_law_flow_here","_law_rule","_law_many"],["_law_flow_here","_law_rule","_law_many","_law_told","_law_k","_law_mark"],ca⟩
noncomputable def bw:Df:=⟨["_law_found","_law_due"],["_law_found","_law_due"],bF⟩
noncomputable def bh:Df:=⟨["_law_many","_law_size"],["_law_many","_law_size","_law_told","_law_k"],cr⟩
noncomputable def bj:Df:=⟨["_law_rule","_law_size"],["_law_rule","_law_size","_law_told","_law_k","_law_points","_law_mark"],c9⟩
noncomputable def aX:Df:=⟨["_law_rule"],["_law_rule"],dy⟩
noncomputable def aI:Df:=⟨["_law_flow_here"],["_law_flow_here","_law_form","_law_marks","_law_many","_law_rule"],cK⟩
noncomputable def au:Df:=⟨["_law_flow_here","_law_many","_law_size"],["_law_flow_here","_law_many","_law_size","_law_left","_law_told"],bN⟩
noncomputable def bK:Df:=⟨["_law_rule","_law_one","_law_other"],["_law_rule","_law_one","_law_other","_law_told","_law_point","_law_head","_law_longer","_law_some","_law_fellow"],eA⟩
noncomputable def aC:Df:=⟨["_law_rule"],["_law_rule","_law_backs_here"],bV⟩
noncomputable def gY:Df:=⟨["_law_script"],["_law_script","_law_flow_here","_law_rule","_law_great","_law_other","_law_one","_law_size","_law_due","_law_found","_law_twin"],kH⟩
noncomputable def jY:List (Str×Df):=[(("way" : Str),gX),(("point_over" : Str),bo),(("longer_orders" : Str),aM),(("likenesses" : Str),bp),(("_law_flow" : Str),bG),(("_law_pick" : Str),bH),(("_law_letters" : Str),aU),(("_law_name" : Str),bI),(("_law_names" : Str),bq),(("_law_between" : Str),aV),(("_law_part" : Str),bJ),(("_law_turns" : Str),br),(("_law_figure" : Str),be),(("_law_backs" : Str),bu),(("_law_rule_of" : Str),aW),(("_law_free_three" : Str),aB),(("_law_sizes" : Str),bv),(("_law_any_rule" : Str),aN),(("_law_laying_kind" : Str),ay),(("_law_breaks" : Str),bf),(("_law_numbered" : Str),aO),(("_law_laying_rule" : Str),az),(("_law_rising" : Str),bg),(("_law_free_rule" : Str),aG),(("_law_one_way_rule" : Str),ar),(("_law_any_world" : Str),aH),(("_law_alike" : Str),bw),(("_law_digits" : Str),bh),(("_law_worlds" : Str),bj),(("_law_figures" : Str),aX),(("_law_full_rule" : Str),aI),(("_law_drawn_points" : Str),au),(("_law_maps" : Str),bK),(("_law_other_rule" : Str),aC),(("law" : Str),gY)]
noncomputable def BP:List (Str×Nat):=[(("way" : Str),4),(("point_over" : Str),4),(("longer_orders" : Str),2),(("likenesses" : Str),3),(("_law_flow" : Str),1),(("_law_pick" : Str),2),(("_law_letters" : Str),2),(("_law_name" : Str),2),(("_law_names" : Str),2),(("_law_between" : Str),4),(("_law_part" : Str),3),(("_law_turns" : Str),0),(("_law_figure" : Str),2),(("_law_backs" : Str),2),(("_law_rule_of" : Str),4),(("_law_free_three" : Str),3),(("_law_sizes" : Str),1),(("_law_any_rule" : Str),1),(("_law_laying_kind" : Str),1),(("_law_breaks" : Str),5),(("_law_numbered" : Str),3),(("_law_laying_rule" : Str),1),(("_law_rising" : Str),1),(("_law_free_rule" : Str),1),(("_law_one_way_rule" : Str),1),(("_law_any_world" : Str),3),(("_law_alike" : Str),2),(("_law_digits" : Str),2),(("_law_worlds" : Str),2),(("_law_figures" : Str),1),(("_law_full_rule" : Str),1),(("_law_drawn_points" : Str),3),(("_law_maps" : Str),3),(("_law_other_rule" : Str),1),(("law" : Str),1)]
noncomputable def D7:List Str:=["range","len","list","tuple","int","set","sorted","isinstance","bool","str","all","min"]
noncomputable def ft:Md:=⟨BP,D7⟩
theorem Ea:b7 ft (aj 1) gX:=by rfl
theorem Eb:FnScope gX.N gX.ps (ah (aj 1)):=⟨rfl,rfl,rfl,by decide +kernel,rfl,by decide +kernel,by decide +kernel⟩
theorem l8:b7 ft (aj 3) bo:=by rfl
theorem l9:FnScope bo.N bo.ps (ah (aj 3)):=⟨rfl,rfl,rfl,by decide +kernel,rfl,by decide +kernel,by decide +kernel⟩
theorem jC:b7 ft (aj 4) aM:=by rfl
theorem jD:FnScope aM.N aM.ps (ah (aj 4)):=⟨rfl,rfl,rfl,by decide +kernel,rfl,by decide +kernel,by decide +kernel⟩
theorem ma:b7 ft (aj 6) bp:=by rfl
theorem md:FnScope bp.N bp.ps (ah (aj 6)):=⟨rfl,rfl,rfl,by decide +kernel,rfl,by decide +kernel,by decide +kernel⟩
theorem pc:b7 ft (aj 8) bG:=by rfl
theorem pd:FnScope bG.N bG.ps (ah (aj 8)):=⟨rfl,rfl,rfl,by decide +kernel,rfl,by decide +kernel,by decide +kernel⟩
theorem pe:b7 ft (aj 9) bH:=by rfl
theorem pf:FnScope bH.N bH.ps (ah (aj 9)):=⟨rfl,rfl,rfl,by decide +kernel,rfl,by decide +kernel,by decide +kernel⟩
theorem j5:b7 ft (aj 10) aU:=by rfl
theorem j6:FnScope aU.N aU.ps (ah (aj 10)):=⟨rfl,rfl,rfl,by decide +kernel,rfl,by decide +kernel,by decide +kernel⟩
theorem pg:b7 ft (aj 11) bI:=by rfl
theorem ph:FnScope bI.N bI.ps (ah (aj 11)):=⟨rfl,rfl,rfl,by decide +kernel,rfl,by decide +kernel,by decide +kernel⟩
theorem mf:b7 ft (aj 12) bq:=by rfl
theorem mh:FnScope bq.N bq.ps (ah (aj 12)):=⟨rfl,rfl,rfl,by decide +kernel,rfl,by decide +kernel,by decide +kernel⟩
theorem j7:b7 ft (aj 13) aV:=by rfl
theorem j8:FnScope aV.N aV.ps (ah (aj 13)):=⟨rfl,rfl,rfl,by decide +kernel,rfl,by decide +kernel,by decide +kernel⟩
theorem pi:b7 ft (aj 14) bJ:=by rfl
theorem po:FnScope bJ.N bJ.ps (ah (aj 14)):=⟨rfl,rfl,rfl,by decide +kernel,rfl,by decide +kernel,by decide +kernel⟩
theorem mj:b7 ft (aj 15) br:=by rfl
theorem mn:FnScope br.N br.ps (ah (aj 15)):=⟨rfl,rfl,rfl,by decide +kernel,rfl,by decide +kernel,by decide +kernel⟩
theorem lG:b7 ft (aj 16) be:=by rfl
theorem lH:FnScope be.N be.ps (ah (aj 16)):=⟨rfl,rfl,rfl,by decide +kernel,rfl,by decide +kernel,by decide +kernel⟩
theorem mo:b7 ft (aj 17) bu:=by rfl
theorem mq:FnScope bu.N bu.ps (ah (aj 17)):=⟨rfl,rfl,rfl,by decide +kernel,rfl,by decide +kernel,by decide +kernel⟩
theorem j9:b7 ft (aj 18) aW:=by rfl
theorem ke:FnScope aW.N aW.ps (ah (aj 18)):=⟨rfl,rfl,rfl,by decide +kernel,rfl,by decide +kernel,by decide +kernel⟩
theorem ik:b7 ft (aj 19) aB:=by rfl
theorem im:FnScope aB.N aB.ps (ah (aj 19)):=⟨rfl,rfl,rfl,by decide +kernel,rfl,by decide +kernel,by decide +kernel⟩
theorem mr:b7 ft (aj 20) bv:=by rfl
theorem mw:FnScope bv.N bv.ps (ah (aj 20)):=⟨rfl,rfl,rfl,by decide +kernel,rfl,by decide +kernel,by decide +kernel⟩
theorem jE:b7 ft (aj 21) aN:=by rfl
theorem jF:FnScope aN.N aN.ps (ah (aj 21)):=⟨rfl,rfl,rfl,by decide +kernel,rfl,by decide +kernel,by decide +kernel⟩
theorem gI:b7 ft (aj 22) ay:=by rfl
theorem gJ:FnScope ay.N ay.ps (ah (aj 22)):=⟨rfl,rfl,rfl,by decide +kernel,rfl,by decide +kernel,by decide +kernel⟩
theorem lI:b7 ft (aj 23) bf:=by rfl
theorem lJ:FnScope bf.N bf.ps (ah (aj 23)):=⟨rfl,rfl,rfl,by decide +kernel,rfl,by decide +kernel,by decide +kernel⟩
theorem jG:b7 ft (aj 24) aO:=by rfl
theorem jH:FnScope aO.N aO.ps (ah (aj 24)):=⟨rfl,rfl,rfl,by decide +kernel,rfl,by decide +kernel,by decide +kernel⟩
theorem gK:b7 ft (aj 25) az:=by rfl
theorem gL:FnScope az.N az.ps (ah (aj 25)):=⟨rfl,rfl,rfl,by decide +kernel,rfl,by decide +kernel,by decide +kernel⟩
theorem lK:b7 ft (aj 26) bg:=by rfl
theorem lL:FnScope bg.N bg.ps (ah (aj 26)):=⟨rfl,rfl,rfl,by decide +kernel,rfl,by decide +kernel,by decide +kernel⟩
theorem iX:b7 ft (aj 27) aG:=by rfl
theorem iY:FnScope aG.N aG.ps (ah (aj 27)):=⟨rfl,rfl,rfl,by decide +kernel,rfl,by decide +kernel,by decide +kernel⟩
theorem gh:b7 ft (aj 28) ar:=by rfl
theorem gj:FnScope ar.N ar.ps (ah (aj 28)):=⟨rfl,rfl,rfl,by decide +kernel,rfl,by decide +kernel,by decide +kernel⟩
theorem iZ:b7 ft (aj 29) aH:=by rfl
theorem i4:FnScope aH.N aH.ps (ah (aj 29)):=⟨rfl,rfl,rfl,by decide +kernel,rfl,by decide +kernel,by decide +kernel⟩
theorem mx:b7 ft (aj 30) bw:=by rfl
theorem my:FnScope bw.N bw.ps (ah (aj 30)):=⟨rfl,rfl,rfl,by decide +kernel,rfl,by decide +kernel,by decide +kernel⟩
theorem lM:b7 ft (aj 31) bh:=by rfl
theorem lN:FnScope bh.N bh.ps (ah (aj 31)):=⟨rfl,rfl,rfl,by decide +kernel,rfl,by decide +kernel,by decide +kernel⟩
theorem lO:b7 ft (aj 32) bj:=by rfl
theorem lP:FnScope bj.N bj.ps (ah (aj 32)):=⟨rfl,rfl,rfl,by decide +kernel,rfl,by decide +kernel,by decide +kernel⟩
theorem kg:b7 ft (aj 33) aX:=by rfl
theorem kh:FnScope aX.N aX.ps (ah (aj 33)):=⟨rfl,rfl,rfl,by decide +kernel,rfl,by decide +kernel,by decide +kernel⟩
theorem i5:b7 ft (aj 34) aI:=by rfl
theorem i6:FnScope aI.N aI.ps (ah (aj 34)):=⟨rfl,rfl,rfl,by decide +kernel,rfl,by decide +kernel,by decide +kernel⟩
theorem gk:b7 ft (aj 35) au:=by rfl
theorem gm:FnScope au.N au.ps (ah (aj 35)):=⟨rfl,rfl,rfl,by decide +kernel,rfl,by decide +kernel,by decide +kernel⟩
theorem pq:b7 ft (aj 36) bK:=by rfl
theorem pr:FnScope bK.N bK.ps (ah (aj 36)):=⟨rfl,rfl,rfl,by decide +kernel,rfl,by decide +kernel,by decide +kernel⟩
theorem io:b7 ft (aj 37) aC:=by rfl
theorem ip:FnScope aC.N aC.ps (ah (aj 37)):=⟨rfl,rfl,rfl,by decide +kernel,rfl,by decide +kernel,by decide +kernel⟩
theorem zp:b7 ft (aj 38) gY:=by rfl
theorem zq:FnScope gY.N gY.ps (ah (aj 38)):=⟨rfl,rfl,rfl,by decide +kernel,rfl,by decide +kernel,by decide +kernel⟩
theorem al {α:Type}{x y:Str}{n m:α}{L:List (Str×α)}(h:((y,m)::L).lookup x=some n):(x=y/\n=m)\/L.lookup x=some n:=by
 rw[List.lookup_cons]at h;split at h
 ·rename_i e;cases h;exact .inl ⟨eq_of_beq e,rfl⟩
 ·exact .inr h
theorem Ga:Lw18 jY:=⟨⟨⟨bH,rfl,rfl,rfl,rfl⟩,⟨aU,rfl,rfl,rfl,rfl⟩,⟨bI,rfl,rfl,rfl,rfl⟩,⟨bq,rfl,rfl,rfl,rfl⟩,⟨aV,rfl,rfl,rfl,rfl⟩,⟨bJ,rfl,rfl,rfl,rfl⟩,⟨br,rfl,rfl,rfl,rfl⟩,⟨be,rfl,rfl,rfl,rfl⟩,⟨bu,rfl,rfl,rfl,rfl⟩,⟨aW,rfl,rfl,rfl,rfl⟩,⟨aB,rfl,rfl,rfl,rfl⟩,⟨bv,rfl,rfl,rfl,rfl⟩,⟨aN,rfl,rfl,rfl,rfl⟩,⟨ay,rfl,rfl,rfl,rfl⟩,⟨bf,rfl,rfl,rfl,rfl⟩,⟨aO,rfl,rfl,rfl,rfl⟩,⟨az,rfl,rfl,rfl,rfl⟩,⟨bg,rfl,rfl,rfl,rfl⟩,⟨aG,rfl,rfl,rfl,rfl⟩,⟨ar,rfl,rfl,rfl,rfl⟩⟩,⟨⟨bh,rfl,rfl,rfl,rfl⟩,⟨bj,rfl,rfl,rfl,rfl⟩,⟨aX,rfl,rfl,rfl,rfl⟩,⟨aI,rfl,rfl,rfl,rfl⟩⟩,⟨⟨gX,rfl,rfl,rfl,rfl⟩,⟨bo,rfl,rfl,rfl,rfl⟩⟩,⟨aM,rfl,rfl,rfl,rfl⟩,⟨bp,rfl,rfl,rfl,rfl⟩,⟨bG,rfl,rfl,rfl,rfl⟩,⟨aH,rfl,rfl,rfl,rfl⟩,⟨bw,rfl,rfl,rfl,rfl⟩,⟨au,rfl,rfl,rfl,rfl⟩,⟨bK,rfl,rfl,rfl,rfl⟩,⟨aC,rfl,rfl,rfl,rfl⟩,⟨gY,rfl,rfl,rfl,rfl⟩⟩
noncomputable def BD (x:Str)(st:Stmt)(df:Df):Prop:=∀ (kV doc pm:Value) (an:Option Addr) (cdv ct:Value) (us:List Value),us.length=df.ps.length->bindArgs (PySem.W.fnOf x x (dM st) (cR st) (ah st) .none kV doc pm an cdv ct) ⟨us,[]⟩=pure (df.ps.zip us)
theorem Ig {us:List Value}(h:us.length=0):us=[]:=match us,h with|[],_=>rfl
theorem vX {us:List Value}(h:us.length=1):∃ a,us=[a]:=match us,h with|[a],_=>⟨a,rfl⟩
theorem zx {us:List Value}(h:us.length=2):∃ a b,us=[a,b]:=match us,h with|[a,b],_=>⟨a,b,rfl⟩
theorem Ec {us:List Value}(h:us.length=3):∃ a b c,us=[a,b,c]:=match us,h with|[a,b,c],_=>⟨a,b,c,rfl⟩
theorem Gq {us:List Value}(h:us.length=4):∃ a b c d,us=[a,b,c,d]:=match us,h with|[a,b,c,d],_=>⟨a,b,c,d,rfl⟩
theorem Ih {us:List Value}(h:us.length=5):∃ a b c d e,us=[a,b,c,d,e]:=match us,h with|[a,b,c,d,e],_=>⟨a,b,c,d,e,rfl⟩
theorem Ed:BD "way" (aj 1) gX:=fun _ _ _ _ _ _ us h=>by
 obtain⟨x0,x1,x2,x3,rfl⟩:=Gq h;rfl
theorem mz:BD "point_over" (aj 3) bo:=fun _ _ _ _ _ _ us h=>by
 obtain⟨x0,x1,x2,x3,rfl⟩:=Gq h;rfl
theorem jI:BD "longer_orders" (aj 4) aM:=fun _ _ _ _ _ _ us h=>by
 obtain⟨x0,x1,rfl⟩:=zx h;rfl
theorem mB:BD "likenesses" (aj 6) bp:=fun _ _ _ _ _ _ us h=>by
 obtain⟨x0,x1,x2,rfl⟩:=Ec h;rfl
theorem pz:BD "_law_flow" (aj 8) bG:=fun _ _ _ _ _ _ us h=>by
 obtain⟨x0,rfl⟩:=vX h;rfl
theorem pA:BD "_law_pick" (aj 9) bH:=fun _ _ _ _ _ _ us h=>by
 obtain⟨x0,x1,rfl⟩:=zx h;rfl
theorem ki:BD "_law_letters" (aj 10) aU:=fun _ _ _ _ _ _ us h=>by
 obtain⟨x0,x1,rfl⟩:=zx h;rfl
theorem pB:BD "_law_name" (aj 11) bI:=fun _ _ _ _ _ _ us h=>by
 obtain⟨x0,x1,rfl⟩:=zx h;rfl
theorem mC:BD "_law_names" (aj 12) bq:=fun _ _ _ _ _ _ us h=>by
 obtain⟨x0,x1,rfl⟩:=zx h;rfl
theorem kj:BD "_law_between" (aj 13) aV:=fun _ _ _ _ _ _ us h=>by
 obtain⟨x0,x1,x2,x3,rfl⟩:=Gq h;rfl
theorem pE:BD "_law_part" (aj 14) bJ:=fun _ _ _ _ _ _ us h=>by
 obtain⟨x0,x1,x2,rfl⟩:=Ec h;rfl
theorem mD:BD "_law_turns" (aj 15) br:=fun _ _ _ _ _ _ us h=>by
 obtain rfl:=Ig h;rfl
theorem lQ:BD "_law_figure" (aj 16) be:=fun _ _ _ _ _ _ us h=>by
 obtain⟨x0,x1,rfl⟩:=zx h;rfl
theorem mE:BD "_law_backs" (aj 17) bu:=fun _ _ _ _ _ _ us h=>by
 obtain⟨x0,x1,rfl⟩:=zx h;rfl
theorem km:BD "_law_rule_of" (aj 18) aW:=fun _ _ _ _ _ _ us h=>by
 obtain⟨x0,x1,x2,x3,rfl⟩:=Gq h;rfl
theorem iq:BD "_law_free_three" (aj 19) aB:=fun _ _ _ _ _ _ us h=>by
 obtain⟨x0,x1,x2,rfl⟩:=Ec h;rfl
theorem mF:BD "_law_sizes" (aj 20) bv:=fun _ _ _ _ _ _ us h=>by
 obtain⟨x0,rfl⟩:=vX h;rfl
theorem jJ:BD "_law_any_rule" (aj 21) aN:=fun _ _ _ _ _ _ us h=>by
 obtain⟨x0,rfl⟩:=vX h;rfl
theorem gM:BD "_law_laying_kind" (aj 22) ay:=fun _ _ _ _ _ _ us h=>by
 obtain⟨x0,rfl⟩:=vX h;rfl
theorem lR:BD "_law_breaks" (aj 23) bf:=fun _ _ _ _ _ _ us h=>by
 obtain⟨x0,x1,x2,x3,x4,rfl⟩:=Ih h;rfl
theorem jK:BD "_law_numbered" (aj 24) aO:=fun _ _ _ _ _ _ us h=>by
 obtain⟨x0,x1,x2,rfl⟩:=Ec h;rfl
theorem gN:BD "_law_laying_rule" (aj 25) az:=fun _ _ _ _ _ _ us h=>by
 obtain⟨x0,rfl⟩:=vX h;rfl
theorem lS:BD "_law_rising" (aj 26) bg:=fun _ _ _ _ _ _ us h=>by
 obtain⟨x0,rfl⟩:=vX h;rfl
theorem i7:BD "_law_free_rule" (aj 27) aG:=fun _ _ _ _ _ _ us h=>by
 obtain⟨x0,rfl⟩:=vX h;rfl
theorem gn:BD "_law_one_way_rule" (aj 28) ar:=fun _ _ _ _ _ _ us h=>by
 obtain⟨x0,rfl⟩:=vX h;rfl
theorem i8:BD "_law_any_world" (aj 29) aH:=fun _ _ _ _ _ _ us h=>by
 obtain⟨x0,x1,x2,rfl⟩:=Ec h;rfl
theorem mG:BD "_law_alike" (aj 30) bw:=fun _ _ _ _ _ _ us h=>by
 obtain⟨x0,x1,rfl⟩:=zx h;rfl
theorem lT:BD "_law_digits" (aj 31) bh:=fun _ _ _ _ _ _ us h=>by
 obtain⟨x0,x1,rfl⟩:=zx h;rfl
theorem lU:BD "_law_worlds" (aj 32) bj:=fun _ _ _ _ _ _ us h=>by
 obtain⟨x0,x1,rfl⟩:=zx h;rfl
theorem kn:BD "_law_figures" (aj 33) aX:=fun _ _ _ _ _ _ us h=>by
 obtain⟨x0,rfl⟩:=vX h;rfl
theorem i9:BD "_law_full_rule" (aj 34) aI:=fun _ _ _ _ _ _ us h=>by
 obtain⟨x0,rfl⟩:=vX h;rfl
theorem gp:BD "_law_drawn_points" (aj 35) au:=fun _ _ _ _ _ _ us h=>by
 obtain⟨x0,x1,x2,rfl⟩:=Ec h;rfl
theorem pG:BD "_law_maps" (aj 36) bK:=fun _ _ _ _ _ _ us h=>by
 obtain⟨x0,x1,x2,rfl⟩:=Ec h;rfl
theorem ir:BD "_law_other_rule" (aj 37) aC:=fun _ _ _ _ _ _ us h=>by
 obtain⟨x0,rfl⟩:=vX h;rfl
theorem Ee:BD "law" (aj 38) gY:=fun _ _ _ _ _ _ us h=>by
 obtain⟨x0,rfl⟩:=vX h;rfl
section
variable {P:Program} {w:World} {K:PySem.W.Frag} {mg:Str->Option Value} {base:Heap}
noncomputable def am (K:PySem.W.Frag)(mg:Str->Option Value)(x:Str)(st:Stmt)(df:Df):Prop:=∃ (f:Addr) (fd:FuncData),Fun K x x st f fd/\mg x=some (.ref f)/\PySem.W.keepIn K (.ref f)=true/\Binds K fd df.ps []
theorem zr {h:Heap}{x:Str}{st:Stmt}{df:Df}{f:Addr}{oc:Value}{od an:Option Addr}{osl:Array (Option Value)}{kV doc pm cdv ct:Value}(X:K.In h)(G:h.Ns mainGlobals mg)
  (b:BD x st df)
  (a:PySem.W.nsIn K mainGlobals x=some (some (.ref f))) (l:K.lookup f=some ⟨oc,od,.func (PySem.W.fnOf x x (dM st) (cR st) (ah st) .none kV doc pm an cdv ct),osl⟩) (c:PySem.W.codeIn K cdv x=true) (k:PySem.W.keepIn K (.ref f)=true):am K mg x st df:=
 have F:=wH (st:=st) l c k
 ⟨f,_,F,PySem.W.mg_of X G a,k,F.binds b⟩
theorem zt {fuel:Nat}(hb:MdOk w K mg ft)(D:∀ x n,BP.lookup x=some n->∃ st df,jY.lookup x=some df/\df.ps.length=n/\FnScope df.N df.ps (ah st)/\b7 ft st df/\am K mg x st df):∀ d,B3 P w K mg base ft jY fuel d
 | 0=>fun f n h=>by
  obtain⟨st,df,h1,h2,h3,h4,fa,fd,F,m,kp,b⟩:=D f n h;refine⟨fa,fd,df.ps,⟨fun vs H Q E z=>?_,fun A outer s H args us vs Q E hr he hbd hv z=>?_⟩,m,kp,b⟩
  all_goals
   obtain⟨_,_,_,_,_,_,_,_,z,_⟩:=z;cases z
 | d+1=>fun f n h=>by
  obtain⟨st,df,h1,h2,h3,h4,fa,fd,F,m,kp,b⟩:=D f n h;refine⟨fa,fd,df.ps,?_,m,kp,b⟩;rw[<- h2];exact B4 F h3 h1 h4 hb (zt hb D d)
theorem Gb (D1:am K mg "way" (aj 1) gX)(D3:am K mg "point_over" (aj 3) bo)(D4:am K mg "longer_orders" (aj 4) aM)(D6:am K mg "likenesses" (aj 6) bp)(D8:am K mg "_law_flow" (aj 8) bG)(D9:am K mg "_law_pick" (aj 9) bH)(D10:am K mg "_law_letters" (aj 10) aU)(D11:am K mg "_law_name" (aj 11) bI)(D12:am K mg "_law_names" (aj 12) bq)(D13:am K mg "_law_between" (aj 13) aV)(D14:am K mg "_law_part" (aj 14) bJ)(D15:am K mg "_law_turns" (aj 15) br)(D16:am K mg "_law_figure" (aj 16) be)(D17:am K mg "_law_backs" (aj 17) bu)(D18:am K mg "_law_rule_of" (aj 18) aW)(D19:am K mg "_law_free_three" (aj 19) aB)(D20:am K mg "_law_sizes" (aj 20) bv)(D21:am K mg "_law_any_rule" (aj 21) aN)(D22:am K mg "_law_laying_kind" (aj 22) ay)(D23:am K mg "_law_breaks" (aj 23) bf)(D24:am K mg "_law_numbered" (aj 24) aO)(D25:am K mg "_law_laying_rule" (aj 25) az)(D26:am K mg "_law_rising" (aj 26) bg)(D27:am K mg "_law_free_rule" (aj 27) aG)(D28:am K mg "_law_one_way_rule" (aj 28) ar)(D29:am K mg "_law_any_world" (aj 29) aH)(D30:am K mg "_law_alike" (aj 30) bw)(D31:am K mg "_law_digits" (aj 31) bh)(D32:am K mg "_law_worlds" (aj 32) bj)(D33:am K mg "_law_figures" (aj 33) aX)(D34:am K mg "_law_full_rule" (aj 34) aI)(D35:am K mg "_law_drawn_points" (aj 35) au)(D36:am K mg "_law_maps" (aj 36) bK)(D37:am K mg "_law_other_rule" (aj 37) aC)(D38:am K mg "law" (aj 38) gY):∀ x n,BP.lookup x=some n->∃ st df,jY.lookup x=some df/\df.ps.length=n/\FnScope df.N df.ps (ah st)/\b7 ft st df/\am K mg x st df:=by
 intro x n h;unfold BP at h;rcases al h with⟨rfl,rfl⟩|h
 ·exact⟨aj 1,gX,by rfl,rfl,Eb,Ea,D1⟩
 rcases al h with⟨rfl,rfl⟩|h
 ·exact⟨aj 3,bo,by rfl,rfl,l9,l8,D3⟩
 rcases al h with⟨rfl,rfl⟩|h
 ·exact⟨aj 4,aM,by rfl,rfl,jD,jC,D4⟩
 rcases al h with⟨rfl,rfl⟩|h
 ·exact⟨aj 6,bp,by rfl,rfl,md,ma,D6⟩
 rcases al h with⟨rfl,rfl⟩|h
 ·exact⟨aj 8,bG,by rfl,rfl,pd,pc,D8⟩
 rcases al h with⟨rfl,rfl⟩|h
 ·exact⟨aj 9,bH,by rfl,rfl,pf,pe,D9⟩
 rcases al h with⟨rfl,rfl⟩|h
 ·exact⟨aj 10,aU,by rfl,rfl,j6,j5,D10⟩
 rcases al h with⟨rfl,rfl⟩|h
 ·exact⟨aj 11,bI,by rfl,rfl,ph,pg,D11⟩
 rcases al h with⟨rfl,rfl⟩|h
 ·exact⟨aj 12,bq,by rfl,rfl,mh,mf,D12⟩
 rcases al h with⟨rfl,rfl⟩|h
 ·exact⟨aj 13,aV,by rfl,rfl,j8,j7,D13⟩
 rcases al h with⟨rfl,rfl⟩|h
 ·exact⟨aj 14,bJ,by rfl,rfl,po,pi,D14⟩
 rcases al h with⟨rfl,rfl⟩|h
 ·exact⟨aj 15,br,by rfl,rfl,mn,mj,D15⟩
 rcases al h with⟨rfl,rfl⟩|h
 ·exact⟨aj 16,be,by rfl,rfl,lH,lG,D16⟩
 rcases al h with⟨rfl,rfl⟩|h
 ·exact⟨aj 17,bu,by rfl,rfl,mq,mo,D17⟩
 rcases al h with⟨rfl,rfl⟩|h
 ·exact⟨aj 18,aW,by rfl,rfl,ke,j9,D18⟩
 rcases al h with⟨rfl,rfl⟩|h
 ·exact⟨aj 19,aB,by rfl,rfl,im,ik,D19⟩
 rcases al h with⟨rfl,rfl⟩|h
 ·exact⟨aj 20,bv,by rfl,rfl,mw,mr,D20⟩
 rcases al h with⟨rfl,rfl⟩|h
 ·exact⟨aj 21,aN,by rfl,rfl,jF,jE,D21⟩
 rcases al h with⟨rfl,rfl⟩|h
 ·exact⟨aj 22,ay,by rfl,rfl,gJ,gI,D22⟩
 rcases al h with⟨rfl,rfl⟩|h
 ·exact⟨aj 23,bf,by rfl,rfl,lJ,lI,D23⟩
 rcases al h with⟨rfl,rfl⟩|h
 ·exact⟨aj 24,aO,by rfl,rfl,jH,jG,D24⟩
 rcases al h with⟨rfl,rfl⟩|h
 ·exact⟨aj 25,az,by rfl,rfl,gL,gK,D25⟩
 rcases al h with⟨rfl,rfl⟩|h
 ·exact⟨aj 26,bg,by rfl,rfl,lL,lK,D26⟩
 rcases al h with⟨rfl,rfl⟩|h
 ·exact⟨aj 27,aG,by rfl,rfl,iY,iX,D27⟩
 rcases al h with⟨rfl,rfl⟩|h
 ·exact⟨aj 28,ar,by rfl,rfl,gj,gh,D28⟩
 rcases al h with⟨rfl,rfl⟩|h
 ·exact⟨aj 29,aH,by rfl,rfl,i4,iZ,D29⟩
 rcases al h with⟨rfl,rfl⟩|h
 ·exact⟨aj 30,bw,by rfl,rfl,my,mx,D30⟩
 rcases al h with⟨rfl,rfl⟩|h
 ·exact⟨aj 31,bh,by rfl,rfl,lN,lM,D31⟩
 rcases al h with⟨rfl,rfl⟩|h
 ·exact⟨aj 32,bj,by rfl,rfl,lP,lO,D32⟩
 rcases al h with⟨rfl,rfl⟩|h
 ·exact⟨aj 33,aX,by rfl,rfl,kh,kg,D33⟩
 rcases al h with⟨rfl,rfl⟩|h
 ·exact⟨aj 34,aI,by rfl,rfl,i6,i5,D34⟩
 rcases al h with⟨rfl,rfl⟩|h
 ·exact⟨aj 35,au,by rfl,rfl,gm,gk,D35⟩
 rcases al h with⟨rfl,rfl⟩|h
 ·exact⟨aj 36,bK,by rfl,rfl,pr,pq,D36⟩
 rcases al h with⟨rfl,rfl⟩|h
 ·exact⟨aj 37,aC,by rfl,rfl,ip,io,D37⟩
 rcases al h with⟨rfl,rfl⟩|h
 ·exact⟨aj 38,gY,by rfl,rfl,zq,zp,D38⟩
 cases h
theorem Gc {h:Heap}(X:K.In h)(G:h.Ns mainGlobals mg)(z0:PySem.W.nsIn K mainGlobals "range" = some none)(z1:PySem.W.nsIn K mainGlobals "len" = some none)(z2:PySem.W.nsIn K mainGlobals "list" = some none)(z3:PySem.W.nsIn K mainGlobals "tuple" = some none)(z4:PySem.W.nsIn K mainGlobals "int" = some none)(z5:PySem.W.nsIn K mainGlobals "set" = some none)(z6:PySem.W.nsIn K mainGlobals "sorted" = some none)(z7:PySem.W.nsIn K mainGlobals "isinstance" = some none)(z8:PySem.W.nsIn K mainGlobals "bool" = some none)(z9:PySem.W.nsIn K mainGlobals "str" = some none)(z10:PySem.W.nsIn K mainGlobals "all" = some none)(z11:PySem.W.nsIn K mainGlobals "min" = some none):MdOk w K mg ft:=by
 refine⟨?_⟩;show ∀ y∈D7,mg y=none;intro y hy;unfold D7 at hy;simp only[List.mem_cons,List.not_mem_nil,or_false]at hy;rcases hy with rfl|rfl|rfl|rfl|rfl|rfl|rfl|rfl|rfl|rfl|rfl|rfl
 ·exact IZ X G z0
 ·exact IZ X G z1
 ·exact IZ X G z2
 ·exact IZ X G z3
 ·exact IZ X G z4
 ·exact IZ X G z5
 ·exact IZ X G z6
 ·exact IZ X G z7
 ·exact IZ X G z8
 ·exact IZ X G z9
 ·exact IZ X G z10
 ·exact IZ X G z11
end
theorem Ef {l:PySem.W.OpenLaw}{w:World}{K:PySem.W.Frag}{h:Heap}{mg:Str->Option Value}{fa f:Addr}(X:K.In h)(G:h.Ns mainGlobals mg)(hfa:mg "law" = some (.ref fa))(hb:MdOk w K mg ft)
  (D1:am K mg "way" (aj 1) gX) (D3:am K mg "point_over" (aj 3) bo) (D4:am K mg "longer_orders" (aj 4) aM) (D6:am K mg "likenesses" (aj 6) bp) (D8:am K mg "_law_flow" (aj 8) bG) (D9:am K mg "_law_pick" (aj 9) bH) (D10:am K mg "_law_letters" (aj 10) aU) (D11:am K mg "_law_name" (aj 11) bI) (D12:am K mg "_law_names" (aj 12) bq) (D13:am K mg "_law_between" (aj 13) aV) (D14:am K mg "_law_part" (aj 14) bJ) (D15:am K mg "_law_turns" (aj 15) br) (D16:am K mg "_law_figure" (aj 16) be) (D17:am K mg "_law_backs" (aj 17) bu) (D18:am K mg "_law_rule_of" (aj 18) aW) (D19:am K mg "_law_free_three" (aj 19) aB) (D20:am K mg "_law_sizes" (aj 20) bv) (D21:am K mg "_law_any_rule" (aj 21) aN) (D22:am K mg "_law_laying_kind" (aj 22) ay) (D23:am K mg "_law_breaks" (aj 23) bf) (D24:am K mg "_law_numbered" (aj 24) aO) (D25:am K mg "_law_laying_rule" (aj 25) az) (D26:am K mg "_law_rising" (aj 26) bg) (D27:am K mg "_law_free_rule" (aj 27) aG) (D28:am K mg "_law_one_way_rule" (aj 28) ar) (D29:am K mg "_law_any_world" (aj 29) aH) (D30:am K mg "_law_alike" (aj 30) bw) (D31:am K mg "_law_digits" (aj 31) bh) (D32:am K mg "_law_worlds" (aj 32) bj) (D33:am K mg "_law_figures" (aj 33) aX) (D34:am K mg "_law_full_rule" (aj 34) aI) (D35:am K mg "_law_drawn_points" (aj 35) au) (D36:am K mg "_law_maps" (aj 36) bK) (D37:am K mg "_law_other_rule" (aj 37) aC)
  {oc:Value} {od an:Option Addr} {osl:Array (Option Value)} {kV doc pm cdv ct:Value} (a:PySem.W.nsIn K mainGlobals "law" = some (some (.ref f))) (l':K.lookup f=some ⟨oc,od,.func (PySem.W.fnOf "law" "law" (dM (aj 38)) (cR (aj 38)) (ah (aj 38)) .none kV doc pm an cdv ct),osl⟩) (c:PySem.W.codeIn K cdv "law" = true) (k:PySem.W.keepIn K (.ref f)=true) :
  ∃ fd:FuncData,(∀ (s:Shared) (v:Value),BindsTo s fd ⟨[v],[]⟩ [("_law_script",v)])/\∀ base:Heap,K.In base->base.Ns mainGlobals mg->FnOk l.prog w K mg base vV 9 fa fd ["_law_script"] (xP w K 1 (ap jY 100 9 "law")):=by
 have e:=hfa.symm.trans (PySem.W.mg_of X G a);cases e;have D38:am K mg "law" (aj 38) gY:=zr X G Ee a l' c k;have F:=wH (st:=aj 38) l' c k;exact⟨PySem.W.fnOf "law" "law" (dM (aj 38)) (cR (aj 38)) (ah (aj 38)) .none kV doc pm an cdv ct,fun s v=>.of_eq rfl,fun base _ _=>B4 (df:=gY) F zq (by rfl) zp hb (zt hb (Gb D1 D3 D4 D6 D8 D9 D10 D11 D12 D13 D14 D15 D16 D17 D18 D19 D20 D21 D22 D23 D24 D25 D26 D27 D28 D29 D30 D31 D32 D33 D34 D35 D36 D37 D38) 8)⟩
theorem HI {l:PySem.W.OpenLaw}{q:Program}{loose:List Str}{XP:(Str->Option Value)->Heap->Prop}{YP:World->Heap->Prop}{d:DefRec}{K:Params->PySem.W.Frag}(hn:l.most=some 63)(hdf:d.params.defaults=[])
  (hY:∀ (w:World) (h:Heap),YP w h->(K w.params).In h)
  (F:∀ (w:World) (mg:Str->Option Value) (fa:Addr) (h:Heap),(K w.params).In h->h.Ns mainGlobals mg->mg d.name=some (.ref fa)->
   ∃ fd:FuncData,(∀ (s:Shared) (u:Value),BindsTo s fd ⟨[u],[]⟩ [("_law_script",u)])/\∀ base:Heap,(K w.params).In base->base.Ns mainGlobals mg->FnOk l.prog w (K w.params) mg base vV 9 fa fd ["_law_script"] (xP w (K w.params) 1 (ap jY 100 9 "law"))) :
  PySem.W.WalkO q loose XP YP l.row.toRowW d [] (fun f vs=>PySem.call f vs):=
 L2.Aa (n:=63) (k:=9) (x:="_law_script") (CX:=fun _=>vV) (sp:=fun w=>xP w (K w.params) 1 (ap jY 100 9 "law")) hn (by decide) hdf ⟨rfl,by decide,by decide⟩ hY F
  (fun w H a ns hl hO hS=>Dw (zo (defs:=jY) (fuel:=100) (d:=0) (by decide) Ga) hO hS) fun _ _ _ _ _ z=>z
end Mi
open PySem PySem.W PyProof.Rows L2
set_option maxHeartbeats 0
namespace Mi
section
noncomputable def pw:Program:=PySem.Challenge.pw_layworld_k18_likenesses_told
noncomputable def ge (P:Params)(n:Str)(t:Nat)(v:Value):DictEntry:=⟨PyData.keyHash P n,.str n t,v⟩
noncomputable def kd (a:Nat)(es:List DictEntry)(n:Nat):Addr×Obj:=(a,⟨.type "dict",none,.dict es.toArray n,#[]⟩)
noncomputable def kt (a:Nat)(c:Value)(vs:List Value)(n:Nat):Addr×Obj:=(a,⟨c,none,.seq vs.toArray n,#[]⟩)
noncomputable def kc (a:Nat)(vs:List Value):Addr×Obj:=(a,⟨.type "code",none,.fields vs.toArray,#[]⟩)
noncomputable def kf (a:Nat)(st:Stmt)(n:Str)(pm cd:Value):Addr×Obj:=(a,⟨.type "function",none,.func (PySem.W.fnOf n n (dM st) (cR st) (ah st) .none .none .none pm none cd .none),#[]⟩)
noncomputable def K0 (P:Params):PySem.W.Frag:=[kd 3 [ge P "__name__" 165 (.str "law_layworld_k18_likenesses_told" 221),ge P "__doc__" 166 .none,ge P "__package__" 167 .none,ge P "__loader__" 168 (.builtin "__main__.__loader__#opaque"),ge P "__spec__" 169 .none,ge P "__annotations__" 170 (.ref 6),ge P "__builtins__" 171 (.ref 4),ge P "__file__" 173 (.str "/claim/cut.py" 172),ge P "__cached__" 174 .none,ge P "way" 198 (.ref 21),ge P "point_over" 206 (.ref 26),ge P "longer_orders" 212 (.ref 31),ge P "likenesses" 220 (.ref 36),ge P "_law_flow" 229 (.ref 43),ge P "_law_pick" 239 (.ref 50),ge P "_law_letters" 245 (.ref 55),ge P "_law_name" 254 (.ref 62),ge P "_law_names" 267 (.ref 69),ge P "_law_between" 277 (.ref 76),ge P "_law_part" 283 (.ref 81),ge P "_law_turns" 289 (.ref 88),ge P "_law_figure" 295 (.ref 93),ge P "_law_backs" 304 (.ref 100),ge P "_law_rule_of" 310 (.ref 105),ge P "_law_free_three" 316 (.ref 110),ge P "_law_sizes" 324 (.ref 117),ge P "_law_any_rule" 336 (.ref 124),ge P "_law_laying_kind" 344 (.ref 131),ge P "_law_breaks" 360 (.ref 138),ge P "_law_numbered" 366 (.ref 143),ge P "_law_laying_rule" 387 (.ref 150),ge P "_law_rising" 393 (.ref 155),ge P "_law_free_rule" 399 (.ref 160),ge P "_law_one_way_rule" 405 (.ref 165),ge P "_law_any_world" 411 (.ref 170),ge P "_law_alike" 417 (.ref 175),ge P "_law_digits" 423 (.ref 180),ge P "_law_worlds" 429 (.ref 185),ge P "_law_figures" 435 (.ref 190),ge P "_law_full_rule" 441 (.ref 195),ge P "_law_drawn_points" 452 (.ref 202),ge P "_law_maps" 467 (.ref 209),ge P "_law_other_rule" 473 (.ref 214),ge P "law" 489 (.ref 221)] 44,
 kc 20 [(.str "way" 189),(.str "way" 190),(.str "/claim/cut.py" 191),(.int 2 0),(.int 4 0),(.int 0 0),(.int 0 0),(.int 3 0),(.ref 15),(.bool true),(.int 181 0),(.ref 16),.none,(.ref 17),(.ref 18),(.ref 19),(.int 196 0),(.int 2 0),(.str "/claim/cut.py" 197)],
 kf 21 (aj 1) "way" (.str "layworld.worlds" 187) (.ref 20),
 kc 25 [(.str "point_over" 201),(.str "point_over" 202),(.str "/claim/cut.py" 203),(.int 7 0),(.int 4 0),(.int 0 0),(.int 0 0),(.int 3 0),(.ref 22),(.bool true),(.int 181 0),(.ref 23),.none,.none,.none,(.ref 24),(.int 204 0),(.int 7 0),(.str "/claim/cut.py" 205)],
 kf 26 (aj 3) "point_over" (.str "layworld.parts" 199) (.ref 25),
 kc 30 [(.str "longer_orders" 207),(.str "longer_orders" 208),(.str "/claim/cut.py" 209),(.int 9 0),(.int 2 0),(.int 0 0),(.int 0 0),(.int 3 0),(.ref 27),(.bool true),(.int 181 0),(.ref 28),.none,.none,.none,(.ref 29),(.int 210 0),(.int 9 0),(.str "/claim/cut.py" 211)],
 kf 31 (aj 4) "longer_orders" (.str "layworld.parts" 199) (.ref 30),
 kc 35 [(.str "likenesses" 215),(.str "likenesses" 216),(.str "/claim/cut.py" 217),(.int 15 0),(.int 3 0),(.int 0 0),(.int 0 0),(.int 3 0),(.ref 32),(.bool true),(.int 181 0),(.ref 33),.none,.none,.none,(.ref 34),(.int 218 0),(.int 15 0),(.str "/claim/cut.py" 219)],
 kf 36 (aj 6) "likenesses" (.str "layworld.likes" 213) (.ref 35),
 kc 42 [(.str "_law_flow" 223),(.str "_law_flow" 224),(.str "/claim/cut.py" 225),(.int 22 0),(.int 1 0),(.int 0 0),(.int 0 0),(.int 3 0),(.ref 37),(.bool true),(.int 181 0),(.ref 38),.none,(.ref 39),(.ref 40),(.ref 41),(.int 227 0),(.int 22 0),(.str "/claim/cut.py" 228)],
 kf 43 (aj 8) "_law_flow" (.str "law_layworld_k18_likenesses_told" 221) (.ref 42),
 kc 49 [(.str "_law_pick" 230),(.str "_law_pick" 231),(.str "/claim/cut.py" 232),(.int 24 0),(.int 2 0),(.int 0 0),(.int 0 0),(.int 3 0),(.ref 44),(.bool true),(.int 181 0),(.ref 45),.none,(.ref 46),(.ref 47),(.ref 48),(.int 237 0),(.int 24 0),(.str "/claim/cut.py" 238)],
 kf 50 (aj 9) "_law_pick" (.str "law_layworld_k18_likenesses_told" 221) (.ref 49),
 kc 54 [(.str "_law_letters" 240),(.str "_law_letters" 241),(.str "/claim/cut.py" 242),(.int 39 0),(.int 2 0),(.int 0 0),(.int 0 0),(.int 3 0),(.ref 51),(.bool true),(.int 181 0),(.ref 52),.none,.none,.none,(.ref 53),(.int 243 0),(.int 39 0),(.str "/claim/cut.py" 244)],
 kf 55 (aj 10) "_law_letters" (.str "law_layworld_k18_likenesses_told" 221) (.ref 54),
 kc 61 [(.str "_law_name" 246),(.str "_law_name" 247),(.str "/claim/cut.py" 248),(.int 41 0),(.int 2 0),(.int 0 0),(.int 0 0),(.int 3 0),(.ref 56),(.bool true),(.int 181 0),(.ref 57),.none,(.ref 58),(.ref 59),(.ref 60),(.int 252 0),(.int 41 0),(.str "/claim/cut.py" 253)],
 kf 62 (aj 11) "_law_name" (.str "law_layworld_k18_likenesses_told" 221) (.ref 61),
 kc 68 [(.str "_law_names" 255),(.str "_law_names" 256),(.str "/claim/cut.py" 257),(.int 49 0),(.int 2 0),(.int 0 0),(.int 0 0),(.int 3 0),(.ref 63),(.bool true),(.int 181 0),(.ref 64),.none,(.ref 65),(.ref 66),(.ref 67),(.int 265 0),(.int 49 0),(.str "/claim/cut.py" 266)],
 kf 69 (aj 12) "_law_names" (.str "law_layworld_k18_likenesses_told" 221) (.ref 68),
 kc 75 [(.str "_law_between" 268),(.str "_law_between" 269),(.str "/claim/cut.py" 270),(.int 62 0),(.int 4 0),(.int 0 0),(.int 0 0),(.int 3 0),(.ref 70),(.bool true),(.int 181 0),(.ref 71),.none,(.ref 72),(.ref 73),(.ref 74),(.int 275 0),(.int 62 0),(.str "/claim/cut.py" 276)],
 kf 76 (aj 13) "_law_between" (.str "law_layworld_k18_likenesses_told" 221) (.ref 75),
 kc 80 [(.str "_law_part" 278),(.str "_law_part" 279),(.str "/claim/cut.py" 280),(.int 66 0),(.int 3 0),(.int 0 0),(.int 0 0),(.int 3 0),(.ref 77),(.bool true),(.int 181 0),(.ref 78),.none,.none,.none,(.ref 79),(.int 281 0),(.int 66 0),(.str "/claim/cut.py" 282)],
 kf 81 (aj 14) "_law_part" (.str "law_layworld_k18_likenesses_told" 221) (.ref 80),
 kc 87 [(.str "_law_turns" 284),(.str "_law_turns" 285),(.str "/claim/cut.py" 286),(.int 72 0),(.int 0 0),(.int 0 0),(.int 0 0),(.int 3 0),(.ref 82),(.bool true),(.int 181 0),(.ref 83),.none,(.ref 84),(.ref 85),(.ref 86),(.int 287 0),(.int 72 0),(.str "/claim/cut.py" 288)],
 kf 88 (aj 15) "_law_turns" (.str "law_layworld_k18_likenesses_told" 221) (.ref 87),
 kc 92 [(.str "_law_figure" 290),(.str "_law_figure" 291),(.str "/claim/cut.py" 292),(.int 74 0),(.int 2 0),(.int 0 0),(.int 0 0),(.int 3 0),(.ref 89),(.bool true),(.int 181 0),(.ref 90),.none,.none,.none,(.ref 91),(.int 293 0),(.int 74 0),(.str "/claim/cut.py" 294)],
 kf 93 (aj 16) "_law_figure" (.str "law_layworld_k18_likenesses_told" 221) (.ref 92),
 kc 99 [(.str "_law_backs" 296),(.str "_law_backs" 297),(.str "/claim/cut.py" 298),(.int 76 0),(.int 2 0),(.int 0 0),(.int 0 0),(.int 3 0),(.ref 94),(.bool true),(.int 181 0),(.ref 95),.none,(.ref 96),(.ref 97),(.ref 98),(.int 302 0),(.int 76 0),(.str "/claim/cut.py" 303)],
 kf 100 (aj 17) "_law_backs" (.str "law_layworld_k18_likenesses_told" 221) (.ref 99),
 kc 104 [(.str "_law_rule_of" 305),(.str "_law_rule_of" 306),(.str "/claim/cut.py" 307),(.int 79 0),(.int 4 0),(.int 0 0),(.int 0 0),(.int 3 0),(.ref 101),(.bool true),(.int 181 0),(.ref 102),.none,.none,.none,(.ref 103),(.int 308 0),(.int 79 0),(.str "/claim/cut.py" 309)],
 kf 105 (aj 18) "_law_rule_of" (.str "law_layworld_k18_likenesses_told" 221) (.ref 104),
 kc 109 [(.str "_law_free_three" 311),(.str "_law_free_three" 312),(.str "/claim/cut.py" 313),(.int 83 0),(.int 3 0),(.int 0 0),(.int 0 0),(.int 3 0),(.ref 106),(.bool true),(.int 181 0),(.ref 107),.none,.none,.none,(.ref 108),(.int 314 0),(.int 83 0),(.str "/claim/cut.py" 315)],
 kf 110 (aj 19) "_law_free_three" (.str "law_layworld_k18_likenesses_told" 221) (.ref 109),
 kc 116 [(.str "_law_sizes" 317),(.str "_law_sizes" 318),(.str "/claim/cut.py" 319),(.int 88 0),(.int 1 0),(.int 0 0),(.int 0 0),(.int 3 0),(.ref 111),(.bool true),(.int 181 0),(.ref 112),.none,(.ref 113),(.ref 114),(.ref 115),(.int 322 0),(.int 88 0),(.str "/claim/cut.py" 323)],
 kf 117 (aj 20) "_law_sizes" (.str "law_layworld_k18_likenesses_told" 221) (.ref 116),
 kc 123 [(.str "_law_any_rule" 325),(.str "_law_any_rule" 326),(.str "/claim/cut.py" 327),(.int 91 0),(.int 1 0),(.int 0 0),(.int 0 0),(.int 3 0),(.ref 118),(.bool true),(.int 181 0),(.ref 119),.none,(.ref 120),(.ref 121),(.ref 122),(.int 334 0),(.int 91 0),(.str "/claim/cut.py" 335)],
 kf 124 (aj 21) "_law_any_rule" (.str "law_layworld_k18_likenesses_told" 221) (.ref 123),
 kc 130 [(.str "_law_laying_kind" 337),(.str "_law_laying_kind" 338),(.str "/claim/cut.py" 339),(.int 98 0),(.int 1 0),(.int 0 0),(.int 0 0),(.int 3 0),(.ref 125),(.bool true),(.int 181 0),(.ref 126),.none,(.ref 127),(.ref 128),(.ref 129),(.int 342 0),(.int 98 0),(.str "/claim/cut.py" 343)],
 kf 131 (aj 22) "_law_laying_kind" (.str "law_layworld_k18_likenesses_told" 221) (.ref 130),
 kc 137 [(.str "_law_breaks" 345),(.str "_law_breaks" 346),(.str "/claim/cut.py" 347),(.int 107 0),(.int 5 0),(.int 0 0),(.int 0 0),(.int 3 0),(.ref 132),(.bool true),(.int 181 0),(.ref 133),.none,(.ref 134),(.ref 135),(.ref 136),(.int 358 0),(.int 107 0),(.str "/claim/cut.py" 359)],
 kf 138 (aj 23) "_law_breaks" (.str "law_layworld_k18_likenesses_told" 221) (.ref 137),
 kc 142 [(.str "_law_numbered" 361),(.str "_law_numbered" 362),(.str "/claim/cut.py" 363),(.int 115 0),(.int 3 0),(.int 0 0),(.int 0 0),(.int 3 0),(.ref 139),(.bool true),(.int 181 0),(.ref 140),.none,.none,.none,(.ref 141),(.int 364 0),(.int 115 0),(.str "/claim/cut.py" 365)],
 kf 143 (aj 24) "_law_numbered" (.str "law_layworld_k18_likenesses_told" 221) (.ref 142),
 kc 149 [(.str "_law_laying_rule" 367),(.str "_law_laying_rule" 368),(.str "/claim/cut.py" 369),(.int 130 0),(.int 1 0),(.int 0 0),(.int 0 0),(.int 3 0),(.ref 144),(.bool true),(.int 181 0),(.ref 145),.none,(.ref 146),(.ref 147),(.ref 148),(.int 385 0),(.int 130 0),(.str "/claim/cut.py" 386)],
 kf 150 (aj 25) "_law_laying_rule" (.str "law_layworld_k18_likenesses_told" 221) (.ref 149),
 kc 154 [(.str "_law_rising" 388),(.str "_law_rising" 389),(.str "/claim/cut.py" 390),(.int 150 0),(.int 1 0),(.int 0 0),(.int 0 0),(.int 3 0),(.ref 151),(.bool true),(.int 181 0),(.ref 152),.none,.none,.none,(.ref 153),(.int 391 0),(.int 150 0),(.str "/claim/cut.py" 392)],
 kf 155 (aj 26) "_law_rising" (.str "law_layworld_k18_likenesses_told" 221) (.ref 154),
 kc 159 [(.str "_law_free_rule" 394),(.str "_law_free_rule" 395),(.str "/claim/cut.py" 396),(.int 156 0),(.int 1 0),(.int 0 0),(.int 0 0),(.int 3 0),(.ref 156),(.bool true),(.int 181 0),(.ref 157),.none,.none,.none,(.ref 158),(.int 397 0),(.int 156 0),(.str "/claim/cut.py" 398)],
 kf 160 (aj 27) "_law_free_rule" (.str "law_layworld_k18_likenesses_told" 221) (.ref 159),
 kc 164 [(.str "_law_one_way_rule" 400),(.str "_law_one_way_rule" 401),(.str "/claim/cut.py" 402),(.int 169 0),(.int 1 0),(.int 0 0),(.int 0 0),(.int 3 0),(.ref 161),(.bool true),(.int 181 0),(.ref 162),.none,.none,.none,(.ref 163),(.int 403 0),(.int 169 0),(.str "/claim/cut.py" 404)],
 kf 165 (aj 28) "_law_one_way_rule" (.str "law_layworld_k18_likenesses_told" 221) (.ref 164),
 kc 169 [(.str "_law_any_world" 406),(.str "_law_any_world" 407),(.str "/claim/cut.py" 408),(.int 173 0),(.int 3 0),(.int 0 0),(.int 0 0),(.int 3 0),(.ref 166),(.bool true),(.int 181 0),(.ref 167),.none,.none,.none,(.ref 168),(.int 409 0),(.int 173 0),(.str "/claim/cut.py" 410)],
 kf 170 (aj 29) "_law_any_world" (.str "law_layworld_k18_likenesses_told" 221) (.ref 169),
 kc 174 [(.str "_law_alike" 412),(.str "_law_alike" 413),(.str "/claim/cut.py" 414),(.int 179 0),(.int 2 0),(.int 0 0),(.int 0 0),(.int 3 0),(.ref 171),(.bool true),(.int 181 0),(.ref 172),.none,.none,.none,(.ref 173),(.int 415 0),(.int 179 0),(.str "/claim/cut.py" 416)],
 kf 175 (aj 30) "_law_alike" (.str "law_layworld_k18_likenesses_told" 221) (.ref 174),
 kc 179 [(.str "_law_digits" 418),(.str "_law_digits" 419),(.str "/claim/cut.py" 420),(.int 191 0),(.int 2 0),(.int 0 0),(.int 0 0),(.int 3 0),(.ref 176),(.bool true),(.int 181 0),(.ref 177),.none,.none,.none,(.ref 178),(.int 421 0),(.int 191 0),(.str "/claim/cut.py" 422)],
 kf 180 (aj 31) "_law_digits" (.str "law_layworld_k18_likenesses_told" 221) (.ref 179),
 kc 184 [(.str "_law_worlds" 424),(.str "_law_worlds" 425),(.str "/claim/cut.py" 426),(.int 196 0),(.int 2 0),(.int 0 0),(.int 0 0),(.int 3 0),(.ref 181),(.bool true),(.int 181 0),(.ref 182),.none,.none,.none,(.ref 183),(.int 427 0),(.int 196 0),(.str "/claim/cut.py" 428)],
 kf 185 (aj 32) "_law_worlds" (.str "law_layworld_k18_likenesses_told" 221) (.ref 184),
 kc 189 [(.str "_law_figures" 430),(.str "_law_figures" 431),(.str "/claim/cut.py" 432),(.int 204 0),(.int 1 0),(.int 0 0),(.int 0 0),(.int 3 0),(.ref 186),(.bool true),(.int 181 0),(.ref 187),.none,.none,.none,(.ref 188),(.int 433 0),(.int 204 0),(.str "/claim/cut.py" 434)],
 kf 190 (aj 33) "_law_figures" (.str "law_layworld_k18_likenesses_told" 221) (.ref 189),
 kc 194 [(.str "_law_full_rule" 436),(.str "_law_full_rule" 437),(.str "/claim/cut.py" 438),(.int 206 0),(.int 1 0),(.int 0 0),(.int 0 0),(.int 3 0),(.ref 191),(.bool true),(.int 181 0),(.ref 192),.none,.none,.none,(.ref 193),(.int 439 0),(.int 206 0),(.str "/claim/cut.py" 440)],
 kf 195 (aj 34) "_law_full_rule" (.str "law_layworld_k18_likenesses_told" 221) (.ref 194),
 kc 201 [(.str "_law_drawn_points" 442),(.str "_law_drawn_points" 443),(.str "/claim/cut.py" 444),(.int 215 0),(.int 3 0),(.int 0 0),(.int 0 0),(.int 3 0),(.ref 196),(.bool true),(.int 181 0),(.ref 197),.none,(.ref 198),(.ref 199),(.ref 200),(.int 450 0),(.int 215 0),(.str "/claim/cut.py" 451)],
 kf 202 (aj 35) "_law_drawn_points" (.str "law_layworld_k18_likenesses_told" 221) (.ref 201),
 kc 208 [(.str "_law_maps" 453),(.str "_law_maps" 454),(.str "/claim/cut.py" 455),(.int 221 0),(.int 3 0),(.int 0 0),(.int 0 0),(.int 3 0),(.ref 203),(.bool true),(.int 181 0),(.ref 204),.none,(.ref 205),(.ref 206),(.ref 207),(.int 465 0),(.int 221 0),(.str "/claim/cut.py" 466)],
 kf 209 (aj 36) "_law_maps" (.str "law_layworld_k18_likenesses_told" 221) (.ref 208),
 kc 213 [(.str "_law_other_rule" 468),(.str "_law_other_rule" 469),(.str "/claim/cut.py" 470),(.int 232 0),(.int 1 0),(.int 0 0),(.int 0 0),(.int 3 0),(.ref 210),(.bool true),(.int 181 0),(.ref 211),.none,.none,.none,(.ref 212),(.int 471 0),(.int 232 0),(.str "/claim/cut.py" 472)],
 kf 214 (aj 37) "_law_other_rule" (.str "law_layworld_k18_likenesses_told" 221) (.ref 213),
 kc 220 [(.str "law" 474),(.str "law" 475),(.str "/claim/cut.py" 476),(.int 237 0),(.int 1 0),(.int 0 0),(.int 0 0),(.int 3 0),(.ref 215),(.bool true),(.int 181 0),(.ref 216),.none,(.ref 217),(.ref 218),(.ref 219),(.int 487 0),(.int 237 0),(.str "/claim/cut.py" 488)],
 kf 221 (aj 38) "law" (.str "law_layworld_k18_likenesses_told" 221) (.ref 220)]
noncomputable def HQ:List Nat:=[3,20,21,25,26,30,31,35,36,42,43,49,50,54,55,61,62,68,69,75,76,80,81,87,88,92,93,99,100,104,105,109,110,116,117,123,124,130,131,137,138,142,143,149,150,154,155,159,160,164,165,169,170,174,175,179,180,184,185,189,190,194,195,201,202,208,209,213,214,220,221]
noncomputable def vq:Program:={ pw with main:={ pw.main with body:=[aj 38] } }
noncomputable def lo:List Str:=[("way" : Str),("point_over" : Str),("longer_orders" : Str),("likenesses" : Str),("_law_flow" : Str),("_law_pick" : Str),("_law_letters" : Str),("_law_name" : Str),("_law_names" : Str),("_law_between" : Str),("_law_part" : Str),("_law_turns" : Str),("_law_figure" : Str),("_law_backs" : Str),("_law_rule_of" : Str),("_law_free_three" : Str),("_law_sizes" : Str),("_law_any_rule" : Str),("_law_laying_kind" : Str),("_law_breaks" : Str),("_law_numbered" : Str),("_law_laying_rule" : Str),("_law_rising" : Str),("_law_free_rule" : Str),("_law_one_way_rule" : Str),("_law_any_world" : Str),("_law_alike" : Str),("_law_digits" : Str),("_law_worlds" : Str),("_law_figures" : Str),("_law_full_rule" : Str),("_law_drawn_points" : Str),("_law_maps" : Str),("_law_other_rule" : Str)]
theorem aR {K:PySem.W.Frag}{h:Heap}{mg:Str->Option Value}{x:Str}{st:Stmt}{df:Df}(a:Nat)(pm cd:Value)(X:K.In h)(G:h.Ns mainGlobals mg)
  (b:BD x st df)
  (e:PySem.W.nsIn K mainGlobals x=some (some (.ref a))) (l:K.lookup a=some (kf a st x pm cd).2) (c:PySem.W.codeIn K cd x=true) (k:PySem.W.keepIn K (.ref a)=true):am K mg x st df:=zr X G b e l c k
theorem eK:∀ P,HQ=(K0 P).map (·.1):=fun _=>by kernel_rfl
noncomputable def hk:PySem.W.Hook:=PySem.W.kHook K0 HQ eK
theorem hl:PySem.W.LeftO pw vq lo (fun s=>PySem.W.xlAt vq [] s&&PySem.W.recOk [] s) hk.obs hk.val 2252:=fun w=>by kernel_rfl
end
end Mi
theorem PySem.Challenge.cw_layworld_k18_likenesses_told_holds : PySem.Challenge.rw_layworld_k18_likenesses_told.Holds := by
 w_on
 refine PySem.W.holds_law (by kernel_rfl) (fun said=>?_)
 refine PySem.W.holds_open (q:=Mi.vq) (loose:=Mi.lo) (Xt:=fun s=>PySem.W.xlAt Mi.vq [] s&&PySem.W.recOk [] s) (XP:=PySem.W.XL Mi.vq []) (Yf:=Mi.hk.obs) (Ya:=Mi.hk.val) (YP:=Mi.hk.says) (N:=2252) Mi.hl Mi.hk.of Mi.hk.keeps (fun s e=>PySem.W.xl_of s (Bool.and_eq_true_iff.mp e).1) PySem.W.XL.keeps (by rfl) (by rfl) (by rfl) (fun s e=>PySem.W.recFacts_of (Bool.and_eq_true_iff.mp e).2) (by rfl) said (by decide +kernel) ⟨rfl,rfl,rfl,rfl,rfl,by decide +kernel⟩ ?hw ?hc
 case hw=>w_witness2
 case hc=>
 refine Mi.HI (l:=PySem.Challenge.rw_layworld_k18_likenesses_told) (K:=Mi.K0) rfl rfl (fun w h Y=>PySem.W.kIn_of Y) ?F
 case F=>
  intro w mg fa h KX G hmg;exact Mi.Ef KX G hmg (Mi.Gc KX G (by kernel_rfl) (by kernel_rfl) (by kernel_rfl) (by kernel_rfl) (by kernel_rfl) (by kernel_rfl) (by kernel_rfl) (by kernel_rfl) (by kernel_rfl) (by kernel_rfl) (by kernel_rfl) (by kernel_rfl))
   (Mi.aR 21 (.str "layworld.worlds" 187) (.ref 20) (x:="way") (st:=Mi.aj 1) (df:=Mi.gX) KX G Mi.Ed (by kernel_rfl) (by kernel_rfl) (by kernel_rfl) (by kernel_rfl))
   (Mi.aR 26 (.str "layworld.parts" 199) (.ref 25) (x:="point_over") (st:=Mi.aj 3) (df:=Mi.bo) KX G Mi.mz (by kernel_rfl) (by kernel_rfl) (by kernel_rfl) (by kernel_rfl))
   (Mi.aR 31 (.str "layworld.parts" 199) (.ref 30) (x:="longer_orders") (st:=Mi.aj 4) (df:=Mi.aM) KX G Mi.jI (by kernel_rfl) (by kernel_rfl) (by kernel_rfl) (by kernel_rfl))
   (Mi.aR 36 (.str "layworld.likes" 213) (.ref 35) (x:="likenesses") (st:=Mi.aj 6) (df:=Mi.bp) KX G Mi.mB (by kernel_rfl) (by kernel_rfl) (by kernel_rfl) (by kernel_rfl))
   (Mi.aR 43 (.str "law_layworld_k18_likenesses_told" 221) (.ref 42) (x:="_law_flow") (st:=Mi.aj 8) (df:=Mi.bG) KX G Mi.pz (by kernel_rfl) (by kernel_rfl) (by kernel_rfl) (by kernel_rfl))
   (Mi.aR 50 (.str "law_layworld_k18_likenesses_told" 221) (.ref 49) (x:="_law_pick") (st:=Mi.aj 9) (df:=Mi.bH) KX G Mi.pA (by kernel_rfl) (by kernel_rfl) (by kernel_rfl) (by kernel_rfl))
   (Mi.aR 55 (.str "law_layworld_k18_likenesses_told" 221) (.ref 54) (x:="_law_letters") (st:=Mi.aj 10) (df:=Mi.aU) KX G Mi.ki (by kernel_rfl) (by kernel_rfl) (by kernel_rfl) (by kernel_rfl))
   (Mi.aR 62 (.str "law_layworld_k18_likenesses_told" 221) (.ref 61) (x:="_law_name") (st:=Mi.aj 11) (df:=Mi.bI) KX G Mi.pB (by kernel_rfl) (by kernel_rfl) (by kernel_rfl) (by kernel_rfl))
   (Mi.aR 69 (.str "law_layworld_k18_likenesses_told" 221) (.ref 68) (x:="_law_names") (st:=Mi.aj 12) (df:=Mi.bq) KX G Mi.mC (by kernel_rfl) (by kernel_rfl) (by kernel_rfl) (by kernel_rfl))
   (Mi.aR 76 (.str "law_layworld_k18_likenesses_told" 221) (.ref 75) (x:="_law_between") (st:=Mi.aj 13) (df:=Mi.aV) KX G Mi.kj (by kernel_rfl) (by kernel_rfl) (by kernel_rfl) (by kernel_rfl))
   (Mi.aR 81 (.str "law_layworld_k18_likenesses_told" 221) (.ref 80) (x:="_law_part") (st:=Mi.aj 14) (df:=Mi.bJ) KX G Mi.pE (by kernel_rfl) (by kernel_rfl) (by kernel_rfl) (by kernel_rfl))
   (Mi.aR 88 (.str "law_layworld_k18_likenesses_told" 221) (.ref 87) (x:="_law_turns") (st:=Mi.aj 15) (df:=Mi.br) KX G Mi.mD (by kernel_rfl) (by kernel_rfl) (by kernel_rfl) (by kernel_rfl))
   (Mi.aR 93 (.str "law_layworld_k18_likenesses_told" 221) (.ref 92) (x:="_law_figure") (st:=Mi.aj 16) (df:=Mi.be) KX G Mi.lQ (by kernel_rfl) (by kernel_rfl) (by kernel_rfl) (by kernel_rfl))
   (Mi.aR 100 (.str "law_layworld_k18_likenesses_told" 221) (.ref 99) (x:="_law_backs") (st:=Mi.aj 17) (df:=Mi.bu) KX G Mi.mE (by kernel_rfl) (by kernel_rfl) (by kernel_rfl) (by kernel_rfl))
   (Mi.aR 105 (.str "law_layworld_k18_likenesses_told" 221) (.ref 104) (x:="_law_rule_of") (st:=Mi.aj 18) (df:=Mi.aW) KX G Mi.km (by kernel_rfl) (by kernel_rfl) (by kernel_rfl) (by kernel_rfl))
   (Mi.aR 110 (.str "law_layworld_k18_likenesses_told" 221) (.ref 109) (x:="_law_free_three") (st:=Mi.aj 19) (df:=Mi.aB) KX G Mi.iq (by kernel_rfl) (by kernel_rfl) (by kernel_rfl) (by kernel_rfl))
   (Mi.aR 117 (.str "law_layworld_k18_likenesses_told" 221) (.ref 116) (x:="_law_sizes") (st:=Mi.aj 20) (df:=Mi.bv) KX G Mi.mF (by kernel_rfl) (by kernel_rfl) (by kernel_rfl) (by kernel_rfl))
   (Mi.aR 124 (.str "law_layworld_k18_likenesses_told" 221) (.ref 123) (x:="_law_any_rule") (st:=Mi.aj 21) (df:=Mi.aN) KX G Mi.jJ (by kernel_rfl) (by kernel_rfl) (by kernel_rfl) (by kernel_rfl))
   (Mi.aR 131 (.str "law_layworld_k18_likenesses_told" 221) (.ref 130) (x:="_law_laying_kind") (st:=Mi.aj 22) (df:=Mi.ay) KX G Mi.gM (by kernel_rfl) (by kernel_rfl) (by kernel_rfl) (by kernel_rfl))
   (Mi.aR 138 (.str "law_layworld_k18_likenesses_told" 221) (.ref 137) (x:="_law_breaks") (st:=Mi.aj 23) (df:=Mi.bf) KX G Mi.lR (by kernel_rfl) (by kernel_rfl) (by kernel_rfl) (by kernel_rfl))
   (Mi.aR 143 (.str "law_layworld_k18_likenesses_told" 221) (.ref 142) (x:="_law_numbered") (st:=Mi.aj 24) (df:=Mi.aO) KX G Mi.jK (by kernel_rfl) (by kernel_rfl) (by kernel_rfl) (by kernel_rfl))
   (Mi.aR 150 (.str "law_layworld_k18_likenesses_told" 221) (.ref 149) (x:="_law_laying_rule") (st:=Mi.aj 25) (df:=Mi.az) KX G Mi.gN (by kernel_rfl) (by kernel_rfl) (by kernel_rfl) (by kernel_rfl))
   (Mi.aR 155 (.str "law_layworld_k18_likenesses_told" 221) (.ref 154) (x:="_law_rising") (st:=Mi.aj 26) (df:=Mi.bg) KX G Mi.lS (by kernel_rfl) (by kernel_rfl) (by kernel_rfl) (by kernel_rfl))
   (Mi.aR 160 (.str "law_layworld_k18_likenesses_told" 221) (.ref 159) (x:="_law_free_rule") (st:=Mi.aj 27) (df:=Mi.aG) KX G Mi.i7 (by kernel_rfl) (by kernel_rfl) (by kernel_rfl) (by kernel_rfl))
   (Mi.aR 165 (.str "law_layworld_k18_likenesses_told" 221) (.ref 164) (x:="_law_one_way_rule") (st:=Mi.aj 28) (df:=Mi.ar) KX G Mi.gn (by kernel_rfl) (by kernel_rfl) (by kernel_rfl) (by kernel_rfl))
   (Mi.aR 170 (.str "law_layworld_k18_likenesses_told" 221) (.ref 169) (x:="_law_any_world") (st:=Mi.aj 29) (df:=Mi.aH) KX G Mi.i8 (by kernel_rfl) (by kernel_rfl) (by kernel_rfl) (by kernel_rfl))
   (Mi.aR 175 (.str "law_layworld_k18_likenesses_told" 221) (.ref 174) (x:="_law_alike") (st:=Mi.aj 30) (df:=Mi.bw) KX G Mi.mG (by kernel_rfl) (by kernel_rfl) (by kernel_rfl) (by kernel_rfl))
   (Mi.aR 180 (.str "law_layworld_k18_likenesses_told" 221) (.ref 179) (x:="_law_digits") (st:=Mi.aj 31) (df:=Mi.bh) KX G Mi.lT (by kernel_rfl) (by kernel_rfl) (by kernel_rfl) (by kernel_rfl))
   (Mi.aR 185 (.str "law_layworld_k18_likenesses_told" 221) (.ref 184) (x:="_law_worlds") (st:=Mi.aj 32) (df:=Mi.bj) KX G Mi.lU (by kernel_rfl) (by kernel_rfl) (by kernel_rfl) (by kernel_rfl))
   (Mi.aR 190 (.str "law_layworld_k18_likenesses_told" 221) (.ref 189) (x:="_law_figures") (st:=Mi.aj 33) (df:=Mi.aX) KX G Mi.kn (by kernel_rfl) (by kernel_rfl) (by kernel_rfl) (by kernel_rfl))
   (Mi.aR 195 (.str "law_layworld_k18_likenesses_told" 221) (.ref 194) (x:="_law_full_rule") (st:=Mi.aj 34) (df:=Mi.aI) KX G Mi.i9 (by kernel_rfl) (by kernel_rfl) (by kernel_rfl) (by kernel_rfl))
   (Mi.aR 202 (.str "law_layworld_k18_likenesses_told" 221) (.ref 201) (x:="_law_drawn_points") (st:=Mi.aj 35) (df:=Mi.au) KX G Mi.gp (by kernel_rfl) (by kernel_rfl) (by kernel_rfl) (by kernel_rfl))
   (Mi.aR 209 (.str "law_layworld_k18_likenesses_told" 221) (.ref 208) (x:="_law_maps") (st:=Mi.aj 36) (df:=Mi.bK) KX G Mi.pG (by kernel_rfl) (by kernel_rfl) (by kernel_rfl) (by kernel_rfl))
   (Mi.aR 214 (.str "law_layworld_k18_likenesses_told" 221) (.ref 213) (x:="_law_other_rule") (st:=Mi.aj 37) (df:=Mi.aC) KX G Mi.ir (by kernel_rfl) (by kernel_rfl) (by kernel_rfl) (by kernel_rfl))
   (f:=221) (oc:=.type "function") (od:=none) (an:=none) (osl:=#[]) (kV:=.none) (doc:=.none) (pm:=(.str "law_layworld_k18_likenesses_told" 221)) (cdv:=(.ref 220)) (ct:=.none) (by kernel_rfl) (by kernel_rfl) (by kernel_rfl) (by kernel_rfl)
