import PyProof.Rows.All
import Wide.All
import OpenK.AllK
import Wide.FinOn
import Lean
import PyProof.EqAt
import PyProof.EqKinds
import PyProof.TupleCall
import KE.KDictList
import KE.KSortTup
import PySem.Challenge.RW_layworld_k05_ways_and_ways_back
noncomputable section
set_option Elab.async false
set_option linter.all false
set_option maxRecDepth 100000
namespace L2
open PySem PySem.Spec PyProof.Rows
noncomputable abbrev Key := Sum Int Str
noncomputable def keyIs : Key → Value → Bool
  | .inl k, v => Value.isInt k v
  | .inr x, v => Value.isStrOf x v
noncomputable def keyH (w : World) : Key → Int
  | .inl k => hashInt k
  | .inr x => hashStr w x
theorem keyIs_shape : ∀ {k : Key} {v : Value}, keyIs k v = true → (∃ i t, k = Sum.inl i ∧ v = Value.int i t) ∨ (∃ x t, k = Sum.inr x ∧ v = Value.str x t)
  | .inl i, v, h => by
    obtain ⟨t, e⟩ := Value.isInt_shape (k := i) (v := v) h
    exact .inl ⟨i, t, rfl, e⟩
  | .inr x, v, h => by
    obtain ⟨t, e⟩ := Value.isStrOf_shape (x := x) (v := v) h
    exact .inr ⟨x, t, rfl, e⟩
theorem key_ll (a b : Int) : decide ((Sum.inl a : Key) = Sum.inl b) = (a == b) := by
  by_cases e : a = b
  · subst e; simp
  · have h : ¬ (Sum.inl a : Key) = Sum.inl b := fun q => e (Sum.inl.inj q)
    rw [decide_eq_false h]
    exact (beq_eq_false_iff_ne.mpr e).symm
theorem key_rr (a b : Str) : decide ((Sum.inr a : Key) = Sum.inr b) = decide (a = b) := by
  by_cases e : a = b
  · subst e; simp
  · have h : ¬ (Sum.inr a : Key) = Sum.inr b := fun q => e (Sum.inr.inj q)
    rw [decide_eq_false h, decide_eq_false e]
theorem key_lr (a : Int) (b : Str) : decide ((Sum.inl a : Key) = Sum.inr b) = false := decide_eq_false (fun q => nomatch q)
theorem key_rl (a : Str) (b : Int) : decide ((Sum.inr a : Key) = Sum.inl b) = false := decide_eq_false (fun q => nomatch q)
noncomputable def mixKind (prog : Program) (w : World) : PySem.KeyKind prog w Key where
  is := keyIs
  hash := keyH w
  inj := fun v a b ha hb => by
    rcases keyIs_shape ha with ⟨i, t, rfl, rfl⟩ | ⟨x, t, rfl, rfl⟩
    · rcases keyIs_shape hb with ⟨j, u, rfl, e⟩ | ⟨y, u, rfl, e⟩
      · injection e with e1 _; rw [e1]
      · exact nomatch e
    · rcases keyIs_shape hb with ⟨j, u, rfl, e⟩ | ⟨y, u, rfl, e⟩
      · exact nomatch e
      · injection e with e1 _; rw [e1]
  byValue := fun k v h => by
    rcases keyIs_shape h with ⟨i, t, rfl, rfl⟩ | ⟨x, t, rfl, rfl⟩ <;> rfl
  pyHash := fun hv h => by
    rcases keyIs_shape hv with ⟨i, t, rfl, rfl⟩ | ⟨x, t, rfl, rfl⟩
    · exact wpAny_pyHash_int h
    · exact wpAny_pyHash_str h
  eqBool := fun hu hv h => by
    rcases keyIs_shape hu with ⟨i, t, rfl, rfl⟩ | ⟨x, t, rfl, rfl⟩
    · rcases keyIs_shape hv with ⟨j, u, rfl, rfl⟩ | ⟨y, u, rfl, rfl⟩
      · rw [key_ll] at h; exact wpAny_eqBool_int h
      · rw [key_lr] at h; exact SeqAt.EqAt.int_str i t y u _ _ _ _ h
    · rcases keyIs_shape hv with ⟨j, u, rfl, rfl⟩ | ⟨y, u, rfl, rfl⟩
      · rw [key_rl] at h; exact SeqAt.EqAt.str_int x t j u _ _ _ _ h
      · rw [key_rr] at h; exact wpAny_eqBool_str h
  «strs» := fun k x t v h => by
    rcases keyIs_shape h with ⟨i, u, rfl, e⟩ | ⟨y, u, rfl, e⟩
    · exact nomatch e
    · injection e with e1 _
      subst e1
      cases v <;> rfl
end L2
namespace L2
open PySem PySem.Spec PyProof.Rows
inductive V where
  | non | bl (b : Bool) | int (i : Int) | str (x : Str) | byt (b : Array UInt8) | flt (b : UInt64) | ref (a : Addr) | ty (n : String)
  deriving DecidableEq
noncomputable def RelV : V → Value → Prop
  | .non, u => u = Value.none
  | .bl b, u => u = Value.bool b
  | .int i, u => ∃ t, u = Value.int i t
  | .str x, u => ∃ t, u = Value.str x t
  | .byt b, u => ∃ t, u = Value.bytes b t
  | .flt b, u => ∃ t, u = Value.float b t
  | .ref a, u => u = Value.ref a
  | .ty n, u => u = Value.type n
noncomputable abbrev Vals : List V → List Value → Prop := Paired RelV
theorem Vals.length {xs : List V} {us : List Value} (r : Vals xs us) : xs.length = us.length := Paired.length r
theorem Vals.get : ∀ {xs : List V} {us : List Value} {i : Nat} {x : V}, Vals xs us → xs[i]? = some x → ∃ u, us[i]? = some u ∧ RelV x u
  | _, _, _, _, .nil, e => by simp at e
  | _, _, 0, _, .cons r _, e => by simp at e; subst e; exact ⟨_, rfl, r⟩
  | _, _, i + 1, x, .cons _ t, e => by
    obtain ⟨u, h1, h2⟩ := Vals.get (i := i) (x := x) t (by simpa using e)
    exact ⟨u, by simpa using h1, h2⟩
theorem Vals.set {x : V} {u : Value} (r : RelV x u) : ∀ {xs : List V} {us : List Value} (i : Nat), Vals xs us → Vals (xs.set i x) (us.set i u)
  | _, _, _, .nil => .nil
  | _, _, 0, .cons _ t => .cons r t
  | _, _, i + 1, .cons q t => .cons q (Vals.set r i t)
theorem Vals.append : ∀ {xs ys : List V} {us ws : List Value}, Vals xs us → Vals ys ws → Vals (xs ++ ys) (us ++ ws)
  | _, _, _, _, .nil, s => s
  | _, _, _, _, .cons r t, s => .cons r (Vals.append t s)
theorem Vals.take : ∀ {xs : List V} {us : List Value} (n : Nat), Vals xs us → Vals (xs.take n) (us.take n)
  | _, _, 0, _ => .nil
  | _, _, _ + 1, .nil => .nil
  | _, _, n + 1, .cons r t => .cons r (Vals.take n t)
theorem Vals.drop : ∀ {xs : List V} {us : List Value} (n : Nat), Vals xs us → Vals (xs.drop n) (us.drop n)
  | _, _, 0, r => r
  | _, _, _ + 1, .nil => .nil
  | _, _, n + 1, .cons _ t => Vals.drop n t
noncomputable def RelO : Option V → Option Value → Prop
  | some v, some u => RelV v u
  | none, none => True
  | _, _ => False
noncomputable def KV {κ : Type} : List (κ × V) → List (κ × Value) → Prop := Paired fun (p : κ × V) (q : κ × Value) => p.1 = q.1 ∧ RelV p.2 q.2
noncomputable def kV : Key → V
  | .inl i => .int i
  | .inr x => .str x
inductive HO where
  | lst (xs : List V)
  | tup (xs : List V)
  | dK (kvs : List (Key × V)) | dT (kvs : List (List Key × V))
  | set (S : Int → Bool) (n : Nat)
  | ins (C dx : Addr) (fs : List (Str × V))
  | own (x : Addr)
  | xd (fs : List (Str × V))
  | met (f x : Addr)
  | rng (lo hi : Int)
  | frz (o : Obj) (u : HO)
  | tbl (ps : Array Value)
  | ext (φ : Heap → Prop)
noncomputable abbrev Hp := Addr → Option HO
noncomputable def upd (H : Hp) (a : Addr) (o : HO) : Hp := fun b => if b = a then some o else H b
theorem upd_same {H : Hp} {a : Addr} {o : HO} : upd H a o a = some o := by unfold upd; rw [if_pos rfl]
theorem upd_ne {H : Hp} {a b : Addr} {o : HO} (h : b ≠ a) : upd H a o b = H b := by unfold upd; rw [if_neg h]
theorem ne_of_none {H : Hp} {a b : Addr} {o : HO} (h : H a = some o) (h' : H b = none) : a ≠ b := by
  intro e; subst e; rw [h] at h'; cases h'
section
variable (P : Program) (w : World)
noncomputable def ObjOk (H : Hp) (h : Heap) (a : Addr) : HO → Prop
  | .lst xs => xs.length ≤ sizeLine ∧ ∃ (its : List Value) (n : Nat), Vals xs its ∧ h.get? a = some { cls := .type "list", data := .seq its.toArray n }
  | .tup xs => xs.length ≤ sizeLine ∧ ∃ its : List Value, Vals xs its ∧ IsTup h a its.toArray
  | .dK kvs => kvs.length ≤ sizeLine ∧ (a == sysModules) = false ∧ ∃ vs, KV kvs vs ∧ h.DictOf (mixKind P w) a vs
  | .dT kvs => kvs.length ≤ sizeLine ∧ (a == sysModules) = false ∧ ∃ xs : List (List Key × Addr × Value),
      Paired (fun (p : List Key × V) (q : List Key × Addr × Value) => p.1 = q.1 ∧ H q.2.1 = some (.tup (p.1.map kV)) ∧ RelV p.2 q.2.2) kvs xs ∧
      ∃ o es ep, h.get? a = some o ∧ o.ExactDict ∧ o.data = .dict es ep ∧ es.toList = xs.map (entryOfKey (tupleKind (mixKind P w))) ∧ (xs.map (·.1)).Nodup
  | .set S n => h.SetOf (intKind P w) a S n
  | .ins C dx fs => H dx = some (.own a) ∧ fs.length ≤ 1000 ∧ dx ≠ a ∧ h.get? a = some (PySem.W.instObj C dx) ∧
      ∃ mA, h.Ns1 dx mA ∧ (∀ f, RelO (fs.lookup f) (mA f)) ∧ PySem.Within mA (fs.map (·.1))
  | .own _ => ∃ o, h.get? a = some o
  | .xd fs => ∃ mA, h.Ns1 a mA ∧ ∀ f, RelO (fs.lookup f) (mA f)
  | .rng lo hi => ∃ t u v, h.get? a = some { cls := .type "range", data := .fields #[.int lo t, .int hi u, .int 1 v] }
  | .frz o u => h.get? a = some o ∧ ObjOk H h a u
  | .tbl ps => h.get? a = some { cls := .none, data := .fields ps }
  | .met f x => h.get? a = some (PySem.W.methodObj (.ref f) (.ref x))
  | .ext φ => φ h ∧ (∃ o, h.get? a = some o) ∧ ∀ h1 h2 : Heap, φ h1 → (∀ o, h1.get? a = some o → h2.get? a = some o) → φ h2
noncomputable def HOk (H : Hp) (h : Heap) : Prop := ∀ a o, H a = some o → ObjOk P w H h a o
end
section
variable {P : Program} {w : World} {H H' : Hp} {h h' : Heap} {a : Addr} {o : HO}
theorem ObjOk.lt (x : ObjOk P w H h a o) : a < h.objs.size := by
  cases o with
  | lst xs => obtain ⟨_, _, _, _, e⟩ := x; exact Heap.lt_size e
  | tup xs => obtain ⟨_, _, _, p⟩ := x; exact p.lt
  | dK kvs => obtain ⟨_, _, _, _, o, _, _, e, _⟩ := x; exact Heap.lt_size e
  | dT kvs => obtain ⟨_, _, _, _, o, _, _, e, _⟩ := x; exact Heap.lt_size e
  | set S n => obtain ⟨o, _, _, _, e, _⟩ := x; exact Heap.lt_size e
  | ins C dx fs => obtain ⟨_, _, _, e, _⟩ := x; exact Heap.lt_size e
  | own y => obtain ⟨_, e⟩ := x; exact Heap.lt_size e
  | xd fs => obtain ⟨_, ⟨_, _, _, e, _⟩, _⟩ := x; exact Heap.lt_size e
  | rng lo hi => obtain ⟨_, _, _, e⟩ := x; exact Heap.lt_size e
  | frz ob u => obtain ⟨e, _⟩ := x; exact Heap.lt_size e
  | tbl ps => exact Heap.lt_size (show h.get? a = some _ from x)
  | met f y => exact Heap.lt_size (show h.get? a = some _ from x)
  | ext φ => obtain ⟨_, ⟨_, e⟩, _⟩ := x; exact Heap.lt_size e
theorem Paired.mapP {α β : Type} {F G : α → β → Prop} : ∀ {l₁ : List α} {l₂ : List β}, Paired F l₁ l₂ → (∀ a b, F a b → G a b) → Paired G l₁ l₂
  | _, _, .nil, _ => .nil
  | _, _, .cons r t, f => .cons (f _ _ r) (Paired.mapP t f)
theorem ObjOk.stay (x : ObjOk P w H h a o) (k : ∀ b u, (b = a ∨ H b = some (.own a)) → h.get? b = some u → h'.get? b = some u)
    (ho : ∀ b, H b = some (.own a) → H' b = some (.own a)) (ht : ∀ b xs, H b = some (.tup xs) → H' b = some (.tup xs)) : ObjOk P w H' h' a o := by
  induction o with
  | lst xs => obtain ⟨z, its, n, r, e⟩ := x; exact ⟨z, its, n, r, k _ _ (.inl rfl) e⟩
  | tup xs => obtain ⟨z, its, r, ob, e, c⟩ := x; exact ⟨z, its, r, ob, k _ _ (.inl rfl) e, c⟩
  | dK kvs => obtain ⟨z, y, vs, r, ob, es, ep, e, c⟩ := x; exact ⟨z, y, vs, r, ob, es, ep, k _ _ (.inl rfl) e, c⟩
  | dT kvs =>
    obtain ⟨z, y, xs, r, ob, es, ep, e, c⟩ := x
    exact ⟨z, y, xs, Paired.mapP r fun p q z => ⟨z.1, ht _ _ z.2.1, z.2.2⟩, ob, es, ep, k _ _ (.inl rfl) e, c⟩
  | set S n => obtain ⟨ob, es, ep, t, e, c⟩ := x; exact ⟨ob, es, ep, t, k _ _ (.inl rfl) e, c⟩
  | ins C dx fs =>
    obtain ⟨d, z, ne, e, mA, ⟨od, es, ep, e2, c⟩, r⟩ := x
    exact ⟨ho _ d, z, ne, k _ _ (.inl rfl) e, mA, ⟨od, es, ep, k _ _ (.inr d) e2, c⟩, r⟩
  | own y => obtain ⟨ob, e⟩ := x; exact ⟨ob, k _ _ (.inl rfl) e⟩
  | xd fs => obtain ⟨mA, ⟨od, es, ep, e, c⟩, r⟩ := x; exact ⟨mA, ⟨od, es, ep, k _ _ (.inl rfl) e, c⟩, r⟩
  | rng lo hi => obtain ⟨t, u, v, e⟩ := x; exact ⟨t, u, v, k _ _ (.inl rfl) e⟩
  | frz ob u ih => obtain ⟨e, q⟩ := x; exact ⟨k _ _ (.inl rfl) e, ih q⟩
  | tbl ps =>
    have e : h.get? a = some { cls := .none, data := .fields ps } := x
    show h'.get? a = some { cls := .none, data := .fields ps }
    exact k a _ (.inl rfl) e
  | met f y =>
    have e : h.get? a = some (PySem.W.methodObj (.ref f) (.ref y)) := x
    show h'.get? a = some (PySem.W.methodObj (.ref f) (.ref y))
    exact k a _ (.inl rfl) e
  | ext φ => obtain ⟨p, ⟨o, e⟩, st⟩ := x; exact ⟨st _ _ p fun o q => k _ _ (.inl rfl) q, ⟨o, k _ _ (.inl rfl) e⟩, st⟩
theorem HOk.lt (x : HOk P w H h) (e : H a = some o) : a < h.objs.size := (x a o e).lt
theorem HOk.fresh (x : HOk P w H h) (e : h.objs.size ≤ a) : H a = none := by
  cases q : H a with
  | none => rfl
  | some u => exact absurd (Nat.lt_of_lt_of_le (x.lt q) e) (Nat.lt_irrefl _)
theorem HOk.kept (x : HOk P w H h) (k : ∀ b u, h.get? b = some u → h'.get? b = some u) : HOk P w H h' := fun a o e =>
  (x a o e).stay (fun b u _ q => k b u q) (fun _ q => q) fun _ _ q => q
theorem HOk.laid (x : HOk P w H h) (k : ∀ b u, h.get? b = some u → h'.get? b = some u) (hp : h.objs.size ≤ a) (new : ObjOk P w (upd H a o) h' a o) : HOk P w (upd H a o) h' := fun b u e => by
  have hn := x.fresh hp
  by_cases hb : b = a
  · subst hb; rw [upd_same] at e; cases e; exact new
  · rw [upd_ne hb] at e
    exact (x b u e).stay (fun c v _ q => k c v q) (fun c q => by rw [upd_ne (ne_of_none q hn)]; exact q) fun c xs q => by rw [upd_ne (ne_of_none q hn)]; exact q
end
noncomputable def Rd (H : Hp) (a : Addr) (u : HO) : Prop := H a = some u ∨ ∃ o, H a = some (.frz o u)
theorem Rd.ok {P : Program} {w : World} {H : Hp} {h : Heap} {a : Addr} {u : HO} (r : Rd H a u) (x : HOk P w H h) : ObjOk P w H h a u := by
  rcases r with r | ⟨o, r⟩
  · exact x a u r
  · obtain ⟨_, q⟩ := x a _ r
    exact q
noncomputable def Mut : Option HO → Prop
  | some (.lst _) => True
  | some (.dK _) => True
  | some (.dT _) => True
  | some (.set _ _) => True
  | some (.ins _ _ _) => True
  | some (.ext _) => True
  | _ => False
section
variable {P : Program} {w : World} {H : Hp} {h h' : Heap} {x e : Addr} {o' : HO}
theorem HOk.write (ok : HOk P w H h) (mu : Mut (H x)) (he : e = x ∨ H e = some (.own x)) (k : ∀ b u, b ≠ e → h.get? b = some u → h'.get? b = some u) (heo : ∃ u, h'.get? e = some u)
    (new : ObjOk P w (upd H x o') h' x o') : HOk P w (upd H x o') h' := fun b u q => by
  have nown : ∀ c y, H c = some (.own y) → c ≠ x := fun c y r z => by subst z; rw [r] at mu; exact mu
  have ntup : ∀ c xs, H c = some (.tup xs) → c ≠ x := fun c xs r z => by subst z; rw [r] at mu; exact mu
  by_cases hb : b = x
  · subst hb; rw [upd_same] at q; cases q; exact new
  · rw [upd_ne hb] at q
    by_cases hbe : b = e
    · have q' : H b = some (.own x) := by
        rcases he with z | z
        · exact absurd (hbe.trans z) hb
        · rw [hbe]; exact z
      rw [q] at q'; cases q'
      obtain ⟨v, hv⟩ := heo
      exact ⟨v, by rw [hbe]; exact hv⟩
    · refine (ok b u q).stay (fun c v hc r => k c v ?_ r) (fun c r => by rw [upd_ne (nown c b r)]; exact r) fun c xs r => by rw [upd_ne (ntup c xs r)]; exact r
      rcases hc with rfl | hc
      · exact hbe
      · rintro rfl
        rcases he with z | z
        · exact nown c b hc z
        · rw [hc] at z; cases z; exact hb rfl
end
structure Un (fs ex : List Addr) (H H' : Hp) (h h' : Heap) : Prop where
  keep : ∀ b o, h.get? b = some o → H b = none → b ∉ fs → b ∉ ex → h'.get? b = some o
  slot : ∀ b o, h.get? b = some o → H b = none → b ∈ fs → b ∉ ex → ∃ sl, h'.get? b = some { o with slots := sl }
  free : ∀ b o, h.get? b = some o → H b = none → b ∉ ex → H' b = none
  there : ∀ b o, h.get? b = some o → b ∉ ex → ∃ o', h'.get? b = some o'
  tups : ∀ b xs, H b = some (.tup xs) → H' b = some (.tup xs)
  frzs : ∀ b o u, H b = some (.frz o u) → H' b = some (.frz o u)
  tbls : ∀ b ps, H b = some (.tbl ps) → ∃ more, H' b = some (.tbl (ps ++ more))
section
variable {fs fs' ex ex' : List Addr} {H H1 H2 : Hp} {h h1 h2 h' : Heap} {a x e : Addr} {o : HO}
theorem Un.any (u : Un fs ex H H1 h h1) {b : Addr} {ob : Obj} (q : h.get? b = some ob) (n : H b = none) (hx : b ∉ ex) : ∃ sl, h1.get? b = some { ob with slots := sl } := by
  by_cases hb : b ∈ fs
  · exact u.slot b ob q n hb hx
  · exact ⟨ob.slots, u.keep b ob q n hb hx⟩
theorem Un.trans (a : Un fs ex H H1 h h1) (b : Un fs ex H1 H2 h1 h2) : Un fs ex H H2 h h2 where
  keep := fun c ob q n hc hx => b.keep c ob (a.keep c ob q n hc hx) (a.free c ob q n hx) hc hx
  slot := fun c ob q n hc hx => by
    obtain ⟨sl, e1⟩ := a.slot c ob q n hc hx
    obtain ⟨sl', e2⟩ := b.slot c _ e1 (a.free c ob q n hx) hc hx
    exact ⟨sl', e2⟩
  free := fun c ob q n hx => by
    obtain ⟨o', e1⟩ := a.there c ob q hx
    exact b.free c o' e1 (a.free c ob q n hx) hx
  there := fun c ob q hx => by
    obtain ⟨o', e1⟩ := a.there c ob q hx
    exact b.there c o' e1 hx
  tups := fun c xs q => b.tups c xs (a.tups c xs q)
  frzs := fun c ob xs q => b.frzs c ob xs (a.frzs c ob xs q)
  tbls := fun c ps q => by
    obtain ⟨m1, e1⟩ := a.tbls c ps q
    obtain ⟨m2, e2⟩ := b.tbls c _ e1
    exact ⟨m1 ++ m2, by rw [e2, Array.append_assoc]⟩
theorem Un.kept (k : ∀ b u, h.get? b = some u → h'.get? b = some u) : Un fs ex H H h h' :=
  ⟨fun b ob q _ _ _ => k b ob q, fun b ob q _ _ _ => ⟨ob.slots, k b ob q⟩, fun _ _ _ n _ => n, fun b ob q _ => ⟨ob, k b ob q⟩, fun _ _ q => q, fun _ _ _ q => q, fun _ ps q => ⟨#[], by rw [q]; simp⟩⟩
theorem Un.refl : Un fs ex H H h h := Un.kept fun _ _ q => q
theorem Un.laid (k : ∀ b u, h.get? b = some u → h'.get? b = some u) (hp : h.objs.size ≤ a) (hn : H a = none) : Un fs ex H (upd H a o) h h' where
  keep := fun b u q _ _ _ => k b u q
  slot := fun b u q _ _ _ => ⟨u.slots, k b u q⟩
  free := fun b u q n _ => by rw [upd_ne (Nat.ne_of_lt (Nat.lt_of_lt_of_le (Heap.lt_size q) hp))]; exact n
  there := fun b u q _ => ⟨u, k b u q⟩
  tups := fun b xs q => by rw [upd_ne (ne_of_none q hn)]; exact q
  frzs := fun b u xs q => by rw [upd_ne (ne_of_none q hn)]; exact q
  tbls := fun b ps q => ⟨#[], by rw [upd_ne (ne_of_none q hn), q]; simp⟩
theorem Un.write (mu : Mut (H x)) (he : e = x ∨ H e = some (.own x)) (k : ∀ b u, b ≠ e → h.get? b = some u → h'.get? b = some u) (heo : ∃ u, h'.get? e = some u) : Un fs ex H (upd H x o) h h' := by
  have hx : ∀ b, H b = none → b ≠ x := fun b n z => by subst z; rw [n] at mu; exact mu
  have hb : ∀ b, H b = none → b ≠ e := fun b n z => by
    subst z
    rcases he with r | r
    · exact hx b n r
    · rw [n] at r; cases r
  have hm : ∀ b u, H b = some u → ¬ Mut (some u) → b ≠ x := fun b u q nm z => by subst z; rw [q] at mu; exact nm mu
  refine ⟨fun b u q n _ _ => k b u (hb b n) q, fun b u q n _ _ => ⟨u.slots, k b u (hb b n) q⟩, fun b u q n _ => by rw [upd_ne (hx b n)]; exact n, fun b u q _ => ?_,
    fun b xs q => by rw [upd_ne (hm b _ q fun z => z)]; exact q, fun b u xs q => by rw [upd_ne (hm b _ q fun z => z)]; exact q, fun b ps q => ⟨#[], by rw [upd_ne (hm b _ q fun z => z), q]; simp⟩⟩
  by_cases hbe : b = e
  · subst hbe; exact heo
  · exact ⟨u, k b u hbe q⟩
end
noncomputable def trk (h : Heap) (H : Hp) : List Addr := (List.range h.objs.size).filter fun a => (H a).isSome
noncomputable def hidT (h : Heap) (H : Hp) : Heap := PySem.W.hideAll h (trk h H)
theorem hidT_size (h : Heap) (H : Hp) : (hidT h H).objs.size = h.objs.size := PySem.W.hideAll_size _ _
theorem hidT_get {h : Heap} {H : Hp} {b : Addr} {o : Obj} (e : h.get? b = some o) (n : H b = none) : (hidT h H).get? b = some o :=
  PySem.W.hideAll_get _ e fun hm => by
    have q : (H b).isSome = true := (List.mem_filter.mp hm).2
    rw [n] at q; simp at q
theorem of_hidT {h : Heap} {H : Hp} {b : Addr} {o : Obj} (e : (hidT h H).get? b = some o) : h.get? b = some o ∧ H b = none := by
  have e' : h.get? b = some o := PySem.W.of_hideAll (trk h H) e
  refine ⟨e', ?_⟩
  cases q : H b with
  | none => rfl
  | some x =>
    have hm : b ∈ trk h H := List.mem_filter.mpr ⟨List.mem_range.mpr (Heap.lt_size e'), by simp [q]⟩
    have z : (hidT h H).get? b = none := PySem.W.hideAll_none (trk h H) hm
    rw [z] at e; cases e
noncomputable def allNews (g h : Heap) (L : Addr) : List (Addr × Obj) := (List.range h.objs.size).filterMap fun a => if a = L ∨ (g.get? a).isSome = true then none else (h.get? a).map fun o => (a, o)
noncomputable def rest (g h : Heap) (L d : Addr) : List (Addr × Obj) := (allNews g h L).filter fun p => decide (p.1 ≠ d)
end L2
namespace L2
open PySem PySem.Spec PyProof.Rows
structure Mod (K : PySem.W.Frag) (mg : Str → Option Value) (base : Heap) : Prop where
  kin : K.In base
  glob : base.Ns mainGlobals mg
  blt : ∃ mb, base.Ns builtinsNs mb ∧ ∀ x : Str, x ≠ "__name__" → mb x = bootBuiltins x
  nolimit : base.NoLimit
structure Cx where
  prog : Program
  w : World
  K : PySem.W.Frag
  mg : Str → Option Value
  base : Heap
  A : Around
  N : List Str
  s₀ : Shared
  H₀ : Hp
  env : Env
  outer : List Env
  stack : List Env
  ex : List Addr
  fn : Str → Bool
  calm : Bool
  pn : List (Addr × Obj)
  xe : Value → Shared → Prop
noncomputable def frs (l : List Env) : List Addr := l.filterMap (·.frame)
noncomputable abbrev Cx.fs (X : Cx) : List Addr := frs X.outer
noncomputable def Vis (sc : Scope) (x : Str) : Prop := sc.names.lookup x = some .local ∨ sc.names.lookup x = some .cell ∨ sc.names.lookup x = some .free
noncomputable def Loc (sc : Scope) (x : Str) : Prop := sc.names.lookup x = some .local ∨ sc.names.lookup x = some .cell
noncomputable def Look (env : Env) (h : Heap) (m : Str → Option Value) (x : Str) (u : Value) : Prop :=
  (env.kindOf x = some .local ∧ m x = some u) ∨ ((env.kindOf x = some .cell ∨ env.kindOf x = some .free) ∧ ∃ c, env.cells.lookup x = some c ∧ h.IsCell c (some u))
structure Cx.Ok (X : Cx) : Prop where
  mod : Mod X.K X.mg X.base
  kind : X.env.scope.kind = .function
  glob : X.env.globals = mainGlobals
  blt : X.env.builtins = builtinsNs
  above : X.s₀.heap.objs.size ≤ X.env.locals
  inj : ∀ x y c, X.env.cells.lookup x = some c → X.env.cells.lookup y = some c → x = y
  has : ∀ x, (X.env.kindOf x = some .cell ∨ X.env.kindOf x = some .free) → ∃ c, X.env.cells.lookup x = some c
  cab : ∀ x c, X.fn x = true → X.env.cells.lookup x = some c → X.s₀.heap.objs.size ≤ c
  hd : X.calm = true → X.A.handled = none
  frames : X.A.frames = some X.stack
  stk : X.stack = X.outer ∨ (X.stack = X.env :: X.outer ∧ X.env.frame = some X.env.locals)
  exf : ∀ b ∈ X.ex, b ≠ X.env.locals ∧ ∀ x c, X.env.cells.lookup x = some c → c ≠ b
  bs : ∀ b o, X.base.get? b = some o → X.s₀.heap.get? b = some o ∧ X.H₀ b = none
  bsz : X.base.objs.size ≤ X.s₀.heap.objs.size
  noex : ∀ b o, X.base.get? b = some o → b ∉ X.ex
  exfs : ∀ b ∈ X.ex, b ∉ X.fs
  funs : X.s₀.heap.FunFrames X.base X.outer
  frf : ∀ b ∈ X.fs, X.H₀ b = none
structure Inv (X : Cx) (pins : List (Addr × Obj)) (σ : List (Option V)) (H : Hp) (s : Shared) : Prop where
  ok : X.Ok
  os : s.os = X.s₀.os
  bare : AllBare s.gens
  base : Un X.fs X.ex X.H₀ H X.s₀.heap s.heap
  loc : ∃ m, s.heap.Ns X.env.locals m ∧ ∀ (i : Nat) (x : Str) (v : V), X.N[i]? = some x → σ[i]? = some (some v) → Vis X.env.scope x → ∃ u, RelV v u ∧ Look X.env s.heap m x u
  cell : ∀ x c, X.env.cells.lookup x = some c → ∃ v, s.heap.IsCell c v
  free : H X.env.locals = none
  freeC : ∀ x c, X.env.cells.lookup x = some c → H c = none
  pin : ∀ p ∈ X.pn ++ pins, s.heap.get? p.1 = some p.2 ∧ H p.1 = none ∧ p.1 ≠ X.env.locals ∧ p.1 ∉ X.fs ∧ ∀ v, p.2.data ≠ .cell v
  hok : HOk X.prog X.w H s.heap
  len : σ.length = X.N.length
section
variable {X : Cx} {pins : List (Addr × Obj)} {σ : List (Option V)} {H H' : Hp} {s : Shared} {h' : Heap}
theorem Cx.Ok.nofr (ok : X.Ok) {b : Addr} {o : Obj} (e : X.base.get? b = some o) : b ∉ X.fs := fun hb => by
  have := (ok.funs.mem hb).1
  rw [e] at this; cases this
theorem Inv.bs (I : Inv X pins σ H s) : ∀ b o, X.base.get? b = some o → s.heap.get? b = some o ∧ H b = none := fun b o e =>
  ⟨I.base.keep b o (I.ok.bs b o e).1 (I.ok.bs b o e).2 (I.ok.nofr e) (I.ok.noex b o e), I.base.free b o (I.ok.bs b o e).1 (I.ok.bs b o e).2 (I.ok.noex b o e)⟩
theorem Inv.bk (I : Inv X pins σ H s) : ∀ b o, X.base.get? b = some o → s.heap.get? b = some o := fun b o e => (I.bs b o e).1
theorem Inv.mod (I : Inv X pins σ H s) : Mod X.K X.mg X.base := I.ok.mod
theorem Inv.kIn (I : Inv X pins σ H s) : X.K.In s.heap := I.ok.mod.kin.keeps I.bk
theorem Inv.lt (I : Inv X pins σ H s) : X.env.locals < s.heap.objs.size := let ⟨_, hn, _⟩ := I.loc; hn.lt
theorem Inv.sz (I : Inv X pins σ H s) : X.s₀.heap.objs.size ≤ s.heap.objs.size := Nat.le_trans I.ok.above (Nat.le_of_lt I.lt)
theorem Inv.nofs (I : Inv X pins σ H s) {a : Addr} (h : s.heap.objs.size ≤ a) : a ∉ X.fs := fun hb => by
  obtain ⟨_, o, ho, _⟩ := I.ok.funs.mem hb
  exact absurd (Nat.lt_of_lt_of_le (Heap.lt_size ho) (Nat.le_trans I.sz h)) (Nat.lt_irrefl _)
theorem Inv.cne (I : Inv X pins σ H s) : ∀ x c, X.env.cells.lookup x = some c → c ≠ X.env.locals := fun x c e z => by
  obtain ⟨v, o, ho, hd⟩ := I.cell x c e
  obtain ⟨m, ⟨o', es, ep, ho', hd', _⟩, _⟩ := I.loc
  rw [z, ho'] at ho; cases ho; rw [hd'] at hd; cases hd
theorem Inv.funs (I : Inv X pins σ H s) : s.heap.FunFrames X.base X.outer := by
  have all : ∀ (l : List Env), (∀ b ∈ frs l, b ∈ X.fs) → X.s₀.heap.FunFrames X.base l → s.heap.FunFrames X.base l := by
    intro l
    induction l with
    | nil => intro _ _; trivial
    | cons env r ih =>
      intro hs hl
      obtain ⟨hk, ⟨L, o, hf, hn, ho, hd⟩, hr⟩ := hl
      have hL : L ∈ X.fs := hs L (by unfold frs; rw [List.filterMap_cons, hf]; exact List.mem_cons_self)
      obtain ⟨sl, e⟩ := I.base.slot L o ho (I.ok.frf L hL) hL fun z => I.ok.exfs L z hL
      exact ⟨hk, ⟨L, _, hf, hn, e, hd⟩, ih (fun b hb => hs b (by unfold frs; rw [List.filterMap_cons, hf]; exact List.mem_cons_of_mem _ hb)) hr⟩
  exact all X.outer (fun _ hb => hb) I.ok.funs
theorem Inv.stack (I : Inv X pins σ H s) : s.heap.FunFrames X.base X.stack := by
  rcases I.ok.stk with e | ⟨e, hf⟩
  · rw [e]; exact I.funs
  · rw [e]
    obtain ⟨m, hn, _⟩ := I.loc
    refine .cons (by rw [I.ok.kind]; decide) hf hn ?_ I.funs
    exact Heap.get?_none_of_le (Nat.le_trans I.ok.bsz I.ok.above)
theorem Inv.stkSub (I : Inv X pins σ H s) : ∀ b ∈ frs X.stack, b ∈ X.env.locals :: X.fs := fun b hb => by
  rcases I.ok.stk with e | ⟨e, hf⟩
  · rw [e] at hb; exact List.mem_cons_of_mem _ hb
  · rw [e] at hb
    unfold frs at hb
    rw [List.filterMap_cons, hf] at hb
    exact hb
theorem Inv.stkFree (I : Inv X pins σ H s) : ∀ b ∈ frs X.stack, H b = none := fun b hb => by
  rcases List.mem_cons.mp (I.stkSub b hb) with e | hb
  · rw [e]; exact I.free
  · obtain ⟨_, o, ho, _⟩ := I.ok.funs.mem hb
    exact I.base.free b o ho (I.ok.frf b hb) fun z => I.ok.exfs b z hb
theorem Inv.step {g' : Array GenState} {t' : Nat} {d' : Drawn} {ch : List Addr} (I : Inv X pins σ H s)
    (hch : ∀ b ∈ ch, (b ∈ X.ex ∨ X.s₀.heap.objs.size ≤ b) ∧ b ≠ X.env.locals ∧ (∀ x c, X.env.cells.lookup x = some c → c ≠ b) ∧ ∀ p ∈ X.pn ++ pins, p.1 ≠ b)
    (keep : ∀ b o, b ≠ X.env.locals → b ∉ X.fs → b ∉ ch → s.heap.get? b = some o → H b = none → h'.get? b = some o)
    (slot : ∀ b o, b ≠ X.env.locals → b ∈ X.fs → b ∉ ch → s.heap.get? b = some o → H b = none → ∃ sl, h'.get? b = some { o with slots := sl }) (free : ∀ b o, b ∉ ch → s.heap.get? b = some o → H b = none → H' b = none)
    (there : ∀ b o, b ∉ ch → s.heap.get? b = some o → ∃ o', h'.get? b = some o')
    (tups : ∀ b xs, H b = some (.tup xs) → H' b = some (.tup xs)) (frzs : ∀ b o u, H b = some (.frz o u) → H' b = some (.frz o u)) (tbls : ∀ b ps, H b = some (.tbl ps) → ∃ more, H' b = some (.tbl (ps ++ more)))
    (ns : ∀ m, s.heap.Ns X.env.locals m → h'.Ns X.env.locals m) (hok : HOk X.prog X.w H' h') (hg : AllBare g') :
    Inv X pins σ H' { s with heap := h', gens := g', drawn := d', toks := t' } := by
  have neL : ∀ b o, X.s₀.heap.get? b = some o → b ≠ X.env.locals := fun b o e => Nat.ne_of_lt (Nat.lt_of_lt_of_le (Heap.lt_size e) I.ok.above)
  have neC : ∀ b o, X.s₀.heap.get? b = some o → b ∉ X.ex → b ∉ ch := fun b o e hx hb => by
    rcases (hch b hb).1 with z | z
    · exact hx z
    · exact absurd (Nat.lt_of_lt_of_le (Heap.lt_size e) z) (Nat.lt_irrefl _)
  have cellK : ∀ x c, X.env.cells.lookup x = some c → ∀ v, s.heap.IsCell c v → h'.IsCell c v := fun x c e v ⟨o, ho, hd⟩ => by
    have nch : c ∉ ch := fun z => (hch c z).2.2.1 x c e rfl
    by_cases hc : c ∈ X.fs
    · obtain ⟨sl, q⟩ := slot c o (I.cne x c e) hc nch ho (I.freeC x c e)
      exact ⟨_, q, hd⟩
    · exact ⟨o, keep c o (I.cne x c e) hc nch ho (I.freeC x c e), hd⟩
  refine ⟨I.ok, I.os, hg, ⟨fun b o e n hb hx => ?_, fun b o e n hb hx => ?_, fun b o e n hx => ?_, fun b o e hx => ?_, fun b xs e => tups b xs (I.base.tups b xs e), fun b o xs e => frzs b o xs (I.base.frzs b o xs e), fun b ps e => ?_⟩, ?_, fun x c e => ?_, ?_, fun x c e => ?_, fun p hp => ?_, hok, I.len⟩
  · exact keep b o (neL b o e) hb (neC b o e hx) (I.base.keep b o e n hb hx) (I.base.free b o e n hx)
  · obtain ⟨sl, e1⟩ := I.base.slot b o e n hb hx
    obtain ⟨sl', e2⟩ := slot b _ (neL b o e) hb (neC b o e hx) e1 (I.base.free b o e n hx)
    exact ⟨sl', e2⟩
  · obtain ⟨o', e1⟩ := I.base.there b o e hx
    exact free b o' (neC b o e hx) e1 (I.base.free b o e n hx)
  · obtain ⟨o', e1⟩ := I.base.there b o e hx
    exact there b o' (neC b o e hx) e1
  · obtain ⟨m1, e1⟩ := I.base.tbls b ps e
    obtain ⟨m2, e2⟩ := tbls b _ e1
    exact ⟨m1 ++ m2, by rw [e2, Array.append_assoc]⟩
  · obtain ⟨m, hn, hl⟩ := I.loc
    refine ⟨m, ns m hn, fun i x v e1 e2 e3 => ?_⟩
    obtain ⟨u, r, l⟩ := hl i x v e1 e2 e3
    refine ⟨u, r, ?_⟩
    rcases l with l | ⟨k, c, e, z⟩
    · exact .inl l
    · exact .inr ⟨k, c, e, cellK x c e _ z⟩
  · obtain ⟨v, z⟩ := I.cell x c e
    exact ⟨v, cellK x c e v z⟩
  · obtain ⟨m, ⟨o, _, _, ho, _⟩, _⟩ := I.loc
    exact free _ o (fun z => (hch _ z).2.1 rfl) ho I.free
  · obtain ⟨v, o, ho, hd⟩ := I.cell x c e
    exact free c o (fun z => (hch c z).2.2.1 x c e rfl) ho (I.freeC x c e)
  · obtain ⟨e, n, ne, nf, d⟩ := I.pin p hp
    have nch : p.1 ∉ ch := fun z => (hch p.1 z).2.2.2 p hp rfl
    exact ⟨keep p.1 p.2 ne nf nch e n, free p.1 p.2 nch e n, ne, nf, d⟩
theorem Inv.un {t' : Nat} (I : Inv X pins σ H s) (u : Un X.fs [] H H' s.heap h') (hok : HOk X.prog X.w H' h') : Inv X pins σ H' { s with heap := h', toks := t' } := by
  obtain ⟨m, ⟨o, es, ep, ho, r⟩, _⟩ := id I.loc
  obtain ⟨sl, hL⟩ := u.any ho I.free (by simp)
  exact I.step (g' := s.gens) (d' := s.drawn) (ch := []) (fun _ z => nomatch z) (fun b o _ hb _ e n => u.keep b o e n hb (by simp)) (fun b o _ hb _ e n => u.slot b o e n hb (by simp)) (fun b o _ e n => u.free b o e n (by simp)) (fun b o _ e => u.there b o e (by simp)) u.tups u.frzs u.tbls (fun m' hm => by
    obtain ⟨o', es', ep', ho', r'⟩ := hm
    rw [ho] at ho'; cases ho'
    exact ⟨_, es', ep', hL, r'⟩) hok I.bare
theorem Inv.call {g' : Array GenState} {t' : Nat} {d' : Drawn} {ch : List Addr} (I : Inv X pins σ H s) (u : Un (frs X.stack) ch H H' s.heap h') (hok : HOk X.prog X.w H' h') (hg : AllBare g')
    (hch : ∀ b ∈ ch, (b ∈ X.ex ∨ X.s₀.heap.objs.size ≤ b) ∧ b ≠ X.env.locals ∧ (∀ x c, X.env.cells.lookup x = some c → c ≠ b) ∧ ∀ p ∈ X.pn ++ pins, p.1 ≠ b) :
    Inv X pins σ H' { s with heap := h', gens := g', drawn := d', toks := t' } := by
  obtain ⟨m, ⟨o, es, ep, ho, r⟩, _⟩ := id I.loc
  obtain ⟨sl, hL⟩ := u.any ho I.free fun z => (hch _ z).2.1 rfl
  exact I.step (ch := ch) hch (fun b o hL hb hc e n => u.keep b o e n (fun z => (List.mem_cons.mp (I.stkSub b z)).elim hL hb) hc) (fun b o _ _ hc e n => u.any e n hc) (fun b o hc e n => u.free b o e n hc) (fun b o hc e => u.there b o e hc) u.tups u.frzs u.tbls (fun m' hm => by
    obtain ⟨o', es', ep', ho', r'⟩ := hm
    rw [ho] at ho'; cases ho'
    exact ⟨_, es', ep', hL, r'⟩) hok hg
theorem Inv.turned {t' : Nat} {it : Addr} (I : Inv X pins σ H s) (k : ∀ b o, b ≠ it → s.heap.get? b = some o → h'.get? b = some o) (hn : H it = none) (hL : it ≠ X.env.locals)
    (h1 : it ∈ X.ex ∨ X.s₀.heap.objs.size ≤ it) (h2 : ∀ x c, X.env.cells.lookup x = some c → c ≠ it) (h3 : ∀ p ∈ X.pn ++ pins, p.1 ≠ it) : Inv X pins σ H { s with heap := h', toks := t' } := by
  have nit : ∀ b u, H b = some u → b ≠ it := fun b u e z => by rw [z, hn] at e; cases e
  refine I.step (g' := s.gens) (d' := s.drawn) (ch := [it]) (fun b hb => ?_) (fun b o _ _ hc e _ => k b o (fun z => hc (by simp [z])) e) (fun b o _ _ hc e _ => ⟨o.slots, k b o (fun z => hc (by simp [z])) e⟩) (fun _ _ _ _ n => n)
    (fun b o hc e => ⟨o, k b o (fun z => hc (by simp [z])) e⟩) (fun _ _ e => e) (fun _ _ _ e => e) (fun b ps e => ⟨#[], by rw [e]; simp⟩) (fun m hm => ?_) (fun b u e => ?_) I.bare
  · have e : b = it := by simpa using hb
    subst e
    exact ⟨h1, hL, h2, h3⟩
  · obtain ⟨o, es, ep, ho, r⟩ := hm
    exact ⟨o, es, ep, k _ o (Ne.symm hL) ho, r⟩
  · refine (I.hok b u e).stay (fun c v hc q => k c v ?_ q) (fun _ q => q) fun _ _ q => q
    rcases hc with z | z
    · rw [z]; exact nit b u e
    · exact nit c _ z
theorem Inv.tok (I : Inv X pins σ H s) (t : Nat) : Inv X pins σ H { s with toks := t } := I.un (h' := s.heap) (t' := t) Un.refl I.hok
theorem Inv.kept {t' : Nat} (I : Inv X pins σ H s) (k : ∀ b u, s.heap.get? b = some u → h'.get? b = some u) : Inv X pins σ H { s with heap := h', toks := t' } := I.un (Un.kept k) (I.hok.kept k)
theorem Inv.laid {a : Addr} {o : HO} {t' : Nat} (I : Inv X pins σ H s) (k : ∀ b u, s.heap.get? b = some u → h'.get? b = some u) (hp : s.heap.objs.size ≤ a) (new : ObjOk X.prog X.w (upd H a o) h' a o) :
    Inv X pins σ (upd H a o) { s with heap := h', toks := t' } := I.un (Un.laid k hp (I.hok.fresh hp)) (I.hok.laid k hp new)
theorem Inv.write {x e : Addr} {o : HO} {t' : Nat} (I : Inv X pins σ H s) (mu : Mut (H x)) (he : e = x ∨ H e = some (.own x)) (k : ∀ b u, b ≠ e → s.heap.get? b = some u → h'.get? b = some u) (heo : ∃ u, h'.get? e = some u)
    (new : ObjOk X.prog X.w (upd H x o) h' x o) : Inv X pins σ (upd H x o) { s with heap := h', toks := t' } := I.un (Un.write mu he k heo) (I.hok.write mu he k heo new)
theorem Inv.pins_of {pins' : List (Addr × Obj)} (I : Inv X pins σ H s) (h : ∀ p ∈ pins', s.heap.get? p.1 = some p.2 ∧ H p.1 = none ∧ p.1 ≠ X.env.locals ∧ p.1 ∉ X.fs ∧ ∀ v, p.2.data ≠ .cell v) : Inv X pins' σ H s :=
  ⟨I.ok, I.os, I.bare, I.base, I.loc, I.cell, I.free, I.freeC, fun p hp => (List.mem_append.mp hp).elim (fun z => I.pin p (List.mem_append_left _ z)) (h p), I.hok, I.len⟩
theorem nodup_ix {N : List Str} (hN : N.Nodup) {i j : Nat} {x : Str} (a : N[i]? = some x) (b : N[j]? = some x) : i = j := by
  obtain ⟨h1, e1⟩ := List.getElem?_eq_some_iff.mp a
  obtain ⟨h2, e2⟩ := List.getElem?_eq_some_iff.mp b
  exact (List.getElem_inj hN).mp (e1.trans e2.symm)
theorem store_ok2 {M : Model} {A : Around} {E : Value → Shared → Prop} {i : Nat} {x : Str} {v : V} {u : Value} {Q : Unit → Shared → Prop} (I : Inv X pins σ H s) (hN : X.N.Nodup) (hi : X.N[i]? = some x) (hx : Loc X.env.scope x) (r : RelV v u)
    (h : ∀ s', Inv X pins (σ.set i (some v)) H s' → (∃ a, Heap.SameBut a s.heap s'.heap ∧ (a = X.env.locals ∨ X.env.cells.lookup x = some a)) → Q () s') (hf : X.fn x = true ∨ X.env.scope.names.lookup x = some .local := by first | exact .inl rfl | exact .inr rfl | assumption) : wpAny M A (storeName X.env x u) Q E s := by
  obtain ⟨m, hn, hl⟩ := id I.loc
  have hcls : (X.env.scope.kind == .class || (X.env.scope.kind == .module && X.env.locals != X.env.globals)) = false := by rw [I.ok.kind]; rfl
  have hiσ : i < σ.length := by rw [I.len]; exact (List.getElem?_eq_some_iff.mp hi).1
  have cne := I.cne
  have tracked : ∀ {a : Addr} {h' : Heap}, (∃ o, s.heap.get? a = some o ∧ H a = none) → Heap.SameBut a s.heap h' → HOk X.prog X.w H h' := fun {a h'} ha hs b ob e => by
    obtain ⟨_, _, hfree⟩ := ha
    refine (I.hok b ob e).stay (fun c w' hc q => (hs.2 c ?_).trans q) (fun _ q => q) fun _ _ q => q
    rintro rfl
    rcases hc with rfl | hc
    · rw [hfree] at e; cases e
    · rw [hfree] at hc; cases hc
  rcases hx with hk | hk
  · refine wpAny_storeName_local hk hn (fun h' hn' hs => ?_) hcls
    obtain ⟨oL, _, _, hoL, _⟩ := id hn
    refine h _ ⟨I.ok, I.os, I.bare, ⟨fun b o e n hb hx => ?_, fun b o e n hb hx => ?_, I.base.free, fun b o e hx => ?_, I.base.tups, I.base.frzs, I.base.tbls⟩, ⟨_, hn', fun j y v' e1 e2 e3 => ?_⟩, fun y c e => ?_, I.free, I.freeC, fun p hp => ?_, tracked ⟨oL, hoL, I.free⟩ hs, by simpa using I.len⟩ ⟨_, hs, .inl rfl⟩
    · exact (hs.2 b (Nat.ne_of_lt (Nat.lt_of_lt_of_le (Heap.lt_size e) I.ok.above))).trans (I.base.keep b o e n hb hx)
    · obtain ⟨sl, e1⟩ := I.base.slot b o e n hb hx
      exact ⟨sl, (hs.2 b (Nat.ne_of_lt (Nat.lt_of_lt_of_le (Heap.lt_size e) I.ok.above))).trans e1⟩
    · obtain ⟨o', e1⟩ := I.base.there b o e hx
      exact ⟨o', (hs.2 b (Nat.ne_of_lt (Nat.lt_of_lt_of_le (Heap.lt_size e) I.ok.above))).trans e1⟩
    · by_cases hj : j = i
      · subst hj
        rw [hi] at e1; cases e1
        rw [List.getElem?_set_self hiσ] at e2
        cases e2
        exact ⟨u, r, .inl ⟨hk, by simp⟩⟩
      · rw [List.getElem?_set_ne (Ne.symm hj)] at e2
        obtain ⟨u', r', q⟩ := hl j y v' e1 e2 e3
        refine ⟨u', r', ?_⟩
        rcases q with ⟨k, e⟩ | ⟨k, c, e, z⟩
        · refine .inl ⟨k, ?_⟩
          have : y ≠ x := fun e => hj (nodup_ix hN e1 (e ▸ hi))
          simp [this, e]
        · exact .inr ⟨k, c, e, z.sameBut hs (cne y c e)⟩
    · obtain ⟨w', z⟩ := I.cell y c e
      exact ⟨w', z.sameBut hs (cne y c e)⟩
    · obtain ⟨e, n, ne, nf, d⟩ := I.pin p hp
      exact ⟨(hs.2 p.1 ne).trans e, n, ne, nf, d⟩
  · have hfn : X.fn x = true := by
      rcases hf with z | z
      · exact z
      · rw [z] at hk; cases hk
    obtain ⟨c, hc⟩ := I.ok.has x (.inl hk)
    obtain ⟨w', z⟩ := I.cell x c hc
    refine wpAny_storeName_cell I.ok.kind hk hc z (fun h' hc' hs => ?_)
    obtain ⟨oc, hoc, hocd⟩ := id z
    refine h { s with heap := h' } ⟨I.ok, I.os, I.bare, ⟨fun b o e n hb hx => ?_, fun b o e n hb hx => ?_, I.base.free, fun b o e hx => ?_, I.base.tups, I.base.frzs, I.base.tbls⟩, ⟨m, hn.sameBut hs (Ne.symm (cne x c hc)), fun j y v' e1 e2 e3 => ?_⟩, fun y c' e => ?_, I.free, I.freeC, fun p hp => ?_, tracked ⟨oc, hoc, I.freeC x c hc⟩ hs, by simpa using I.len⟩ ⟨c, hs, .inr hc⟩
    · exact (hs.2 b (Nat.ne_of_lt (Nat.lt_of_lt_of_le (Heap.lt_size e) (I.ok.cab x c hfn hc)))).trans (I.base.keep b o e n hb hx)
    · obtain ⟨sl, e1⟩ := I.base.slot b o e n hb hx
      exact ⟨sl, (hs.2 b (Nat.ne_of_lt (Nat.lt_of_lt_of_le (Heap.lt_size e) (I.ok.cab x c hfn hc)))).trans e1⟩
    · obtain ⟨o', e1⟩ := I.base.there b o e hx
      exact ⟨o', (hs.2 b (Nat.ne_of_lt (Nat.lt_of_lt_of_le (Heap.lt_size e) (I.ok.cab x c hfn hc)))).trans e1⟩
    · by_cases hj : j = i
      · subst hj
        rw [hi] at e1; cases e1
        rw [List.getElem?_set_self hiσ] at e2
        cases e2
        exact ⟨u, r, .inr ⟨.inl hk, c, hc, hc'⟩⟩
      · rw [List.getElem?_set_ne (Ne.symm hj)] at e2
        obtain ⟨u', r', q⟩ := hl j y v' e1 e2 e3
        refine ⟨u', r', ?_⟩
        rcases q with q | ⟨k, c', e, z'⟩
        · exact .inl q
        · refine .inr ⟨k, c', e, z'.sameBut hs ?_⟩
          rintro rfl
          exact hj (nodup_ix hN e1 (I.ok.inj _ _ _ e hc ▸ hi))
    · by_cases hcc : c' = c
      · subst hcc; exact ⟨_, hc'⟩
      · obtain ⟨w2, z2⟩ := I.cell y c' e
        exact ⟨w2, z2.sameBut hs hcc⟩
    · obtain ⟨e, n, ne, nf, d⟩ := I.pin p hp
      refine ⟨(hs.2 p.1 ?_).trans e, n, ne, nf, d⟩
      intro q
      rw [q, hoc] at e
      have q' : oc = p.2 := Option.some.inj e
      exact d w' (by rw [← q']; exact hocd)
theorem store_ok {M : Model} {A : Around} {E : Value → Shared → Prop} {i : Nat} {x : Str} {v : V} {u : Value} {Q : Unit → Shared → Prop} (I : Inv X pins σ H s) (hN : X.N.Nodup) (hi : X.N[i]? = some x) (hx : Loc X.env.scope x) (r : RelV v u)
    (h : ∀ s', Inv X pins (σ.set i (some v)) H s' → Q () s') (hf : X.fn x = true ∨ X.env.scope.names.lookup x = some .local := by first | exact .inl rfl | exact .inr rfl | assumption) : wpAny M A (storeName X.env x u) Q E s :=
  store_ok2 I hN hi hx r (fun s' I' _ => h s' I') hf
theorem Inv.call' {s' : Shared} {ch : List Addr} (I : Inv X pins σ H s) (ho : s'.os = s.os) (u : Un (frs X.stack) ch H H' s.heap s'.heap) (hok : HOk X.prog X.w H' s'.heap) (hg : AllBare s'.gens)
    (hch : ∀ b ∈ ch, (b ∈ X.ex ∨ X.s₀.heap.objs.size ≤ b) ∧ b ≠ X.env.locals ∧ (∀ x c, X.env.cells.lookup x = some c → c ≠ b) ∧ ∀ p ∈ X.pn ++ pins, p.1 ≠ b) : Inv X pins σ H' s' := by
  obtain ⟨h', g', d', t', o'⟩ := s'
  have e : o' = s.os := ho
  subst e
  exact I.call (g' := g') (t' := t') (d' := d') u hok hg hch
end
noncomputable abbrev XK := Value → Option Addr → Hp → Prop
noncomputable abbrev St := List (Option V)
noncomputable abbrev VK := V → Hp → Prop
noncomputable abbrev TE := St → Hp → VK → Prop
noncomputable abbrev TT := St → Hp → (Bool → Hp → Prop) → Prop
noncomputable abbrev TA := St → Hp → (List V → Hp → Prop) → Prop
structure Ends where
  nx : St → Hp → Prop
  rt : VK
  bk : St → Hp → Prop := fun _ _ => False
  ct : St → Hp → Prop := fun _ _ => False
noncomputable abbrev TS := Ends → St → Hp → Prop
noncomputable def EP (X : Cx) (pins : List (Addr × Obj)) (σ : St) (Q : VK) (u : Value) (s' : Shared) : Prop := ∃ v H', Inv X pins σ H' s' ∧ RelV v u ∧ Q v H'
noncomputable def TP (X : Cx) (pins : List (Addr × Obj)) (σ : St) (Q : Bool → Hp → Prop) (b : Bool) (s' : Shared) : Prop := ∃ H', Inv X pins σ H' s' ∧ Q b H'
noncomputable def AP (X : Cx) (pins : List (Addr × Obj)) (σ : St) (Q : List V → Hp → Prop) (us : List Value) (s' : Shared) : Prop := ∃ vs H', Inv X pins σ H' s' ∧ Vals vs us ∧ Q vs H'
noncomputable def SP (X : Cx) (pins : List (Addr × Obj)) (D : Ends) (f : Flow) (s' : Shared) : Prop :=
  match f with
  | .next => ∃ σ' H', Inv X pins σ' H' s' ∧ D.nx σ' H'
  | .brk => ∃ σ' H', Inv X pins σ' H' s' ∧ D.bk σ' H'
  | .cont => ∃ σ' H', Inv X pins σ' H' s' ∧ D.ct σ' H'
  | .ret u => ∃ v σ' H', Inv X pins σ' H' s' ∧ RelV v u ∧ D.rt v H'
noncomputable def PE (X : Cx) (e : Expr) (t : TE) : Prop :=
  ∀ (pins : List (Addr × Obj)) (s : Shared) (σ : St) (H : Hp) (Q : VK), Inv X pins σ H s → t σ H Q → wpAny (model X.prog X.w) X.A (eval e X.env) (EP X pins σ Q) X.xe s
noncomputable def PT (X : Cx) (e : Expr) (t : TT) : Prop :=
  ∀ (pins : List (Addr × Obj)) (s : Shared) (σ : St) (H : Hp) (Q : Bool → Hp → Prop), Inv X pins σ H s → t σ H Q → wpAny (model X.prog X.w) X.A (isTrue e X.env (eval e X.env)) (TP X pins σ Q) X.xe s
noncomputable def PW (X : Cx) (e : Expr) (t : TT) : Prop :=
  ∀ (whole : Sem Value) (pins : List (Addr × Obj)) (s : Shared) (σ : St) (H : Hp) (Q : Bool → Hp → Prop), Inv X pins σ H s → t σ H Q → wpAny (model X.prog X.w) X.A (isTrue e X.env whole) (TP X pins σ Q) X.xe s
theorem PW.pt {X : Cx} {e : Expr} {t : TT} (h : PW X e t) : PT X e t := h _
noncomputable def PA (X : Cx) (es : List Expr) (t : TA) : Prop :=
  ∀ (pos : Pos) (pins : List (Addr × Obj)) (s : Shared) (σ : St) (H : Hp) (Q : List V → Hp → Prop), Inv X pins σ H s → t σ H Q → wpAny (model X.prog X.w) X.A (spliced (backTo pos (starEach es X.env))) (AP X pins σ Q) X.xe s
noncomputable def PS (X : Cx) (st : Stmt) (t : TS) : Prop :=
  ∀ (pins : List (Addr × Obj)) (s : Shared) (σ : St) (H : Hp) (D : Ends), Inv X pins σ H s → t D σ H → wpAny (model X.prog X.w) X.A (exec st X.env) (SP X pins D) X.xe s
noncomputable def PSs (X : Cx) (st : List Stmt) (t : TS) : Prop :=
  ∀ (pins : List (Addr × Obj)) (s : Shared) (σ : St) (H : Hp) (D : Ends), Inv X pins σ H s → t D σ H → wpAny (model X.prog X.w) X.A (execs st X.env) (SP X pins D) X.xe s
theorem thn {α : Type} {t : Sem α} {Q Q' : α → Shared → Prop} {M : Model} {A : Around} {E : Value → Shared → Prop} {s : Shared} (h : wpAny M A t Q E s) (hQ : ∀ a s, Q a s → Q' a s) : wpAny M A t Q' E s := wpAny_mono h hQ fun _ _ x => x
end L2
namespace L2
open PySem PySem.Spec PyProof.Rows
section
variable {X : Cx}
theorem bin {a b : Expr} {ta tb : TE} (ha : PE X a ta) (hb : PE X b tb) {pins : List (Addr × Obj)} {s : Shared} {σ : St} {H : Hp} {R : V → V → Hp → Prop} (I : Inv X pins σ H s) (h : ta σ H fun x H1 => tb σ H1 fun y H2 => R x y H2)
    {α : Type} {Q : α → Shared → Prop} {f : Value → Value → Sem α}
    (hf : ∀ v u s2 x y H2, Inv X pins σ H2 s2 → RelV x v → RelV y u → R x y H2 → wpAny (model X.prog X.w) X.A (f v u) Q X.xe s2) :
    wpAny (model X.prog X.w) X.A (eval a X.env) (fun v s₁ => wpAny (model X.prog X.w) X.A (eval b X.env) (fun u s₂ => wpAny (model X.prog X.w) X.A (f v u) Q X.xe s₂) X.xe s₁) X.xe s := by
  refine thn (ha pins s σ H _ I h) fun v s1 ⟨x, H1, I1, r1, q1⟩ => ?_
  refine thn (hb pins s1 σ H1 _ I1 q1) fun u s2 ⟨y, H2, I2, r2, q2⟩ => ?_
  exact hf v u s2 x y H2 I2 r1 r2 q2
noncomputable def tVar (i : Nat) : TE := fun σ H Q => ∃ v, σ[i]? = some (some v) ∧ Q v H
noncomputable def tC (v : V) : TE := fun _ H Q => Q v H
theorem pe_var {i : Nat} {x : Str} {pos : Pos} (hN : X.N[i]? = some x) (hv : Vis X.env.scope x) (hd : (x == ("__debug__" : Str)) = false := by decide) (hcd : (x == ("__classdict__" : Str)) = false := by decide) : PE X (.Name x pos) (tVar i) := by
  intro pins s σ H Q I h
  obtain ⟨v, e, h⟩ := h
  obtain ⟨m, hn, hl⟩ := I.loc
  obtain ⟨u, r, l⟩ := hl i x v hN e hv
  have fin : EP X pins σ Q u s := ⟨v, H, I, r, h⟩
  rcases l with ⟨hk, hm⟩ | ⟨hk, c, hc, hcell⟩
  · exact wpAny_Name (wpAny_loadName_local I.ok.kind hk hn hm fin) hd
  · rcases hk with hk | hk
    · exact wpAny_Name (wpAny_loadName_cell I.ok.kind hk hc hcell fin) hd
    · exact wpAny_Name (wpAny_loadName_free I.ok.kind hk hc hcell fin hcd) hd
theorem pe_int {i j pos} : PE X (.Constant (.int i) j pos) (tC (.int i)) := fun _ _ _ H _ I h => wpAny_Constant_int ⟨.int i, H, I.tok _, ⟨_, rfl⟩, h⟩
theorem pe_bl {b j pos} : PE X (.Constant (.bool b) j pos) (tC (.bl b)) := fun _ _ _ H _ I h => Constant_bool ⟨.bl b, H, I, rfl, h⟩
theorem pe_non {j pos} : PE X (.Constant .none j pos) (tC .non) := fun _ _ _ H _ I h => Constant_none ⟨.non, H, I, rfl, h⟩
theorem pe_str {x j pos} : PE X (.Constant (.str x) j pos) (tC (.str x)) := fun _ _ _ H _ I h => Calls.Constant_str ⟨.str x, H, I.tok _, ⟨_, rfl⟩, h⟩
noncomputable def Gl (X : Cx) (x : Str) : Prop := X.env.kindOf x = some .globalImplicit
theorem ld_glob {E : Value → Shared → Prop} {pins : List (Addr × Obj)} {s : Shared} {σ : St} {H : Hp} {x : Str} {u : Value} {pos : Pos} {Q : Value → Shared → Prop} (I : Inv X pins σ H s) (hg : Gl X x) (hm : X.mg x = some u) (h : Q u s)
    (hd : (x == ("__debug__" : Str)) = false := by decide) : wpAny (model X.prog X.w) X.A (eval (.Name x pos) X.env) Q E s :=
  Calls.Name_function_global I.ok.kind hg (Calls.loadGlobal_global (by rw [I.ok.glob]; exact I.mod.glob.keeps I.bk) hm h) hd
theorem ld_blt {E : Value → Shared → Prop} {pins : List (Addr × Obj)} {s : Shared} {σ : St} {H : Hp} {x : Str} {u : Value} {pos : Pos} {Q : Value → Shared → Prop} (I : Inv X pins σ H s) (hg : Gl X x) (hm : X.mg x = none) (hv : bootBuiltins x = some u) (h : Q u s)
    (hn : x ≠ "__name__" := by decide) (hd : (x == ("__debug__" : Str)) = false := by decide) : wpAny (model X.prog X.w) X.A (eval (.Name x pos) X.env) Q E s := by
  obtain ⟨mb, h1, h2⟩ := I.mod.blt
  exact Calls.Name_function_global I.ok.kind hg (Calls.loadGlobal_builtin (by rw [I.ok.glob]; exact I.mod.glob.keeps I.bk) hm (by rw [I.ok.blt]; exact h1.keeps I.bk) ((h2 x hn).trans hv) h) hd
theorem pe_bltn {x : Str} {v : V} {u : Value} {pos : Pos} (hg : Gl X x) (hm : X.mg x = none) (hv : bootBuiltins x = some u) (r : RelV v u) (hn : x ≠ "__name__" := by decide) (hd : (x == ("__debug__" : Str)) = false := by decide) : PE X (.Name x pos) (tC v) :=
  fun _ _ _ H _ I h => ld_blt I hg hm hv ⟨v, H, I, r, h⟩ hn hd
variable {a b : Expr} {ta tb : TE} {pos : Pos}
variable {tA tB' : TT} {rest : List Expr}
noncomputable def tAnd (t u : TT) : TT := fun σ H Q => t σ H fun c H1 => if c = true then u σ H1 Q else Q false H1
noncomputable def tOr (t u : TT) : TT := fun σ H Q => t σ H fun c H1 => if c = true then Q true H1 else u σ H1 Q
noncomputable def tNot (t : TT) : TT := fun σ H Q => t σ H fun c H1 => Q (!c) H1
theorem pw_and1 (ha : PT X a tA) : PW X (.BoolOp .And [a] pos) tA := by
  intro wh pins s σ H Q I h
  refine isTrue_and (thn (ha pins s σ H Q I h) fun c s1 e => ?_)
  cases c with
  | true => exact isTrue_and_nil e
  | false => exact e
theorem pw_or1 (ha : PT X a tA) : PW X (.BoolOp .Or [a] pos) tA := by
  intro wh pins s σ H Q I h
  refine isTrue_or (thn (ha pins s σ H Q I h) fun c s1 e => ?_)
  cases c with
  | false => exact isTrue_or_nil e
  | true => exact e
theorem pw_and (ha : PT X a tA) (hb : PW X (.BoolOp .And (b :: rest) pos) tB') : PW X (.BoolOp .And (a :: b :: rest) pos) (tAnd tA tB') := by
  intro wh pins s σ H Q I h
  refine isTrue_and (thn (ha pins s σ H _ I h) fun c s1 ⟨H1, I1, q1⟩ => ?_)
  cases c with
  | true => exact hb wh pins s1 σ H1 Q I1 q1
  | false => exact ⟨H1, I1, q1⟩
theorem pw_or (ha : PT X a tA) (hb : PW X (.BoolOp .Or (b :: rest) pos) tB') : PW X (.BoolOp .Or (a :: b :: rest) pos) (tOr tA tB') := by
  intro wh pins s σ H Q I h
  refine isTrue_or (thn (ha pins s σ H _ I h) fun c s1 ⟨H1, I1, q1⟩ => ?_)
  cases c with
  | true => exact ⟨H1, I1, q1⟩
  | false => exact hb wh pins s1 σ H1 Q I1 q1
theorem pt_not (ha : PT X a tA) : PT X (.UnaryOp .Not a pos) (tNot tA) := by
  intro pins s σ H Q I h
  exact isTrue_not (ha pins s σ H (fun c H1 => Q (!c) H1) I h)
noncomputable def tAndV (ta tb : TE) : TE := fun σ H Q => ta σ H fun x H1 => ∃ c, x = .bl c ∧ if c = true then tb σ H1 Q else Q (.bl false) H1
noncomputable def tOrV (ta tb : TE) : TE := fun σ H Q => ta σ H fun x H1 => ∃ c, x = .bl c ∧ if c = true then Q (.bl true) H1 else tb σ H1 Q
noncomputable def tNotV (ta : TE) : TE := fun σ H Q => ta σ H fun x H1 => ∃ c, x = .bl c ∧ Q (.bl (!c)) H1
theorem pe_one {op} {t : TE} (h : PE X a t) : PE X (.BoolOp op [a] pos) t := fun pins s σ H Q I hw => BoolOp_one (h pins s σ H Q I hw)
theorem pe_and (ha : PE X a ta) (hb : PE X (.BoolOp .And (b :: rest) pos) tb) : PE X (.BoolOp .And (a :: b :: rest) pos) (tAndV ta tb) := by
  intro pins s σ H Q I h
  refine BoolOp_and (thn (ha pins s σ H _ I h) fun v s1 ⟨x, H1, I1, r1, q1⟩ => ?_)
  obtain ⟨c, rfl, q1⟩ := q1
  cases r1
  refine wpAny_truthy_bool ?_
  cases c with
  | true => exact hb pins s1 σ H1 Q I1 q1
  | false => exact ⟨.bl false, H1, I1, rfl, q1⟩
theorem pe_or (ha : PE X a ta) (hb : PE X (.BoolOp .Or (b :: rest) pos) tb) : PE X (.BoolOp .Or (a :: b :: rest) pos) (tOrV ta tb) := by
  intro pins s σ H Q I h
  refine BoolOp_or (thn (ha pins s σ H _ I h) fun v s1 ⟨x, H1, I1, r1, q1⟩ => ?_)
  obtain ⟨c, rfl, q1⟩ := q1
  cases r1
  refine wpAny_truthy_bool ?_
  cases c with
  | false => exact hb pins s1 σ H1 Q I1 q1
  | true => exact ⟨.bl true, H1, I1, rfl, q1⟩
theorem pe_not (ha : PE X a ta) : PE X (.UnaryOp .Not a pos) (tNotV ta) := by
  intro pins s σ H Q I h
  refine UnaryOp_ (thn (ha pins s σ H _ I h) fun v s1 ⟨x, H1, I1, r1, q1⟩ => ?_)
  obtain ⟨c, rfl, q1⟩ := q1
  cases r1
  exact not_of (wpAny_truthy_bool ⟨.bl (!c), H1, I1, rfl, q1⟩)
noncomputable def tIf (t : TT) (ta tb : TE) : TE := fun σ H Q => t σ H fun c H1 => if c = true then ta σ H1 Q else tb σ H1 Q
theorem pe_ifExp {c : Expr} (hc : PT X c tA) (ha : PE X a ta) (hb : PE X b tb) : PE X (.IfExp c a b pos) (tIf tA ta tb) := by
  intro pins s σ H Q I h
  refine wpAny_IfExp (thn (hc pins s σ H _ I h) fun d s1 ⟨H1, I1, q1⟩ => ?_)
  cases d with
  | true => exact ha pins s1 σ H1 Q I1 q1
  | false => exact hb pins s1 σ H1 Q I1 q1
end
end L2
namespace L2
open PySem PySem.Spec PyProof.Rows
noncomputable def SqL (K : PySem.W.Frag) (H : Hp) (a : Addr) (xs : List V) : Prop :=
  Rd H a (.lst xs) ∨
    ∃ (o : Obj) (its : Array Value) (n : Nat), K.lookup a = some o ∧ o.cls = .type "list" ∧ o.dict = none ∧ o.data = .seq its n ∧ its.size ≤ sizeLine ∧ Vals xs its.toList
noncomputable def SqT (K : PySem.W.Frag) (H : Hp) (a : Addr) (xs : List V) : Prop :=
  Rd H a (.tup xs) ∨
    ∃ (o : Obj) (its : Array Value) (n : Nat), K.lookup a = some o ∧ o.cls = .type "tuple" ∧ o.data = .seq its n ∧ its.size ≤ sizeLine ∧ Vals xs its.toList
noncomputable def absV : Value → Option V
  | .none => some .non
  | .bool b => some (.bl b)
  | .int i _ => some (.int i)
  | .str x _ => some (.str x)
  | .bytes b _ => some (.byt b)
  | .float b _ => some (.flt b)
  | .ref a => some (.ref a)
  | .type n => some (.ty n)
  | _ => none
theorem RelV.abs {x : V} {u : Value} (r : RelV x u) : absV u = some x := by
  cases x with
  | non => cases r; rfl
  | bl _ => cases r; rfl
  | int _ => obtain ⟨t, rfl⟩ := r; rfl
  | str _ => obtain ⟨t, rfl⟩ := r; rfl
  | byt _ => obtain ⟨t, rfl⟩ := r; rfl
  | flt _ => obtain ⟨t, rfl⟩ := r; rfl
  | ref _ => cases r; rfl
  | ty _ => cases r; rfl
theorem RelV.inj {x y : V} {u : Value} (r : RelV x u) (q : RelV y u) : x = y := Option.some.inj (r.abs.symm.trans q.abs)
theorem Vals.inj : ∀ {xs ys : List V} {us : List Value}, Vals xs us → Vals ys us → xs = ys
  | _, _, _, .nil, .nil => rfl
  | _, _, _, .cons r t, .cons r' t' => by rw [r.inj r', Vals.inj t t']
section
variable {X : Cx} {pins : List (Addr × Obj)} {σ : St} {H : Hp} {s : Shared} {a : Addr} {xs ys : List V}
theorem SqL.of {K : PySem.W.Frag} (h : H a = some (.lst xs)) : SqL K H a xs := .inl (.inl h)
theorem SqT.of {K : PySem.W.Frag} (h : H a = some (.tup xs)) : SqT K H a xs := .inl (.inl h)
theorem Inv.list (I : Inv X pins σ H s) (h : SqL X.K H a xs) : ∃ its : List Value, Vals xs its ∧ PlainL s.heap a its.toArray ∧ xs.length ≤ sizeLine := by
  rcases h with h | ⟨o, its, n, hk, hc, hd, hs, hz, r⟩
  · obtain ⟨z, its, n, r, e⟩ := h.ok I.hok
    exact ⟨its, r, ⟨_, n, e, rfl, rfl, rfl⟩, z⟩
  · refine ⟨its.toList, r, ⟨o, n, I.kIn a o hk, hc, hd, by simpa using hs⟩, ?_⟩
    have e := r.length
    simp only [Array.length_toList] at e
    omega
theorem Inv.tuple (I : Inv X pins σ H s) (h : SqT X.K H a xs) : ∃ its : List Value, Vals xs its ∧ IsTup s.heap a its.toArray ∧ xs.length ≤ sizeLine := by
  rcases h with h | ⟨o, its, n, hk, hc, hs, hz, r⟩
  · obtain ⟨z, its, r, p⟩ := h.ok I.hok
    exact ⟨its, r, p, z⟩
  · refine ⟨its.toList, r, ⟨o, I.kIn a o hk, hc, n, by simpa using hs⟩, ?_⟩
    have e := r.length
    simp only [Array.length_toList] at e
    omega
theorem Inv.list_inj (I : Inv X pins σ H s) (h : SqL X.K H a xs) (h' : SqL X.K H a ys) : xs = ys := by
  obtain ⟨its, r, ⟨o, n, e, _, _, d⟩, _⟩ := I.list h
  obtain ⟨its', r', ⟨o', n', e', _, _, d'⟩, _⟩ := I.list h'
  rw [e] at e'; cases e'
  rw [d] at d'
  injection d' with d1 _
  have : its = its' := by simpa using congrArg Array.toList d1
  subst this
  exact r.inj r'
theorem Inv.tuple_inj (I : Inv X pins σ H s) (h : SqT X.K H a xs) (h' : SqT X.K H a ys) : xs = ys := by
  obtain ⟨its, r, ⟨o, e, _, n, d⟩, _⟩ := I.tuple h
  obtain ⟨its', r', ⟨o', e', _, n', d'⟩, _⟩ := I.tuple h'
  rw [e] at e'; cases e'
  rw [d] at d'
  injection d' with d1 _
  have : its = its' := by simpa using congrArg Array.toList d1
  subst this
  exact r.inj r'
end
noncomputable abbrev Cx.wish (X : Cx) (E : Value → Shared → Prop) : Cx := { X with xe := E }
noncomputable abbrev Cx.nox (X : Cx) : Cx := X.wish fun _ _ => False
theorem Cx.Ok.wish {X : Cx} (ok : X.Ok) (E : Value → Shared → Prop) : (X.wish E).Ok :=
  ⟨ok.mod, ok.kind, ok.glob, ok.blt, ok.above, ok.inj, ok.has, ok.cab, ok.hd, ok.frames, ok.stk, ok.exf, ok.bs, ok.bsz, ok.noex, ok.exfs, ok.funs, ok.frf⟩
theorem Cx.Ok.unwish {X : Cx} {E : Value → Shared → Prop} (ok : (X.wish E).Ok) : X.Ok :=
  ⟨ok.mod, ok.kind, ok.glob, ok.blt, ok.above, ok.inj, ok.has, ok.cab, ok.hd, ok.frames, ok.stk, ok.exf, ok.bs, ok.bsz, ok.noex, ok.exfs, ok.funs, ok.frf⟩
section
variable {X : Cx} {pins : List (Addr × Obj)} {σ : St} {H : Hp} {s : Shared} {E : Value → Shared → Prop}
theorem Inv.wish (I : Inv X pins σ H s) (E : Value → Shared → Prop) : Inv (X.wish E) pins σ H s := ⟨I.ok.wish E, I.os, I.bare, I.base, I.loc, I.cell, I.free, I.freeC, I.pin, I.hok, I.len⟩
theorem Inv.unwish (I : Inv (X.wish E) pins σ H s) : Inv X pins σ H s := ⟨I.ok.unwish, I.os, I.bare, I.base, I.loc, I.cell, I.free, I.freeC, I.pin, I.hok, I.len⟩
theorem SP.unwish {D : Ends} {f : Flow} {s' : Shared} (h : SP (X.wish E) pins D f s') : SP X pins D f s' := by
  cases f with
  | next => obtain ⟨σ', H', I, q⟩ := h; exact ⟨σ', H', I.unwish, q⟩
  | brk => obtain ⟨σ', H', I, q⟩ := h; exact ⟨σ', H', I.unwish, q⟩
  | cont => obtain ⟨σ', H', I, q⟩ := h; exact ⟨σ', H', I.unwish, q⟩
  | ret u => obtain ⟨v, σ', H', I, r, q⟩ := h; exact ⟨v, σ', H', I.unwish, r, q⟩
theorem PSs.nox {st : List Stmt} {t : TS} (h : PSs X.nox st t) : PSs X st t := fun pins s σ H D I hw =>
  wpAny_mono (h pins s σ H D (I.wish _) hw) (fun _ _ q => q.unwish) fun _ _ z => False.elim z
end
section
variable {X : Cx} {st : Stmt} {rest : List Stmt} {t u : TS} {e : Expr} {te : TE} {pos : Pos}
noncomputable def tNext : TS := fun D σ H => D.nx σ H
noncomputable def tSeq (t u : TS) : TS := fun D σ H => t { D with nx := u D } σ H
theorem pss_nil : PSs X [] tNext := fun _ _ σ H _ I h => wpAny_execs_nil ⟨σ, H, I, h⟩
theorem pss_cons (h1 : PS X st t) (h2 : PSs X rest u) : PSs X (st :: rest) (tSeq t u) := by
  intro pins s σ H D I h
  refine wpAny_execs_cons (thn (h1 pins s σ H { D with nx := u D } I h) fun f s1 q => ?_)
  cases f with
  | next =>
    obtain ⟨σ', H', I', q⟩ := q
    exact h2 pins s1 σ' H' D I' q
  | ret v => exact q
  | brk => exact q
  | cont => exact q
noncomputable def tBreak : TS := fun D σ H => D.bk σ H
noncomputable def tCont : TS := fun D σ H => D.ct σ H
theorem ps_pass : PS X (.Pass pos) tNext := fun _ _ σ H _ I h => wpAny_Pass ⟨σ, H, I, h⟩
theorem ps_break : PS X (.Break pos) tBreak := fun _ _ σ H _ I h => wpAny_Break ⟨σ, H, I, h⟩
theorem ps_continue : PS X (.Continue pos) tCont := fun _ _ σ H _ I h => wpAny_Continue ⟨σ, H, I, h⟩
theorem Inv.quiet {pins : List (Addr × Obj)} {σ : St} {H : Hp} {s : Shared} (I : Inv X pins σ H s) : interactive X.env = false := by simp [interactive, I.ok.kind]
theorem ps_doc {x j pos pos'} : PS X (.Expr (.Constant (.str x) j pos) pos') tNext := fun _ s σ H _ I h => wpAny_Expr (Calls.Constant_str (show SP X _ _ .next { s with toks := s.toks + 1 } from ⟨σ, H, I.tok _, h⟩)) I.quiet
noncomputable def tDrop (te : TE) : TS := fun D σ H => te σ H fun _ H1 => D.nx σ H1
theorem ps_expr (he : PE X e te) (hs : swapsWith e none pos.line X.env = pure false := by rfl) : PS X (.Expr e pos) (tDrop te) := by
  intro pins s σ H D I h
  exact wpAny_Expr_any (thn (he pins s σ H _ I h) fun v s1 ⟨x, H1, I1, r1, q1⟩ => ⟨σ, H1, I1, q1⟩) I.quiet hs
noncomputable def tRet (te : TE) : TS := fun D σ H => te σ H D.rt
theorem ps_ret (he : PE X e te) : PS X (.Return (some e) pos) (tRet te) := by
  intro pins s σ H D I h
  exact wpAny_Return_some (thn (he pins s σ H _ I h) fun v s1 ⟨x, H1, I1, r1, q1⟩ => ⟨x, σ, H1, I1, r1, q1⟩)
noncomputable def tRetN : TS := fun D _ H => D.rt .non H
theorem ps_retN : PS X (.Return none pos) tRetN := fun _ _ σ H _ I h => wpAny_Return_none ⟨.non, σ, H, I, rfl, h⟩
noncomputable def tIfS (c : TT) (t u : TS) : TS := fun D σ H => c σ H fun b H1 => if b = true then t D σ H1 else u D σ H1
theorem ps_if {c : Expr} {a b : List Stmt} {tc : TT} (hc : PT X c tc) (ha : PSs X a t) (hb : PSs X b u) : PS X (.If c a b pos) (tIfS tc t u) := by
  intro pins s σ H D I h
  refine wpAny_If (thn (hc pins s σ H _ I h) fun d s1 ⟨H1, I1, q1⟩ => ?_)
  cases d with
  | true => exact ha pins s1 σ H1 D I1 q1
  | false => exact hb pins s1 σ H1 D I1 q1
end
noncomputable abbrev TG := V → St → Hp → (St → Hp → Prop) → Prop
noncomputable abbrev TGs := List V → St → Hp → (St → Hp → Prop) → Prop
noncomputable def PG (X : Cx) (target : Expr) (t : TG) : Prop :=
  ∀ (pins : List (Addr × Obj)) (s : Shared) (σ : St) (H : Hp) (v : V) (u : Value) (Q : St → Hp → Prop), Inv X pins σ H s → RelV v u → t v σ H Q →
    wpAny (model X.prog X.w) X.A (assign target X.env u) (fun _ s' => ∃ σ' H', Inv X pins σ' H' s' ∧ Q σ' H') X.xe s
noncomputable def PGs (X : Cx) (ts : List Expr) (t : TGs) : Prop :=
  ∀ (pins : List (Addr × Obj)) (s : Shared) (σ : St) (H : Hp) (vs : List V) (us : List Value) (Q : St → Hp → Prop), Inv X pins σ H s → Vals vs us → t vs σ H Q →
    wpAny (model X.prog X.w) X.A (assignInOrder ((assignEach ts X.env).map (·.2)) us) (fun _ s' => ∃ σ' H', Inv X pins σ' H' s' ∧ Q σ' H') X.xe s
noncomputable abbrev TSet := V → V → V → Hp → (Hp → Prop) → Prop
noncomputable def PSet (X : Cx) (t : TSet) : Prop :=
  ∀ (pins : List (Addr × Obj)) (s : Shared) (σ : St) (H : Hp) (o i v : V) (ov iv u : Value) (Q : Hp → Prop), Inv X pins σ H s → RelV o ov → RelV i iv → RelV v u → t o i v H Q →
    wpAny (model X.prog X.w) X.A (setItem ov iv u) (fun _ s' => ∃ H', Inv X pins σ H' s' ∧ Q H') X.xe s
section
variable {X : Cx} {pos : Pos}
noncomputable def gName (i : Nat) : TG := fun v σ H Q => Q (σ.set i (some v)) H
theorem pg_name {i : Nat} {x : Str} (hN : X.N.Nodup) (hi : X.N[i]? = some x) (hx : Loc X.env.scope x) (hf : X.fn x = true ∨ X.env.scope.names.lookup x = some .local := by first | exact .inl rfl | exact .inr rfl | assumption) : PG X (.Name x pos) (gName i) := by
  intro pins s σ H v u Q I r h
  exact wpAny_assign_Name (store_ok I hN hi hx r (fun s' I' => ⟨_, H, I', h⟩) hf)
noncomputable def gNil : TGs := fun vs σ H Q => vs = [] ∧ Q σ H
noncomputable def gCons (t : TG) (u : TGs) : TGs := fun vs σ H Q => ∃ v r, vs = v :: r ∧ t v σ H fun σ' H' => u r σ' H' Q
theorem pgs_nil : PGs X [] gNil := by
  intro pins s σ H vs us Q I r h
  obtain ⟨e, h⟩ := h
  subst e
  cases r
  exact assignInOrder_nil ⟨σ, H, I, h⟩
theorem pgs_cons {e : Expr} {es : List Expr} {t : TG} {u : TGs} (h1 : PG X e t) (h2 : PGs X es u)
    (hs : (assignEach (e :: es) X.env).map (·.2) = assign e X.env :: (assignEach es X.env).map (·.2) := by rfl) : PGs X (e :: es) (gCons t u) := by
  intro pins s σ H vs us Q I r h
  obtain ⟨v, vr, e1, h⟩ := h
  subst e1
  cases r with
  | cons r rr =>
    rw [hs]
    refine assignInOrder_cons (thn (h1 pins s σ H _ _ _ I r h) fun _ s1 ⟨σ1, H1, I1, q1⟩ => ?_)
    exact h2 pins s1 σ1 H1 _ _ Q I1 rr q1
noncomputable def gTup (K : PySem.W.Frag) (n : Nat) (t : TGs) : TG := fun v σ H Q => ∃ a xs, v = .ref a ∧ SqT K H a xs ∧ xs.length = n ∧ t xs σ H Q
theorem pg_tup {es : List Expr} {k : Nat} {t : TGs} {n : Nat} (hc : X.calm = true) (h : PGs X es t)
    (hn : (assignEach es X.env).length = n := by rfl) (hst : (assignEach es X.env).findIdx? (·.1) = none := by rfl) : PG X (.Tuple es k pos) (gTup X.K n t) := by
  intro pins s σ H v u Q I r hw
  obtain ⟨a, xs, e1, hq, hl, hw⟩ := hw
  subst e1
  cases r
  obtain ⟨its, rv, ht, hz⟩ := I.tuple hq
  refine assign_Tuple_tuple (I.ok.hd hc) ht (by simp [hn, ← hl, rv.length]) hst fun h' hx => ?_
  have I1 : Inv X pins σ H { s with heap := h' } := I.kept (t' := s.toks) fun b o e => hx b o (Nat.ne_of_lt (Heap.lt_size e)) e
  exact h pins _ σ H xs _ Q I1 (by simpa using rv) hw
noncomputable def gSub (to ti : TE) (t : TSet) : TG := fun v σ H Q => to σ H fun o H1 => ti σ H1 fun i H2 => t o i v H2 fun H3 => Q σ H3
theorem pg_sub {o i : Expr} {to ti : TE} {t : TSet} (ho : PE X o to) (hi : PE X i ti) (hs : PSet X t)
    (ha : ∀ v, assign (.Subscript o i pos) X.env v = (do
      let ov ← holding [v] (eval o X.env)
      let iv ← holding [v, ov] (eval i X.env)
      standAt pos
      holding [v, ov, iv] (setItem ov iv v)
      release [v, ov, iv] []) := by intro _; rfl) : PG X (.Subscript o i pos) (gSub to ti t) := by
  intro pins s σ H v u Q I r h
  rw [ha]
  refine wpAny_bind (wpAny_holding (thn (ho pins s σ H _ I h) fun ov s1 ⟨x, H1, I1, r1, q1⟩ => ?_))
  refine wpAny_bind (wpAny_holding (thn (hi pins s1 σ H1 _ I1 q1) fun iv s2 ⟨y, H2, I2, r2, q2⟩ => ?_))
  refine wpAny_bind (wpAny_standAt (wpAny_bind (wpAny_holding (thn (hs pins s2 σ H2 x y v ov iv u _ I2 r1 r2 r q2) fun _ s3 ⟨H3, I3, q3⟩ => ?_))))
  exact wpAny_release ⟨σ, H3, I3, q3⟩
noncomputable def tAsg (te : TE) (g : TG) : TS := fun D σ H => te σ H fun x H1 => g x σ H1 D.nx
theorem ps_asg {tg e : Expr} {te : TE} {g : TG} (he : PE X e te) (hg : PG X tg g) (hs : swapsWithSole [tg] e pos.line X.env = pure false := by rfl) (hw : swappedStores [tg] e X.env = pure none := by rfl)
    (h1 : (assignEach [tg] X.env).map (·.2) = [assign tg X.env] := by rfl) : PS X (.Assign [tg] e pos) (tAsg te g) := by
  intro pins s σ H D I h
  refine wpAny_Assign_stores (thn (he pins s σ H _ I h) fun v s1 ⟨x, H1, I1, r1, q1⟩ => ?_) hs hw
  rw [h1]
  exact thn (hg pins s1 σ H1 x v _ I1 r1 q1) fun _ s2 q => q
noncomputable def tPar (i j : Nat) (ta : TA) : TS := fun D σ H => ta σ H fun vs H1 => ∃ v w, vs = [v, w] ∧ D.nx ((σ.set i (some v)).set j (some w)) H1
theorem ps_par {i j : Nat} {x y : Str} {a b : Expr} {ta : TA} {px py pt : Pos} {kt k2 pt2} (hc : X.calm = true) (hN : X.N.Nodup) (hi : X.N[i]? = some x) (hj : X.N[j]? = some y) (hij : i ≠ j)
    (hx : X.env.scope.names.lookup x = some .local) (hy : X.env.scope.names.lookup y = some .local) (ha : PA X [a, b] ta)
    (hw : swappedStores [.Tuple [.Name x px, .Name y py] kt pt] (.Tuple [a, b] k2 pt2) X.env = pure (some [x, y]))
    (hs : swapsWithSole [.Tuple [.Name x px, .Name y py] kt pt] (.Tuple [a, b] k2 pt2) pos.line X.env = pure false := by rfl) :
    PS X (.Assign [.Tuple [.Name x px, .Name y py] kt pt] (.Tuple [a, b] k2 pt2) pos) (tPar i j ta) := by
  intro pins s σ H D I h
  rw [exec_Assign_arm]
  refine wpAny_bind (wpAny_standAt ?_)
  rw [hs]
  refine wpAny_bind (wpAny_pure ?_)
  rw [if_neg (by decide)]
  refine wpAny_bind (Tuple_ (thn (ha _ pins s σ H _ I h) fun us s1 ⟨vs, H1, I1, r1, q1⟩ => ?_))
  obtain ⟨v, w, e1, q1⟩ := q1
  subst e1
  obtain ⟨u1, u2, rfl, rv, rw'⟩ : ∃ u1 u2, us = [u1, u2] ∧ RelV v u1 ∧ RelV w u2 := by
    cases r1 with
    | cons p q =>
      cases q with
      | cons p' q' =>
        cases q'
        exact ⟨_, _, rfl, p, p'⟩
  refine wpAny_newObj_type ?_ (by show 2 ≤ sizeLine; decide)
  have I2 : Inv X pins σ H1 { s1 with heap := s1.heap.push { cls := .type "tuple", data := .seq [u1, u2].toArray } } := I1.kept (t' := s1.toks) fun b o e => Heap.get?_push_of_some _ e
  rw [hw]
  refine wpAny_bind (wpAny_pure ?_)
  show wpAny (model X.prog X.w) X.A (do rule "assign.swapped-stores"; let items ← unpackItems (.ref s1.heap.objs.size) 2 none; assignInOrder [fun v => bindName X.env y v, fun v => bindName X.env x v] items.reverse; pure Flow.next) _ _ _
  refine wpAny_bind (wpAny_rule (wpAny_bind (unpackItems_tuple (items := #[u1, u2]) (I.ok.hd hc) (IsTup.new s1.heap _) fun h' hx' => ?_)))
  have I3 := I2.kept (h' := h') (t' := s1.toks) fun b o e => hx' b o (Nat.ne_of_lt (Heap.lt_size e)) e
  show wpAny _ _ (assignInOrder [fun v => bindName X.env y v, fun v => bindName X.env x v] [u2, u1] >>= fun _ => pure Flow.next) _ _ _
  refine wpAny_bind (assignInOrder_cons (wpAny_bindName (store_ok I3 hN hj (.inl hy) rw' (fun s2 I4 => ?_) (.inr hy))))
  refine assignInOrder_cons (wpAny_bindName (store_ok I4 hN hi (.inl hx) rv (fun s3 I5 => assignInOrder_nil (wpAny_pure ?_)) (.inr hx)))
  rw [List.set_comm _ _ (Ne.symm hij)] at I5
  exact ⟨_, H1, I5, q1⟩
end
section
variable {X : Cx} {pos : Pos}
noncomputable def tWhile (c : TT) (tb : TS) : TS := fun D σ H => ∃ W : Nat → St → Hp → Prop, (∃ m, W m σ H) ∧ ∀ m σ H, W m σ H →
  c σ H fun b H1 => if b = true then ∃ N : St → Hp → Prop, (∀ σ' H', N σ' H' → ∃ m', m' < m ∧ W m' σ' H') ∧ tb { D with nx := N, ct := N, bk := D.nx } σ H1 else D.nx σ H1
theorem ps_while {c : Expr} {body : List Stmt} {tc : TT} {tb : TS} (hp : PassesOwn (model X.prog X.w) X.A X.env X.xe) (hc : PT X c tc) (hb : PSs X body tb) : PS X (.While c body [] pos) (tWhile tc tb) := by
  intro pins s σ H D I h
  obtain ⟨W, ⟨m0, w0⟩, turn⟩ := h
  refine wpAny_While (codeAny_whileLoop (fun n s' => ∃ σ' H', Inv X pins σ' H' s' ∧ W n σ' H') ?_ m0 ⟨σ, H, I, w0⟩)
  rintro n s1 ⟨σ1, H1, I1, w1⟩
  refine wpAny_passesOwn hp (thn (hc pins s1 σ1 H1 _ I1 (turn n σ1 H1 w1)) fun b s2 ⟨H2, I2, q2⟩ => ?_)
  cases b with
  | true =>
    obtain ⟨N, hN, q2⟩ := q2
    rw [if_pos rfl]
    refine wpAny_passesOwn hp (thn (hb pins s2 σ1 H2 _ I2 q2) fun f s3 q3 => ?_)
    cases f with
    | next =>
      obtain ⟨σ3, H3, I3, n3⟩ := q3
      obtain ⟨m', hm, w3⟩ := hN σ3 H3 n3
      exact ⟨m', hm, σ3, H3, I3, w3⟩
    | cont =>
      obtain ⟨σ3, H3, I3, n3⟩ := q3
      obtain ⟨m', hm, w3⟩ := hN σ3 H3 n3
      exact ⟨m', hm, σ3, H3, I3, w3⟩
    | brk => exact q3
    | ret v => exact q3
  | false =>
    rw [if_neg Bool.false_ne_true]
    exact wpAny_execs_nil ⟨σ1, H2, I2, q2⟩
end
structure It where
  go : Nat → Hp → Prop
  yld : Nat → Hp → V → Hp → Prop
  stop : Nat → Hp → Prop
noncomputable def FpOk (X : Cx) (pins : List (Addr × Obj)) (H : Hp) (b : Addr) : Prop :=
  H b = none ∧ b ≠ X.env.locals ∧ b ∉ X.fs ∧ (b ∈ X.ex ∨ X.s₀.heap.objs.size ≤ b) ∧ (∀ x c, X.env.cells.lookup x = some c → c ≠ b) ∧ ∀ p ∈ X.pn ++ pins, p.1 ≠ b
theorem Inv.fpOk {X : Cx} {pins : List (Addr × Obj)} {σ : St} {H H' : Hp} {s : Shared} {b : Addr} (I : Inv X pins σ H s) (hb : s.heap.objs.size ≤ b) (hn : H' b = none) : FpOk X pins H' b := by
  refine ⟨hn, Nat.ne_of_gt (Nat.lt_of_lt_of_le I.lt hb), I.nofs hb, .inr (Nat.le_trans I.sz hb), fun x c e z => ?_, fun p hp z => ?_⟩
  · obtain ⟨v, q⟩ := I.cell x c e
    exact absurd (Nat.lt_of_lt_of_le q.lt (by rw [z]; exact hb)) (Nat.lt_irrefl _)
  · exact absurd (Nat.lt_of_lt_of_le (Heap.lt_size (I.pin p hp).1) (by rw [z]; exact hb)) (Nat.lt_irrefl _)
structure Turn (P : Program) (w : World) (K : PySem.W.Frag) (tg : Expr) (J : It) (fp : List Addr) (it : Addr) (tn : Nat → Heap → Prop) : Prop where
  mem : it ∈ fp
  obj : ∀ i h, tn i h → ∀ b ∈ fp, ∃ o, h.get? b = some o ∧ ∀ v, o.data ≠ .cell v
  keep : ∀ i h h', tn i h → (∀ b ∈ fp, ∀ o, h.get? b = some o → h'.get? b = some o) → tn i h'
  item : ∀ (X : Cx), X.prog = P → X.w = w → X.K = K → X.calm = true → ∀ (i : Nat) (pins : List (Addr × Obj)) (s : Shared) (σ : St) (H : Hp) (E : Value → Shared → Prop), Inv X pins σ H s → (∀ b ∈ fp, FpOk X pins H b) → tn i s.heap → J.go i H →
    wpAny (model P w) X.A (pyNext (.ref it)) (fun r s1 => ∃ u, r = some u ∧
      wpAny (model P w) X.A (letOwnedTupleGo tg (.ref it) u) (fun _ s2 => ∃ x H', Inv X pins σ H' s2 ∧ RelV x u ∧ J.yld i H x H' ∧ tn (i + 1) s2.heap ∧ ∀ b ∈ fp, H' b = none) E s1) E s
  done : ∀ (X : Cx), X.prog = P → X.w = w → X.K = K → X.calm = true → ∀ (i : Nat) (pins : List (Addr × Obj)) (s : Shared) (σ : St) (H : Hp) (E : Value → Shared → Prop), Inv X pins σ H s → (∀ b ∈ fp, FpOk X pins H b) → tn i s.heap → J.stop i H →
    wpAny (model P w) X.A (pyNext (.ref it)) (fun r s1 => r = none ∧ Inv X pins σ H s1) E s
  self : ∀ (A : Around) (i : Nat) (s : Shared) (Q : Value → Shared → Prop) (E : Value → Shared → Prop), tn i s.heap → Q (.ref it) s → wpAny (model P w) A (pyIter (.ref it)) Q E s
noncomputable abbrev TI := St → Hp → (It → Hp → Prop) → Prop
noncomputable def PIE (X : Cx) (pins : List (Addr × Obj)) (σ : St) (tg : Expr) (R : It → Hp → Prop) (itv : Value) (s2 : Shared) : Prop :=
  ∃ (it : Addr) (fp : List Addr) (tn : Nat → Heap → Prop) (J : It) (H' : Hp), itv = .ref it ∧ Inv X pins σ H' s2 ∧ Turn X.prog X.w X.K tg J fp it tn ∧ tn 0 s2.heap ∧ (∀ b ∈ fp, FpOk X pins H' b) ∧ R J H'
noncomputable def PI (X : Cx) (tg iter : Expr) (wi : TI) : Prop :=
  ∀ (pins : List (Addr × Obj)) (s : Shared) (σ : St) (H : Hp) (R : It → Hp → Prop), Inv X pins σ H s → wi σ H R →
    wpAny (model X.prog X.w) X.A (eval iter X.env) (fun v s1 => wpAny (model X.prog X.w) X.A (pyIter v) (PIE X pins σ tg R) X.xe s1) X.xe s
theorem go_of {M : Model} {A : Around} {E : Value → Shared → Prop} {s : Shared} {tg : Expr} {it : Addr} {u : Value} {o : Obj} {n : String} {vs : Array Value} {Q : Unit → Shared → Prop} (ho : s.heap.get? it = some o) (hc : o.cls = .type n) (hd : o.data = .fields vs)
    (hn : ["enumerate", "zip", "dict_itemiterator", "dict_reverseitemiterator", "odict_iterator", "itertools.zip_longest", "itertools.pairwise"].contains n = false) (hQ : Q () s) : wpAny M A (letOwnedTupleGo tg (.ref it) u) Q E s := by
  unfold letOwnedTupleGo
  cases tg <;> first
    | exact wpAny_pure hQ
    | (cases u <;> first
        | exact wpAny_pure hQ
        | (refine wpAny_bind (wpAny_load ho ?_)
           rw [hc, hd]
           show wpAny M A (if (["enumerate", "zip", "dict_itemiterator", "dict_reverseitemiterator", "odict_iterator", "itertools.zip_longest", "itertools.pairwise"].contains n && vs[0]? == some (rawInt _)) = true then _ else _) Q E s
           rw [if_neg (by intro h; rw [hn, Bool.false_and] at h; cases h)]
           exact wpAny_pure hQ))
noncomputable def Itl (K : PySem.W.Frag) (a : Addr) : It :=
  ⟨fun i H => ∃ xs x, SqL K H a xs ∧ xs[i]? = some x, fun i H x H' => H' = H ∧ ∀ xs, SqL K H a xs → xs[i]? = some x, fun i H => ∃ xs, SqL K H a xs ∧ xs.length ≤ i⟩
noncomputable def Itt (K : PySem.W.Frag) (a : Addr) : It :=
  ⟨fun i H => ∃ xs x, SqT K H a xs ∧ xs[i]? = some x, fun i H x H' => H' = H ∧ ∀ xs, SqT K H a xs → xs[i]? = some x, fun i H => ∃ xs, SqT K H a xs ∧ xs.length ≤ i⟩
noncomputable def Itr (lo : Int) (n : Nat) : It := ⟨fun i _ => i < n, fun i H x H' => H' = H ∧ x = .int (lo + i), fun i _ => n ≤ i⟩
theorem turn_list {P : Program} {w : World} {K : PySem.W.Frag} {tg : Expr} (a it : Addr) : Turn P w K tg (Itl K a) [it] it (fun i h => h.IsListIter it a i) where
  mem := by simp
  obj := fun i h st b hb => by
    have e : b = it := by simpa using hb
    subst e
    obtain ⟨o, e, c, d⟩ := st
    exact ⟨o, e, fun v z => by rw [d] at z; cases z⟩
  keep := fun i h h' st k => st.at fun o e => k it (by simp) o e
  item := by
    intro X hP hw hK hc i pins s σ H E I hf st hg
    subst hP hw hK
    obtain ⟨xs, x, hq, hx⟩ := hg
    obtain ⟨its, rv, p, hz⟩ := I.list hq
    obtain ⟨u, hu, ru⟩ := rv.get hx
    obtain ⟨f0, f1, f2, f3, f4, f5⟩ := hf it (by simp)
    refine wpAny_pyNext_list_item st p.isList (x := u) (by simpa using hu) fun h' st' sb => ?_
    have I1 : Inv X pins σ H { s with heap := h' } := I.turned (t' := s.toks) (fun b o hb e => (sb.2 b hb).trans e) f0 f1 f3 f4 f5
    obtain ⟨o, e, c, d⟩ := id st'
    exact ⟨u, rfl, go_of (s := { s with heap := h' }) e c d (by decide) ⟨x, H, I1, ru, ⟨rfl, fun ys hy => by rw [I.list_inj hy hq]; exact hx⟩, st', fun b hb => (hf b hb).1⟩⟩
  done := by
    intro X hP hw hK hc i pins s σ H E I hf st hg
    subst hP hw hK
    obtain ⟨xs, hq, hx⟩ := hg
    obtain ⟨its, rv, p, hz⟩ := I.list hq
    obtain ⟨f0, f1, f2, f3, f4, f5⟩ := hf it (by simp)
    have hl := rv.length
    exact wpAny_pyNext_list_end (I.ok.hd hc) st p.isList (by simp; omega) fun h' eb => ⟨rfl, I.turned (t' := s.toks) (fun b o hb e => eb b o hb e) f0 f1 f3 f4 f5⟩
  self := fun _ _ _ _ _ st h => wpAny_pyIter_listiter st h
theorem turn_tuple {P : Program} {w : World} {K : PySem.W.Frag} {tg : Expr} (a it : Addr) : Turn P w K tg (Itt K a) [it] it (fun i h => h.IsTupleIter it a i) where
  mem := by simp
  obj := fun i h st b hb => by
    have e : b = it := by simpa using hb
    subst e
    obtain ⟨o, e, c, d⟩ := st
    exact ⟨o, e, fun v z => by rw [d] at z; cases z⟩
  keep := fun i h h' st k => st.at fun o e => k it (by simp) o e
  item := by
    intro X hP hw hK hc i pins s σ H E I hf st hg
    subst hP hw hK
    obtain ⟨xs, x, hq, hx⟩ := hg
    obtain ⟨its, rv, p, hz⟩ := I.tuple hq
    obtain ⟨u, hu, ru⟩ := rv.get hx
    obtain ⟨f0, f1, f2, f3, f4, f5⟩ := hf it (by simp)
    refine wpAny_pyNext_tuple_item st (show s.heap.IsTuple a its.toArray from p) (x := u) (by simpa using hu) fun h' st' sb => ?_
    have I1 : Inv X pins σ H { s with heap := h' } := I.turned (t' := s.toks) (fun b o hb e => (sb.2 b hb).trans e) f0 f1 f3 f4 f5
    obtain ⟨o, e, c, d⟩ := id st'
    exact ⟨u, rfl, go_of (s := { s with heap := h' }) e c d (by decide) ⟨x, H, I1, ru, ⟨rfl, fun ys hy => by rw [I.tuple_inj hy hq]; exact hx⟩, st', fun b hb => (hf b hb).1⟩⟩
  done := by
    intro X hP hw hK hc i pins s σ H E I hf st hg
    subst hP hw hK
    obtain ⟨xs, hq, hx⟩ := hg
    obtain ⟨its, rv, p, hz⟩ := I.tuple hq
    obtain ⟨f0, f1, f2, f3, f4, f5⟩ := hf it (by simp)
    have hl := rv.length
    exact wpAny_pyNext_tuple_end (I.ok.hd hc) st (show s.heap.IsTuple a its.toArray from p) (by simp; omega) fun h' eb => ⟨rfl, I.turned (t' := s.toks) (fun b o hb e => eb b o hb e) f0 f1 f3 f4 f5⟩
  self := fun _ _ _ _ _ st h => wpAny_pyIter_tupleiter st h
theorem turn_range {P : Program} {w : World} {K : PySem.W.Frag} {tg : Expr} (it : Addr) (lo : Int) (n : Nat) : Turn P w K tg (Itr lo n) [it] it (fun i h => IsRangeIter h it (lo + (i : Nat) * 1) ((n : Int) - (i : Nat)) 1) where
  mem := by simp
  obj := fun i h st b hb => by
    have e : b = it := by simpa using hb
    subst e
    exact ⟨_, st, fun v z => by
      have z' : Data.fields _ = Data.cell v := z
      cases z'⟩
  keep := fun i h h' st k => k it (by simp) _ st
  item := by
    intro X hP hw hK hc i pins s σ H E I hf st hg
    subst hP hw hK
    obtain ⟨f0, f1, f2, f3, f4, f5⟩ := hf it (by simp)
    have W := Walks.range (prog := X.prog) (w := X.w) (I.ok.hd hc) it lo 1 n
    refine W.item i s _ _ hg st fun v h' tk hv st' kk => ?_
    obtain ⟨t, rfl⟩ := hv
    have I1 : Inv X pins σ H { s with heap := h', toks := tk } := I.turned (fun b o hb e => kk b o (by simpa using hb) e) f0 f1 f3 f4 f5
    refine ⟨_, rfl, go_of (s := { s with heap := h', toks := tk }) (n := "range_iterator") st' rfl rfl (by decide) ⟨.int (lo + i), H, I1, ⟨t, ?_⟩, ⟨rfl, rfl⟩, st', fun b hb => (hf b hb).1⟩⟩
    rw [Int.mul_one]
  done := by
    intro X hP hw hK hc i pins s σ H E I hf st hg
    subst hP hw hK
    obtain ⟨f0, f1, f2, f3, f4, f5⟩ := hf it (by simp)
    exact wpAny_pyNext_range_end (I.ok.hd hc) st (by have : n ≤ i := hg; omega) fun h' eb => ⟨rfl, I.turned (t' := s.toks) (fun b o hb e => eb b o hb e) f0 f1 f3 f4 f5⟩
  self := fun _ _ _ _ _ st h => wpAny_pyIter_rangeiter st h
end L2
namespace L2
open PySem PySem.Spec PyProof.Rows
section
variable {X : Cx} {tg : Expr}
theorem range_it {pins : List (Addr × Obj)} {σ : St} {H : Hp} {s : Shared} {R : It → Hp → Prop} {E : Value → Shared → Prop} {lo hi : Int} {t u v : Tok} {tk : Nat} (I : Inv X pins σ H s) (h1 : -(2 ^ 62) ≤ lo) (h2 : lo < 2 ^ 62) (h3 : -(2 ^ 62) ≤ hi) (h4 : hi < 2 ^ 62)
    (q : R (Itr lo (hi - lo).toNat) H) : wpAny (model X.prog X.w) X.A (pyIter (.ref s.heap.objs.size)) (PIE X pins σ tg R) E { s with heap := s.heap.push { cls := .type "range", data := .fields #[.int lo t, .int hi u, .int 1 v] }, toks := tk } := by
  refine wpAny_pyIter_range (IsRange.new ..) (small_one h1 h2 h3 h4) ?_
  have I1 : Inv X pins σ H { s with heap := s.heap.push { cls := .type "range", data := .fields #[.int lo t, .int hi u, .int 1 v] }, toks := tk } := I.kept fun b o e => Heap.get?_push_of_some _ e
  refine ⟨(s.heap.push { cls := .type "range", data := .fields #[.int lo t, .int hi u, .int 1 v] }).objs.size, [(s.heap.push { cls := .type "range", data := .fields #[.int lo t, .int hi u, .int 1 v] }).objs.size], _, _, H, rfl,
    I1.kept (t' := tk) fun b o e => Heap.get?_push_of_some _ e, turn_range _ lo (hi - lo).toNat, ?_, fun b hb => ?_, q⟩
  · have e1 : lo + ((0 : Nat) : Int) * 1 = lo := by simp
    have e2 : (((hi - lo).toNat : Nat) : Int) - ((0 : Nat) : Int) = Builtin.Range.rangeSize lo hi 1 := by rw [rangeSize_one]; split <;> omega
    show IsRangeIter _ _ (lo + ((0 : Nat) : Int) * 1) ((((hi - lo).toNat : Nat) : Int) - ((0 : Nat) : Int)) 1
    rw [e1, e2]
    exact Heap.get?_push_size _ rfl
  · have e : b = (s.heap.push { cls := .type "range", data := .fields #[.int lo t, .int hi u, .int 1 v] }).objs.size := by simpa using hb
    subst e
    exact I1.fpOk (Nat.le_refl _) (I1.hok.fresh (Nat.le_refl _))
noncomputable def iRng1 (ta : TA) : TI := fun σ H R => ta σ H fun vs H1 => ∃ j : Int, vs = [.int j] ∧ -(2 ^ 62) ≤ j ∧ j < 2 ^ 62 ∧ R (Itr 0 j.toNat) H1
noncomputable def iRng2 (ta : TA) : TI := fun σ H R => ta σ H fun vs H1 => ∃ i j : Int, vs = [.int i, .int j] ∧ (-(2 ^ 62) ≤ i ∧ i < 2 ^ 62 ∧ -(2 ^ 62) ≤ j ∧ j < 2 ^ 62) ∧ R (Itr i (j - i).toNat) H1
theorem pi_range1 {a : Expr} {ta : TA} {p pos : Pos} (hg : Gl X "range") (hm : X.mg "range" = none) (ha : PA X [a] ta) (hs : starEach [a] X.env = [(false, eval a X.env)] := by rfl) : PI X tg (.Call (.Name "range" p) [a] [] pos) (iRng1 ta) := by
  intro pins s σ H R I h
  refine Call_ (ld_blt I hg hm boot_range (PyProof.Rows.callWith_type1 (thn (ha pos pins s σ H _ I h) fun us s1 ⟨vs, H1, I1, r1, q1⟩ => ?_) hs rfl))
  obtain ⟨j, e, q1, q2, q⟩ := q1
  subst e
  cases r1 with
  | cons r rr =>
    cases rr
    obtain ⟨t, rfl⟩ := r
    exact call_range_1 (range_it I1 (by omega) (by omega) q1 q2 (by simpa using q))
theorem pi_range2 {a b : Expr} {ta : TA} {p pos : Pos} (hg : Gl X "range") (hm : X.mg "range" = none) (ha : PA X [a, b] ta) (hs : starEach [a, b] X.env = [(false, eval a X.env), (false, eval b X.env)] := by rfl) (hs2 : starEach [b] X.env = [(false, eval b X.env)] := by rfl) :
    PI X tg (.Call (.Name "range" p) [a, b] [] pos) (iRng2 ta) := by
  intro pins s σ H R I h
  refine Call_ (ld_blt I hg hm boot_range (PyProof.Rows.callWith_type1 (thn (ha pos pins s σ H _ I h) fun us s1 ⟨vs, H1, I1, r1, q1⟩ => ?_) (by rw [hs, hs2]) (by rw [hs2]; rfl)))
  obtain ⟨i, j, e, ⟨q1, q2, q3, q4⟩, q⟩ := q1
  subst e
  cases r1 with
  | cons r rr =>
    cases rr with
    | cons r' rr =>
      cases rr
      obtain ⟨t, rfl⟩ := r
      obtain ⟨t', rfl⟩ := r'
      exact call_range_2 (range_it I1 q1 q2 q3 q4 q)
noncomputable def tFor (wi : TI) (g : TG) (tb : TS) : TS := fun D σ H => wi σ H fun J H1 => ∃ W : Nat → Nat → St → Hp → Prop, (∃ m, W 0 m σ H1) ∧ ∀ i m σ H, W i m σ H →
  (J.stop i H ∧ D.nx σ H) ∨ (J.go i H ∧ ∃ N : St → Hp → Prop, (∀ σ' H', N σ' H' → ∃ m', m' < m ∧ W (i + 1) m' σ' H') ∧ ∀ x H', J.yld i H x H' → g x σ H' fun σ2 H2 => tb { D with nx := N, ct := N, bk := D.nx } σ2 H2)
noncomputable def pinsAt (fp : List Addr) (h : Heap) : List (Addr × Obj) := fp.filterMap fun b => (h.get? b).map fun o => (b, o)
theorem mem_pinsAt {fp : List Addr} {h : Heap} {b : Addr} {o : Obj} (hb : b ∈ fp) (e : h.get? b = some o) : (b, o) ∈ pinsAt fp h := List.mem_filterMap.mpr ⟨b, hb, by rw [e]; rfl⟩
theorem of_pinsAt {fp : List Addr} {h : Heap} {p : Addr × Obj} (hp : p ∈ pinsAt fp h) : p.1 ∈ fp ∧ h.get? p.1 = some p.2 := by
  obtain ⟨b, hb, e⟩ := List.mem_filterMap.mp hp
  cases q : h.get? b with
  | none => rw [q] at e; cases e
  | some o =>
    rw [q] at e
    have e' : (b, o) = p := Option.some.inj e
    subst e'
    exact ⟨hb, q⟩
theorem Inv.pinned {pins : List (Addr × Obj)} {σ : St} {H : Hp} {s : Shared} {fp : List Addr} (I : Inv X pins σ H s) (hf : ∀ b ∈ fp, FpOk X pins H b) (ho : ∀ b ∈ fp, ∃ o, s.heap.get? b = some o ∧ ∀ v, o.data ≠ .cell v) : Inv X (pins ++ pinsAt fp s.heap) σ H s :=
  I.pins_of fun p hp => (List.mem_append.mp hp).elim (fun z => I.pin p (List.mem_append_right _ z)) fun z => by
    obtain ⟨hb, e⟩ := of_pinsAt z
    obtain ⟨f0, f1, f2, _⟩ := hf p.1 hb
    obtain ⟨o, e', d⟩ := ho p.1 hb
    rw [e] at e'; cases e'
    exact ⟨e, f0, f1, f2, d⟩
theorem Inv.unpinned {pins pl : List (Addr × Obj)} {σ : St} {H : Hp} {s : Shared} (I : Inv X (pins ++ pl) σ H s) : Inv X pins σ H s := I.pins_of fun p hp => I.pin p (List.mem_append_right _ (List.mem_append_left _ hp))
theorem ps_for {iter : Expr} {body : List Stmt} {wi : TI} {g : TG} {tb : TS} {pos : Pos} (hp : PassesOwn (model X.prog X.w) X.A X.env X.xe) (hc : X.calm = true) (hi : PI X tg iter wi) (hg : PG X tg g) (hb : PSs X body tb)
    (hs : ∀ x, foldedSetIterable iter X.env x = pure x := by intro _; rfl) : PS X (.For tg iter body [] pos) (tFor wi g tb) := by
  intro pins s σ H D I h
  refine wpAny_For (thn (hi pins s σ H _ I h) fun v s1 h1 => thn h1 fun itv s2 h2 => ?_) hs
  obtain ⟨it, fp, tn, J, H2, e, I2, T, st2, f2, W, ⟨m0, w0⟩, turn⟩ := h2
  subst e
  have stat : ∀ {H' : Hp}, (∀ b ∈ fp, H' b = none) → ∀ b ∈ fp, FpOk X pins H' b := fun hn b hb => ⟨hn b hb, (f2 b hb).2⟩
  refine codeAny_forLoop_any (fun n s' => ∃ i σ' H', Inv X pins σ' H' s' ∧ tn i s'.heap ∧ (∀ b ∈ fp, H' b = none) ∧ W i n σ' H') ?_ m0 ⟨0, σ, H2, I2, st2, fun b hb => (f2 b hb).1, w0⟩
  rintro n s3 ⟨i, σ3, H3, I3, st3, fr3, w3⟩
  rcases turn i n σ3 H3 w3 with ⟨stop, qn⟩ | ⟨go, N, hN, step⟩
  · refine wpAny_passesOwn hp (thn (T.done X rfl rfl rfl hc i pins s3 σ3 H3 X.xe I3 (stat fr3) st3 stop) fun r s4 ⟨hr, I4⟩ => ?_)
    subst hr
    exact wpAny_execs_nil ⟨σ3, H3, I4, qn⟩
  · refine wpAny_passesOwn hp (thn (T.item X rfl rfl rfl hc i pins s3 σ3 H3 X.xe I3 (stat fr3) st3 go) fun r s4 ⟨u, hr, h4⟩ => ?_)
    subst hr
    refine wpAny_passesOwn hp (thn h4 fun _ s5 ⟨x, H5, I5, r5, y5, st5, fr5⟩ => ?_)
    have I5' := I5.pinned (stat fr5) (T.obj _ _ st5)
    refine wpAny_passesOwn hp (thn (hg _ s5 σ3 H5 x u _ I5' r5 (step x H5 y5)) fun _ s6 ⟨σ6, H6, I6, q6⟩ => ?_)
    refine wpAny_passesOwn hp (thn (hb _ s6 σ6 H6 _ I6 q6) fun f s7 q7 => ?_)
    have again : ∀ {σ7 : St} {H7 : Hp}, Inv X (pins ++ pinsAt fp s5.heap) σ7 H7 s7 → N σ7 H7 → ∃ m, m < n ∧ ∃ i σ' H', Inv X pins σ' H' s7 ∧ tn i s7.heap ∧ (∀ b ∈ fp, H' b = none) ∧ W i m σ' H' := fun {σ7 H7} I7 n7 => by
      obtain ⟨m', hm, w7⟩ := hN σ7 H7 n7
      refine ⟨m', hm, i + 1, σ7, H7, I7.unpinned, T.keep _ _ _ st5 fun b hb o e => (I7.pin (b, o) (List.mem_append_right _ (List.mem_append_right _ (mem_pinsAt hb e)))).1, fun b hb => ?_, w7⟩
      obtain ⟨o, e, d⟩ := T.obj _ _ st5 b hb
      exact (I7.pin (b, o) (List.mem_append_right _ (List.mem_append_right _ (mem_pinsAt hb e)))).2.1
    cases f with
    | next => obtain ⟨σ7, H7, I7, n7⟩ := q7; exact again I7 n7
    | cont => obtain ⟨σ7, H7, I7, n7⟩ := q7; exact again I7 n7
    | brk => obtain ⟨σ7, H7, I7, q7⟩ := q7; exact ⟨σ7, H7, I7.unpinned, q7⟩
    | ret v => obtain ⟨x7, σ7, H7, I7, r7, q7⟩ := q7; exact ⟨x7, σ7, H7, I7.unpinned, r7, q7⟩
end
end L2
namespace L2
open PySem PySem.Spec PyProof.Rows
noncomputable abbrev R2 := V → V → Hp → VK → Prop
noncomputable def OpR (X : Cx) (f : Value → Value → Sem Value) (r : R2) : Prop :=
  ∀ (pins : List (Addr × Obj)) (s : Shared) (σ : St) (H : Hp) (x y : V) (v u : Value) (Q : VK), Inv X pins σ H s → RelV x v → RelV y u → r x y H Q →
    wpAny (model X.prog X.w) X.A (f v u) (EP X pins σ Q) X.xe s
noncomputable def UnR (X : Cx) (f : Value → Sem Value) (r : V → Hp → VK → Prop) : Prop :=
  ∀ (pins : List (Addr × Obj)) (s : Shared) (σ : St) (H : Hp) (x : V) (v : Value) (Q : VK), Inv X pins σ H s → RelV x v → r x H Q →
    wpAny (model X.prog X.w) X.A (f v) (EP X pins σ Q) X.xe s
noncomputable def CallR (X : Cx) (f : Value) (r : List V → Hp → VK → Prop) : Prop :=
  ∀ (pins : List (Addr × Obj)) (s : Shared) (σ : St) (H : Hp) (xs : List V) (us : List Value) (Q : VK), Inv X pins σ H s → Vals xs us → r xs H Q →
    wpAny (model X.prog X.w) X.A (call f us) (EP X pins σ Q) X.xe s
noncomputable def TruR (X : Cx) (r : V → Hp → (Bool → Hp → Prop) → Prop) : Prop :=
  ∀ (pins : List (Addr × Obj)) (s : Shared) (σ : St) (H : Hp) (x : V) (v : Value) (Q : Bool → Hp → Prop), Inv X pins σ H s → RelV x v → r x H Q →
    wpAny (model X.prog X.w) X.A (truthy v) (TP X pins σ Q) X.xe s
noncomputable def tOp (r : R2) (ta tb : TE) : TE := fun σ H Q => ta σ H fun x H1 => tb σ H1 fun y H2 => r x y H2 Q
noncomputable def tUn (r : V → Hp → VK → Prop) (ta : TE) : TE := fun σ H Q => ta σ H fun x H1 => r x H1 Q
noncomputable def rI (C : Int → Int → Prop) (g : Int → Int → V) : R2 := fun x y H Q => ∃ i j, x = .int i ∧ y = .int j ∧ C i j ∧ Q (g i j) H
noncomputable def rI0 (g : Int → Int → V) : R2 := fun x y H Q => ∃ i j, x = .int i ∧ y = .int j ∧ Q (g i j) H
noncomputable def rU (g : Int → V) : V → Hp → VK → Prop := fun x H Q => ∃ i, x = .int i ∧ Q (g i) H
section
variable {X : Cx} {a b c : Expr} {ta tb tc : TE} {pos : Pos}
theorem binT (ha : PE X a ta) (hb : PE X b tb) {pins : List (Addr × Obj)} {s : Shared} {σ : St} {H : Hp} {R : V → V → Hp → Prop} (I : Inv X pins σ H s)
    (h : ta σ H fun x H1 => tb σ H1 fun y H2 => R x y H2) {Q : Value → Shared → Prop} {f : Value → Value → Sem Value}
    (hf : ∀ v u s2 x y H2, Inv X pins σ H2 s2 → RelV x v → RelV y u → R x y H2 → wpAny (model X.prog X.w) X.A (f v u) Q X.xe s2) :
    wpAny (model X.prog X.w) X.A (eval a X.env) (fun v s₁ => wpAny (model X.prog X.w) X.A (eval b X.env) (fun u s₂ => wpAny (model X.prog X.w) X.A (f v u) Q X.xe s₂) X.xe s₁) X.xe s := by
  refine thn (ha pins s σ H _ I h) fun v s1 ⟨x, H1, I1, r1, q1⟩ => ?_
  refine thn (hb pins s1 σ H1 _ I1 q1) fun u s2 ⟨y, H2, I2, r2, q2⟩ => ?_
  exact hf v u s2 x y H2 I2 r1 r2 q2
theorem pe_op {op : Operator} {r : R2} (ho : OpR X (binaryOp op) r) (ha : PE X a ta) (hb : PE X b tb) : PE X (.BinOp a op b pos) (tOp r ta tb) := by
  intro pins s σ H Q I h
  exact wpAny_BinOp (binT ha hb I h fun v u s2 x y H2 I2 rx ry q => ho pins s2 σ H2 x y v u Q I2 rx ry q)
theorem pe_un {op : UnaryOp} {r : V → Hp → VK → Prop} (ho : UnR X (unaryOp op) r) (ha : PE X a ta) : PE X (.UnaryOp op a pos) (tUn r ta) := by
  intro pins s σ H Q I h
  exact UnaryOp_ (thn (ha pins s σ H _ I h) fun v s1 ⟨x, H1, I1, r1, q1⟩ => ho pins s1 σ H1 x v Q I1 r1 q1)
theorem opI {f : Value → Value → Sem Value} {C : Int → Int → Prop} {g : Int → Int → Int}
    (rule : ∀ (i j : Int) (t u : Tok) (s : Shared) (Q : Value → Shared → Prop) (E : Value → Shared → Prop), C i j → Q (.int (g i j) s.toks) { s with toks := s.toks + 1 } → wpAny (model X.prog X.w) X.A (f (.int i t) (.int j u)) Q E s) :
    OpR X f (rI C fun i j => .int (g i j)) := by
  intro pins s σ H x y v u Q I rx ry h
  obtain ⟨i, j, rfl, rfl, hc, q⟩ := h
  obtain ⟨t, rfl⟩ := rx
  obtain ⟨t', rfl⟩ := ry
  exact rule i j t t' s _ _ hc ⟨.int (g i j), H, I.tok _, ⟨_, rfl⟩, q⟩
theorem opI0 {f : Value → Value → Sem Value} {g : Int → Int → Int}
    (rule : ∀ (i j : Int) (t u : Tok) (s : Shared) (Q : Value → Shared → Prop) (E : Value → Shared → Prop), Q (.int (g i j) s.toks) { s with toks := s.toks + 1 } → wpAny (model X.prog X.w) X.A (f (.int i t) (.int j u)) Q E s) :
    OpR X f (rI0 fun i j => .int (g i j)) := by
  intro pins s σ H x y v u Q I rx ry h
  obtain ⟨i, j, rfl, rfl, q⟩ := h
  obtain ⟨t, rfl⟩ := rx
  obtain ⟨t', rfl⟩ := ry
  exact rule i j t t' s _ _ ⟨.int (g i j), H, I.tok _, ⟨_, rfl⟩, q⟩
theorem opB0 {f : Value → Value → Sem Value} {g : Int → Int → Bool}
    (rule : ∀ (i j : Int) (t u : Tok) (s : Shared) (Q : Value → Shared → Prop) (E : Value → Shared → Prop), Q (.bool (g i j)) s → wpAny (model X.prog X.w) X.A (f (.int i t) (.int j u)) Q E s) :
    OpR X f (rI0 fun i j => .bl (g i j)) := by
  intro pins s σ H x y v u Q I rx ry h
  obtain ⟨i, j, rfl, rfl, q⟩ := h
  obtain ⟨t, rfl⟩ := rx
  obtain ⟨t', rfl⟩ := ry
  exact rule i j t t' s _ _ ⟨.bl (g i j), H, I, rfl, q⟩
noncomputable def CDiv (i j : Int) : Prop := 0 < j ∧ j < 1073741824
noncomputable def CPow (i j : Int) : Prop := 0 ≤ j ∧ j ≤ 1000000 ∧ i.natAbs < 2 ^ 64
noncomputable def CMul (i j : Int) : Prop := (-(2 ^ 64) < i ∧ i < 2 ^ 64) ∨ (-(2 ^ 64) < j ∧ j < 2 ^ 64)
theorem CMul.ok {i j : Int} (h : CMul i j) : IntMulOk i j := by
  rcases h with ⟨h1, h2⟩ | ⟨h1, h2⟩
  · exact .of_left (intBits_le_64 h1 h2)
  · exact .of_right (intBits_le_64 h1 h2)
theorem op_add : OpR X (binaryOp .Add) (rI0 fun i j => .int (i + j)) := opI0 fun _ _ _ _ _ _ _ q => add_int q
theorem op_sub : OpR X (binaryOp .Sub) (rI0 fun i j => .int (i - j)) := opI0 fun _ _ _ _ _ _ _ q => sub_int q
theorem op_mul : OpR X (binaryOp .Mult) (rI CMul fun i j => .int (i * j)) := opI fun _ _ _ _ _ _ _ hc q => mul_int q hc.ok
theorem op_fdiv : OpR X (binaryOp .FloorDiv) (rI CDiv fun i j => .int (i / j)) := opI fun i j _ _ _ _ _ hc q => by
  have h1 : (0 : Int) < j := hc.1
  have h2 : j < 1073741824 := hc.2
  exact floordiv_int (by omega) (by rw [Int.fdiv_eq_ediv_of_nonneg i (by omega)]; exact q) (.inl (PyProof.noPylong_small (by omega)))
theorem op_mod : OpR X (binaryOp .Mod) (rI (fun _ j => 0 < j) fun i j => .int (i % j)) := opI fun i j _ _ _ _ _ hc q => by
  have h1 : (0 : Int) < j := hc
  exact mod_int' (by omega) (by rw [Int.fmod_eq_emod_of_nonneg i (by omega)]; exact q)
theorem op_pow : OpR X (binaryOp .Pow) (rI CPow fun i j => .int (i ^ j.toNat)) := opI fun _ _ _ _ _ _ _ hc q => pow_int_small hc.1 hc.2.1 hc.2.2 q
theorem unI {f : Value → Sem Value} {g : Int → Int}
    (rule : ∀ (i : Int) (t : Tok) (s : Shared) (Q : Value → Shared → Prop) (E : Value → Shared → Prop), Q (.int (g i) s.toks) { s with toks := s.toks + 1 } → wpAny (model X.prog X.w) X.A (f (.int i t)) Q E s) :
    UnR X f (rU fun i => .int (g i)) := by
  intro pins s σ H x v Q I rx h
  obtain ⟨i, rfl, q⟩ := h
  obtain ⟨t, rfl⟩ := rx
  exact rule i t s _ _ ⟨.int (g i), H, I.tok _, ⟨_, rfl⟩, q⟩
theorem un_neg : UnR X (unaryOp .USub) (rU fun i => .int (-i)) := unI fun _ _ _ _ _ q => neg_int q
end
section
variable {X : Cx} {a b c : Expr} {ta tb tc : TE} {pos : Pos}
theorem fin_bl {pins : List (Addr × Obj)} {σ : St} {H : Hp} {s : Shared} {Q : VK} {k k' : Bool} (I : Inv X pins σ H s) (q : Q (.bl k) H) (e : k = k') : EP X pins σ Q (.bool k') s := by
  subst e
  exact ⟨.bl k, H, I, rfl, q⟩
theorem op_lt : OpR X (compareOp .Lt) (rI0 fun i j => .bl (decide (i < j))) := opB0 fun _ _ _ _ _ _ _ q => lt_int q
theorem op_le : OpR X (compareOp .LtE) (rI0 fun i j => .bl (decide (i ≤ j))) := opB0 fun _ _ _ _ _ _ _ q => le_int q
theorem op_gt : OpR X (compareOp .Gt) (rI0 fun i j => .bl (decide (j < i))) := opB0 fun _ _ _ _ _ _ _ q => gt_int q
theorem op_ge : OpR X (compareOp .GtE) (rI0 fun i j => .bl (decide (j ≤ i))) := opB0 fun _ _ _ _ _ _ _ q => ge_int q
theorem op_isN : OpR X (compareOp .Is) (fun x y H Q => y = .non ∧ Q (.bl (decide (x = .non))) H) := by
  intro pins s σ H x y v u Q I rx ry h
  obtain ⟨rfl, q⟩ := h
  cases ry
  refine is_none_gen (fin_bl I q ?_)
  cases x <;> first
    | (cases rx; rfl)
    | (obtain ⟨t, rfl⟩ := rx; rfl)
theorem op_notN : OpR X (compareOp .IsNot) (fun x y H Q => y = .non ∧ Q (.bl (!decide (x = .non))) H) := by
  intro pins s σ H x y v u Q I rx ry h
  obtain ⟨rfl, q⟩ := h
  cases ry
  refine isnot_none_gen (fin_bl I q ?_)
  cases x <;> first
    | (cases rx; rfl)
    | (obtain ⟨t, rfl⟩ := rx; rfl)
theorem pe_cmpR {op : CmpOp} {r : R2} (ho : OpR X (compareOp op) r) (ha : PE X a ta) (hb : PE X b tb) (hm : behindInMarks op b = false) : PE X (.Compare a [op] [b] pos) (tOp r ta tb) := by
  intro pins s σ H Q I h
  exact wpAny_Compare1 (binT ha hb I h fun v u s2 x y H2 I2 rx ry q => ho pins s2 σ H2 x y v u Q I2 rx ry q) hm
noncomputable def tTest (t : TE) : TT := fun σ H Q => t σ H fun x H' => ∃ k, x = .bl k ∧ Q k H'
theorem pt_cmpR {op : CmpOp} {r : R2} (ho : OpR X (compareOp op) r) (ha : PE X a ta) (hb : PE X b tb) (hm : behindInMarks op b = false) : PT X (.Compare a [op] [b] pos) (tTest (tOp r ta tb)) := by
  intro pins s σ H Q I h
  refine wpAny_isTrue_Compare1 (thn (ha pins s σ H _ I h) fun v s1 ⟨x, H1, I1, r1, q1⟩ => thn (hb pins s1 σ H1 _ I1 q1) fun u s2 ⟨y, H2, I2, r2, q2⟩ =>
    thn (ho pins s2 σ H2 x y v u _ I2 r1 r2 q2) fun c s3 ⟨z, H3, I3, r3, k, e, q3⟩ => ?_) hm
  subst e
  cases r3
  exact wpAny_truthy_bool ⟨H3, I3, q3⟩
noncomputable def tChain (r r' : R2) (ta tb tc : TE) : TE := fun σ H Q => ta σ H fun x H1 => tb σ H1 fun y H2 => r x y H2 fun z H3 => ∃ k, z = .bl k ∧
  (if k = true then tc σ H3 fun w' H4 => r' y w' H4 Q else Q (.bl false) H3)
theorem pe_chain {op op' : CmpOp} {r r' : R2} (ho : OpR X (compareOp op) r) (ho' : OpR X (compareOp op') r') (ha : PE X a ta) (hb : PE X b tb) (hc : PE X c tc)
    (hm : lastMarks [op, op'] [b, c] = false := by with_unfolding_all rfl) : PE X (.Compare a [op, op'] [b, c] pos) (tChain r r' ta tb tc) := by
  intro pins s σ H Q I h
  refine Compare_chain (thn (ha pins s σ H _ I h) fun v s1 ⟨x, H1, I1, r1, q1⟩ => chain_link (thn (hb pins s1 σ H1 _ I1 q1) fun u s2 ⟨y, H2, I2, r2, q2⟩ =>
    thn (ho pins s2 σ H2 x y v u _ I2 r1 r2 q2) fun d s3 ⟨z, H3, I3, r3, k, e, q3⟩ => ?_)) hm
  subst e
  cases r3
  refine wpAny_truthy_bool ?_
  cases k with
  | false => exact ite_ff ⟨.bl false, H3, I3, rfl, q3⟩
  | true => exact ite_tt (chain_last (thn (hc pins s3 σ H3 _ I3 q3) fun w' s4 ⟨z', H4, I4, r4, q4⟩ => ho' pins s4 σ H4 y z' u w' Q I4 r2 r4 q4))
theorem pt_chain {op op' : CmpOp} {r r' : R2} (ho : OpR X (compareOp op) r) (ho' : OpR X (compareOp op') r') (ha : PE X a ta) (hb : PE X b tb) (hc : PE X c tc)
    (hm : lastMarks [op, op'] [b, c] = false := by with_unfolding_all rfl) : PT X (.Compare a [op, op'] [b, c] pos) (tTest (tChain r r' ta tb tc)) := by
  intro pins s σ H Q I h
  refine isTrue_chain (thn (ha pins s σ H _ I h) fun v s1 ⟨x, H1, I1, r1, q1⟩ => test_link (thn (hb pins s1 σ H1 _ I1 q1) fun u s2 ⟨y, H2, I2, r2, q2⟩ =>
    thn (ho pins s2 σ H2 x y v u _ I2 r1 r2 q2) fun d s3 ⟨z, H3, I3, r3, k, e, q3⟩ => ?_)) hm
  subst e
  cases r3
  refine wpAny_truthy_bool ?_
  cases k with
  | false =>
    obtain ⟨k', e', q'⟩ := q3
    cases e'
    exact ite_ff ⟨H3, I3, q'⟩
  | true =>
    refine ite_tt (test_last (thn (hc pins s3 σ H3 _ I3 q3) fun w' s4 ⟨z', H4, I4, r4, q4⟩ => thn (ho' pins s4 σ H4 y z' u w' _ I4 r2 r4 q4) fun d' s5 ⟨z2, H5, I5, r5, k2, e2, q5⟩ => ?_))
    subst e2
    cases r5
    exact wpAny_truthy_bool ⟨H5, I5, q5⟩
noncomputable def TruV (K : PySem.W.Frag) (x : V) (H : Hp) (k : Bool) : Prop :=
  match x with
  | .non => k = false
  | .bl b => k = b
  | .int i => k = (i != 0)
  | .str y => y.length ≤ sizeLine ∧ k = ((y.length : Int) != 0)
  | .byt y => y.size ≤ sizeLine ∧ k = ((y.size : Int) != 0)
  | .ref p => (∃ xs, SqL K H p xs ∧ k = !xs.isEmpty) ∨ (∃ xs, SqT K H p xs ∧ k = !xs.isEmpty) ∨ ∃ kvs, H p = some (.dK kvs) ∧ k = !kvs.isEmpty
  | _ => False
theorem isEmpty_kv {κ : Type} {kvs : List (κ × V)} {vs : List (κ × Value)} (r : KV kvs vs) : (!vs.isEmpty) = !kvs.isEmpty := by
  cases r <;> rfl
theorem isEmpty_of {xs : List V} {its : List Value} (r : Vals xs its) : (!its.toArray.isEmpty) = !xs.isEmpty := by
  cases r <;> simp
theorem line63 : (sizeLine : Nat) < 2 ^ 63 := by rw [sizeLine_eq]; decide
theorem tru_ok : TruR X (fun x H Q => ∃ k, TruV X.K x H k ∧ Q k H) := by
  intro pins s σ H x v Q I rx h
  obtain ⟨k, e, q⟩ := h
  have hl := line63
  have hs : sizeLine = 16777216 := sizeLine_eq
  cases x with
  | non =>
    cases rx
    have e' : k = false := e
    subst e'
    exact truthy_none ⟨H, I, q⟩
  | bl b =>
    cases rx
    have e' : k = b := e
    subst e'
    exact wpAny_truthy_bool ⟨H, I, q⟩
  | int i =>
    obtain ⟨t, rfl⟩ := rx
    have e' : k = (i != 0) := e
    subst e'
    exact PySem.P.truthy_int ⟨H, I, q⟩
  | str y =>
    obtain ⟨t, rfl⟩ := rx
    obtain ⟨hy, e'⟩ : y.length ≤ sizeLine ∧ k = ((y.length : Int) != 0) := e
    subst e'
    exact PySem.P.truthy_str (by omega) ⟨H, I.tok _, q⟩
  | byt y =>
    obtain ⟨t, rfl⟩ := rx
    obtain ⟨hy, e'⟩ : y.size ≤ sizeLine ∧ k = ((y.size : Int) != 0) := e
    subst e'
    exact PySem.W.truthy_bytes (by omega) ⟨H, I.tok _, q⟩
  | ref p =>
    cases rx
    have e' : (∃ xs, SqL X.K H p xs ∧ k = !xs.isEmpty) ∨ (∃ xs, SqT X.K H p xs ∧ k = !xs.isEmpty) ∨ ∃ kvs, H p = some (.dK kvs) ∧ k = !kvs.isEmpty := e
    rcases e' with ⟨xs, hx, e'⟩ | ⟨xs, hx, e'⟩ | ⟨kvs, hx, e'⟩
    · subst e'
      obtain ⟨its, r, pl, hz⟩ := I.list hx
      have hlen := r.length
      exact wpAny_truthy_list pl.isList (by simp only [List.size_toArray]; omega) ⟨H, I.tok _, by rw [isEmpty_of r]; exact q⟩
    · subst e'
      obtain ⟨its, r, pl, hz⟩ := I.tuple hx
      have hlen := r.length
      exact truthy_tuple pl (by simp only [List.size_toArray]; omega) ⟨H, I.tok _, by rw [isEmpty_of r]; exact q⟩
    · subst e'
      obtain ⟨hz, hS, vs, r, m⟩ : kvs.length ≤ sizeLine ∧ (p == sysModules) = false ∧ ∃ vs, KV kvs vs ∧ s.heap.DictOf (mixKind X.prog X.w) p vs := I.hok p _ hx
      have hlen : kvs.length = vs.length := Paired.length r
      exact wpAny_truthy_dict hS m (by omega) ⟨H, I.tok _, by rw [isEmpty_kv r]; exact q⟩
  | _ => exact (show False from e).elim
theorem op_add_str : OpR X (binaryOp .Add) (fun x y H Q => ∃ i j, x = .str i ∧ y = .str j ∧ i.length + j.length ≤ sizeLine ∧ Q (.str (i ++ j)) H) := by
  intro pins s σ H x y v u Q I rx ry h
  obtain ⟨i, j, rfl, rfl, hz, q⟩ := h
  obtain ⟨t, rfl⟩ := rx
  obtain ⟨t', rfl⟩ := ry
  exact add_str (fun t' tk => ⟨.str (i ++ j), H, I.tok _, ⟨_, rfl⟩, q⟩) hz
theorem vals1 {x : V} {us : List Value} (r : Vals [x] us) : ∃ u, us = [u] ∧ RelV x u := by
  cases r with
  | cons r1 r2 => cases r2; exact ⟨_, rfl, r1⟩
theorem call_abs : CallR X (.builtin "abs") (fun xs H Q => ∃ i, xs = [.int i] ∧ Q (.int (if i < 0 then -i else i)) H) := by
  intro pins s σ H xs us Q I r h
  obtain ⟨i, rfl, q⟩ := h
  obtain ⟨u, rfl, t, rfl⟩ := vals1 r
  exact call_abs_int fun u tk => ⟨.int (if i < 0 then -i else i), H, I.tok _, ⟨_, rfl⟩, q⟩
theorem call_int1 : CallR X (.type "int") (fun xs H Q => (∃ i, xs = [.int i] ∧ Q (.int i) H) ∨ ∃ k, xs = [.bl k] ∧ Q (.int (if k then 1 else 0)) H) := by
  intro pins s σ H xs us Q I r h
  rcases h with ⟨i, rfl, q⟩ | ⟨k, rfl, q⟩
  · obtain ⟨u, rfl, t, rfl⟩ := vals1 r
    exact call_int_int ⟨.int i, H, I, ⟨_, rfl⟩, q⟩
  · obtain ⟨u, rfl, r1⟩ := vals1 r
    cases r1
    exact call_int_bool ⟨.int (if k then 1 else 0), H, I.tok _, ⟨_, rfl⟩, q⟩
noncomputable def LenV (K : PySem.W.Frag) (x : V) (H : Hp) (n : Nat) : Prop :=
  match x with
  | .str y => y.length ≤ sizeLine ∧ n = y.length
  | .byt y => y.size ≤ sizeLine ∧ n = y.size
  | .ref p => (∃ xs, SqL K H p xs ∧ n = xs.length) ∨ ∃ xs, SqT K H p xs ∧ n = xs.length
  | _ => False
theorem call_len : CallR X (.builtin "len") (fun xs H Q => ∃ x n, xs = [x] ∧ LenV X.K x H n ∧ Q (.int n) H) := by
  intro pins s σ H xs us Q I r h
  obtain ⟨x, n, rfl, e, q⟩ := h
  obtain ⟨u, rfl, rx⟩ := vals1 r
  have hl := line63
  have hs : sizeLine = 16777216 := sizeLine_eq
  cases x with
  | str y =>
    obtain ⟨t, rfl⟩ := rx
    obtain ⟨hy, e'⟩ : y.length ≤ sizeLine ∧ n = y.length := e
    subst e'
    exact len_str (by omega) ⟨.int _, H, I.tok _, ⟨_, rfl⟩, q⟩
  | byt y =>
    obtain ⟨t, rfl⟩ := rx
    obtain ⟨hy, e'⟩ : y.size ≤ sizeLine ∧ n = y.size := e
    subst e'
    exact PySem.W.len_bytes (by omega) ⟨.int _, H, I.tok _, ⟨_, rfl⟩, q⟩
  | ref p =>
    cases rx
    have e' : (∃ xs, SqL X.K H p xs ∧ n = xs.length) ∨ ∃ xs, SqT X.K H p xs ∧ n = xs.length := e
    rcases e' with ⟨xs, hx, e'⟩ | ⟨xs, hx, e'⟩
    · subst e'
      obtain ⟨its, r', pl, hz⟩ := I.list hx
      have hlen := r'.length
      exact Calls.call_len_list pl.isList (by simp only [List.size_toArray]; omega) ⟨.int xs.length, H, I.tok _, ⟨_, by simp only [List.size_toArray]; rw [hlen]⟩, q⟩
    · subst e'
      obtain ⟨its, r', pl, hz⟩ := I.tuple hx
      have hlen := r'.length
      exact len_tuple pl (by simp only [List.size_toArray]; omega) ⟨.int xs.length, H, I.tok _, ⟨_, by simp only [List.size_toArray]; rw [hlen]⟩, q⟩
  | _ => exact (show False from e).elim
end
end L2
namespace L2
open PySem PySem.Spec PyProof.Rows
section
variable {prog : Program} {w : World} {A : Around} {E : Value → Shared → Prop} {s : Shared} {K : PySem.W.Frag} {x dx C f : Addr} {mA : Str → Option Value} {name : Str} {v : Value}
end
section
variable {P : Program} {w : World} {H H' : Hp} {h h' : Heap} {a C dx : Addr} {fs fs' : List (Str × V)}
end
section
variable {X : Cx} {pins : List (Addr × Obj)} {σ : St} {H : Hp} {s : Shared} {a C dx : Addr} {fs : List (Str × V)} {f : Str} {v : V} {A : Around} {E : Value → Shared → Prop}
end
section
variable {X : Cx} {o e value : Expr} {f : Str} {pos pos' tpos : Pos} {ta tv : TE}
end
section
variable {X : Cx} {pins : List (Addr × Obj)} {σ : St} {H : Hp} {s : Shared} {A : Around} {E : Value → Shared → Prop} {Q : Value → Shared → Prop} {c : Value} {b : Bool}
end
end L2
namespace L2
open PySem PySem.Spec PyProof.Rows
structure Room (k : Nat) (A : Around) : Prop where
  hd : A.handled = none
  dp : A.depth + 3 * k + 5 < recursionLimit
  un : A.units + 16 * k + 200 < cLine
theorem Room.deeper {k : Nat} {A : Around} (r : Room (k + 1) A) (env : Env) : Room k (A.deeper env) :=
  ⟨r.hd, by have := r.dp; show A.depth + 1 + 3 * k + 5 < _; omega, by have := r.un; show A.units + 3 + 16 * k + 200 < _; omega⟩
theorem Room.depth {k : Nat} {A : Around} (r : Room k A) : A.depth < recursionLimit := by have := r.dp; omega
noncomputable def tNil : TA := fun _ H Q => Q [] H
noncomputable def tCons (ta : TE) (tr : TA) : TA := fun σ H Q => ta σ H fun x H1 => tr σ H1 fun xs H2 => Q (x :: xs) H2
section
variable {X : Cx} {e : Expr} {es : List Expr} {te : TE} {t : TA} {pos : Pos}
theorem pa_nil : PA X [] tNil := fun _ _ _ _ H Q I h => Calls.spliced_nil ⟨[], H, I, .nil, h⟩
theorem pa_cons (ha : PE X e te) (hr : PA X es t) (hs : starEach (e :: es) X.env = (false, eval e X.env) :: starEach es X.env := by rfl) : PA X (e :: es) (tCons te t) := by
  intro pos pins s σ H Q I h
  rw [hs]
  show wpAny _ _ (spliced ((false, eval e X.env) :: backTo pos (starEach es X.env))) _ _ s
  refine Calls.spliced_cons (thn (ha pins s σ H _ I h) fun u s1 ⟨x, H1, I1, r1, q1⟩ => ?_)
  exact thn (hr pos pins s1 σ H1 _ I1 q1) fun us s2 ⟨xs, H2, I2, r2, q2⟩ => ⟨x :: xs, H2, I2, .cons r1 r2, q2⟩
noncomputable def tTup (t : TA) : TE := fun σ H Q => t σ H fun xs H1 => xs.length ≤ sizeLine ∧ ∀ p, H1 p = none → Q (.ref p) (upd H1 p (.tup xs))
noncomputable def tLst (t : TA) : TE := fun σ H Q => t σ H fun xs H1 => xs.length ≤ sizeLine ∧ ∀ p, H1 p = none → Q (.ref p) (upd H1 p (.lst xs))
theorem pe_tup {x1} (h : PA X es t) : PE X (.Tuple es x1 pos) (tTup t) := by
  intro pins s σ H Q I hq
  refine wpAny_Tuple_spliced (thn (h pos pins s σ H _ I hq) fun us s1 ⟨xs, H1, I1, r, z, q⟩ => ⟨by rw [← r.length]; exact z, ?_⟩)
  have hf : H1 s1.heap.objs.size = none := I1.hok.fresh (Nat.le_refl _)
  refine ⟨.ref s1.heap.objs.size, upd H1 s1.heap.objs.size (.tup xs), I1.laid (t' := s1.toks) (fun b u e => Heap.get?_push_of_some _ e) (Nat.le_refl _) ?_, rfl, q _ hf⟩
  exact ⟨z, us, r, ⟨_, Heap.get?_push_size _ rfl, rfl, _, rfl⟩⟩
theorem pe_lst (h : PA X es t) : PE X (.List es pos) (tLst t) := by
  intro pins s σ H Q I hq
  refine wpAny_List_spliced (thn (h pos pins s σ H _ I hq) fun us s1 ⟨xs, H1, I1, r, z, q⟩ => ⟨by rw [← r.length]; exact z, ?_⟩)
  have hf : H1 s1.heap.objs.size = none := I1.hok.fresh (Nat.le_refl _)
  refine ⟨.ref s1.heap.objs.size, upd H1 s1.heap.objs.size (.lst xs), I1.laid (t' := s1.toks) (fun b u e => Heap.get?_push_of_some _ e) (Nat.le_refl _) ?_, rfl, q _ hf⟩
  exact ⟨z, us, 0, r, Heap.get?_push_size _ rfl⟩
end
noncomputable abbrev Sp := List V → Hp → VK → XK → Prop
noncomputable abbrev CXT := List Env → Hp → Shared → XK → Value → Shared → Prop
structure Env0 (P : Program) (w : World) (K : PySem.W.Frag) (mg : Str → Option Value) (base : Heap) (A : Around) (outer : List Env) (s : Shared) (H : Hp) : Prop where
  frames : A.frames = some outer
  mod : Mod K mg base
  bs : ∀ b o, base.get? b = some o → s.heap.get? b = some o ∧ H b = none
  bsz : base.objs.size ≤ s.heap.objs.size
  funs : s.heap.FunFrames base outer
  frf : ∀ b ∈ frs outer, H b = none
  hok : HOk P w H s.heap
  bare : AllBare s.gens
noncomputable def CE (outer : List Env) (P : Program) (w : World) (H : Hp) (s : Shared) (Q : VK) (u : Value) (s' : Shared) : Prop :=
  ∃ v H', s'.os = s.os ∧ AllBare s'.gens ∧ Un (frs outer) [] H H' s.heap s'.heap ∧ HOk P w H' s'.heap ∧ RelV v u ∧ Q v H'
noncomputable def CR (CX : CXT) (outer : List Env) (P : Program) (w : World) (H : Hp) (s : Shared) (Q : VK) (E : XK) (r : Result) (s' : Shared) : Prop :=
  match r with
  | .ok (.ret u) => CE outer P w H s Q u s'
  | .ok _ => False
  | .error e => CX outer H s E e s'
structure FnOk (P : Program) (w : World) (K : PySem.W.Frag) (mg : Str → Option Value) (base : Heap) (CX : CXT) (k : Nat) (f : Addr) (fd : FuncData) (ps : List Str) (sp : Sp) : Prop where
  len : ∀ vs H Q E, sp vs H Q E → vs.length = ps.length
  run : ∀ (A : Around) (outer : List Env) (s : Shared) (H : Hp) (args : Args) (us : List Value) (vs : List V) (Q : VK) (E : XK), Room k A → Env0 P w K mg base A outer s H → BindsTo s fd args (ps.zip us) → Vals vs us → sp vs H Q E →
    codeAny (model P w) A (.call (.ref f) args) (CR CX outer P w H s Q E) s
section
variable {X : Cx} {pins : List (Addr × Obj)} {σ : St} {H : Hp} {s s' : Shared}
theorem Inv.env0 (I : Inv X pins σ H s) : Env0 X.prog X.w X.K X.mg X.base X.A X.stack s H :=
  ⟨I.ok.frames, I.ok.mod, I.bs, Nat.le_trans I.ok.bsz I.sz, I.stack, I.stkFree, I.hok, I.bare⟩
theorem Inv.after {Q : VK} {u : Value} (I : Inv X pins σ H s) (h : CE X.stack X.prog X.w H s Q u s') : EP X pins σ Q u s' := by
  obtain ⟨v, H', os, bare, un, hok, r, q⟩ := h
  obtain ⟨hh, g, d, t, os'⟩ := s'
  obtain rfl : os' = s.os := os
  exact ⟨v, H', I.call (h' := hh) (g' := g) (d' := d) (t' := t) (ch := []) un hok bare (fun b z => absurd z (by simp)), r, q⟩
end
noncomputable def tCall (sp : Sp) (dvs : List V) (E : XK) (t : TA) : TE := fun σ H Q => t σ H fun vs H1 => sp (vs ++ dvs) H1 Q E
noncomputable def Binds (K : PySem.W.Frag) (fd : FuncData) (ps : List Str) (ds : List Value) : Prop :=
  ∀ (s : Shared) (us : List Value), K.In s.heap → (us ++ ds).length = ps.length → BindsTo s fd ⟨us, []⟩ (ps.zip (us ++ ds))
theorem Binds.all {K : PySem.W.Frag} {fd : FuncData} {ps : List Str} (h : ∀ us : List Value, us.length = ps.length → bindArgs fd ⟨us, []⟩ = pure (ps.zip us)) : Binds K fd ps [] := fun s us _ hl => by
  rw [List.append_nil] at hl ⊢
  exact .of_eq (h us hl)
noncomputable def Passes (CX : CXT) (X : Cx) (E : XK) : Prop := ∀ (pins : List (Addr × Obj)) (σ : St) (H : Hp) (s : Shared) (e : Value) (s' : Shared), Inv X pins σ H s → CX X.stack H s E e s' → X.xe e s'
section
variable {X : Cx} {CX : CXT} {k : Nat} {f C : Addr} {fd : FuncData} {ps : List Str} {sp : Sp} {dvs : List V} {ds : List Value} {E : XK} {x m : Str} {p pos apos : Pos} {e o : Expr} {es : List Expr} {ta : TE} {t : TA}
theorem run_fn {pins : List (Addr × Obj)} {σ : St} {H : Hp} {s : Shared} {Q : VK} {us : List Value} {vs : List V} (F : FnOk X.prog X.w X.K X.mg X.base CX k f fd ps sp) (hr : Room k X.A) (hb : Binds X.K fd ps ds) (hd : Vals dvs ds) (hx : Passes CX X E)
    (I : Inv X pins σ H s) (r : Vals vs us) (h : sp (vs ++ dvs) H Q E) : wpAny (model X.prog X.w) X.A (call (.ref f) us) (EP X pins σ Q) X.xe s := by
  have r2 : Vals (vs ++ dvs) (us ++ ds) := r.append hd
  have hl : (us ++ ds).length = ps.length := by rw [← r2.length]; exact F.len _ _ _ _ h
  refine wpAny_call (codeAny_mono (F.run X.A X.stack s H ⟨us, []⟩ (us ++ ds) (vs ++ dvs) Q E hr I.env0 (hb s us I.kIn hl) r2 h) fun r s' hq => ?_)
  cases r with
  | error e => exact hx pins σ H s e s' I hq
  | ok fl =>
    cases fl with
    | ret u => exact I.after hq
    | next => exact False.elim hq
    | brk => exact False.elim hq
    | cont => exact False.elim hq
theorem pe_call (F : FnOk X.prog X.w X.K X.mg X.base CX k f fd ps sp) (hr : Room k X.A) (hg : Gl X x) (hm : X.mg x = some (.ref f)) (hk : PySem.W.keepIn X.K (.ref f) = true) (hb : Binds X.K fd ps ds) (hd : Vals dvs ds) (hx : Passes CX X E)
    (ha : PA X (e :: es) t) (hdb : (x == ("__debug__" : Str)) = false := by decide) (he : starEach (e :: es) X.env = (false, eval e X.env) :: starEach es X.env := by rfl) (hpl : (backTo pos (starEach es X.env)).any (·.1) = false := by rfl) :
    PE X (.Call (.Name x p) (e :: es) [] pos) (tCall sp dvs E t) := by
  intro pins s σ H Q I h
  refine wpAny_Call_Name_kw (ld_glob I hg hm ?_ hdb)
  refine PySem.W.callWith_K (h₀ := X.base) I.ok.mod.kin hk (thn (ha pos pins s σ H _ I h) fun us s1 ⟨vs, H1, I1, r, q⟩ => ⟨I1.kIn, ?_⟩) he hpl
  exact run_fn F hr hb hd hx I1 r q
theorem pe_call0 (F : FnOk X.prog X.w X.K X.mg X.base CX k f fd ps sp) (hr : Room k X.A) (hg : Gl X x) (hm : X.mg x = some (.ref f)) (hk : PySem.W.keepIn X.K (.ref f) = true) (hb : Binds X.K fd ps ds) (hd : Vals dvs ds) (hx : Passes CX X E)
    (hdb : (x == ("__debug__" : Str)) = false := by decide) : PE X (.Call (.Name x p) [] [] pos) (tCall sp dvs E tNil) := by
  intro pins s σ H Q I h
  refine wpAny_Call_Name_kw (ld_glob I hg hm ?_ hdb)
  exact PySem.W.callWith_K0 I.kIn hk (run_fn (us := []) F hr hb hd hx I .nil h)
end
section
variable {X : Cx} {CX : CXT} {k : Nat} {f C : Addr} {fd : FuncData} {ps ks : List Str} {sp : Sp} {E : XK} {x m : Str} {p pos apos kpos : Pos} {e o : Expr} {es : List Expr} {kws : List Keyword} {te ta : TE} {t tk : TA} {nm : Option Str}
variable {g : List Value → List Value → List Value} {gV : List V → List V → List V}
end
structure FnScope (N P : List Str) (sc : Scope) : Prop where
  kind : sc.kind = .function
  co : sc.isCoroutine = false
  gen : sc.isGenerator = false
  nd : N.Nodup
  pre : N.take P.length = P
  par : ∀ x ∈ P, sc.names.lookup x = some .local ∨ sc.names.lookup x = some .cell
  nofree : ∀ y ∈ sc.names, y.2 ≠ .free
theorem bindL_out {kindOf : Str → Option NameKind} {x : Str} : ∀ {binds : List (Str × Value)} {m : Str → Option Value}, (∀ v, (x, v) ∉ binds) → bindL kindOf binds m x = m x
  | [], _, _ => rfl
  | (n, v) :: r, m, h => by
    unfold bindL
    rw [bindL_out fun w hw => h w (List.mem_cons_of_mem _ hw)]
    split
    · have : x ≠ n := by rintro rfl; exact h v List.mem_cons_self
      simp [this]
    · rfl
theorem bindC_out {kindOf : Str → Option NameKind} {x : Str} : ∀ {binds : List (Str × Value)} {m : Str → Option Value}, (∀ v, (x, v) ∉ binds) → bindC kindOf binds m x = m x
  | [], _, _ => rfl
  | (n, v) :: r, m, h => by
    unfold bindC
    rw [bindC_out fun w hw => h w (List.mem_cons_of_mem _ hw)]
    split
    · rfl
    · have : x ≠ n := by rintro rfl; exact h v List.mem_cons_self
      simp [this]
theorem bindL_get {kindOf : Str → Option NameKind} {x : Str} {v : Value} : ∀ {P : List Str} {vs : List Value} {i : Nat} {m : Str → Option Value}, P.Nodup → P[i]? = some x → vs[i]? = some v → kindOf x = some .local →
    bindL kindOf (P.zip vs) m x = some v
  | [], _, _, _, _, h, _, _ => by simp at h
  | _ :: _, [], _, _, _, _, h, _ => by simp at h
  | p :: P, w :: vs, 0, m, nd, h1, h2, hk => by
    simp at h1 h2; subst h1; subst h2
    show bindL kindOf ((p, w) :: P.zip vs) m p = _
    unfold bindL
    rw [bindL_out fun v hv => (List.nodup_cons.mp nd).1 (List.of_mem_zip hv).1, if_pos hk]
    simp
  | p :: P, w :: vs, i + 1, m, nd, h1, h2, hk => by
    show bindL kindOf ((p, w) :: P.zip vs) m x = _
    unfold bindL
    exact bindL_get (i := i) (List.nodup_cons.mp nd).2 (by simpa using h1) (by simpa using h2) hk
theorem bindC_get {kindOf : Str → Option NameKind} {x : Str} {v : Value} : ∀ {P : List Str} {vs : List Value} {i : Nat} {m : Str → Option Value}, P.Nodup → P[i]? = some x → vs[i]? = some v → kindOf x ≠ some .local →
    bindC kindOf (P.zip vs) m x = some v
  | [], _, _, _, _, h, _, _ => by simp at h
  | _ :: _, [], _, _, _, _, h, _ => by simp at h
  | p :: P, w :: vs, 0, m, nd, h1, h2, hk => by
    simp at h1 h2; subst h1; subst h2
    show bindC kindOf ((p, w) :: P.zip vs) m p = _
    unfold bindC
    rw [bindC_out fun v hv => (List.nodup_cons.mp nd).1 (List.of_mem_zip hv).1, if_neg hk]
    simp
  | p :: P, w :: vs, i + 1, m, nd, h1, h2, hk => by
    show bindC kindOf ((p, w) :: P.zip vs) m x = _
    unfold bindC
    exact bindC_get (i := i) (List.nodup_cons.mp nd).2 (by simpa using h1) (by simpa using h2) hk
noncomputable def start (N : List Str) (vs : List V) : St := vs.map some ++ List.replicate (N.length - vs.length) none
noncomputable def cxOf (CX : CXT) (P : Program) (w : World) (K : PySem.W.Frag) (mg : Str → Option Value) (base : Heap) (N : List Str) (qual : Str) (scope : Scope) (f : Addr) (cd : Value) (A : Around) (outer : List Env) (s : Shared) (H : Hp) (E : XK) : Cx where
  prog := P
  w := w
  K := K
  mg := mg
  base := base
  A := A.deeper (envOfC qual scope s.heap.objs.size f cd)
  N := N
  s₀ := s
  H₀ := H
  env := envOfC qual scope s.heap.objs.size f cd
  outer := outer
  stack := envOfC qual scope s.heap.objs.size f cd :: outer
  ex := []
  calm := true
  fn := fun _ => true
  pn := []
  xe := fun e s' => wpAny (model P w) (A.deeper (envOfC qual scope s.heap.objs.size f cd)) (leaving (envOfC qual scope s.heap.objs.size f cd) e) (fun _ s'' => CX outer H s E e s'') (fun e' s'' => CX outer H s E e' s'') s'
theorem cell_has {sc : Scope} {n : Nat} {x : Str} (h : sc.names.lookup x = some .cell) : ∃ c, (cellsFrom n sc.names []).lookup x = some c := by
  have q := PySem.W.cellsFrom_some sc.names n [] (.inl h)
  exact Option.isSome_iff_exists.mp q
theorem inv_start {CX : CXT} {P : Program} {w : World} {K : PySem.W.Frag} {mg : Str → Option Value} {base : Heap} {N ps : List Str} {qual : Str} {scope : Scope} {f : Addr} {cd : Value} {A : Around} {outer : List Env} {s s1 : Shared} {H : Hp} {E : XK} {us : List Value} {vs : List V}
    (S : FnScope N ps scope) (hd : A.handled = none) (e0 : Env0 P w K mg base A outer s H) (hl : vs.length = ps.length) (r : Vals vs us)
    (x : InCallC s s.heap.objs.size (bindL (envOfC qual scope s.heap.objs.size f cd).kindOf (ps.zip us) fun _ => none) (cellsFrom (s.heap.objs.size + 1) scope.names []) (bindC (envOfC qual scope s.heap.objs.size f cd).kindOf (ps.zip us) fun _ => none) s1) :
    Inv (cxOf CX P w K mg base N qual scope f cd A outer s H E) [] (start N vs) H s1 := by
  have hpl : ps.length ≤ N.length := by have := congrArg List.length S.pre; rw [List.length_take] at this; omega
  obtain ⟨h1, tk, rfl, hk⟩ := x.done
  have noA : ∀ b : Addr, b ∉ (cxOf CX P w K mg base N qual scope f cd A outer s H E).ex := fun b z => absurd (show b ∈ ([] : List Addr) from z) (by simp)
  refine ⟨⟨e0.mod, S.kind, rfl, rfl, Nat.le_refl _, fun y z c h1 h2 => ?_, fun y hy => ?_, fun y c _ h => ?_, fun _ => hd, Around.frames_deeper e0.frames, .inr ⟨rfl, rfl⟩, fun b z => absurd z (noA b), e0.bs, e0.bsz, fun b _ _ => noA b, fun b z => absurd z (noA b), e0.funs, e0.frf⟩,
    rfl, e0.bare, Un.kept hk, ⟨_, x.toInCall.ns, fun i y v h1 h2 h3 => ?_⟩, fun y c h => ⟨_, x.cell y c h⟩, e0.hok.fresh (Nat.le_refl _), fun y c h => ?_, fun p hp => absurd (show p ∈ ([] : List (Addr × Obj)) from hp) (by simp), e0.hok.kept hk, ?_⟩
  · exact name_of_addr x.apart (PySem.mem_of_lookup h1) (PySem.mem_of_lookup h2)
  · have hy : scope.names.lookup y = some .cell ∨ scope.names.lookup y = some .free := hy
    rcases hy with hy | hy
    · exact cell_has hy
    · exact absurd rfl (S.nofree _ (PySem.mem_of_lookup hy))
  · exact Nat.le_of_lt (x.above y c (PySem.mem_of_lookup h))
  · have hi : i < vs.length := by
      unfold start at h2
      by_cases hi : i < vs.length
      · exact hi
      · rw [List.getElem?_append_right (by simpa using hi)] at h2
        rw [List.getElem?_replicate] at h2
        split at h2 <;> cases h2
    have ha : vs[i]? = some v := by
      unfold start at h2
      rw [List.getElem?_append_left (by simpa using hi), List.getElem?_map] at h2
      cases e : vs[i]? with
      | none => rw [e] at h2; cases h2
      | some a => rw [e] at h2; cases h2; rfl
    obtain ⟨u, hu, rv⟩ := r.get ha
    have hp : ps[i]? = some y := by
      rw [← S.pre, List.getElem?_take_of_lt (by omega)]; exact h1
    have ndP : ps.Nodup := by rw [← S.pre]; exact S.nd.sublist (List.take_sublist _ _)
    refine ⟨u, rv, ?_⟩
    rcases S.par y (List.mem_of_getElem? hp) with k | k
    · exact .inl ⟨k, bindL_get ndP hp hu k⟩
    · obtain ⟨c, e⟩ := cell_has (n := s.heap.objs.size + 1) k
      refine .inr ⟨.inl k, c, e, ?_⟩
      have q := x.cell y c e
      rw [bindC_get ndP hp hu (by show scope.names.lookup y ≠ _; rw [k]; decide)] at q
      exact q
  · exact e0.hok.fresh (Nat.le_of_lt (x.above y c (PySem.mem_of_lookup h)))
  · unfold start
    show _ = N.length
    rw [List.length_append, List.length_map, List.length_replicate]
    omega
theorem fn_of {CX : CXT} {P : Program} {w : World} {K : PySem.W.Frag} {mg : Str → Option Value} {base : Heap} {k : Nat} {f : Addr} {name qual : Str} {params : Arguments} {body : List Stmt} {scope : Scope} {dV kV doc pm cdv ct oc : Value} {an od : Option Addr}
    {osl : Array (Option Value)} {N ps : List Str} {sp : Sp} (lk : K.lookup f = some ⟨oc, od, .func (PySem.W.fnOf name qual params body scope dV kV doc pm an cdv ct), osl⟩) (hcd : PySem.W.codeIn K cdv qual = true) (S : FnScope N ps scope)
    (len : ∀ vs H Q E, sp vs H Q E → vs.length = ps.length)
    (hbody : ∀ (A : Around) (outer : List Env) (s : Shared) (H : Hp) (vs : List V) (Q : VK) (E : XK), Room k (A.deeper (envOfC qual scope s.heap.objs.size f cdv)) → sp vs H Q E →
      ∃ t, PSs (cxOf CX P w K mg base N qual scope f cdv A outer s H E) body t ∧ t { nx := fun _ H' => Q .non H', rt := Q } (start N vs) H) :
    FnOk P w K mg base CX (k + 1) f (PySem.W.fnOf name qual params body scope dV kV doc pm an cdv ct) ps sp := by
  refine ⟨len, fun A outer s H args us vs Q E hr e0 hb r hsp => ?_⟩
  have hl := len _ _ _ _ hsp
  have KX : K.In s.heap := e0.mod.kin.keeps fun b o e => (e0.bs b o e).1
  have lim : s.heap.NoLimit := e0.mod.nolimit.keeps fun b o e => (e0.bs b o e).1
  have hkind : ∀ y ∈ ps.zip us, scope.names.lookup y.1 = some .local ∨ (scope.names.lookup y.1 = some .cell ∧ ((cellsFrom (s.heap.objs.size + 1) scope.names []).lookup y.1).isSome = true) := fun ⟨n, v⟩ hy => by
    rcases S.par n (List.of_mem_zip hy).1 with q | q
    · exact .inl q
    · exact .inr ⟨q, PySem.W.cellsFrom_some _ _ _ (.inl q)⟩
  refine codeAny_call_function hr.depth (KX _ _ lk) rfl S.co S.gen rfl (PySem.W.codeRec_of KX hcd) (hb _ _ _ _ ?_)
  refine wpAny_newFunctionEnv_cells S.kind hkind fun env he s1 x => ?_
  subst he
  refine ⟨lim.keeps x.toInCall.keep, codeAny_func ?_⟩
  obtain ⟨t, ht, hq⟩ := hbody A outer s H vs Q E (hr.deeper _) hsp
  have I : Inv (cxOf CX P w K mg base N qual scope f cdv A outer s H E) [] (start N vs) H s1 := inv_start S hr.hd e0 hl r x
  refine wpAny_mono (ht [] s1 (start N vs) H _ I hq) (fun fl s' hs => ?_) fun e s' hs => hs
  have fin : ∀ {σ' : St} {H' : Hp} {v : V} {u : Value}, Inv (cxOf CX P w K mg base N qual scope f cdv A outer s H E) [] σ' H' s' → RelV v u → Q v H' → CE outer P w H s Q u s' :=
    fun {σ' H' v u} J rv q => ⟨v, H', J.os, J.bare, J.base, J.hok, rv, q⟩
  cases fl with
  | ret u =>
    obtain ⟨v, σ', H', J, rv, q⟩ := hs
    exact fin J rv q
  | next =>
    obtain ⟨σ', H', J, q⟩ := hs
    exact fin (v := V.non) (u := Value.none) J rfl q
  | brk =>
    obtain ⟨_, _, _, q⟩ := hs
    exact False.elim q
  | cont =>
    obtain ⟨_, _, _, q⟩ := hs
    exact False.elim q
end L2
namespace L2
open PySem PySem.Spec PyProof.Rows
section
variable {X : Cx} {x : Str} {p pos : Pos} {e : Expr} {es : List Expr} {t : TA} {id T : String} {r : List V → Hp → VK → Prop}
noncomputable def tCB (r : List V → Hp → VK → Prop) (t : TA) : TE := fun σ H Q => t σ H fun vs H1 => r vs H1 Q
theorem pe_callB (hc : CallR X (.builtin id) r) (hg : Gl X x) (hm : X.mg x = none) (hv : bootBuiltins x = some (.builtin id)) (ha : PA X (e :: es) t) (hn : x ≠ "__name__" := by decide) (hdb : (x == ("__debug__" : Str)) = false := by decide)
    (he : starEach (e :: es) X.env = (false, eval e X.env) :: starEach es X.env := by rfl) (hpl : (backTo pos (starEach es X.env)).any (·.1) = false := by rfl) : PE X (.Call (.Name x p) (e :: es) [] pos) (tCB r t) := by
  intro pins s σ H Q I h
  refine wpAny_Call_Name_kw (ld_blt I hg hm hv ?_ hn hdb)
  exact PyProof.Rows.callWith_builtin1 (thn (ha pos pins s σ H _ I h) fun us s1 ⟨vs, H1, I1, r1, q1⟩ => hc pins s1 σ H1 vs us Q I1 r1 q1) he hpl
theorem pe_callTy (hc : CallR X (.type T) r) (hg : Gl X x) (hm : X.mg x = none) (hv : bootBuiltins x = some (.type T)) (ha : PA X (e :: es) t) (hn : x ≠ "__name__" := by decide) (hdb : (x == ("__debug__" : Str)) = false := by decide)
    (he : starEach (e :: es) X.env = (false, eval e X.env) :: starEach es X.env := by rfl) (hpl : (backTo pos (starEach es X.env)).any (·.1) = false := by rfl) : PE X (.Call (.Name x p) (e :: es) [] pos) (tCB r t) := by
  intro pins s σ H Q I h
  refine wpAny_Call_Name_kw (ld_blt I hg hm hv ?_ hn hdb)
  exact PyProof.Rows.callWith_type1 (thn (ha pos pins s σ H _ I h) fun us s1 ⟨vs, H1, I1, r1, q1⟩ => hc pins s1 σ H1 vs us Q I1 r1 q1) he hpl
end
end L2
namespace HT
open PySem PyProof.Rows
section
open PySem.SeqAt
open PySem.AutoSeq1 (wpAny_loadPart')
open PySem.MeetsSeq PySem.MeetsSeq2 PySem.MeetsSeq3
end
section
variable {prog : Program} {w : World} {A : Around} {E : Value → Shared → Prop} {s : Shared}
theorem cat_tup {t b : Addr} {vs ws : List Value} {Q : Value → Shared → Prop} (ht : IsTup s.heap t vs.toArray) (hb : IsTup s.heap b ws.toArray) (hv : vs ≠ [])
    (h1 : ws = [] → Q (.ref t) s) (h2 : ws ≠ [] → Q (.ref s.heap.objs.size) { s with heap := s.heap.push { cls := .type "tuple", data := .seq (vs ++ ws).toArray } })
    (hsz : vs.length + ws.length ≤ sizeLine) : wpAny (model prog w) A (binaryOp .Add (.ref t) (.ref b)) Q E s := by
  obtain ⟨⟨cls, dd, data, sl⟩, ho, hc, n, hd⟩ := id ht
  obtain ⟨⟨cls2, dd2, data2, sl2⟩, ho2, hc2, n2, hd2⟩ := id hb
  simp only at hc hd hc2 hd2
  subst hc hd hc2 hd2
  have e : vs.toArray ++ ws.toArray = (vs ++ ws).toArray := by simp
  by_cases hw : ws = []
  · exact concat_meets ⟨_, ho, rfl⟩ ⟨_, ho2, rfl⟩ noFill_tuple_add seq_tuple_add PySem.F.slot_tuple_add PySem.F.entry_tuple_add (PySem.F.args_tuple_add_2 _ _)
      (tuple_addW1 t b vs.toArray ws.toArray n n2 dd dd2 sl sl2 (by simpa using hv) (by simp [hw])) ⟨ho, ho2, h1 hw⟩
  · refine concat_meets ⟨_, ho, rfl⟩ ⟨_, ho2, rfl⟩ noFill_tuple_add seq_tuple_add PySem.F.slot_tuple_add PySem.F.entry_tuple_add (PySem.F.args_tuple_add_2 _ _)
      (tuple_addW2 t b vs.toArray ws.toArray n n2 dd dd2 sl sl2 (by simpa using hv) (by simpa using hw) (by rw [List.size_toArray, List.size_toArray]; exact hsz)) ⟨ho, ho2, ?_⟩
    rw [e]
    exact h2 hw
noncomputable def sIx (n d : Nat) : Option Int → Nat
  | none => d
  | some v => if v < 0 then (v + (n : Int)).toNat else min v.toNat n
theorem sIx_none (n d : Nat) : sIx n d none = d := rfl
theorem sIx_nat (n d k : Nat) : sIx n d (some (k : Int)) = min k n := by
  show (if (k : Int) < 0 then ((k : Int) + (n : Int)).toNat else min (k : Int).toNat n) = min k n
  rw [if_neg (by omega), Int.toNat_natCast]
theorem sIx_le (n d : Nat) (hd : d ≤ n) (o : Option Int) : sIx n d o ≤ n := by
  cases o with
  | none => exact hd
  | some v =>
    show (if v < 0 then (v + (n : Int)).toNat else min v.toNat n) ≤ n
    by_cases hv : v < 0
    · rw [if_pos hv]; omega
    · rw [if_neg hv]; exact Nat.min_le_right _ _
theorem clip_eq (v : Int) (n d : Nat) : (if v < 0 then max (v + (n : Int)) 0 else min v (n : Int)) = ((sIx n d (some v) : Nat) : Int) := by
  show (if v < 0 then max (v + (n : Int)) 0 else min v (n : Int)) = (((if v < 0 then (v + (n : Int)).toNat else min v.toNat n) : Nat) : Int)
  by_cases hv : v < 0
  · simp only [if_pos hv]; omega
  · simp only [if_neg hv]; omega
theorem adjust_gen (lo hi : Option Int) (n : Nat) : Builtin.Slice.sliceAdjust lo hi 1 (n : Int) = (((sIx n 0 lo : Nat) : Int), ((sIx n n hi : Nat) : Int)) := by
  have h1 : ¬ ((1 : Int) < 0) := by omega
  unfold Builtin.Slice.sliceAdjust
  simp only [h1, if_false]
  refine Prod.ext ?_ ?_
  · cases lo with
    | none => rfl
    | some v => exact clip_eq v n 0
  · cases hi with
    | none => rfl
    | some v => exact clip_eq v n n
theorem places_gen (i j : Nat) : Builtin.Slice.slicePlaces (i : Int) (j : Int) 1 = j - i := by
  unfold Builtin.Slice.slicePlaces
  have h1 : (1 : Int) > 0 := by omega
  simp only [h1, if_true, Int.ediv_one]
  split <;> omega
theorem slicePart_ {v : Value} {o : Option Int} {Q : Option Int → Shared → Prop} (p : IsPart v o) (h : Q o s) : wpAny (model prog w) A (Builtin.Slice.slicePartIndex v) Q E s := by
  cases p with
  | none => exact slicePart_none h
  | int i t => exact slicePart_int h
theorem sliceApplied_gen {sl : Addr} {vl vu : Value} {lo hi : Option Int} {n : Nat} {Q : Int × Int × Nat → Shared → Prop} (hs : s.heap.IsSliceOf sl vl vu .none) (pl : IsPart vl lo) (pu : IsPart vu hi)
    (h : Q (((sIx n 0 lo : Nat) : Int), 1, sIx n n hi - sIx n 0 lo) s) : wpAny (model prog w) A (Builtin.Slice.sliceApplied (.ref sl) (pure (n : Int))) Q E s := by
  obtain ⟨os, hos, hcs, hds⟩ := id hs
  unfold Builtin.Slice.sliceApplied Builtin.Slice.sliceFields
  refine wpAny_bind (wpAny_bind (wpAny_field hos hds (x := vl) rfl (wpAny_bind (wpAny_field hos hds (x := vu) rfl (wpAny_bind (wpAny_field hos hds (x := .none) rfl (wpAny_pure ?_)))))))
  refine wpAny_bind (slicePart_none ?_)
  show wpAny _ _ (if ((1 : Int) == 0) = true then _ else _) _ _ s
  rw [if_neg (by decide)]
  refine wpAny_bind (slicePart_ pl (wpAny_bind (slicePart_ pu (wpAny_bind (wpAny_pure ?_)))))
  show wpAny _ _ (match Builtin.Slice.sliceAdjust lo hi 1 (n : Int) with | (lo, hi) => pure (lo, (1 : Int), Builtin.Slice.slicePlaces lo hi 1)) _ _ s
  rw [adjust_gen lo hi n]
  show wpAny _ _ (pure (((sIx n 0 lo : Nat) : Int), (1 : Int), Builtin.Slice.slicePlaces ((sIx n 0 lo : Nat) : Int) ((sIx n n hi : Nat) : Int) 1)) _ _ s
  rw [places_gen]
  exact wpAny_pure h
theorem pick_gen (xs : Array Value) (i k : Nat) : ((List.range k).filterMap fun (m : Nat) => xs[((i : Int) + (m : Int) * 1).toNat]?).toArray = ((xs.toList.drop i).take k).toArray := by
  have e : (fun (m : Nat) => xs[((i : Int) + (m : Int) * 1).toNat]?) = fun m => xs[i + m]? := by
    funext m
    have : ((i : Int) + (m : Int) * 1).toNat = i + m := by omega
    rw [this]
  rw [e]
  have := pick_run xs i k
  rw [List.filterMap_map] at this
  have e2 : ((fun x => xs[x]?) ∘ fun x => i + x) = fun m => xs[i + m]? := rfl
  rw [e2] at this
  rw [this]
theorem getItem_tuple_cut {t sl : Addr} {items : Array Value} {vl vu : Value} {lo hi : Option Int} {Q : Value → Shared → Prop} (ht : IsTup s.heap t items) (hs : s.heap.IsSliceOf sl vl vu .none) (pl : IsPart vl lo) (pu : IsPart vu hi)
    (hw : ¬ (sIx items.size 0 lo = 0 ∧ sIx items.size items.size hi = items.size))
    (h : Q (.ref s.heap.objs.size) { s with heap := s.heap.push { cls := .type "tuple", data := .seq ((items.toList.drop (sIx items.size 0 lo)).take (sIx items.size items.size hi - sIx items.size 0 lo)).toArray } })
    (hsz : items.size ≤ sizeLine) : wpAny (model prog w) A (getItem (.ref t) (.ref sl)) Q E s := by
  have htake : sizeOk (.seq ((items.toList.drop (sIx items.size 0 lo)).take (sIx items.size items.size hi - sIx items.size 0 lo)).toArray) := by
    show ((items.toList.drop (sIx items.size 0 lo)).take (sIx items.size items.size hi - sIx items.size 0 lo)).toArray.size ≤ sizeLine
    rw [List.size_toArray, List.length_take, List.length_drop, Array.length_toList]
    omega
  have hj : sIx items.size items.size hi ≤ items.size := sIx_le _ _ (Nat.le_refl _) hi
  obtain ⟨os, hos, hcs, hds⟩ := id hs
  have hTs : s.TypeIs (.ref sl) "slice" := ⟨os, hos, hcs⟩
  unfold getItem
  try with_reducible refine wpAny_holding ?_
  first | refine wpAny_bind (wpAny_pure ?_) | skip
  refine wpAny_bind (wpAny_sequenceKey ht.typeIs (by decide) ?_)
  refine wpAny_bind (wpAny_callSpecial?_slot (name := Str.ofString "__getitem__") ht.typeIs PyProof.Rows.slot_tuple_getitem
    (wpAny_call_entry PyProof.Rows.slot_tuple_getitem ht.typeIs entry_tuple_getitem ?_ (args_tuple_getitem _ _)))
  show wpAny _ _ (Builtin.Tuple.tupleItemsOf (.ref t) >>= _) _ _ s
  refine wpAny_bind (tupleItemsOf_ ht ?_)
  refine wpAny_bind (wpAny_typeOf hTs ?_)
  rw [if_pos (by decide)]
  refine wpAny_bind (sliceApplied_gen hs pl pu ?_)
  have hno : ¬ ((((sIx items.size 0 lo : Nat) : Int) == 0 && (1 : Int) == 1 && (sIx items.size items.size hi - sIx items.size 0 lo) == items.size) = true) := by
    intro q
    rw [Bool.and_eq_true, Bool.and_eq_true] at q
    have q1 : ((sIx items.size 0 lo : Nat) : Int) = 0 := eq_of_beq q.1.1
    have q2 : sIx items.size items.size hi - sIx items.size 0 lo = items.size := eq_of_beq q.2
    exact hw ⟨by omega, by omega⟩
  show wpAny _ _ (if (((sIx items.size 0 lo : Nat) : Int) == 0 && (1 : Int) == 1 && (sIx items.size items.size hi - sIx items.size 0 lo) == items.size) = true then _ else _) _ _ s
  rw [if_neg hno, pick_gen]
  first
    | exact wpAny_bind (m := Builtin.Tuple.tupleExact _) (wpAny_newObj_type (wpAny_pure ⟨_, rfl, wpAny_pure h⟩) htake)
    | exact wpAny_bind (m := Builtin.Tuple.tupleExact _) (wpAny_newObj_type (wpAny_bind (wpAny_pure (wpAny_pure ⟨_, rfl, wpAny_pure h⟩))) htake)
    | exact wpAny_bind (wpAny_bind (m := Builtin.Tuple.tupleExact _) (wpAny_newObj_type (wpAny_pure (wpAny_pure ⟨_, rfl, wpAny_pure h⟩)) htake))
    | exact wpAny_bind (wpAny_bind (m := Builtin.Tuple.tupleExact _) (wpAny_newObj_type (wpAny_pure ⟨_, rfl, wpAny_pure h⟩) htake))
end
end HT
namespace L2
open PySem PySem.Spec PyProof.Rows
noncomputable abbrev TO := St → Hp → (Option Int → Hp → Prop) → Prop
noncomputable def PO (X : Cx) (e : Option Expr) (t : TO) : Prop :=
  ∀ (pins : List (Addr × Obj)) (s : Shared) (σ : St) (H : Hp) (Q : Option Int → Hp → Prop), Inv X pins σ H s → t σ H Q →
    wpAny (model X.prog X.w) X.A (evalPart e X.env) (fun u s' => ∃ o H', Inv X pins σ H' s' ∧ IsPart u o ∧ Q o H') X.xe s
noncomputable def tNoPart : TO := fun _ H Q => Q none H
noncomputable def tPart (t : TE) : TO := fun σ H Q => t σ H fun x H1 => ∃ i, x = .int i ∧ Q (some i) H1
section
variable {X : Cx} {e : Expr} {te : TE} {lo hi : Option Expr} {tl th : TO} {pos p2 : Pos}
theorem po_none : PO X none tNoPart := by
  intro pins s σ H Q I h
  rw [evalPart_none]
  exact wpAny_pure ⟨none, H, I, .none, h⟩
theorem po_some (h : PE X e te) : PO X (some e) (tPart te) := by
  intro pins s σ H Q I hw
  rw [evalPart_some]
  refine thn (h pins s σ H _ I hw) fun u s1 ⟨x, H1, I1, r1, q1⟩ => ?_
  obtain ⟨i, rfl, q⟩ := q1
  obtain ⟨t, rfl⟩ := r1
  exact ⟨some i, H1, I1, .int i t, q⟩
noncomputable def SlR (X : Cx) (r : V → Option Int → Option Int → Hp → VK → Prop) : Prop :=
  ∀ (pins : List (Addr × Obj)) (s : Shared) (σ : St) (H : Hp) (x : V) (v vl vu : Value) (lo hi : Option Int) (sl : Addr) (Q : VK), Inv X pins σ H s → RelV x v → s.heap.IsSliceOf sl vl vu .none → IsPart vl lo → IsPart vu hi → r x lo hi H Q →
    ∃ T id, typeLookup (.type T) "__getitem__" = pure (some (.builtin id)) ∧ s.TypeIs v T ∧ wpAny (model X.prog X.w) X.A (getItem v (.ref sl)) (EP X pins σ Q) X.xe s
noncomputable def tSl (r : V → Option Int → Option Int → Hp → VK → Prop) (te : TE) (tl th : TO) : TE := fun σ H Q => te σ H fun x H1 => tl σ H1 fun l H2 => th σ H2 fun u H3 => r x l u H3 Q
theorem pe_slice {r : V → Option Int → Option Int → Hp → VK → Prop} (hr : SlR X r) (he : PE X e te) (hl : PO X lo tl) (hu : PO X hi th) : PE X (.Subscript e (.Slice lo hi none p2) pos) (tSl r te tl th) := by
  intro pins s σ H Q I h
  refine Subscript_ (thn (he pins s σ H _ I h) fun v s1 ⟨x, H1, I1, r1, q1⟩ => ?_)
  refine wpAny_Slice (thn (hl pins s1 σ H1 _ I1 q1) fun vl s2 ⟨l, H2, I2, pl, q2⟩ => thn (hu pins s2 σ H2 _ I2 q2) fun vu s3 ⟨u, H3, I3, pu, q3⟩ => ?_)
  rw [evalPart_none]
  refine wpAny_pure ?_
  have I4 : Inv X pins σ H3 { s3 with heap := s3.heap.push { cls := .type "slice", data := .fields #[vl, vu, .none] } } := I3.kept (t' := s3.toks) fun b ob q => Heap.get?_push_of_some _ q
  obtain ⟨T, id, hT, ht, hg⟩ := hr pins { s3 with heap := s3.heap.push { cls := .type "slice", data := .fields #[vl, vu, .none] } } σ H3 x v vl vu l u s3.heap.objs.size Q I4 r1 (Heap.IsSliceOf.new ..) pl pu q3
  show wpAny (model X.prog X.w) X.A (subscriptTail e (.Slice lo hi none p2) v (.ref s3.heap.objs.size)) (EP X pins σ Q) X.xe { s3 with heap := s3.heap.push { cls := .type "slice", data := .fields #[vl, vu, .none] } }
  exact tail_any (ops := [.ref s3.heap.objs.size, v]) ht hT hg (by with_unfolding_all rfl)
noncomputable def cutV (xs : List V) (lo hi : Option Int) : List V := (xs.drop (HT.sIx xs.length 0 lo)).take (HT.sIx xs.length xs.length hi - HT.sIx xs.length 0 lo)
theorem cutV_length (xs : List V) (lo hi : Option Int) : (cutV xs lo hi).length ≤ xs.length := by
  unfold cutV
  rw [List.length_take, List.length_drop]
  omega
noncomputable def rSlT (K : PySem.W.Frag) : V → Option Int → Option Int → Hp → VK → Prop := fun x lo hi H Q => ∃ a xs, x = .ref a ∧ SqT K H a xs ∧
  ¬ (HT.sIx xs.length 0 lo = 0 ∧ HT.sIx xs.length xs.length hi = xs.length) ∧ ∀ p, H p = none → Q (.ref p) (upd H p (.tup (cutV xs lo hi)))
theorem sl_tup : SlR X (rSlT X.K) := by
  intro pins s σ H x v vl vu lo hi sl Q I rx hs pl pu h
  obtain ⟨a, xs, rfl, hx, hw, q⟩ := h
  cases rx
  obtain ⟨its, r, ht, hz⟩ := I.tuple hx
  have hlen : its.toArray.size = xs.length := by rw [List.size_toArray]; exact r.length.symm
  refine ⟨"tuple", _, PyProof.Rows.slot_tuple_getitem.lookup, ht.typeIs, ?_⟩
  refine HT.getItem_tuple_cut ht hs pl pu (by rw [hlen]; exact hw) ?_ (by rw [hlen]; exact hz)
  rw [hlen]
  refine ⟨.ref s.heap.objs.size, _, I.laid (t' := s.toks) (o := .tup (cutV xs lo hi)) (fun b ob q => Heap.get?_push_of_some _ q) (Nat.le_refl _) ?_, rfl, q _ (I.hok.fresh (Nat.le_refl _))⟩
  exact ⟨Nat.le_trans (cutV_length xs lo hi) hz, _, (r.drop (HT.sIx xs.length 0 lo)).take (HT.sIx xs.length xs.length hi - HT.sIx xs.length 0 lo), IsTup.new _ _⟩
theorem Vals.nil_iff {xs : List V} {us : List Value} (r : Vals xs us) : us = [] ↔ xs = [] := by
  cases r with
  | nil => simp
  | cons _ _ => simp
end
end L2
namespace L2
open PySem PySem.Spec PyProof.Rows
noncomputable def ixN (n : Nat) (i : Int) : Option Nat := if 0 ≤ i then (if i < n then some i.toNat else none) else if -(n : Int) ≤ i then some (i + n).toNat else none
noncomputable def atI {α : Type} (xs : List α) (i : Int) : Option α := (ixN xs.length i).bind fun j => xs[j]?
theorem ixN_seq {n : Nat} {i : Int} {j : Nat} (h : ixN n i = some j) : seqIndex? i n = some j ∧ j < n ∧ -(n : Int) ≤ i ∧ i < n := by
  unfold ixN at h
  by_cases h0 : 0 ≤ i
  · rw [if_pos h0] at h
    by_cases h1 : i < n
    · rw [if_pos h1] at h
      have e : i.toNat = j := Option.some.inj h
      exact ⟨by rw [seqIndex_of h0 h1, e], by omega, by omega, h1⟩
    · rw [if_neg h1] at h; cases h
  · rw [if_neg h0] at h
    by_cases h1 : -(n : Int) ≤ i
    · rw [if_pos h1] at h
      have e : (i + n).toNat = j := Option.some.inj h
      exact ⟨by rw [seqIndex_neg (by omega) h1, e], by omega, h1, by omega⟩
    · rw [if_neg h1] at h; cases h
theorem atI_get {α : Type} {xs : List α} {i : Int} {v : α} (h : atI xs i = some v) : ∃ j, seqIndex? i xs.length = some j ∧ xs[j]? = some v ∧ j < xs.length ∧ -(xs.length : Int) ≤ i ∧ i < xs.length := by
  unfold atI at h
  cases e : ixN xs.length i with
  | none => rw [e] at h; cases h
  | some j =>
    rw [e] at h
    obtain ⟨h1, h2, h3, h4⟩ := ixN_seq e
    exact ⟨j, h1, h, h2, h3, h4⟩
theorem atI_nat {α : Type} {xs : List α} {j : Nat} {v : α} (h : xs[j]? = some v) : atI xs (j : Int) = some v := by
  have hj : j < xs.length := (List.getElem?_eq_some_iff.mp h).1
  have e : ixN xs.length (j : Int) = some j := by
    unfold ixN
    rw [if_pos (by omega), if_pos (by omega)]; simp
  unfold atI; rw [e]; exact h
noncomputable def PlainIx (b : Expr) : Prop := ∀ o i, subscripted b false o i = operate [o, i] (getItem o i)
noncomputable def IxR (X : Cx) (r : R2) : Prop :=
  ∀ (value slice : Expr) (pins : List (Addr × Obj)) (s : Shared) (σ : St) (H : Hp) (x y : V) (v u : Value) (Q : VK), Inv X pins σ H s → RelV x v → RelV y u → r x y H Q →
    subscripted slice false v u = operate [v, u] (getItem v u) → wpAny (model X.prog X.w) X.A (subscriptTail value slice v u) (EP X pins σ Q) X.xe s
noncomputable def MtR (X : Cx) (id : String) (r : V → List V → Hp → VK → Prop) : Prop :=
  ∀ (pins : List (Addr × Obj)) (s : Shared) (σ : St) (H : Hp) (x : V) (xs : List V) (v : Value) (us : List Value) (Q : VK), Inv X pins σ H s → RelV x v → Vals xs us → r x xs H Q →
    wpAny (model X.prog X.w) X.A (call (.builtin id) (v :: us)) (EP X pins σ Q) X.xe s
section
variable {X : Cx} {a b : Expr} {ta tb : TE} {pos : Pos}
theorem pe_ix {r : R2} (hr : IxR X r) (ha : PE X a ta) (hb : PE X b tb) (hs : PlainIx b) : PE X (.Subscript a b pos) (tOp r ta tb) := by
  intro pins s σ H Q I h
  exact Subscript_ (binT ha hb I h fun v u s2 x y H2 I2 rx ry q => hr a b pins s2 σ H2 x y v u Q I2 rx ry q (hs _ _))
noncomputable def rIxL (K : PySem.W.Frag) : R2 := fun x y H Q => ∃ p xs i v, x = .ref p ∧ y = .int i ∧ SqL K H p xs ∧ atI xs i = some v ∧ Q v H
noncomputable def rIxT (K : PySem.W.Frag) : R2 := fun x y H Q => ∃ p xs i v, x = .ref p ∧ y = .int i ∧ SqT K H p xs ∧ atI xs i = some v ∧ Q v H
noncomputable def rIxS : R2 := fun x y H Q => ∃ z i c, x = .str z ∧ y = .int i ∧ z.length ≤ sizeLine ∧ atI z.cps.toList i = some c ∧ Q (.str ⟨#[c]⟩) H
theorem ix_list : IxR X (rIxL X.K) := by
  intro value slice pins s σ H x y v u Q I rx ry h hs
  obtain ⟨p, xs, i, z, rfl, rfl, hq, he, q⟩ := h
  cases rx
  obtain ⟨t, rfl⟩ := ry
  obtain ⟨its, r, pl, hz⟩ := I.list hq
  obtain ⟨j, h1, h2, h3, h4, h5⟩ := atI_get he
  obtain ⟨w, ew, rw'⟩ := r.get h2
  have hl := r.length
  have hn := line63
  have fin : EP X pins σ Q w s := ⟨z, H, I, rw', q⟩
  by_cases h0 : 0 ≤ i
  · have hj : i.toNat = j := by
      rw [seqIndex_of h0 h5] at h1
      exact Option.some.inj h1
    exact item_listR pl.isList h0 (by omega) (by rw [hj]; simpa using ew) fin hs
  · have hj : (i + (its.toArray.size : Int)).toNat = j := by
      rw [seqIndex_neg (by omega) h4] at h1
      rw [List.size_toArray, ← hl]
      exact Option.some.inj h1
    exact subscriptTail_builtinR (x := w) pl.isList.typeIs slot_list_getitem.lookup
      (wpAny_getItem_list_neg (Q := fun r s' => r = w ∧ EP X pins σ Q r s') pl.isList (by omega) (by rw [List.size_toArray] <;> omega) (by omega) (by rw [hj]; simpa using ew) ⟨rfl, fin⟩) hs
theorem ix_tup : IxR X (rIxT X.K) := by
  intro value slice pins s σ H x y v u Q I rx ry h hs
  obtain ⟨p, xs, i, z, rfl, rfl, hq, he, q⟩ := h
  cases rx
  obtain ⟨t, rfl⟩ := ry
  obtain ⟨its, r, pl, hz⟩ := I.tuple hq
  obtain ⟨j, h1, h2, h3, h4, h5⟩ := atI_get he
  obtain ⟨w, ew, rw'⟩ := r.get h2
  have hl := r.length
  have hn := line63
  have fin : EP X pins σ Q w s := ⟨z, H, I, rw', q⟩
  exact subscriptTail_builtinR (x := w) pl.typeIs slot_tuple_getitem.lookup
    (getItem_tuple (j := j) (Q := fun r s' => r = w ∧ EP X pins σ Q r s') pl (by omega) (by omega) (by rw [List.size_toArray, ← hl]; exact h1) (by simpa using ew) ⟨rfl, fin⟩) hs
theorem ix_str : IxR X rIxS := by
  intro value slice pins s σ H x y v u Q I rx ry h hs
  obtain ⟨z, i, c, rfl, rfl, hz, he, q⟩ := h
  obtain ⟨t, rfl⟩ := rx
  obtain ⟨t', rfl⟩ := ry
  obtain ⟨j, h1, h2, h3, h4, h5⟩ := atI_get he
  have hl : z.cps.toList.length = z.length := by simp [Str.length]
  rw [hl] at h1 h4 h5
  have hn := line63
  exact tail_any (typeIs_str s z t) slot_str_getitem.lookup (getItem_str (c := c) (by
    have e1 : decide (i < -(2 ^ 63 : Int)) = false := decide_eq_false (by omega)
    have e2 : decide (i ≥ 2 ^ 63) = false := decide_eq_false (by omega)
    rw [e1, e2, Bool.or_false]) (by rw [h1]; simpa using h2) ⟨.str ⟨#[c]⟩, H, I.tok _, ⟨_, rfl⟩, q⟩) hs
theorem mapSeq_set (its : List Value) (n j : Nat) (u : Value) : Obj.mapSeq (·.setIfInBounds j u) { cls := .type "list", data := .seq its.toArray n } = { cls := .type "list", data := .seq (its.set j u).toArray n } := by
  simp [Obj.mapSeq]
theorem Inv.lst {pins : List (Addr × Obj)} {σ : St} {H : Hp} {s : Shared} {p : Addr} {xs : List V} (I : Inv X pins σ H s) (h : H p = some (.lst xs)) :
    ∃ (its : List Value) (n : Nat), Vals xs its ∧ s.heap.get? p = some { cls := .type "list", data := .seq its.toArray n } ∧ xs.length ≤ sizeLine := by
  obtain ⟨z, its, n, r, e⟩ := I.hok p _ h
  exact ⟨its, n, r, e, z⟩
theorem Inv.lstUpd {pins : List (Addr × Obj)} {σ : St} {H : Hp} {s : Shared} {p : Addr} {xs ys : List V} {its its' : List Value} {n n' : Nat} {f : Obj → Obj} (I : Inv X pins σ H s) (h : H p = some (.lst xs))
    (ho : s.heap.get? p = some { cls := .type "list", data := .seq its.toArray n }) (hf : f { cls := .type "list", data := .seq its.toArray n } = { cls := .type "list", data := .seq its'.toArray n' }) (r : Vals ys its') (hz : ys.length ≤ sizeLine) (t : Nat) :
    Inv X pins σ (upd H p (.lst ys)) { s with heap := s.heap.update p f, toks := t } := by
  have e : (s.heap.update p f).get? p = some { cls := .type "list", data := .seq its'.toArray n' } := by
    rw [Heap.get?_update_self f ho (by rw [hf] <;> rfl), hf]
  refine I.write (x := p) (e := p) (by rw [h]; trivial) (.inl rfl) (fun b u hb q => (Heap.get?_update_other _ _ (Ne.symm hb)).trans q) ⟨_, e⟩ ?_
  exact ⟨hz, its', n', r, e⟩
noncomputable def rSetL : V → V → V → Hp → (Hp → Prop) → Prop := fun o i v H Q => ∃ p xs k j, o = .ref p ∧ i = .int k ∧ H p = some (.lst xs) ∧ ixN xs.length k = some j ∧ Q (upd H p (.lst (xs.set j v)))
theorem set_list : PSet X rSetL := by
  intro pins s σ H o i v ov iv u Q I ro ri rv h
  obtain ⟨p, xs, k, j, rfl, rfl, hp, hj, q⟩ := h
  cases ro
  obtain ⟨t, rfl⟩ := ri
  obtain ⟨its, n, r, ho, hz⟩ := I.lst hp
  obtain ⟨h1, h2, h3, h4⟩ := ixN_seq hj
  have hl := r.length
  have hn := line63
  have I' : Inv X pins σ (upd H p (.lst (xs.set j v))) { s with heap := s.heap.update p (Obj.mapSeq (·.setIfInBounds j u)) } :=
    I.lstUpd hp ho (mapSeq_set its n j u) (r.set rv j) (by rw [List.length_set]; exact hz) s.toks
  by_cases h0 : 0 ≤ k
  · have hk : k.toNat = j := by
      rw [seqIndex_of h0 h4] at h1
      exact Option.some.inj h1
    exact PySem.W.ki_setAt ho h0 (by omega) (by rw [List.size_toArray, ← hl]; exact h4) (by rw [hk]; exact ⟨_, I', q⟩)
  · have hk : (k + (its.toArray.size : Int)).toNat = j := by
      rw [seqIndex_neg (by omega) h3] at h1
      rw [List.size_toArray, ← hl]
      exact Option.some.inj h1
    exact PySem.W.ki_setBack ho (by omega) (by rw [List.size_toArray, ← hl]; exact h3) (by omega) (by rw [hk]; exact ⟨_, I', q⟩)
theorem slice_bounds (lo hi : Option Int) (n : Nat) : (sliceBounds lo hi none n).1 = ((HT.sIx n 0 lo : Nat) : Int) ∧ (sliceBounds lo hi none n).2.1 = ((HT.sIx n n hi : Nat) : Int) ∧ (sliceBounds lo hi none n).2.2 = 1 := by
  refine ⟨?_, ?_, rfl⟩
  · cases lo with
    | none => simp [sliceBounds, HT.sIx]
    | some i =>
      simp only [sliceBounds, HT.sIx, Option.getD_none, show (1 : Int) > 0 by decide, if_true]
      by_cases h : i < 0
      · simp only [h, if_true] <;> omega
      · simp only [h, if_false] <;> omega
  · cases hi with
    | none => simp [sliceBounds, HT.sIx]
    | some i =>
      simp only [sliceBounds, HT.sIx, Option.getD_none, show (1 : Int) > 0 by decide, if_true]
      by_cases h : i < 0
      · simp only [h, if_true] <;> omega
      · simp only [h, if_false] <;> omega
theorem slicePick_cut (its : List Value) (lo hi : Option Int) : slicePick its.toArray lo hi none = ((its.drop (HT.sIx its.length 0 lo)).take (HT.sIx its.length its.length hi - HT.sIx its.length 0 lo)).toArray := by
  obtain ⟨h1, h2, h3⟩ := slice_bounds lo hi its.toArray.size
  unfold slicePick
  rw [h1, h2, h3]
  simp only [sliceRange_one, pick_run, List.size_toArray] <;> rfl
noncomputable def rSlL (K : PySem.W.Frag) : V → Option Int → Option Int → Hp → VK → Prop := fun x lo hi H Q => ∃ a xs, x = .ref a ∧ SqL K H a xs ∧ ∀ p, H p = none → Q (.ref p) (upd H p (.lst (cutV xs lo hi)))
theorem sl_list : SlR X (rSlL X.K) := by
  intro pins s σ H x v vl vu lo hi sl Q I rx hs pl pu h
  obtain ⟨a, xs, rfl, hx, q⟩ := h
  cases rx
  obtain ⟨its, r, ht, hz⟩ := I.list hx
  have hlen := r.length
  refine ⟨"list", _, slot_list_getitem.lookup, ht.isList.typeIs, ?_⟩
  refine wpAny_getItem_list_slice ht.isList hs pl pu .none (by simp) ?_ (by rw [List.size_toArray] <;> omega)
  rw [slicePick_cut, ← hlen]
  refine ⟨.ref s.heap.objs.size, _, I.laid (t' := s.toks) (o := .lst (cutV xs lo hi)) (fun b ob q => Heap.get?_push_of_some _ q) (Nat.le_refl _) ?_, rfl, q _ (I.hok.fresh (Nat.le_refl _))⟩
  exact ⟨Nat.le_trans (cutV_length xs lo hi) hz, _, 0, (r.drop (HT.sIx xs.length 0 lo)).take (HT.sIx xs.length xs.length hi - HT.sIx xs.length 0 lo), Heap.get?_push_size _ rfl⟩
noncomputable def flatV : V → Bool
  | .non => true
  | .bl _ => true
  | .int _ => true
  | .str _ => true
  | _ => false
noncomputable def eqV : V → V → Bool
  | .non, .non => true
  | .bl a, .bl b => a == b
  | .bl a, .int b => (if a then 1 else 0) == b
  | .int a, .bl b => a == (if b then 1 else 0)
  | .int a, .int b => a == b
  | .str a, .str b => a == b
  | _, _ => false
theorem eqAt_V {A : Around} {s : Shared} {y x : V} {u v : Value} (ry : RelV y u) (rx : RelV x v) (fy : flatV y = true) (fx : flatV x = true) : SeqAt.EqAt A s u v (eqV y x) := by
  cases y with
  | non =>
    cases ry
    cases x with
    | non => cases rx; exact SeqAt.EqAt.same _
    | bl b => cases rx; exact SeqAt.EqAt.none_bool b
    | int b => obtain ⟨t, rfl⟩ := rx; exact SeqAt.EqAt.none_int b t
    | str b => obtain ⟨t, rfl⟩ := rx; exact SeqAt.EqAt.none_str b t
    | _ => exact absurd (show false = true from fx) Bool.false_ne_true
  | bl a =>
    cases ry
    cases x with
    | non => cases rx; exact SeqAt.EqAt.bool_none a
    | bl b => cases rx; exact SeqAt.EqAt.bool_bool a b
    | int b => obtain ⟨t, rfl⟩ := rx; exact SeqAt.EqAt.bool_int a b t
    | str b => obtain ⟨t, rfl⟩ := rx; exact SeqAt.EqAt.bool_str a b t
    | _ => exact absurd (show false = true from fx) Bool.false_ne_true
  | int a =>
    obtain ⟨t', rfl⟩ := ry
    cases x with
    | non => cases rx; exact SeqAt.EqAt.int_none a t'
    | bl b => cases rx; exact SeqAt.EqAt.int_bool a t' b
    | int b => obtain ⟨t, rfl⟩ := rx; exact SeqAt.EqAt.int_int a t' b t
    | str b => obtain ⟨t, rfl⟩ := rx; exact SeqAt.EqAt.int_str a t' b t
    | _ => exact absurd (show false = true from fx) Bool.false_ne_true
  | str a =>
    obtain ⟨t', rfl⟩ := ry
    cases x with
    | non => cases rx; exact SeqAt.EqAt.str_none a t'
    | bl b => cases rx; exact SeqAt.EqAt.str_bool a t' b
    | int b => obtain ⟨t, rfl⟩ := rx; exact SeqAt.EqAt.str_int a t' b t
    | str b => obtain ⟨t, rfl⟩ := rx; exact SeqAt.EqAt.str_str a t' b t
    | _ => exact absurd (show false = true from fx) Bool.false_ne_true
  | _ => exact absurd (show false = true from fy) Bool.false_ne_true
noncomputable def eqU (x : V) (u : Value) : Bool := match u with
  | .none => eqV .non x
  | .bool b => eqV (.bl b) x
  | .int i _ => eqV (.int i) x
  | .str z _ => eqV (.str z) x
  | _ => false
theorem eqU_of {x y : V} {u : Value} (r : RelV y u) (f : flatV y = true) : eqU x u = eqV y x := by
  cases y with
  | non => cases r; rfl
  | bl b => cases r; rfl
  | int i => obtain ⟨t, rfl⟩ := r; rfl
  | str z => obtain ⟨t, rfl⟩ := r; rfl
  | _ => exact absurd (show false = true from f) Bool.false_ne_true
theorem any_eqU {x : V} : ∀ {xs : List V} {us : List Value}, Vals xs us → xs.all flatV = true → us.any (eqU x) = xs.any fun y => eqV y x
  | _, _, .nil, _ => rfl
  | y :: xs, u :: us, .cons r t, f => by
    rw [List.all_cons, Bool.and_eq_true] at f
    rw [List.any_cons, List.any_cons, eqU_of r f.1, any_eqU t f.2]
theorem mem_eqAt {A : Around} {s : Shared} {x : V} {v : Value} (rx : RelV x v) (fx : flatV x = true) : ∀ {xs : List V} {us : List Value}, Vals xs us → xs.all flatV = true → ∀ u ∈ us, SeqAt.EqAt A s u v (eqU x u)
  | _, _, .nil, _ => fun u hu => by cases hu
  | y :: xs, u :: us, .cons r t, f => fun u' hu => by
    rw [List.all_cons, Bool.and_eq_true] at f
    rcases List.mem_cons.mp hu with rfl | hu
    · rw [eqU_of r f.1]; exact eqAt_V r rx f.1 fx
    · exact mem_eqAt rx fx t f.2 u' hu
noncomputable def inV (x : V) (xs : List V) : Bool := xs.any fun y => eqV y x
noncomputable def rIn (K : PySem.W.Frag) (neg : Bool) : R2 := fun x y H Q => ∃ p xs, y = .ref p ∧ (SqL K H p xs ∨ SqT K H p xs) ∧ flatV x = true ∧ xs.all flatV = true ∧ Q (.bl (if neg then !inV x xs else inV x xs)) H
theorem op_in_seq : OpR X (compareOp .In) (rIn X.K false) := by
  intro pins s σ H x y v u Q I rx ry h
  obtain ⟨p, xs, rfl, hq, fx, fs, q⟩ := h
  cases ry
  rcases hq with hq | hq
  · obtain ⟨its, r, pl, hz⟩ := I.list hq
    refine SeqAt.in_listAt (eqU x) pl.isList (fun w hw => mem_eqAt rx fx r fs w (by simpa using hw)) ⟨.bl _, H, I, rfl, ?_⟩
    rw [show its.toArray.any (eqU x) = its.any (eqU x) by simp, any_eqU r fs]
    exact q
  · obtain ⟨its, r, pl, hz⟩ := I.tuple hq
    refine SeqAt.in_tupleAt (eqU x) pl (fun w hw => mem_eqAt rx fx r fs w (by simpa using hw)) ⟨.bl _, H, I, rfl, ?_⟩
    rw [show its.toArray.any (eqU x) = its.any (eqU x) by simp, any_eqU r fs]
    exact q
theorem op_notIn_seq : OpR X (compareOp .NotIn) (rIn X.K true) := by
  intro pins s σ H x y v u Q I rx ry h
  obtain ⟨p, xs, rfl, hq, fx, fs, q⟩ := h
  cases ry
  rcases hq with hq | hq
  · obtain ⟨its, r, pl, hz⟩ := I.list hq
    refine SeqAt.notIn_listAt (eqU x) pl.isList (fun w hw => mem_eqAt rx fx r fs w (by simpa using hw)) ⟨.bl _, H, I, rfl, ?_⟩
    rw [show its.toArray.any (eqU x) = its.any (eqU x) by simp, any_eqU r fs]
    exact q
  · obtain ⟨its, r, pl, hz⟩ := I.tuple hq
    refine SeqAt.notIn_tupleAt (eqU x) pl (fun w hw => mem_eqAt rx fx r fs w (by simpa using hw)) ⟨.bl _, H, I, rfl, ?_⟩
    rw [show its.toArray.any (eqU x) = its.any (eqU x) by simp, any_eqU r fs]
    exact q
theorem call_list_of : CallR X (.type "list") (fun xs H Q => ∃ p ys, xs = [.ref p] ∧ (SqL X.K H p ys ∨ SqT X.K H p ys) ∧ ∀ l, H l = none → Q (.ref l) (upd H l (.lst ys))) := by
  intro pins s σ H xs us Q I r h
  obtain ⟨p, ys, rfl, hq, q⟩ := h
  obtain ⟨u, rfl, rx⟩ := vals1 r
  cases rx
  have fin : ∀ (its : List Value), Vals ys its → ys.length ≤ sizeLine → ∀ (h' : Heap) (c' : Nat), (∀ b o', s.heap.get? b = some o' → h'.get? b = some o') →
      h'.get? s.heap.objs.size = some { cls := .type "list", dict := none, data := .seq its.toArray c', slots := #[] } → EP X pins σ Q (.ref s.heap.objs.size) { s with heap := h' } := fun its r' hz h' c' kp e =>
    ⟨.ref s.heap.objs.size, _, I.laid (t' := s.toks) kp (Nat.le_refl _) (show ObjOk X.prog X.w _ h' _ (.lst ys) from ⟨hz, its, c', r', e⟩), rfl, q _ (I.hok.fresh (Nat.le_refl _))⟩
  rcases hq with hq | hq
  · obtain ⟨its, r', pl, hz⟩ := I.list hq
    have hlen := r'.length
    obtain ⟨o, ho, hc, n, hd⟩ := pl.isList
    exact call_list_seq p (.inl rfl) ho hc hd (fun h' c' kp e => fin its r' hz h' c' kp e) (by simp only [List.size_toArray] <;> omega)
  · obtain ⟨its, r', pl, hz⟩ := I.tuple hq
    have hlen := r'.length
    obtain ⟨o, ho, hc, n, hd⟩ := pl
    exact call_list_seq p (.inr rfl) ho hc hd (fun h' c' kp e => fin its r' hz h' c' kp e) (by simp only [List.size_toArray] <;> omega)
theorem call_tuple_of : CallR X (.type "tuple") (fun xs H Q => ∃ p ys, xs = [.ref p] ∧ ((SqL X.K H p ys ∧ ∀ l, H l = none → Q (.ref l) (upd H l (.tup ys))) ∨ (SqT X.K H p ys ∧ Q (.ref p) H))) := by
  intro pins s σ H xs us Q I r h
  obtain ⟨p, ys, rfl, h⟩ := h
  obtain ⟨u, rfl, rx⟩ := vals1 r
  cases rx
  rcases h with ⟨hq, q⟩ | ⟨hq, q⟩
  · obtain ⟨its, r', pl, hz⟩ := I.list hq
    have hlen := r'.length
    refine call_tuple_list pl.isList (fun h' kp => ?_) (by simp only [List.size_toArray] <;> omega)
    have I1 : Inv X pins σ H { s with heap := h' } := I.kept (t' := s.toks) kp
    have I2 : Inv X pins σ (upd H h'.objs.size (.tup ys)) { s with heap := h'.push { cls := .type "tuple", data := .seq its.toArray } } :=
      I1.laid (t' := s.toks) (fun b o e => Heap.get?_push_of_some _ e) (Nat.le_refl _) (show ObjOk X.prog X.w _ _ _ (.tup ys) from ⟨hz, its, r', IsTup.new _ _⟩)
    exact ⟨.ref h'.objs.size, _, I2, rfl, q _ (I1.hok.fresh (Nat.le_refl _))⟩
  · obtain ⟨its, r', pl, hz⟩ := I.tuple hq
    exact call_tuple_same pl ⟨.ref p, H, I, rfl, q⟩
noncomputable def tyV (K : PySem.W.Frag) (T : String) (x : V) (H : Hp) : Prop := match x with
  | .str _ => T = "str"
  | .int _ => T = "int"
  | .ref p => (T = "list" ∧ ∃ xs, SqL K H p xs) ∨ (T = "tuple" ∧ ∃ o, K.lookup p = some o ∧ o.cls = .type "tuple" ∧ o.dict = none) ∨
      (T = "dict" ∧ ((∃ kvs, H p = some (.dK kvs)) ∨ ∃ kvs, H p = some (.dT kvs))) ∨ (T = "set" ∧ ∃ S n, H p = some (.set S n))
  | _ => False
theorem tyV_is {pins : List (Addr × Obj)} {σ : St} {H : Hp} {s : Shared} {T : String} {x : V} {v : Value} (I : Inv X pins σ H s) (r : RelV x v) (ty : tyV X.K T x H) :
    s.TypeIs v T ∧ ∀ a, v = .ref a → ∃ ob, s.heap.get? a = some ob ∧ ob.dict = none := by
  cases x with
  | str z =>
    obtain ⟨t, rfl⟩ := r
    cases (show T = "str" from ty)
    exact ⟨typeIs_str s z t, fun _ e => nomatch e⟩
  | int i =>
    obtain ⟨t, rfl⟩ := r
    cases (show T = "int" from ty)
    exact ⟨typeIs_int s i t, fun _ e => nomatch e⟩
  | ref p =>
    cases r
    rcases ty with ⟨rfl, xs, hq⟩ | ⟨rfl, o, hk, hc, hd⟩ | ⟨rfl, hk⟩ | ⟨rfl, S, n, hk⟩
    · obtain ⟨its, _, pl, _⟩ := I.list hq
      refine ⟨pl.isList.typeIs, fun a e => ?_⟩
      cases e
      obtain ⟨o, n, e, c, hd, _⟩ := pl
      exact ⟨o, e, hd⟩
    · refine ⟨⟨o, I.kIn p o hk, hc⟩, fun a e => ?_⟩
      cases e
      exact ⟨o, I.kIn _ o hk, hd⟩
    · have z : ∃ o, s.heap.get? p = some o ∧ o.ExactDict := by
        rcases hk with ⟨kvs, hk⟩ | ⟨kvs, hk⟩
        · obtain ⟨_, _, _, _, o, _, _, e, ex, _⟩ := I.hok p _ hk
          exact ⟨o, e, ex⟩
        · obtain ⟨_, _, _, _, o, _, _, e, ex, _⟩ := I.hok p _ hk
          exact ⟨o, e, ex⟩
      obtain ⟨o, e, ex⟩ := z
      refine ⟨⟨o, e, ex.1⟩, fun a e2 => ?_⟩
      cases e2
      exact ⟨o, e, ex.2.1⟩
    · obtain ⟨o, _, _, _, e, ex, _⟩ := I.hok p _ hk
      refine ⟨⟨o, e, ex.1⟩, fun a e2 => ?_⟩
      cases e2
      exact ⟨o, e, ex.2.1⟩
  | _ => exact False.elim ty
variable {o e : Expr} {es : List Expr} {to : TE} {t : TA} {name : Str} {apos cpos : Pos} {T id : String} {r : V → List V → Hp → VK → Prop}
end
end L2
namespace L2
open PySem PySem.Spec PyProof.Rows
noncomputable def MtM (X : Cx) (id : String) (r : V → List V → Hp → VK → Prop) : Prop :=
  ∀ (pins : List (Addr × Obj)) (s : Shared) (σ : St) (H : Hp) (x : V) (xs : List V) (v : Value) (us : List Value) (Q : VK), Inv X pins σ H s → RelV x v → Vals xs us → r x xs H Q →
    wpAny (model X.prog X.w) X.A (call (.builtin id) (v :: us)) (EP X pins σ Q) X.xe s
theorem Vals.one : ∀ {x : V} {us : List Value}, Vals [x] us → ∃ u, us = [u] ∧ RelV x u
  | _, _, .cons r .nil => ⟨_, rfl, r⟩
theorem Vals.eraseIdx : ∀ {xs : List V} {us : List Value} (i : Nat), Vals xs us → Vals (xs.eraseIdx i) (us.eraseIdx i)
  | _, _, _, .nil => .nil
  | _, _, 0, .cons _ t => t
  | _, _, i + 1, .cons r t => .cons r (Vals.eraseIdx i t)
theorem Vals.rep {xs : List V} {us : List Value} (h : Vals xs us) : ∀ k : Nat, Vals (List.replicate k xs).flatten (List.replicate k us).flatten
  | 0 => .nil
  | k + 1 => by
    rw [List.replicate_succ, List.replicate_succ, List.flatten_cons, List.flatten_cons]
    exact Vals.append h (Vals.rep h k)
theorem len_erase {α : Type} : ∀ (l : List α) (i : Nat), (l.eraseIdx i).length ≤ l.length
  | [], _ => Nat.le_refl _
  | _ :: _, 0 => Nat.le_succ _
  | _ :: r, i + 1 => Nat.succ_le_succ (len_erase r i)
theorem foldl_rep (its : List Value) : ∀ (k : Nat) (acc : List Value),
    List.foldl (fun x1 x2 => x1 ++ x2) acc.toArray (List.replicate k its.toArray) = (acc ++ (List.replicate k its).flatten).toArray
  | 0, acc => by simp
  | k + 1, acc => by
    have e : acc.toArray ++ its.toArray = (acc ++ its).toArray := by simp
    have e2 : (acc ++ its) ++ (List.replicate k its).flatten = acc ++ (List.replicate (k + 1) its).flatten := by
      rw [List.replicate_succ, List.flatten_cons, List.append_assoc]
    rw [← e2, ← foldl_rep its k (acc ++ its), ← e, List.replicate_succ, List.foldl_cons]
section
variable {X : Cx} {pins : List (Addr × Obj)} {σ : St} {H : Hp} {s : Shared} {l b : Addr} {xs ys zs : List V}
theorem Inv.lset {its its' : List Value} {n : Nat} {f : Array Value → Array Value} {t' : Nat} (I : Inv X pins σ H s) (hH : H l = some (.lst xs))
    (e : s.heap.get? l = some { cls := .type "list", data := .seq its.toArray n }) (hf : f its.toArray = its'.toArray) (hv : Vals ys its') (hz : ys.length ≤ sizeLine) :
    Inv X pins σ (upd H l (.lst ys)) { s with heap := s.heap.update l (Obj.mapSeq f), toks := t' } := by
  have q := PySem.IsL.update e f
  rw [hf] at q
  refine I.write (x := l) (e := l) (by rw [hH]; exact trivial) (.inl rfl) (fun b' u hb hu => (Heap.get?_update_other s.heap (Obj.mapSeq f) (Ne.symm hb)).trans hu) ⟨_, q⟩ ?_
  exact ⟨hz, its', _, hv, q⟩
theorem Inv.lnew {its : List Value} {t' : Nat} (I : Inv X pins σ H s) (hv : Vals ys its) (hz : ys.length ≤ sizeLine) :
    Inv X pins σ (upd H s.heap.objs.size (.lst ys)) { s with heap := s.heap.push { cls := .type "list", data := .seq its.toArray }, toks := t' } :=
  I.laid (fun _ _ q => Heap.get?_push_of_some _ q) (Nat.le_refl _) ⟨hz, its, 0, hv, Heap.get?_push_size _ rfl⟩
theorem Inv.fresh (I : Inv X pins σ H s) : H s.heap.objs.size = none := I.hok.fresh (Nat.le_refl _)
theorem Inv.lstM (I : Inv X pins σ H s) (hH : H l = some (.lst xs)) : xs.length ≤ sizeLine ∧ ∃ (its : List Value) (n : Nat), Vals xs its ∧ xs.length = its.length ∧ s.heap.get? l = some { cls := .type "list", data := .seq its.toArray n } := by
  obtain ⟨z, its, n, r, e⟩ := I.hok l _ hH
  exact ⟨z, its, n, r, r.length, e⟩
theorem notLongL {n : Nat} (h : n ≤ sizeLine) : Builtin.List.listTooLong n = false := by
  unfold Builtin.List.listTooLong
  exact decide_eq_false (by omega)
end
section
variable {X : Cx}
noncomputable def rAppend : V → List V → Hp → VK → Prop := fun x vs H Q => ∃ l xs y, x = .ref l ∧ vs = [y] ∧ H l = some (.lst xs) ∧ xs.length < sizeLine ∧ Q .non (upd H l (.lst (xs ++ [y])))
theorem mt_append : MtM X "list.append" rAppend := by
  intro pins s σ H x vs v us Q I rx rv h
  obtain ⟨l, xs, y, rfl, rfl, hH, hz, q⟩ := h
  cases rx
  obtain ⟨u, rfl, ru⟩ := rv.one
  obtain ⟨z, its, n, r, hl, e⟩ := I.lstM hH
  refine call_meets F.slot_list_append ⟨_, e, rfl⟩ F.entry_list_append (F.args_list_append_2 _ _) (PySem.list_append l its.toArray n u (by rw [List.size_toArray]; omega)) ⟨e, ?_⟩
  refine ⟨.non, _, I.lset (its' := its ++ [u]) hH e (by simp) (r.append (.cons ru .nil)) ?_, rfl, q⟩
  rw [List.length_append, List.length_singleton]
  omega
noncomputable def rExtend : V → List V → Hp → VK → Prop := fun x vs H Q => ∃ l b xs zs, x = .ref l ∧ vs = [.ref b] ∧ H l = some (.lst xs) ∧ H b = some (.lst zs) ∧ xs.length + zs.length ≤ sizeLine ∧ Q .non (upd H l (.lst (xs ++ zs)))
theorem mt_extend : MtM X "list.extend" rExtend := by
  intro pins s σ H x vs v us Q I rx rv h
  obtain ⟨l, b, xs, zs, rfl, rfl, hH, hB, hz, q⟩ := h
  cases rx
  obtain ⟨u, rfl, ru⟩ := rv.one
  cases ru
  obtain ⟨z, its, n, r, hl, e⟩ := I.lstM hH
  obtain ⟨z2, its2, n2, r2, hl2, e2⟩ := I.lstM hB
  have hsz : its.toArray.size + its2.toArray.size ≤ sizeLine := by rw [List.size_toArray, List.size_toArray]; omega
  have hlong : ¬ (!its.toArray.isEmpty && Builtin.List.listTooLong (its.toArray.size + its2.toArray.size)) = true := by
    rw [notLongL hsz, Bool.and_false]
    exact Bool.false_ne_true
  refine call_meets F.slot_list_extend ⟨_, e, rfl⟩ F.entry_list_extend (F.args_list_extend_2 _ _)
    (AutoSeq1.list_extend_list_list_0 l its.toArray n b its2.toArray n2 hlong (by rw [List.size_toArray]; omega) (by omega)) ⟨e, e2, ?_⟩
  refine ⟨.non, _, I.lset (its' := its ++ its2) hH e (by simp) (r.append r2) ?_, rfl, q⟩
  rw [List.length_append]
  omega
noncomputable def rPopAt : V → List V → Hp → VK → Prop := fun x vs H Q => ∃ l xs i k y, x = .ref l ∧ vs = [.int i] ∧ H l = some (.lst xs) ∧ -(2 ^ 63) ≤ i ∧ i < 2 ^ 63 ∧ seqIndex? i xs.length = some k ∧ xs[k]? = some y ∧ Q y (upd H l (.lst (xs.eraseIdx k)))
theorem mt_popAt : MtM X "list.pop" rPopAt := by
  intro pins s σ H x vs v us Q I rx rv h
  obtain ⟨l, xs, i, k, y, rfl, rfl, hH, h1, h2, hk, hy, q⟩ := h
  cases rx
  obtain ⟨u, rfl, ru⟩ := rv.one
  obtain ⟨t, rfl⟩ := ru
  obtain ⟨z, its, n, r, hl, e⟩ := I.lstM hH
  obtain ⟨w, hw, rw'⟩ := r.get hy
  refine call_meets F.slot_list_pop ⟨_, e, rfl⟩ F.entry_list_pop (F.args_list_pop_2 _ _)
    (MeetsSeq.list_pop_at l its.toArray n i t k w (fitsIndex_both h1 h2) (by rw [List.size_toArray, ← hl]; exact hk) (by rw [← Array.getElem?_toList]; exact hw) (by rw [List.size_toArray]; omega)) ⟨e, ?_⟩
  refine ⟨y, _, I.lset (its' := its.eraseIdx k) hH e ?_ (r.eraseIdx k) ?_, rw', q⟩
  · show its.toArray.eraseIdxIfInBounds k = (its.eraseIdx k).toArray
    rw [List.eraseIdxIfInBounds_toArray]
  · have := len_erase xs k
    omega
noncomputable def rCat : R2 := fun x y H Q => ∃ l b xs zs, x = .ref l ∧ y = .ref b ∧ H l = some (.lst xs) ∧ H b = some (.lst zs) ∧ xs.length + zs.length ≤ sizeLine ∧ ∀ p, H p = none → Q (.ref p) (upd H p (.lst (xs ++ zs)))
theorem op_cat : OpR X (binaryOp .Add) rCat := by
  intro pins s σ H x y v u Q I rx ry h
  obtain ⟨l, b, xs, zs, rfl, rfl, hH, hB, hz, q⟩ := h
  cases rx
  cases ry
  obtain ⟨z, its, n, r, hl, e⟩ := I.lstM hH
  obtain ⟨z2, its2, n2, r2, hl2, e2⟩ := I.lstM hB
  refine PySem.P.add_list e e2 ?_ (by rw [List.size_toArray, List.size_toArray]; omega)
  have ea : its.toArray ++ its2.toArray = (its ++ its2).toArray := by simp
  rw [ea]
  exact ⟨.ref _, _, I.lnew (t' := s.toks) (r.append r2) (by rw [List.length_append]; omega), rfl, q _ I.fresh⟩
noncomputable def rRep : R2 := fun x y H Q => ∃ l k xs, x = .ref l ∧ y = .int k ∧ H l = some (.lst xs) ∧ -(2 ^ 63) ≤ k ∧ k < 2 ^ 63 ∧ xs.length * k.toNat ≤ sizeLine ∧
  ∀ p, H p = none → Q (.ref p) (upd H p (.lst (List.replicate k.toNat xs).flatten))
theorem len_rep {α : Type} (xs : List α) (k : Nat) : (List.replicate k xs).flatten.length = k * xs.length := by
  induction k with
  | zero => simp
  | succ k ih => rw [List.replicate_succ, List.flatten_cons, List.length_append, ih, Nat.succ_mul, Nat.add_comm]
theorem op_rep : OpR X (binaryOp .Mult) rRep := by
  intro pins s σ H x y v u Q I rx ry h
  obtain ⟨l, k, xs, rfl, rfl, hH, h1, h2, hz, q⟩ := h
  cases rx
  obtain ⟨t, rfl⟩ := ry
  obtain ⟨z, its, n, r, hl, e⟩ := I.lstM hH
  have hlen : its.toArray.size * k.toNat ≤ sizeLine := by rw [List.size_toArray, ← hl]; exact hz
  have hcap : ¬ its.toArray.size * k.toNat > (2 ^ 63 - 1) / 8 := by
    have : (sizeLine : Nat) ≤ (2 ^ 63 - 1) / 8 := by decide
    omega
  have hfit : ¬ (!Builtin.List.listFitsIndex k) = true := by
    rw [fitsIndex_both h1 h2]
    exact Bool.false_ne_true
  have hlong : ¬ Builtin.List.listTooLong (its.toArray.size * k.toNat) = true := by
    rw [notLongL hlen]
    exact Bool.false_ne_true
  have hnew : List.foldl (fun x1 x2 => x1 ++ x2) #[] (List.replicate (if its.toArray.isEmpty = true then 0 else k.toNat) its.toArray) = (List.replicate k.toNat its).flatten.toArray := by
    have f0 : ∀ m : Nat, List.foldl (fun x1 x2 => x1 ++ x2) #[] (List.replicate m its.toArray) = (List.replicate m its).flatten.toArray := fun m => by
      have := foldl_rep its m []
      rw [List.nil_append] at this
      exact this
    rw [f0]
    cases its with
    | nil => simp
    | cons a r' => rw [if_neg (by simp)]
  refine wpAny_binaryOp_repeat_ref (T := "list") (U := "int") (by decide) ⟨_, e, rfl⟩ (fun s' => typeIs_int s' k t) noFill_list_mul F.fills_int_mul F.slot_int_rmul repeat_list F.slot_int_index.lookup
    (call_meets F.slot_int_rmul (typeIs_int s k t) F.entry_int_rmul (F.args_int_rmul_2 _ _) (int___rmul___int_list k t l its.toArray n)
      ⟨e, rfl, ⟨_, e, rfl⟩, call_meets F.slot_list_mul ⟨_, e, rfl⟩ F.entry_list_mul (F.args_list_mul_2 _ _) (AutoListH.list___mul___list_int_3 l its.toArray n k t hfit hcap hlong) ⟨e, ?_⟩⟩)
  rw [hnew]
  exact ⟨.ref _, _, I.lnew (t' := s.toks) (r.rep k.toNat) (by rw [len_rep, Nat.mul_comm]; exact hz), rfl, q _ I.fresh⟩
end
section
variable {prog : Program} {w : World} {A : Around} {E : Value → Shared → Prop} {s : Shared}
end
section
variable {X : Cx}
end
end L2
namespace L2
open PySem PySem.Spec PyProof.Rows
section
variable {κ : Type} [DecidableEq κ]
end
section
variable {P : Program} {w : World} {H : Hp} {h : Heap} {a : Addr}
end
section
variable {X : Cx} {pins : List (Addr × Obj)} {σ : St} {H : Hp} {s : Shared} {a : Addr} {y v : V} {u r : Value} {o : Option V} {A : Around} {E : Value → Shared → Prop}
theorem Inv.big (I : Inv X pins σ H s) : sysModules < s.heap.objs.size := by
  have h : mainGlobals < s.heap.objs.size := (I.mod.glob.keeps I.bk).lt
  exact Nat.lt_trans (by decide) h
theorem d_write {h' : Heap} {t' : Nat} {ob : HO} (I : Inv X pins σ H s) (mu : Mut (H a)) (hs : Heap.SameBut a s.heap h') (he : ∃ q, h'.get? a = some q) (new : ObjOk X.prog X.w (upd H a ob) h' a ob) :
    Inv X pins σ (upd H a ob) { s with heap := h', toks := t' } :=
  I.write (x := a) (e := a) mu (.inl rfl) (fun b q hb z => (hs.2 b hb).trans z) he new
end
section
variable {X : Cx} {pins : List (Addr × Obj)} {σ : St} {H : Hp} {s : Shared} {a : Addr} {kvs : List (Key × V)} {k : Key} {u : Value} {A : Around} {E : Value → Shared → Prop}
end
section
variable {X : Cx} {o i e value : Expr} {pos pos' tpos : Pos} {td ty tv : TE}
end
section
variable {X : Cx} {pos : Pos}
end
noncomputable abbrev VV : List (V × V) → List (Value × Value) → Prop := Paired fun p q => RelV p.1 q.1 ∧ RelV p.2 q.2
section
variable {X : Cx} {pins : List (Addr × Obj)} {σ : St} {H : Hp} {s : Shared} {a : Addr} {y d : V} {u r : Value} {o : Option V} {A : Around} {E : Value → Shared → Prop}
end
section
variable {X : Cx} {o e f : Expr} {apos cpos : Pos} {td ty tx : TE}
end
section
variable {X : Cx} {pins : List (Addr × Obj)} {σ : St} {H : Hp} {s : Shared} {a : Addr} {kvs : List (Key × V)} {A : Around} {E : Value → Shared → Prop}
end
section
variable {X : Cx} {pins : List (Addr × Obj)} {σ : St} {H : Hp} {s : Shared} {a : Addr} {y : V} {u : Value} {A : Around} {E : Value → Shared → Prop}
end
end L2
namespace Att
open PySem PySem.W PySem.Calls PyProof.Rows
theorem ints_of_wellAll {P : Params} {h : Heap} : ∀ (ns : List Int) (vs : List Value), WellAll P h vs (ns.map WData.int) → IntsAre vs ns := by
  intro ns
  induction ns with
  | nil =>
    intro vs w
    rw [List.map_nil] at w
    cases w
    exact .nil
  | cons n ns ih =>
    intro vs w
    rw [List.map_cons] at w
    cases w with
    | cons a b =>
      cases a
      exact .cons _ _ (ih _ b)
theorem script_of {l : OpenLaw} {n : Nat} (hn : l.most = some n) {P : Params} {h : Heap} {args : List WData} {vals : List Value}
    (hpre : l.row.toRowW.claim.pre args = true) (hwl : WellAll P h vals args) :
    ∃ a vs ns, vals = [Value.ref a] ∧ args = [WData.list (ns.map WData.int)] ∧ h.get? a = some { cls := .type "list", data := .seq vs.toArray } ∧ IntsAre vs ns ∧ ns.length ≤ n := by
  have hsh : WShape.hasAll [] args [.list .int] = true := (pre_splitW hpre).1
  have hc : l.pre.holds [] { args := args } = true := (pre_splitW hpre).2
  obtain ⟨d, r, rfl, h1, h2⟩ := hasAllW_cons hsh
  obtain rfl := hasAllW_nil h2
  obtain ⟨xs, rfl, h3⟩ := hasW_list h1
  obtain ⟨ns, rfl⟩ := items_int h3
  have hlen : ns.length ≤ n := by
    unfold OpenLaw.pre at hc
    have h4 : (WTm.not (.lt (.lit (.int (n : Int))) (.len (.arg 0)))).holds [] { args := [.list (ns.map .int)] } = true := by
      have h4 := (holds_andW hc).1
      rw [hn] at h4
      exact h4
    have h5 := condW_of h4 (w_not (w_lt w_lit (w_len_list (w_arg rfl))))
    rw [List.length_map] at h5
    refine Nat.le_of_not_lt fun q => ?_
    have q' : (n : Int) < ((ns.length : Nat) : Int) := by omega
    first
      | (rw [decide_eq_true q'] at h5; exact absurd h5 (by decide))
      | (simp at h5; omega)
  cases hwl with
  | cons w1 w2 =>
    cases w2
    cases w1 with
    | list ho hall => exact ⟨_, _, ns, rfl, rfl, ho, ints_of_wellAll ns _ hall, hlen⟩
theorem post_true (l : OpenLaw) (args : List WData) : l.row.toRowW.claim.post args (.bool true) args = true :=
  postW_of (r := l.row.toRowW) (X := (true == true))
    (show WShape.has [] (.bool true) .bool = true by first | rfl | decide | simp [WShape.has, WShape.arms, WShape.armsAll])
    (show (WTm.eq .res (.lit (.bool true))).value [] { args := args, res := some (.bool true), after := args } = some (.bool (true == true)) from w_eq_bool (w_res rfl) w_lit) rfl
theorem attach_call {l : OpenLaw} {n : Nat} {q : Program} {loose : List Str} {XP : (Str → Option Value) → Heap → Prop} {YP : World → Heap → Prop} {d : DefRec}
    (hn : l.most = some n) (hdf : d.params.defaults = [])
    (call : ∀ (w : World) (s₀ s₁ : Shared) (mg mb : Str → Option Value) (fa : Addr) (o : Obj) (pm cd doc : Value) (a : Addr) (vs : List Value) (ns : List Int),
      Ground q loose [] XP w s₀ mg mb s₁.heap → YP w s₁.heap →
      s₁.heap.get? fa = some o → o.data = .func (docDef d.name d.params d.body d.scope pm cd doc) → s₁.heap.CodeRec cd d.name → mg d.name = some (.ref fa) →
      s₁.heap.get? a = some { cls := .type "list", data := .seq vs.toArray } → IntsAre vs ns → ns.length ≤ n → s₁.gens = #[] →
      codeAny (model l.prog w) callerA (.call (.ref fa) ⟨[.ref a], []⟩) (fun r s' => r = .ok (.ret (.bool true)) ∧ OldK s₁.heap s'.heap ∧ s'.os = s₁.os ∧ AllBare s'.gens) s₁) :
    WalkO q loose XP YP l.row.toRowW d [] (fun f vs => PySem.call f vs) := by
  intro w s₀ s₁ mg mb G Y fa o pm cd doc dV kV ho hd hcd hD hmg hg args vals as hpre hlay hrd hwl hlo
  obtain rfl : dV = .none := Dflts.none hD hdf
  obtain rfl : kV = .none := Dflts.noKw hD
  obtain ⟨a, vs, ns, rfl, rfl, hobj, hints, hlen⟩ := script_of hn hpre hwl
  refine enter_call (codeAny_mono (call w s₀ s₁ mg mb fa o pm cd doc a vs ns G Y ho (fd_plain hd) hcd hmg hobj hints hlen hg) fun r s' hq => ?_)
  obtain ⟨rfl, h2, h3, h4⟩ := hq
  exact ⟨.inl ⟨.bool true, .bool true, [], rfl, fun _ => rfl, .bool true, post_true l _, fun _ => ⟨List.Pairwise.nil, fun _ hm => (nomatch hm)⟩⟩, h2, h3, h4⟩
section
variable {prog : Program} {w : World} {A : Around} {E : Value → Shared → Prop} {s : Shared} {K : Frag}
end
end Att
namespace L2
open PySem PySem.Spec PyProof.Rows
theorem vals_ints : ∀ {vs : List Value} {ns : List Int}, IntsAre vs ns → Vals (ns.map V.int) vs
  | _, _, .nil => .nil
  | _, _, .cons n t h => .cons ⟨t, rfl⟩ (vals_ints h)
noncomputable def Only (H : Hp) : Prop := ∀ b, H b = none ∨ ∃ o xs, H b = some (.frz o (.lst xs))
theorem law_call {P : Program} {w : World} {K : PySem.W.Frag} {mg mb : Str → Option Value} {CX : CXT} {k : Nat} {fa a : Addr} {fd : FuncData} {x : Str} {sp : Sp} {s₁ : Shared} {vs : List Value} {ns : List Int}
    (KX : K.In s₁.heap) (hns : s₁.heap.Ns mainGlobals mg) (hb : s₁.heap.Ns builtinsNs mb) (hbb : ∀ x : Str, x ≠ "__name__" → mb x = bootBuiltins x) (hlim : s₁.heap.NoLimit) (hg : s₁.gens = #[])
    (ha : s₁.heap.get? a = some { cls := .type "list", data := .seq vs.toArray }) (hi : IntsAre vs ns) (hl : ns.length ≤ sizeLine) (hr : Room k callerA)
    (F : ∀ base : Heap, K.In base → base.Ns mainGlobals mg → FnOk P w K mg base CX k fa fd [x] sp) (hbind : ∀ (s : Shared) (u : Value), BindsTo s fd ⟨[u], []⟩ [(x, u)])
    (hsp : ∀ H : Hp, Only H → SqL K H a (ns.map V.int) → sp [.ref a] H (fun v _ => v = .bl true) fun _ _ _ => False)
    (hCX : ∀ H e s', CX [] H s₁ (fun _ _ _ => False) e s' → False) :
    codeAny (model P w) callerA (.call (.ref fa) ⟨[.ref a], []⟩) (fun r s' => r = .ok (.ret (.bool true)) ∧ OldK s₁.heap s'.heap ∧ s'.os = s₁.os ∧ AllBare s'.gens) s₁ := by
  have rv := vals_ints hi
  have lenV := hi.length
  have core : ∀ H : Hp, Only H → SqL K H a (ns.map V.int) → HOk P w H s₁.heap → (∀ b, H b ≠ none → b = a) → (H a ≠ none → K.lookup a = none) →
      codeAny (model P w) callerA (.call (.ref fa) ⟨[.ref a], []⟩) (fun r s' => r = .ok (.ret (.bool true)) ∧ OldK s₁.heap s'.heap ∧ s'.os = s₁.os ∧ AllBare s'.gens) s₁ := by
    intro H hO hS hok hA hK
    have base_of : ∀ {b : Addr} {o : Obj}, s₁.heap.get? b = some o → H b = none → (hidT s₁.heap H).get? b = some o := fun e n => hidT_get e n
    have noA : ∀ {b : Addr} {o : Obj} {es : Array DictEntry} {ep : Nat}, s₁.heap.get? b = some o → o.data = .dict es ep → H b = none := fun {b o es ep} e d => by
      cases q : H b with
      | none => rfl
      | some u =>
        have e' : b = a := hA b (by rw [q]; simp)
        subst e'
        rw [ha] at e; cases e
        have d' : Data.seq vs.toArray _ = Data.dict es ep := d
        cases d'
    have nsK : ∀ {b : Addr} {m : Str → Option Value}, s₁.heap.Ns b m → (hidT s₁.heap H).Ns b m := fun {b m} ⟨o, es, ep, e, d, r⟩ => ⟨o, es, ep, base_of e (noA e d), d, r⟩
    have hKb : K.In (hidT s₁.heap H) := fun b o e => base_of (KX b o e) (by
      cases q : H b with
      | none => rfl
      | some u =>
        have e' : b = a := hA b (by rw [q]; simp)
        subst e'
        rw [hK (by rw [q]; simp)] at e; cases e)
    have hM : Mod K mg (hidT s₁.heap H) := ⟨hKb, nsK hns, ⟨mb, nsK hb, hbb⟩, let ⟨mc, h1, h2⟩ := hlim; ⟨mc, nsK h1, h2⟩⟩
    have e0 : Env0 P w K mg (hidT s₁.heap H) callerA [] s₁ H := ⟨rfl, hM, fun b o e => of_hidT e, Nat.le_of_eq (hidT_size _ _), trivial, fun b hb => absurd (show b ∈ ([] : List Addr) from hb) (by simp), hok, .of_eq hg⟩
    refine codeAny_mono ((F _ hKb (nsK hns)).run callerA [] s₁ H ⟨[.ref a], []⟩ [.ref a] [.ref a] _ _ hr e0 (hbind s₁ (.ref a)) (.cons rfl .nil) (hsp H hO hS)) fun r s' h => ?_
    cases r with
    | error e => exact (hCX H e s' h).elim
    | ok fl =>
      cases fl with
      | next => exact False.elim h
      | brk => exact False.elim h
      | cont => exact False.elim h
      | ret u =>
        obtain ⟨v, H', os, bare, un, hok', r', q⟩ := h
        have q' : v = .bl true := q
        subst q'
        obtain rfl : u = Value.bool true := r'
        refine ⟨rfl, OldK.of_keep fun b o e => ?_, os, bare⟩
        cases q : H b with
        | none => exact un.keep b o e q (by intro z; exact absurd (show b ∈ ([] : List Addr) from z) (by simp)) (by simp)
        | some u =>
          rcases hO b with z | ⟨ob, xs, z⟩
          · rw [q] at z; cases z
          · have z2 := un.frzs b ob _ z
            obtain ⟨e1, _⟩ := hok b _ z
            obtain ⟨e2, _⟩ := hok' b _ z2
            rw [e] at e1; cases e1
            exact e2
  cases hk : K.lookup a with
  | some o =>
    have e := KX a o hk
    rw [ha] at e
    cases e
    refine core (fun _ => none) (fun _ => .inl rfl) (.inr ⟨_, vs.toArray, _, hk, rfl, rfl, rfl, by rw [List.size_toArray, lenV]; exact hl, by simpa using rv⟩) (fun b u z => by have z' : (none : Option HO) = some u := z; cases z') (fun b z => absurd rfl z) fun z => absurd rfl z
  | none =>
    refine core (fun b => if b = a then some (.frz { cls := .type "list", data := .seq vs.toArray } (.lst (ns.map V.int))) else none) (fun b => ?_) (.inl (.inr ⟨{ cls := .type "list", data := .seq vs.toArray }, if_pos rfl⟩)) (fun b u z => ?_) (fun b z => ?_) fun _ => hk
    · by_cases hb : b = a
      · exact .inr ⟨_, _, if_pos hb⟩
      · exact .inl (if_neg hb)
    · by_cases hb : b = a
      · have z' := (if_pos hb).symm.trans z
        cases z'
        subst hb
        exact ⟨ha, by rw [List.length_map]; exact hl, vs, _, rv, ha⟩
      · have z' := (if_neg hb).symm.trans z
        cases z'
    · by_cases hb : b = a
      · exact hb
      · exact absurd (if_neg hb) z
end L2
namespace L2
open PySem PySem.Spec PyProof.Rows
theorem walk_of {l : PySem.W.OpenLaw} {n k : Nat} {q : Program} {loose : List Str} {XP : (Str → Option Value) → Heap → Prop} {YP : World → Heap → Prop} {d : DefRec} {K : Params → PySem.W.Frag} {CX : World → CXT} {sp : World → Sp} {x : Str}
    (hn : l.most = some n) (hn2 : n ≤ sizeLine) (hdf : d.params.defaults = []) (hr : Room k callerA)
    (hY : ∀ (w : World) (h : Heap), YP w h → (K w.params).In h)
    (F : ∀ (w : World) (mg : Str → Option Value) (fa : Addr) (h : Heap), (K w.params).In h → h.Ns mainGlobals mg → mg d.name = some (.ref fa) →
      ∃ fd : FuncData, (∀ (s : Shared) (u : Value), BindsTo s fd ⟨[u], []⟩ [(x, u)]) ∧
        ∀ base : Heap, (K w.params).In base → base.Ns mainGlobals mg → FnOk l.prog w (K w.params) mg base (CX w) k fa fd [x] (sp w))
    (hsp : ∀ (w : World) (H : Hp) (a : Addr) (ns : List Int), ns.length ≤ n → Only H → SqL (K w.params) H a (ns.map V.int) → sp w [.ref a] H (fun v _ => v = .bl true) fun _ _ _ => False)
    (hCX : ∀ (w : World) (H : Hp) (s : Shared) (e : Value) (s' : Shared), CX w [] H s (fun _ _ _ => False) e s' → False) :
    PySem.W.WalkO q loose XP YP l.row.toRowW d [] (fun f vs => PySem.call f vs) := by
  refine Att.attach_call hn hdf fun w s₀ s₁ mg mb fa o pm cd doc a vs ns G Y ho hd hcd hmg hobj hints hlen hg => ?_
  have KX := hY w _ Y
  obtain ⟨fd, hb, hF⟩ := F w mg fa _ KX G.T.g hmg
  exact law_call KX G.T.g G.T.b G.T.builtins G.T.nolimit hg hobj hints (Nat.le_trans hlen hn2) hr hF hb (fun H hO hS => hsp w H a ns hlen hO hS) fun H e s' => hCX w H s₁ e s'
end L2
namespace L2
open PySem PySem.Spec PyProof.Rows
noncomputable def defArgs (s : Stmt) : Arguments := match s with
  | .FunctionDef _ a _ _ _ _ _ _ _ _ => a
  | _ => { posonlyargs := [], args := [], vararg := none, kwonlyargs := [], kw_defaults := [], kwarg := none, defaults := [] }
noncomputable def defBody (s : Stmt) : List Stmt := match s with
  | .FunctionDef _ _ b _ _ _ _ _ _ _ => b
  | _ => []
noncomputable def defScope (s : Stmt) : Scope := match s with
  | .FunctionDef _ _ _ _ _ _ sc _ _ _ => sc
  | _ => { kind := .function, names := [], isGenerator := false, isCoroutine := false }
noncomputable abbrev CX0 : CXT := fun _ _ _ _ _ _ => False
noncomputable abbrev E0 : XK := fun _ _ _ => False
theorem pass0 {X : Cx} : Passes CX0 X E0 := fun _ _ _ _ _ _ _ h => h.elim
structure Fun (K : PySem.W.Frag) (x qual : Str) (st : Stmt) (f : Addr) (fd : FuncData) : Prop where
  ex : ∃ (oc : Value) (od : Option Addr) (kV doc pm : Value) (an : Option Addr) (cdv ct : Value) (osl : Array (Option Value)),
    fd = PySem.W.fnOf x qual (defArgs st) (defBody st) (defScope st) .none kV doc pm an cdv ct ∧ K.lookup f = some ⟨oc, od, .func fd, osl⟩ ∧ PySem.W.codeIn K cdv qual = true
  kp : PySem.W.keepIn K (.ref f) = true
section
variable {P : Program} {w : World} {K : PySem.W.Frag} {mg : Str → Option Value} {base : Heap}
theorem Fun.ok {x qual : Str} {st : Stmt} {f : Addr} {fd : FuncData} {N ps : List Str} {k : Nat} {sp : Sp} (F : Fun K x qual st f fd) (S : FnScope N ps (defScope st)) (len : ∀ vs H Q E, sp vs H Q E → vs.length = ps.length)
    (hbody : ∀ (cdv : Value) (A : Around) (outer : List Env) (s : Shared) (H : Hp) (vs : List V) (Q : VK) (E : XK), Room k (A.deeper (envOfC qual (defScope st) s.heap.objs.size f cdv)) → sp vs H Q E →
      ∃ t, PSs (cxOf CX0 P w K mg base N qual (defScope st) f cdv A outer s H E).nox (defBody st) t ∧ t { nx := fun _ H' => Q .non H', rt := Q } (start N vs) H) : FnOk P w K mg base CX0 (k + 1) f fd ps sp := by
  obtain ⟨oc, od, kV, doc, pm, an, cdv, ct, osl, rfl, lk, hcd⟩ := F.ex
  refine fn_of lk hcd S len fun A outer s H vs Q E hr hsp => ?_
  obtain ⟨t, h, q⟩ := hbody cdv A outer s H vs Q E hr hsp
  exact ⟨t, h.nox, q⟩
theorem Fun.binds {x qual : Str} {st : Stmt} {f : Addr} {fd : FuncData} {ps : List Str} (F : Fun K x qual st f fd)
    (h : ∀ (kV doc pm : Value) (an : Option Addr) (cdv ct : Value) (us : List Value), us.length = ps.length → bindArgs (PySem.W.fnOf x qual (defArgs st) (defBody st) (defScope st) .none kV doc pm an cdv ct) ⟨us, []⟩ = pure (ps.zip us)) : Binds K fd ps [] := by
  obtain ⟨oc, od, kV, doc, pm, an, cdv, ct, osl, rfl, lk, hcd⟩ := F.ex
  exact .all (h kV doc pm an cdv ct)
theorem fun_mk {x qual : Str} {st : Stmt} {f : Addr} {oc : Value} {od an : Option Addr} {osl : Array (Option Value)} {kV doc pm cdv ct : Value} (l : K.lookup f = some ⟨oc, od, .func (PySem.W.fnOf x qual (defArgs st) (defBody st) (defScope st) .none kV doc pm an cdv ct), osl⟩)
    (c : PySem.W.codeIn K cdv qual = true) (k : PySem.W.keepIn K (.ref f) = true) : Fun K x qual st f (PySem.W.fnOf x qual (defArgs st) (defBody st) (defScope st) .none kV doc pm an cdv ct) := ⟨⟨oc, od, kV, doc, pm, an, cdv, ct, osl, rfl, l, c⟩, k⟩
end
section
variable {X : Cx}
end
end L2
set_option Elab.async false
set_option linter.all false
set_option maxRecDepth 100000
namespace Mi
open PySem PySem.Spec PyProof.Rows L2
inductive W where
  | non | bl (b : Bool) | int (i : Int) | str (x : Str) | tup (xs : List W) | ref (i : Nat)
inductive T where
  | int (i : Int) | str (x : Str) | tup (xs : List T)
mutual
noncomputable def T.beq : T → T → Bool
  | .int i, .int j => i == j
  | .str x, .str y => x == y
  | .tup xs, .tup ys => T.beqs xs ys
  | _, _ => false
noncomputable def T.beqs : List T → List T → Bool
  | [], [] => true
  | x :: xs, y :: ys => T.beq x y && T.beqs xs ys
  | _, _ => false
end
mutual
theorem T.beq_iff : ∀ x y : T, T.beq x y = true ↔ x = y
  | .int i, .int j => by simp [T.beq]
  | .str x, .str y => by simp [T.beq]
  | .tup xs, .tup ys => by simp [T.beq, T.beqs_iff xs ys]
  | .int _, .str _ | .int _, .tup _ | .str _, .int _ | .str _, .tup _ | .tup _, .int _ | .tup _, .str _ => by simp [T.beq]
theorem T.beqs_iff : ∀ xs ys : List T, T.beqs xs ys = true ↔ xs = ys
  | [], [] => by simp [T.beqs]
  | x :: xs, y :: ys => by simp [T.beqs, T.beq_iff x y, T.beqs_iff xs ys]
  | [], _ :: _ | _ :: _, [] => by simp [T.beqs]
end
noncomputable instance : DecidableEq T := fun x y => decidable_of_iff (T.beq x y = true) (T.beq_iff x y)
mutual
noncomputable def T.w : T → W
  | .int i => .int i
  | .str x => .str x
  | .tup xs => .tup (T.ws xs)
noncomputable def T.ws : List T → List W
  | [] => []
  | x :: xs => T.w x :: T.ws xs
end
mutual
noncomputable def W.t : W → Option T
  | .int i => some (.int i)
  | .str x => some (.str x)
  | .tup xs => (W.ts xs).map .tup
  | _ => none
noncomputable def W.ts : List W → Option (List T)
  | [] => some []
  | x :: xs => match W.t x, W.ts xs with
    | some y, some ys => some (y :: ys)
    | _, _ => none
end
mutual
theorem W.t_w : ∀ {w : W} {k : T}, W.t w = some k → k.w = w
  | .int i, _, h => by cases h; rfl
  | .str x, _, h => by cases h; rfl
  | .tup xs, _, h => by
    simp only [W.t, Option.map_eq_some_iff] at h
    obtain ⟨ks, h1, h2⟩ := h
    subst h2
    simp only [T.w, W.ts_w h1]
  | .non, _, h | .bl _, _, h | .ref _, _, h => by cases h
theorem W.ts_w : ∀ {ws : List W} {ks : List T}, W.ts ws = some ks → T.ws ks = ws
  | [], _, h => by cases h; rfl
  | w :: ws, _, h => by
    simp only [W.ts] at h
    split at h
    · rename_i y ys h1 h2
      cases h
      simp only [T.ws, W.t_w h1, W.ts_w h2]
    · cases h
end
mutual
theorem T.w_t : ∀ k : T, W.t k.w = some k
  | .int _ => rfl
  | .str _ => rfl
  | .tup xs => by simp only [T.w, W.t, T.ws_ts xs, Option.map_some]
theorem T.ws_ts : ∀ ks : List T, W.ts (T.ws ks) = some ks
  | [] => rfl
  | x :: xs => by simp only [T.ws, W.ts, T.w_t x, T.ws_ts xs]
end
mutual
noncomputable def T.depth : T → Nat
  | .tup xs => T.depths xs + 1
  | _ => 0
noncomputable def T.depths : List T → Nat
  | [] => 0
  | x :: xs => max (T.depth x) (T.depths xs)
end
mutual
noncomputable def T.draws : T → Nat
  | .tup xs => T.drawss xs + 1
  | _ => 1
noncomputable def T.drawss : List T → Nat
  | [] => 0
  | x :: xs => T.draws x + T.drawss xs
end
mutual
noncomputable def hashT (wd : World) : T → Int
  | .int i => hashInt i
  | .str x => hashStr wd x
  | .tup xs => reduceHash (Builtin.Tuple.tupleHashOf (hashTs wd xs))
noncomputable def hashTs (wd : World) : List T → List Int
  | [] => []
  | x :: xs => hashT wd x :: hashTs wd xs
end
noncomputable def T.isTup : T → Bool
  | .tup _ => true
  | _ => false
noncomputable def keyLim : Nat := 6
inductive O where
  | lst (xs : List W)
  | fro (xs : List W)
  | dic (kvs : List (T × W))
  | frd (kvs : List (T × W))
noncomputable abbrev Store := List O
noncomputable abbrev Fm := List (Option W)
section
variable (K : PySem.W.Frag) (A : List Addr) (H : Hp)
mutual
inductive Rel : W → V → Prop
  | non : Rel .non .non
  | bl {b : Bool} : Rel (.bl b) (.bl b)
  | int {i : Int} : Rel (.int i) (.int i)
  | str {x : Str} : Rel (.str x) (.str x)
  | tup {ws : List W} {a : Addr} {vs : List V} : SqT K H a vs → RelL ws vs → Rel (.tup ws) (.ref a)
  | ref {i : Nat} {a : Addr} : A[i]? = some a → Rel (.ref i) (.ref a)
inductive RelL : List W → List V → Prop
  | nil : RelL [] []
  | cons {w : W} {v : V} {ws : List W} {vs : List V} : Rel w v → RelL ws vs → RelL (w :: ws) (v :: vs)
end
end
section
variable {K : PySem.W.Frag} {A A' A'' : List Addr} {H H' H'' : Hp}
structure Ext (K : PySem.W.Frag) (A : List Addr) (H : Hp) (A' : List Addr) (H' : Hp) : Prop where
  ad : ∀ (i : Nat) (a : Addr), A[i]? = some a → A'[i]? = some a
  tp : ∀ (a : Addr) (vs : List V), SqT K H a vs → SqT K H' a vs
  fz : ∀ (a : Addr) (o : Obj) (u : HO), H a = some (.frz o u) → H' a = some (.frz o u)
theorem Ext.refl : Ext K A H A H := ⟨fun _ _ h => h, fun _ _ h => h, fun _ _ _ h => h⟩
theorem Ext.trans (e : Ext K A H A' H') (f : Ext K A' H' A'' H'') : Ext K A H A'' H'' := ⟨fun i a h => f.ad i a (e.ad i a h), fun a vs h => f.tp a vs (e.tp a vs h), fun a o u h => f.fz a o u (e.fz a o u h)⟩
mutual
theorem Rel.mono (e : Ext K A H A' H') : ∀ {w : W} {v : V}, Rel K A H w v → Rel K A' H' w v
  | _, _, .non => .non
  | _, _, .bl => .bl
  | _, _, .int => .int
  | _, _, .str => .str
  | _, _, .tup h r => .tup (e.tp _ _ h) (RelL.mono e r)
  | _, _, .ref h => .ref (e.ad _ _ h)
theorem RelL.mono (e : Ext K A H A' H') : ∀ {ws : List W} {vs : List V}, RelL K A H ws vs → RelL K A' H' ws vs
  | _, _, .nil => .nil
  | _, _, .cons r t => .cons (Rel.mono e r) (RelL.mono e t)
end
theorem RelL.length : ∀ {ws : List W} {vs : List V}, RelL K A H ws vs → ws.length = vs.length
  | _, _, .nil => rfl
  | _, _, .cons _ t => by simp [RelL.length t]
theorem RelL.get : ∀ {ws : List W} {vs : List V} {i : Nat} {w : W}, RelL K A H ws vs → ws[i]? = some w → ∃ v, vs[i]? = some v ∧ Rel K A H w v
  | _, _, _, _, .nil, e => by simp at e
  | _, _, 0, _, .cons r _, e => by simp at e; subst e; exact ⟨_, rfl, r⟩
  | _, _, i + 1, w, .cons _ t, e => by
    obtain ⟨u, h1, h2⟩ := RelL.get (i := i) (w := w) t (by simpa using e)
    exact ⟨u, by simpa using h1, h2⟩
theorem RelL.append : ∀ {xs ys : List W} {us ws : List V}, RelL K A H xs us → RelL K A H ys ws → RelL K A H (xs ++ ys) (us ++ ws)
  | _, _, _, _, .nil, s => s
  | _, _, _, _, .cons r t, s => .cons r (RelL.append t s)
theorem RelL.take : ∀ {xs : List W} {us : List V} (n : Nat), RelL K A H xs us → RelL K A H (xs.take n) (us.take n)
  | _, _, 0, _ => .nil
  | _, _, _ + 1, .nil => .nil
  | _, _, n + 1, .cons r t => .cons r (RelL.take n t)
theorem RelL.drop : ∀ {xs : List W} {us : List V} (n : Nat), RelL K A H xs us → RelL K A H (xs.drop n) (us.drop n)
  | _, _, 0, r => r
  | _, _, _ + 1, .nil => .nil
  | _, _, n + 1, .cons _ t => RelL.drop n t
theorem RelL.set {x : W} {u : V} (r : Rel K A H x u) : ∀ {xs : List W} {us : List V} (i : Nat), RelL K A H xs us → RelL K A H (xs.set i x) (us.set i u)
  | _, _, _, .nil => .nil
  | _, _, 0, .cons _ t => .cons r t
  | _, _, i + 1, .cons q t => .cons q (RelL.set r i t)
theorem RelL.rep {xs : List W} {us : List V} (h : RelL K A H xs us) : ∀ k : Nat, RelL K A H (List.replicate k xs).flatten (List.replicate k us).flatten
  | 0 => .nil
  | k + 1 => by
    rw [List.replicate_succ, List.replicate_succ, List.flatten_cons, List.flatten_cons]
    exact RelL.append h (RelL.rep h k)
theorem RelL.eraseIdx : ∀ {xs : List W} {us : List V} (i : Nat), RelL K A H xs us → RelL K A H (xs.eraseIdx i) (us.eraseIdx i)
  | _, _, _, .nil => .nil
  | _, _, 0, .cons _ t => t
  | _, _, i + 1, .cons r t => .cons r (RelL.eraseIdx i t)
noncomputable def FroL (K : PySem.W.Frag) (H : Hp) (a : Addr) (vs : List V) : Prop :=
  (∃ o, H a = some (.frz o (.lst vs))) ∨
    ∃ (o : Obj) (its : Array Value) (n : Nat), K.lookup a = some o ∧ o.cls = .type "list" ∧ o.dict = none ∧ o.data = .seq its n ∧ its.size ≤ sizeLine ∧ Vals vs its.toList
theorem FroL.sq {a : Addr} {vs : List V} (h : FroL K H a vs) : SqL K H a vs := by
  rcases h with ⟨o, h⟩ | h
  · exact .inl (.inr ⟨o, h⟩)
  · exact .inr h
noncomputable def entT (wd : World) (x : T × Addr × Value) : DictEntry := ⟨hashT wd x.1, .ref x.2.1, x.2.2⟩
noncomputable def DicAt (wd : World) (a : Addr) (xs : List (T × Addr × Value)) (h : Heap) : Prop :=
  xs.length ≤ sizeLine ∧ (a == sysModules) = false ∧ (xs.map (·.1)).Nodup ∧ ∃ o es ep, h.get? a = some o ∧ o.ExactDict ∧ o.data = .dict es ep ∧ es.toList = xs.map (entT wd)
noncomputable def dicO (wd : World) (a : Addr) (xs : List (T × Addr × Value)) : HO := .ext (DicAt wd a xs)
noncomputable def KRel (K : PySem.W.Frag) (A : List Addr) (H : Hp) : List (T × W) → List (T × Addr × Value) → Prop :=
  Paired fun (p : T × W) (q : T × Addr × Value) => p.1 = q.1 ∧ p.1.isTup = true ∧ p.1.depth ≤ keyLim ∧ Rel K A H p.1.w (.ref q.2.1) ∧ ∃ v, Rel K A H p.2 v ∧ RelV v q.2.2
theorem KRel.mono (e : Ext K A H A' H') {kvs : List (T × W)} {xs : List (T × Addr × Value)} (h : KRel K A H kvs xs) : KRel K A' H' kvs xs :=
  Paired.mapP h fun _ _ ⟨h1, h2, h3, h4, v, h5, h6⟩ => ⟨h1, h2, h3, h4.mono e, v, h5.mono e, h6⟩
variable {wd : World}
noncomputable def ObjRel (wd : World) (K : PySem.W.Frag) (A : List Addr) (H : Hp) (a : Addr) : O → Prop
  | .lst ws => ∃ vs, H a = some (.lst vs) ∧ RelL K A H ws vs
  | .fro ws => ∃ vs, FroL K H a vs ∧ RelL K A H ws vs
  | .dic kvs => ∃ xs, H a = some (dicO wd a xs) ∧ KRel K A H kvs xs
  | .frd kvs => ∃ o xs, H a = some (.frz o (dicO wd a xs)) ∧ KRel K A H kvs xs
noncomputable def O.mut : O → Bool
  | .fro _ => false
  | .frd _ => false
  | _ => true
structure StoreOk (wd : World) (K : PySem.W.Frag) (A : List Addr) (H : Hp) (S : Store) : Prop where
  len : A.length = S.length
  nd : ∀ (i j : Nat) (a : Addr) (o u : O), S[i]? = some o → o.mut = true → S[j]? = some u → u.mut = true → A[i]? = some a → A[j]? = some a → i = j
  obj : ∀ (i : Nat) (o : O) (a : Addr), S[i]? = some o → A[i]? = some a → ObjRel wd K A H a o
noncomputable def EnvRel (K : PySem.W.Frag) (A : List Addr) (H : Hp) (ρ : Fm) (σ : L2.St) : Prop :=
  ρ.length = σ.length ∧ ∀ (i : Nat) (w : W), ρ[i]? = some (some w) → ∃ v, σ[i]? = some (some v) ∧ Rel K A H w v
theorem EnvRel.mono {ρ : Fm} {σ : L2.St} (e : Ext K A H A' H') (h : EnvRel K A H ρ σ) : EnvRel K A' H' ρ σ :=
  ⟨h.1, fun i w q => let ⟨v, a, b⟩ := h.2 i w q; ⟨v, a, b.mono e⟩⟩
theorem EnvRel.set {ρ : Fm} {σ : L2.St} {w : W} {v : V} (h : EnvRel K A H ρ σ) (r : Rel K A H w v) (i : Nat) : EnvRel K A H (ρ.set i (some w)) (σ.set i (some v)) := by
  refine ⟨by simp [h.1], fun j w' q => ?_⟩
  rw [List.getElem?_set] at q ⊢
  by_cases e : i = j
  · subst e
    rw [if_pos rfl] at q ⊢
    by_cases hl : i < ρ.length
    · rw [if_pos hl] at q
      rw [if_pos (h.1 ▸ hl)]
      cases q
      exact ⟨v, rfl, r⟩
    · rw [if_neg hl] at q; cases q
  · rw [if_neg e] at q ⊢
    exact h.2 j w' q
noncomputable def Wr (H : Hp) (p : Addr) : Prop := H p = none ∨ (∃ xs, H p = some (.lst xs)) ∨ ∃ φ, H p = some (.ext φ)
theorem Wr.lst {p : Addr} {xs : List V} (h : H p = some (.lst xs)) : Wr H p := .inr (.inl ⟨xs, h⟩)
theorem Wr.ext {p : Addr} {φ : Heap → Prop} (h : H p = some (.ext φ)) : Wr H p := .inr (.inr ⟨φ, h⟩)
theorem Wr.ne_tup {p a : Addr} {xs : List V} (hp : Wr H p) (h : H a = some (.tup xs)) : a ≠ p := by
  intro e; subst e
  rcases hp with q | ⟨xs, q⟩ | ⟨φ, q⟩ <;> (rw [h] at q; cases q)
theorem Wr.ne_frz {p a : Addr} {o : Obj} {u : HO} (hp : Wr H p) (h : H a = some (.frz o u)) : a ≠ p := by
  intro e; subst e
  rcases hp with q | ⟨xs, q⟩ | ⟨φ, q⟩ <;> (rw [h] at q; cases q)
theorem sqT_upd {p : Addr} {o : HO} (hp : Wr H p) {a : Addr} {vs : List V} (h : SqT K H a vs) : SqT K (upd H p o) a vs := by
  rcases h with (h | ⟨o', h⟩) | h
  · exact .inl (.inl (by rw [upd_ne (hp.ne_tup h)]; exact h))
  · exact .inl (.inr ⟨o', by rw [upd_ne (hp.ne_frz h)]; exact h⟩)
  · exact .inr h
theorem froL_upd {p : Addr} {o : HO} (hp : Wr H p) {a : Addr} {vs : List V} (h : FroL K H a vs) : FroL K (upd H p o) a vs := by
  rcases h with ⟨o', h⟩ | h
  · exact .inl ⟨o', by rw [upd_ne (hp.ne_frz h)]; exact h⟩
  · exact .inr h
theorem ext_upd {p : Addr} {o : HO} (hp : Wr H p) : Ext K A H A (upd H p o) := ⟨fun _ _ h => h, fun _ _ h => sqT_upd hp h, fun _ _ _ h => by rw [upd_ne (hp.ne_frz h)]; exact h⟩
theorem ext_push {p : Addr} {o : HO} (hp : H p = none) : Ext K A H (A ++ [p]) (upd H p o) :=
  ⟨fun i a h => by rw [List.getElem?_append_left (List.getElem?_eq_some_iff.mp h).1]; exact h, fun _ _ h => sqT_upd (.inl hp) h, fun _ _ _ h => by rw [upd_ne (Wr.ne_frz (.inl hp) h)]; exact h⟩
theorem ObjRel.keep {p a : Addr} {o : HO} {b : O} (hp : Wr H p) (hne : b.mut = true → a ≠ p) (e : Ext K A H A' (upd H p o)) (h : ObjRel wd K A H a b) : ObjRel wd K A' (upd H p o) a b := by
  cases b with
  | lst ws =>
    obtain ⟨vs, q, r⟩ := h
    exact ⟨vs, by rw [upd_ne (hne rfl)]; exact q, r.mono e⟩
  | fro ws =>
    obtain ⟨vs, q, r⟩ := h
    exact ⟨vs, froL_upd hp q, r.mono e⟩
  | dic kvs =>
    obtain ⟨xs, q, r⟩ := h
    exact ⟨xs, by rw [upd_ne (hne rfl)]; exact q, r.mono e⟩
  | frd kvs =>
    obtain ⟨ob, xs, q, r⟩ := h
    exact ⟨ob, xs, by rw [upd_ne (hp.ne_frz q)]; exact q, r.mono e⟩
theorem ObjRel.there {a : Addr} {b : O} (h : ObjRel wd K A H a b) (hm : b.mut = true) : H a ≠ none := by
  cases b with
  | lst ws => obtain ⟨vs, q, r⟩ := h; rw [q]; intro z; cases z
  | dic kvs => obtain ⟨vs, q, r⟩ := h; rw [q]; intro z; cases z
  | fro ws => cases hm
  | frd ws => cases hm
theorem ObjRel.wr {a : Addr} {b : O} (h : ObjRel wd K A H a b) (hm : b.mut = true) : Wr H a := by
  cases b with
  | lst ws => obtain ⟨vs, q, r⟩ := h; exact .lst q
  | dic kvs => obtain ⟨vs, q, r⟩ := h; exact .ext q
  | fro ws => cases hm
  | frd ws => cases hm
theorem StoreOk.lay {S : Store} {p : Addr} {o : HO} (h : StoreOk wd K A H S) (hp : H p = none) : StoreOk wd K A (upd H p o) S :=
  ⟨h.len, h.nd, fun i b a e ea => (h.obj i b a e ea).keep (.inl hp) (fun hm z => (h.obj i b a e ea).there hm (z ▸ hp)) (ext_upd (.inl hp))⟩
theorem StoreOk.pushO {S : Store} {p : Addr} {n : O} {u : HO} (h : StoreOk wd K A H S) (hp : H p = none) (r : ObjRel wd K (A ++ [p]) (upd H p u) p n) : StoreOk wd K (A ++ [p]) (upd H p u) (S ++ [n]) := by
  have ex : Ext K A H (A ++ [p]) (upd H p u) := ext_push hp
  have old : ∀ {i : Nat} {o : O} {a : Addr}, (S ++ [n])[i]? = some o → (A ++ [p])[i]? = some a → i < S.length → S[i]? = some o ∧ A[i]? = some a := fun {i o a} e ea hl => by
    rw [List.getElem?_append_left hl] at e
    rw [List.getElem?_append_left (h.len ▸ hl)] at ea
    exact ⟨e, ea⟩
  have new : ∀ {i : Nat} {o : O} {a : Addr}, (S ++ [n])[i]? = some o → (A ++ [p])[i]? = some a → ¬ i < S.length → i = S.length ∧ o = n ∧ a = p := fun {i o a} e ea hl => by
    have hi : i = S.length := by
      have := (List.getElem?_eq_some_iff.mp e).1
      simp at this
      omega
    subst hi
    simp at e
    rw [← h.len] at ea
    simp at ea
    exact ⟨rfl, e.symm, ea.symm⟩
  refine ⟨by simp [h.len], fun i j a o u e1 m1 e2 m2 a1 a2 => ?_, fun i o a e ea => ?_⟩
  · by_cases hi : i < S.length <;> by_cases hj : j < S.length
    · obtain ⟨x1, y1⟩ := old e1 a1 hi
      obtain ⟨x2, y2⟩ := old e2 a2 hj
      exact h.nd i j a o u x1 m1 x2 m2 y1 y2
    · obtain ⟨x1, y1⟩ := old e1 a1 hi
      obtain ⟨_, _, z⟩ := new e2 a2 hj
      subst z
      exact absurd hp ((h.obj i o a x1 y1).there m1)
    · obtain ⟨x2, y2⟩ := old e2 a2 hj
      obtain ⟨_, _, z⟩ := new e1 a1 hi
      subst z
      exact absurd hp ((h.obj j u a x2 y2).there m2)
    · rw [(new e1 a1 hi).1, (new e2 a2 hj).1]
  · by_cases hi : i < S.length
    · obtain ⟨x1, y1⟩ := old e ea hi
      exact (h.obj i o a x1 y1).keep (.inl hp) (fun hm z => (h.obj i o a x1 y1).there hm (z ▸ hp)) ex
    · obtain ⟨_, rfl, rfl⟩ := new e ea hi
      exact r
theorem StoreOk.push {S : Store} {p : Addr} {ws : List W} {vs : List V} (h : StoreOk wd K A H S) (hp : H p = none) (r : RelL K A H ws vs) : StoreOk wd K (A ++ [p]) (upd H p (.lst vs)) (S ++ [.lst ws]) :=
  h.pushO hp ⟨vs, upd_same, r.mono (ext_push hp)⟩
theorem StoreOk.writeO {S : Store} {i : Nat} {p : Addr} {o0 n : O} {u : HO} (h : StoreOk wd K A H S) (e : S[i]? = some o0) (m0 : o0.mut = true) (ea : A[i]? = some p) (r : ObjRel wd K A (upd H p u) p n) :
    StoreOk wd K A (upd H p u) (S.set i n) ∧ Ext K A H A (upd H p u) := by
  have hw : Wr H p := (h.obj i _ p e ea).wr m0
  have ex : Ext K A H A (upd H p u) := ext_upd hw
  have hl : i < S.length := (List.getElem?_eq_some_iff.mp e).1
  refine ⟨⟨by simp [h.len], fun j k a o u e1 m1 e2 m2 a1 a2 => ?_, fun j o a e1 a1 => ?_⟩, ex⟩
  · have get : ∀ {j : Nat} {o : O}, (S.set i n)[j]? = some o → o.mut = true → ∃ o', S[j]? = some o' ∧ o'.mut = true := fun {j o} q m => by
      rw [List.getElem?_set] at q
      by_cases z : i = j
      · subst z; exact ⟨_, e, m0⟩
      · rw [if_neg z] at q; exact ⟨o, q, m⟩
    obtain ⟨o', x1, m1'⟩ := get e1 m1
    obtain ⟨u', x2, m2'⟩ := get e2 m2
    exact h.nd j k a o' u' x1 m1' x2 m2' a1 a2
  · rw [List.getElem?_set] at e1
    by_cases z : i = j
    · subst z
      rw [if_pos rfl, if_pos hl] at e1
      cases e1
      rw [ea] at a1; cases a1
      exact r
    · rw [if_neg z] at e1
      exact (h.obj j o a e1 a1).keep hw (fun hm q => z (h.nd i j p _ o e m0 e1 hm ea (q ▸ a1))) ex
theorem StoreOk.write {S : Store} {i : Nat} {p : Addr} {ws : List W} {us : List V} {ws0 : List W} (h : StoreOk wd K A H S) (e : S[i]? = some (.lst ws0)) (ea : A[i]? = some p) (r : RelL K A H ws us) :
    StoreOk wd K A (upd H p (.lst us)) (S.set i (.lst ws)) ∧ Ext K A H A (upd H p (.lst us)) :=
  h.writeO e rfl ea ⟨us, upd_same, r.mono (ext_upd ((h.obj i _ p e ea).wr rfl))⟩
end
end Mi
set_option Elab.async false
set_option linter.all false
set_option maxRecDepth 100000
namespace Mi
open PySem PySem.Spec PyProof.Rows L2
noncomputable def rdL (S : Store) (i : Nat) : Option (List W) := match S[i]? with
  | some (.lst xs) => some xs
  | some (.fro xs) => some xs
  | _ => none
noncomputable def rdM (S : Store) (i : Nat) : Option (List W) := match S[i]? with
  | some (.lst xs) => some xs
  | _ => none
noncomputable def newL (S : Store) (xs : List W) : Option (W × Store) := if xs.length ≤ sizeLine then some (.ref S.length, S ++ [.lst xs]) else none
noncomputable def newT (S : Store) (xs : List W) : Option (W × Store) := if xs.length ≤ sizeLine then some (.tup xs, S) else none
noncomputable def cdiv (j : Int) : Bool := decide (0 < j) && decide (j < 1073741824)
noncomputable def cmul (i j : Int) : Bool := (decide (-(2 ^ 64) < i) && decide (i < 2 ^ 64)) || (decide (-(2 ^ 64) < j) && decide (j < 2 ^ 64))
noncomputable def cpow (i j : Int) : Bool := decide (0 ≤ j) && decide (j ≤ 1000000) && decide (i.natAbs < 2 ^ 64)
inductive BOp where | add | sub | mul | fdiv | mod | pow
  deriving DecidableEq
noncomputable def onI (c : Int → Int → Bool) (f : Int → Int → Int) (x y : W) (S : Store) : Option (W × Store) := match x, y with
  | .int i, .int j => if c i j then some (.int (f i j), S) else none
  | _, _ => none
noncomputable def addW (x y : W) (S : Store) : Option (W × Store) := match x with
  | .int i => match y with
    | .int j => some (.int (i + j), S)
    | _ => none
  | .str x => match y with
    | .str y => if x.length + y.length ≤ sizeLine then some (.str (x ++ y), S) else none
    | _ => none
  | .tup xs => match y with
    | .tup ys => newT S (xs ++ ys)
    | _ => none
  | .ref i => match y with
    | .ref j => match rdM S i, rdM S j with
      | some xs, some ys => newL S (xs ++ ys)
      | _, _ => none
    | _ => none
  | _ => none
noncomputable def mulW (x y : W) (S : Store) : Option (W × Store) := match x with
  | .str x => match y with
    | .int k => if k < 2 ^ 24 ∧ -(2 ^ 24) ≤ k ∧ x.length * k.toNat ≤ sizeLine then some (.str (Txt.mul x k), S) else none
    | _ => none
  | .ref i => match y with
    | .int k => match rdM S i with
      | some xs => if k < 2 ^ 24 ∧ -(2 ^ 24) ≤ k ∧ xs.length * k.toNat ≤ sizeLine then newL S (List.replicate k.toNat xs).flatten else none
      | none => none
    | _ => none
  | x => onI cmul (· * ·) x y S
noncomputable def bop : BOp → W → W → Store → Option (W × Store)
  | .add, x, y, S => addW x y S
  | .sub, x, y, S => onI (fun _ _ => true) (· - ·) x y S
  | .mul, x, y, S => mulW x y S
  | .fdiv, x, y, S => onI (fun _ j => cdiv j) (· / ·) x y S
  | .mod, x, y, S => onI (fun _ j => decide (0 < j)) (· % ·) x y S
  | .pow, x, y, S => onI cpow (fun i j => i ^ j.toNat) x y S
noncomputable def BOp.py : BOp → Operator
  | .add => .Add | .sub => .Sub | .mul => .Mult | .fdiv => .FloorDiv | .mod => .Mod | .pow => .Pow
section
variable (X : Cx)
noncomputable def PostE (pins : List (Addr × Obj)) (σ : L2.St) (A : List Addr) (H : Hp) (S' : Store) (w : W) (u : Value) (s' : Shared) : Prop :=
  ∃ v H' A', Inv X pins σ H' s' ∧ RelV v u ∧ Ext X.K A H A' H' ∧ StoreOk X.w X.K A' H' S' ∧ Rel X.K A' H' w v
noncomputable abbrev FE := Fm → Store → Option (W × Store)
noncomputable def LOp (f : Value → Value → Sem Value) (g : W → W → Store → Option (W × Store)) : Prop :=
  ∀ (pins : List (Addr × Obj)) (s : Shared) (σ : L2.St) (H : Hp) (A : List Addr) (S : Store) (x y : W) (a b : V) (u v : Value) (w : W) (S' : Store), Inv X pins σ H s → StoreOk X.w X.K A H S →
    Rel X.K A H x a → RelV a u → Rel X.K A H y b → RelV b v → g x y S = some (w, S') → wpAny (model X.prog X.w) X.A (f u v) (PostE X pins σ A H S' w) X.xe s
end
section
variable {X : Cx}
theorem rdM_eq {S : Store} {i : Nat} {xs : List W} (h : rdM S i = some xs) : S[i]? = some (.lst xs) := by
  unfold rdM at h
  split at h
  · cases h; assumption
  · cases h
theorem rdM_at {A : List Addr} {H : Hp} {S : Store} {i : Nat} {xs : List W} {a : Addr} (so : StoreOk X.w X.K A H S) (h : rdM S i = some xs) (ea : A[i]? = some a) : ∃ vs, H a = some (.lst vs) ∧ RelL X.K A H xs vs :=
  so.obj i _ a (rdM_eq h) ea
theorem rdL_at {A : List Addr} {H : Hp} {S : Store} {i : Nat} {xs : List W} {a : Addr} (so : StoreOk X.w X.K A H S) (h : rdL S i = some xs) (ea : A[i]? = some a) : ∃ vs, SqL X.K H a vs ∧ RelL X.K A H xs vs := by
  unfold rdL at h
  split at h
  · cases h
    obtain ⟨vs, q, r⟩ := so.obj i _ a (by assumption) ea
    exact ⟨vs, .of q, r⟩
  · cases h
    obtain ⟨vs, q, r⟩ := so.obj i _ a (by assumption) ea
    exact ⟨vs, q.sq, r⟩
  · cases h
theorem newL_eq {S S' : Store} {xs : List W} {w : W} (h : newL S xs = some (w, S')) : xs.length ≤ sizeLine ∧ w = .ref S.length ∧ S' = S ++ [.lst xs] := by
  unfold newL at h
  split at h
  · cases h; exact ⟨by assumption, rfl, rfl⟩
  · cases h
theorem newT_eq {S S' : Store} {xs : List W} {w : W} (h : newT S xs = some (w, S')) : xs.length ≤ sizeLine ∧ w = .tup xs ∧ S' = S := by
  unfold newT at h
  split at h
  · cases h; exact ⟨by assumption, rfl, rfl⟩
  · cases h
theorem new_lst {A : List Addr} {H : Hp} {S : Store} {ws : List W} {vs : List V} {Q : VK} {p : Addr} (so : StoreOk X.w X.K A H S) (r : RelL X.K A H ws vs) (hp : H p = none)
    (q : ∀ v H' A', Ext X.K A H A' H' → StoreOk X.w X.K A' H' (S ++ [.lst ws]) → Rel X.K A' H' (.ref S.length) v → Q v H') : Q (.ref p) (upd H p (.lst vs)) :=
  q _ _ (A ++ [p]) (ext_push hp) (so.push hp r) (.ref (by rw [← so.len]; simp))
theorem new_tup {A : List Addr} {H : Hp} {S : Store} {ws : List W} {vs : List V} {Q : VK} {p : Addr} (so : StoreOk X.w X.K A H S) (r : RelL X.K A H ws vs) (hp : H p = none)
    (q : ∀ v H' A', Ext X.K A H A' H' → StoreOk X.w X.K A' H' S → Rel X.K A' H' (.tup ws) v → Q v H') : Q (.ref p) (upd H p (.tup vs)) :=
  q _ _ A (ext_upd (.inl hp)) (so.lay hp) (.tup (.of upd_same) (r.mono (ext_upd (.inl hp))))
noncomputable def rCatA (K : PySem.W.Frag) : R2 := fun x y H Q => ∃ a b xs ys, x = .ref a ∧ y = .ref b ∧ SqT K H a xs ∧ SqT K H b ys ∧ xs.length + ys.length ≤ sizeLine ∧
  (xs = [] → Q (.ref b) H) ∧ (ys = [] → Q (.ref a) H) ∧ (∀ p, H p = none → Q (.ref p) (upd H p (.tup (xs ++ ys))))
theorem op_catA : OpR X (binaryOp .Add) (rCatA X.K) := by
  intro pins s σ H x y v u Q I rx ry h
  obtain ⟨a, b, xs, ys, rfl, rfl, ha, hb, hz, q0, q1, q2⟩ := h
  cases rx
  cases ry
  obtain ⟨its, r1, p1, _⟩ := I.tuple ha
  obtain ⟨its2, r2, p2, _⟩ := I.tuple hb
  by_cases hx : xs = []
  · obtain ⟨⟨cls, dd, data, sl⟩, ho, hc, n, hd⟩ := id p1
    obtain ⟨⟨cls2, dd2, data2, sl2⟩, ho2, hc2, n2, hd2⟩ := id p2
    simp only at hc hd hc2 hd2
    subst hc hd hc2 hd2
    exact concat_meets ⟨_, ho, rfl⟩ ⟨_, ho2, rfl⟩ noFill_tuple_add seq_tuple_add PySem.F.slot_tuple_add PySem.F.entry_tuple_add (PySem.F.args_tuple_add_2 _ _)
      (tuple_addW0 a b its.toArray its2.toArray n n2 dd dd2 sl sl2 (by simp [r1.nil_iff.mpr hx])) ⟨ho, ho2, ⟨.ref b, H, I, rfl, q0 hx⟩⟩
  · refine HT.cat_tup p1 p2 (fun z => hx (r1.nil_iff.mp z)) (fun z => ⟨.ref a, H, I, rfl, q1 (r2.nil_iff.mp z)⟩) (fun z => ?_) (by rw [← r1.length, ← r2.length]; exact hz)
    refine ⟨.ref s.heap.objs.size, _, I.laid (t' := s.toks) (o := .tup (xs ++ ys)) (fun b ob q => Heap.get?_push_of_some _ q) (Nat.le_refl _) ?_, rfl, q2 _ (I.hok.fresh (Nat.le_refl _))⟩
    exact ⟨by rw [List.length_append]; exact hz, _, r1.append r2, IsTup.new _ _⟩
theorem RelL.nil_iff {K : PySem.W.Frag} {A : List Addr} {H : Hp} {ws : List W} {vs : List V} (r : RelL K A H ws vs) : vs = [] ↔ ws = [] := by
  cases r <;> simp
theorem op_mul_str : OpR X (binaryOp .Mult) (fun x y H Q => ∃ z k, x = .str z ∧ y = .int k ∧ MulOk z k ∧ Q (.str (Txt.mul z k)) H) := by
  intro pins s σ H x y v u Q I rx ry h
  obtain ⟨z, k, rfl, rfl, ok, q⟩ := h
  obtain ⟨t, rfl⟩ := rx
  obtain ⟨t', rfl⟩ := ry
  exact SB.mul ok fun t2 k2 => ⟨.str _, H, I.tok _, ⟨_, rfl⟩, q⟩
theorem mulOk_of {x : Str} {k : Int} (h1 : k < 16777216) (h2 : -16777216 ≤ k) (h3 : x.length * k.toNat ≤ sizeLine) : MulOk x k := by
  have hs : sizeLine = 16777216 := sizeLine_eq
  rw [hs] at h3
  refine ⟨?_, fun a b => ?_, fun _ _ => ?_⟩
  · rw [Bool.or_eq_false_iff]
    exact ⟨decide_eq_false (by omega), decide_eq_false (by omega)⟩
  · have hk : 0 < k := by omega
    have e : (x.length : Int) * k = ((x.length * k.toNat : Nat) : Int) := by
      rw [Int.natCast_mul, Int.toNat_of_nonneg (by omega)]
    intro hgt
    have h4 : (2 ^ 63 - 1 : Int) < (x.length : Int) * k := (Int.ediv_lt_iff_lt_mul hk).mp hgt
    rw [e] at h4
    generalize x.length * k.toNat = z at h3 h4
    omega
  · unfold PySem.Builtin.Str.tooLong
    rw [hs]
    exact decide_eq_false (by omega)
noncomputable def EndV (wd : World) (K : PySem.W.Frag) (A : List Addr) (H : Hp) (S' : Store) (w : W) : VK := fun v H' => ∃ A', Ext K A H A' H' ∧ StoreOk wd K A' H' S' ∧ Rel K A' H' w v
theorem EndV.here {A : List Addr} {H : Hp} {S : Store} {w : W} {v : V} (so : StoreOk X.w X.K A H S) (r : Rel X.K A H w v) : EndV X.w X.K A H S w v H := ⟨A, .refl, so, r⟩
theorem EndV.lst {A : List Addr} {H : Hp} {S : Store} {ws : List W} {vs : List V} {p : Addr} (so : StoreOk X.w X.K A H S) (r : RelL X.K A H ws vs) (hp : H p = none) : EndV X.w X.K A H (S ++ [.lst ws]) (.ref S.length) (.ref p) (upd H p (.lst vs)) :=
  new_lst (Q := EndV X.w X.K A H (S ++ [.lst ws]) (.ref S.length)) so r hp fun v H' A' a b c => ⟨A', a, b, c⟩
theorem EndV.tup {A : List Addr} {H : Hp} {S : Store} {ws : List W} {vs : List V} {p : Addr} (so : StoreOk X.w X.K A H S) (r : RelL X.K A H ws vs) (hp : H p = none) : EndV X.w X.K A H S (.tup ws) (.ref p) (upd H p (.tup vs)) :=
  new_tup (Q := EndV X.w X.K A H S (.tup ws)) so r hp fun v H' A' a b c => ⟨A', a, b, c⟩
theorem EP.post {pins : List (Addr × Obj)} {σ : L2.St} {A : List Addr} {H : Hp} {S' : Store} {w : W} {u : Value} {s' : Shared} (h : EP X pins σ (EndV X.w X.K A H S' w) u s') : PostE X pins σ A H S' w u s' := by
  obtain ⟨v, H', I', r, A', x, y, z⟩ := h
  exact ⟨v, H', A', I', r, x, y, z⟩
theorem OpR.go {f : Value → Value → Sem Value} {r : R2} (h : OpR X f r) {pins : List (Addr × Obj)} {σ : L2.St} {A : List Addr} {H : Hp} {S' : Store} {w : W} {s : Shared} {a b : V} {u v : Value} (I : Inv X pins σ H s) (ru : RelV a u) (rv : RelV b v)
    (q : r a b H (EndV X.w X.K A H S' w)) : wpAny (model X.prog X.w) X.A (f u v) (PostE X pins σ A H S' w) X.xe s := thn (h pins s σ H a b u v _ I ru rv q) fun _ _ => EP.post
theorem lop_add : LOp X (binaryOp .Add) (bop .add) := by
  intro pins s σ H A S x y a b u v w S' I so rx ru ry rv e
  cases rx with
  | int => cases ry with
    | int => cases e; exact OpR.go op_add I ru rv ⟨_, _, rfl, rfl, .here so .int⟩
    | _ => cases e
  | str => cases ry with
    | str =>
      simp only [bop, addW] at e
      split at e
      · cases e; exact OpR.go op_add_str I ru rv ⟨_, _, rfl, rfl, by assumption, .here so .str⟩
      · cases e
    | _ => cases e
  | tup h1 r1 => cases ry with
    | tup h2 r2 =>
      obtain ⟨hl, rfl, rfl⟩ := newT_eq (show newT S _ = _ from e)
      rw [List.length_append, r1.length, r2.length] at hl
      refine OpR.go op_catA I ru rv ⟨_, _, _, _, rfl, rfl, h1, h2, hl, fun z => ?_, fun z => ?_, fun p hp => .tup so (r1.append r2) hp⟩
      · have z' := r1.nil_iff.mp z
        subst z'
        exact .here so (.tup h2 r2)
      · have z' := r2.nil_iff.mp z
        subst z'
        rw [List.append_nil]
        exact .here so (.tup h1 r1)
    | _ => cases e
  | ref h1 => cases ry with
    | ref h2 =>
      simp only [bop, addW] at e
      split at e
      · obtain ⟨hl, rfl, rfl⟩ := newL_eq e
        obtain ⟨vs, q1, r1⟩ := rdM_at so (by assumption) h1
        obtain ⟨us, q2, r2⟩ := rdM_at so (by assumption) h2
        rw [List.length_append, r1.length, r2.length] at hl
        exact OpR.go op_cat I ru rv ⟨_, _, _, _, rfl, rfl, q1, q2, hl, fun p hp => .lst so (r1.append r2) hp⟩
      · cases e
    | _ => cases e
  | _ => cases e
theorem lop_I {f : Value → Value → Sem Value} {c : Int → Int → Bool} {g : Int → Int → Int} {r : R2} (h : OpR X f r) (hr : ∀ i j H Q, c i j = true → Q (.int (g i j)) H → r (.int i) (.int j) H Q) : LOp X f (onI c g) := by
  intro pins s σ H A S x y a b u v w S' I so rx ru ry rv e
  cases rx with
  | int => cases ry with
    | int =>
      unfold onI at e
      dsimp only at e
      split at e
      · cases e; exact OpR.go h I ru rv (hr _ _ _ _ (by assumption) (.here so .int))
      · cases e
    | _ => cases e
  | _ => cases e
theorem lop_sub : LOp X (binaryOp .Sub) (bop .sub) := lop_I op_sub fun _ _ _ _ _ q => ⟨_, _, rfl, rfl, q⟩
theorem cmul_ok {i j : Int} (h : cmul i j = true) : CMul i j := by
  unfold cmul at h
  rw [Bool.or_eq_true, Bool.and_eq_true, Bool.and_eq_true, decide_eq_true_eq, decide_eq_true_eq, decide_eq_true_eq, decide_eq_true_eq] at h
  exact h
theorem lop_mul : LOp X (binaryOp .Mult) (bop .mul) := by
  have hI : LOp X (binaryOp .Mult) (onI cmul (· * ·)) := lop_I op_mul fun _ _ _ _ h q => ⟨_, _, rfl, rfl, cmul_ok h, q⟩
  intro pins s σ H A S x y a b u v w S' I so rx ru ry rv e
  cases x with
  | str z =>
    cases rx with
    | str => cases ry with
      | int =>
        simp only [bop, mulW] at e
        split at e
        · rename_i hc
          cases e; exact OpR.go op_mul_str I ru rv ⟨_, _, rfl, rfl, mulOk_of (by omega) (by omega) hc.2.2, .here so .str⟩
        · cases e
      | _ => cases e
  | ref z =>
    cases rx with
    | ref h1 => cases ry with
      | int =>
        simp only [bop, mulW] at e
        split at e
        · split at e
          · rename_i hc
            obtain ⟨hl, rfl, rfl⟩ := newL_eq e
            obtain ⟨vs, q1, r1⟩ := rdM_at so (by assumption) h1
            rw [r1.length] at hc
            exact OpR.go op_rep I ru rv ⟨_, _, _, rfl, rfl, q1, by omega, by omega, hc.2.2, fun p hp => .lst so (r1.rep _) hp⟩
          · cases e
        · cases e
      | _ => cases e
  | _ => exact hI _ _ _ _ _ _ _ _ _ _ _ _ _ _ I so rx ru ry rv e
theorem lop_fdiv : LOp X (binaryOp .FloorDiv) (bop .fdiv) := lop_I op_fdiv fun _ _ _ _ h q => ⟨_, _, rfl, rfl, by
  unfold cdiv at h
  rw [Bool.and_eq_true, decide_eq_true_eq, decide_eq_true_eq] at h
  exact h, q⟩
theorem lop_mod : LOp X (binaryOp .Mod) (bop .mod) := lop_I op_mod fun _ _ _ _ h q => ⟨_, _, rfl, rfl, of_decide_eq_true h, q⟩
theorem lop_pow : LOp X (binaryOp .Pow) (bop .pow) := lop_I op_pow fun _ _ _ _ h q => ⟨_, _, rfl, rfl, by
  unfold cpow at h
  rw [Bool.and_eq_true, Bool.and_eq_true, decide_eq_true_eq, decide_eq_true_eq, decide_eq_true_eq] at h
  exact ⟨h.1.1, h.1.2, h.2⟩, q⟩
theorem lop_all (o : BOp) : LOp X (binaryOp o.py) (bop o) := by
  cases o
  · exact lop_add
  · exact lop_sub
  · exact lop_mul
  · exact lop_fdiv
  · exact lop_mod
  · exact lop_pow
end
end Mi
set_option Elab.async false
set_option linter.all false
set_option maxRecDepth 100000
namespace Mi
open PySem PySem.Spec PyProof.Rows L2
noncomputable def eqWs (f : W → W → Option Bool) : List W → List W → Option Bool
  | [], [] => some true
  | [], _ :: _ => some false
  | _ :: _, [] => some false
  | x :: xs, y :: ys => match f x y, eqWs f xs ys with
    | some a, some b => some (a && b)
    | _, _ => none
noncomputable def b2 (b : Bool) : Int := if b then 1 else 0
noncomputable def eqW (S : Store) : Nat → W → W → Option Bool
  | _, .non, y => match y with
    | .non => some true
    | _ => none
  | _, .bl a, y => match y with
    | .bl b => some (a == b)
    | _ => none
  | _, .int a, y => match y with
    | .int b => some (a == b)
    | _ => none
  | _, .str a, y => match y with
    | .str b => some (a == b)
    | _ => none
  | 0, _, _ => none
  | d + 1, .tup xs, y => match y with
    | .tup ys => eqWs (eqW S d) xs ys
    | _ => none
  | d + 1, .ref i, y => match y with
    | .ref j => match rdM S i, rdM S j with
      | some xs, some ys => if xs.length = ys.length then eqWs (eqW S d) xs ys else some false
      | _, _ => none
    | _ => none
section
variable {X : Cx} {pins : List (Addr × Obj)} {σ : L2.St} {H : Hp} {s : Shared} {A : List Addr} {S : Store}
noncomputable def RU (K : PySem.W.Frag) (A : List Addr) (H : Hp) (w : W) (u : Value) : Prop := ∃ v, Rel K A H w v ∧ RelV v u
theorem ru_list {ws : List W} {vs : List V} {us : List Value} (r : RelL X.K A H ws vs) (q : Vals vs us) : ∀ (j : Nat) (h1 : j < ws.length) (h2 : j < us.length), RU X.K A H ws[j] us[j] := by
  induction ws generalizing vs us with
  | nil => intro j h1; simp at h1
  | cons w ws ih =>
    cases r with
    | cons r1 rr =>
      cases q with
      | cons q1 qq =>
        intro j h1 h2
        cases j with
        | zero => exact ⟨_, r1, q1⟩
        | succ j => exact ih rr qq j (by simpa using h1) (by simpa using h2)
theorem ru_tup {ws : List W} {u : Value} (I : Inv X pins σ H s) (h : RU X.K A H (.tup ws) u) : ∃ a its, u = .ref a ∧ IsTup s.heap a its ∧ its.size = ws.length ∧ ws.length ≤ sizeLine ∧ ∀ (j : Nat) (h1 : j < ws.length) (h2 : j < its.size), RU X.K A H ws[j] its[j] := by
  obtain ⟨v, r, q⟩ := h
  cases r with
  | tup sq rl =>
    obtain ⟨its, rv, ht, hz⟩ := I.tuple sq
    refine ⟨_, its.toArray, q, ht, by rw [List.size_toArray, ← rv.length, rl.length], by rw [rl.length]; exact hz, fun j h1 h2 => ?_⟩
    have := ru_list rl rv j h1 (by simpa using h2)
    simpa using this
theorem ru_lst {i : Nat} {ws : List W} {u : Value} (I : Inv X pins σ H s) (so : StoreOk X.w X.K A H S) (e : rdM S i = some ws) (h : RU X.K A H (.ref i) u) : ∃ a its, u = .ref a ∧ A[i]? = some a ∧ s.heap.IsList a its ∧ its.size = ws.length ∧ ws.length ≤ sizeLine ∧ ∀ (j : Nat) (h1 : j < ws.length) (h2 : j < its.size), RU X.K A H ws[j] its[j] := by
  obtain ⟨v, r, q⟩ := h
  cases r with
  | ref ea =>
    obtain ⟨vs, hq, rl⟩ := rdM_at so e ea
    obtain ⟨its, rv, ht, hz⟩ := I.list (.of hq)
    refine ⟨_, its.toArray, q, ea, ht.isList, by rw [List.size_toArray, ← rv.length, rl.length], by rw [rl.length]; exact hz, fun j h1 h2 => ?_⟩
    have := ru_list rl rv j h1 (by simpa using h2)
    simpa using this
theorem eqWs_all {f : W → W → Option Bool} : ∀ {xs ys : List W} {k : Bool}, eqWs f xs ys = some k → ∃ e : Nat → Bool, (∀ (j : Nat) (h1 : j < xs.length) (h2 : j < ys.length), f xs[j] ys[j] = some (e j)) ∧
    k = ((List.range (min xs.length ys.length)).all e && xs.length == ys.length)
  | [], [], k, h => ⟨fun _ => true, fun j h1 => by simp at h1, by cases h; rfl⟩
  | [], _ :: _, k, h => ⟨fun _ => true, fun j h1 => by simp at h1, by cases h; simp⟩
  | _ :: _, [], k, h => ⟨fun _ => true, fun j h1 h2 => by simp at h2, by cases h; simp⟩
  | x :: xs, y :: ys, k, h => by
    simp only [eqWs] at h
    split at h
    · rename_i a b ha hb
      cases h
      obtain ⟨e, h1, h2⟩ := eqWs_all hb
      refine ⟨fun j => match j with | 0 => a | j + 1 => e j, fun j hj1 hj2 => ?_, ?_⟩
      · cases j with
        | zero => exact ha
        | succ j => exact h1 j (by simpa using hj1) (by simpa using hj2)
      · subst h2
        simp only [List.length_cons, Nat.add_min_add_right, List.range_succ_eq_map, List.all_cons, List.all_map, Bool.and_assoc]
        congr 2
        simp
    · cases h
theorem rel_fun (I : Inv X pins σ H s) (so : StoreOk X.w X.K A H S) : ∀ (d : Nat) {x y : W} {v : V} {k : Bool}, Rel X.K A H x v → Rel X.K A H y v → eqW S d x y = some k → k = true := by
  intro d
  induction d with
  | zero =>
    intro x y v k rx ry e
    cases rx with
    | non => cases ry; cases e; rfl
    | bl => cases ry; cases e; exact beq_self_eq_true _
    | int => cases ry; cases e; exact beq_self_eq_true _
    | str => cases ry; cases e; exact beq_self_eq_true _
    | tup _ _ => cases e
    | ref _ => cases e
  | succ d ih =>
    have lists : ∀ {xs ys : List W} {vs : List V} {k : Bool}, RelL X.K A H xs vs → RelL X.K A H ys vs → eqWs (eqW S d) xs ys = some k → k = true := by
      intro xs
      induction xs with
      | nil =>
        intro ys vs k r1 r2 e
        cases r1; cases r2; cases e; rfl
      | cons x xs ihx =>
        intro ys vs k r1 r2 e
        cases r1 with
        | cons p1 q1 =>
          cases r2 with
          | cons p2 q2 =>
            simp only [eqWs] at e
            split at e
            · rename_i a b ha hb
              cases e
              rw [ih p1 p2 ha, ihx q1 q2 hb]
              rfl
            · cases e
    intro x y v k rx ry e
    cases rx with
    | non => cases ry; cases e; rfl
    | bl => cases ry; cases e; exact beq_self_eq_true _
    | int => cases ry; cases e; exact beq_self_eq_true _
    | str => cases ry; cases e; exact beq_self_eq_true _
    | tup h1 r1 =>
      cases ry with
      | tup h2 r2 =>
        rw [I.tuple_inj h1 h2] at r1
        exact lists r1 r2 e
      | ref ea => cases e
    | ref ea =>
      cases ry with
      | tup h2 r2 => cases e
      | ref eb =>
        simp only [eqW] at e
        split at e
        · rename_i xs ys hx hy
          have := so.nd _ _ _ _ _ (rdM_eq hx) rfl (rdM_eq hy) rfl ea eb
          subst this
          rw [hx] at hy; cases hy
          rw [if_pos rfl] at e
          obtain ⟨vs, q, r⟩ := rdM_at so hx ea
          exact lists r r e
        · cases e
theorem in1_units (A : Around) : A.in1.units = A.units + 1 := rfl
noncomputable abbrev Eq3 (B : Around) (s : Shared) (u v : Value) (k : Bool) : Prop := SeqAt.RcAt B s u v k ∧ SeqAt.RcNeAt B s u v (!k) ∧ SeqAt.EqAt B s u v k
open SeqAt in
theorem eq3_W (I : Inv X pins σ H s) (so : StoreOk X.w X.K A H S) : ∀ (d : Nat) (B : Around) {x y : W} {u v : Value} {k : Bool}, B.units + d < cLine → RU X.K A H x u → RU X.K A H y v → eqW S d x y = some k → Eq3 B s u v k := by
  have non : ∀ {B : Around} {y : W} {u v : Value} {k : Bool} {d : Nat}, RU X.K A H .non u → RU X.K A H y v → eqW S d .non y = some k → Eq3 B s u v k := by
    intro B y u v k d ⟨_, rx, ra⟩ ⟨_, ry, rb⟩ e
    cases rx
    cases (show u = Value.none from ra)
    cases y with
    | non =>
      have e : some (true) = some k := by cases d <;> exact e
      cases e
      cases ry
      cases (show v = Value.none from rb)
      exact ⟨.none_none, .none_none, .same _⟩
    | _ => cases d <;> cases e
  have bl : ∀ {B : Around} {b : Bool} {y : W} {u v : Value} {k : Bool} {d : Nat}, RU X.K A H (.bl b) u → RU X.K A H y v → eqW S d (.bl b) y = some k → Eq3 B s u v k := by
    intro B b y u v k d ⟨_, rx, ra⟩ ⟨_, ry, rb⟩ e
    cases rx
    cases (show u = Value.bool _ from ra)
    cases y with
    | bl c =>
      have e : some (b == c) = some k := by cases d <;> exact e
      cases e
      cases ry
      cases (show v = Value.bool _ from rb)
      exact ⟨.bool_bool _ _, .bool_bool _ _, .bool_bool _ _⟩
    | _ => cases d <;> cases e
  have int : ∀ {B : Around} {b : Int} {y : W} {u v : Value} {k : Bool} {d : Nat}, RU X.K A H (.int b) u → RU X.K A H y v → eqW S d (.int b) y = some k → Eq3 B s u v k := by
    intro B b y u v k d ⟨_, rx, ra⟩ ⟨_, ry, rb⟩ e
    cases rx
    obtain ⟨t0, rfl⟩ : ∃ t, u = Value.int _ t := ra
    cases y with
    | int c =>
      have e : some (b == c) = some k := by cases d <;> exact e
      cases e
      cases ry
      obtain ⟨t, rfl⟩ : ∃ t, v = Value.int _ t := rb
      exact ⟨.int_int _ _ _ _, .int_int _ _ _ _, .int_int _ _ _ _⟩
    | _ => cases d <;> cases e
  have str : ∀ {B : Around} {b : Str} {y : W} {u v : Value} {k : Bool} {d : Nat}, RU X.K A H (.str b) u → RU X.K A H y v → eqW S d (.str b) y = some k → Eq3 B s u v k := by
    intro B b y u v k d ⟨_, rx, ra⟩ ⟨_, ry, rb⟩ e
    cases rx
    obtain ⟨t0, rfl⟩ : ∃ t, u = Value.str _ t := ra
    cases y with
    | str c =>
      have e : some (b == c) = some k := by cases d <;> exact e
      cases e
      cases ry
      obtain ⟨t, rfl⟩ : ∃ t, v = Value.str _ t := rb
      exact ⟨.str_str _ _ _ _, .str_str _ _ _ _, .str_str _ _ _ _⟩
    | _ => cases d <;> cases e
  intro d
  induction d with
  | zero =>
    intro B x y u v k hu rx ry e
    cases x with
    | non => exact non rx ry e
    | bl b => exact bl rx ry e
    | int b => exact int rx ry e
    | str b => exact str rx ry e
    | _ => cases e
  | succ d ih =>
    intro B x y u v k hu rx ry e
    have hu0 : B.units < cLine := by omega
    have hu1 : B.in1.units + d < cLine := by rw [in1_units]; omega
    have rx0 := rx
    have ry0 := ry
    have fin : ∀ {a b : Addr}, u = .ref a → v = .ref b → RcAt B s u v k → RcNeAt B s u v (!k) → Eq3 B s u v k := by
      intro a b ea eb h1 h2
      subst ea eb
      refine ⟨h1, h2, ?_⟩
      by_cases hab : a = b
      · subst hab
        obtain ⟨v1, q1, z1⟩ := rx0
        obtain ⟨v2, q2, z2⟩ := ry0
        have e12 : v1 = v2 := z1.inj z2
        subst e12
        have := rel_fun I so (d + 1) q1 q2 e
        subst this
        exact EqAt.same _
      · exact EqAt.of_refs hab h1
    cases x with
    | non => exact non rx ry e
    | bl b => exact bl rx ry e
    | int b => exact int rx ry e
    | str b => exact str rx ry e
    | tup xs =>
      cases y with
      | tup ys =>
        obtain ⟨a, its, rfl, ht, hs, _, hi⟩ := ru_tup I rx
        obtain ⟨b, its2, rfl, ht2, hs2, _, hi2⟩ := ru_tup I ry
        obtain ⟨f, h1, h2⟩ := eqWs_all (show eqWs (eqW S d) xs ys = some k from e)
        have he : ∀ j (h1 : j < its.size) (h2 : j < its2.size), EqAt B.in1 s its[j] its2[j] (f j) := fun j j1 j2 =>
          (ih B.in1 hu1 (hi j (hs ▸ j1) j1) (hi2 j (hs2 ▸ j2) j2) (h1 j (hs ▸ j1) (hs2 ▸ j2))).2.2
        rw [← hs, ← hs2] at h2
        subst h2
        exact fin rfl rfl (RcAt.tuples ht ht2 hu0 he) (RcNeAt.tuples ht ht2 hu0 he)
      | _ => cases e
    | ref i =>
      cases y with
      | ref j =>
        simp only [eqW] at e
        split at e
        · rename_i ws ws2 hw hw2
          obtain ⟨a, its, rfl, _, hl, hs, _, hi⟩ := ru_lst I so hw rx
          obtain ⟨b, its2, rfl, _, hl2, hs2, _, hi2⟩ := ru_lst I so hw2 ry
          split at e
          · rename_i hlen
            obtain ⟨f, h1, h2⟩ := eqWs_all e
            have he : ∀ j (h1 : j < its.size) (h2 : j < its2.size), EqAt B.in1 s its[j] its2[j] (f j) := fun j j1 j2 =>
              (ih B.in1 hu1 (hi j (hs ▸ j1) j1) (hi2 j (hs2 ▸ j2) j2) (h1 j (hs ▸ j1) (hs2 ▸ j2))).2.2
            have hk : k = (List.range its.size).all f := by rw [h2, hs, hlen]; simp
            subst hk
            exact fin rfl rfl (RcAt.lists hl hl2 (by rw [hs, hs2, hlen]) hu0 he) (RcNeAt.lists hl hl2 (by rw [hs, hs2, hlen]) hu0 he)
          · rename_i hlen
            cases e
            have hb : (its.size != its2.size) = true := by rw [hs, hs2]; simpa using hlen
            exact fin rfl rfl (RcAt.lists_lengths hl hl2 hb hu0) (RcNeAt.lists_lengths hl hl2 hb hu0)
        · cases e
      | _ => cases e
end
end Mi
set_option Elab.async false
set_option linter.all false
set_option maxRecDepth 100000
namespace Mi
open PySem PySem.Spec PyProof.Rows L2
noncomputable def lexWs (fe fl : W → W → Option Bool) : List W → List W → Option Bool
  | [], [] => some false
  | [], _ :: _ => some true
  | _ :: _, [] => some false
  | x :: xs, y :: ys => match fe x y with
    | some true => lexWs fe fl xs ys
    | some false => fl x y
    | none => none
noncomputable def ltW (S : Store) : Nat → W → W → Option Bool
  | _, .int a, .int b => some (decide (a < b))
  | _, .str a, .str b => some (decide (a.cps.toList < b.cps.toList))
  | d + 1, .tup xs, .tup ys => lexWs (eqW S d) (ltW S d) xs ys
  | _, _, _ => none
noncomputable def LtAt (B : Around) (s : Shared) (u v : Value) (k : Bool) : Prop :=
  ∀ (prog : Program) (w : World) (E : Value → Shared → Prop) (Q : Value → Shared → Prop), Q (.bool k) s → wpAny (model prog w) B (richCompare .Lt u v) Q E s
inductive LexR (B : Around) (s : Shared) : List Value → List Value → Bool → Prop
  | nn : LexR B s [] [] false
  | nc {v : Value} {vs : List Value} : LexR B s [] (v :: vs) true
  | cn {v : Value} {vs : List Value} : LexR B s (v :: vs) [] false
  | eq {u v : Value} {us vs : List Value} {k : Bool} : SeqAt.EqAt B s u v true → LexR B s us vs k → LexR B s (u :: us) (v :: vs) k
  | ne {u v : Value} {us vs : List Value} {k : Bool} : SeqAt.EqAt B s u v false → LtAt B s u v k → LexR B s (u :: us) (v :: vs) k
section
open PySem.SeqAt
open PySem.AutoSeq1 (wpAny_loadPart')
open PySem.MeetsSeq PySem.MeetsSeq2 PySem.MeetsSeq3
theorem tuple_lt_lex (l b : Addr) (items items2 : Array Value) (n n2 : Nat) (dd dd2 : Option Addr) (sl sl2 : Array (Option Value)) (k : Bool) :
    Meets (Builtin.«tuple.__lt__» ⟨[.ref l, .ref b], []⟩)
      (fun B R s => s.heap.get? l = some { cls := .type "tuple", dict := dd, data := .seq items n, slots := sl } ∧ s.heap.get? b = some { cls := .type "tuple", dict := dd2, data := .seq items2 n2, slots := sl2 } ∧
        LexR B.in1 s items.toList items2.toList k ∧ R (.ok (.ret (.bool k))) s) :=
  .of_wp fun prog w A R s h => by
    obtain ⟨hp, g, d, tk, os⟩ := s; obtain ⟨hl, hb, hx, h⟩ := h
    have f2 := AutoSeq1.sub_tuple_tuple
    have z1 : items.toList.length = items.size := by simp
    have z2 : items2.toList.length = items2.size := by simp
    wp_walk using wpAny_loadPart' hl, wpAny_loadPart' hb, wpAny_forIn_list _ (fun rest b s' => b.1 = none ∧ s' = ⟨hp, g, d, tk, os⟩ ∧ ∃ (vs ws : List Value), rest = vs.zip ws ∧
      LexR A.in1 ⟨hp, g, d, tk, os⟩ vs ws k ∧ vs.length + items2.size = ws.length + items.size) _
    case turn =>
      rintro ⟨y, x⟩ rest b s' ⟨hb', rfl, vs, ws, hz, hlx, hlen⟩
      cases hlx with
      | nn => rw [List.zip_nil_left] at hz; cases hz
      | nc => rw [List.zip_nil_left] at hz; cases hz
      | cn => rw [List.zip_nil_right] at hz; cases hz
      | eq he hr =>
        rw [List.zip_cons_cons] at hz
        injection hz with hyx hrest
        injection hyx with hy hx
        subst hy hx
        simp only [List.length_cons] at hlen
        refine wpAny_bind (he prog w _ _ ?_)
        wp_walk
        exact ⟨rfl, rfl, _, _, hrest, hr, by omega⟩
      | ne he hr =>
        rw [List.zip_cons_cons] at hz
        injection hz with hyx hrest
        injection hyx with hy hx
        subst hy hx
        refine wpAny_bind (he prog w _ _ ?_)
        have hri := hr prog w
        wp_walk using hri
        exact ⟨_, rfl, by simpa using h⟩
    case fin =>
      rintro ⟨b1, b2⟩ s' ⟨hb', rfl, vs, ws, hz, hlx, hlen⟩
      simp only at hb'
      subst hb'
      have hv : k = decide (items.size < items2.size) := by
        cases hlx with
        | nn => simp only [List.length_nil] at hlen; exact (decide_eq_false (by omega)).symm
        | nc => simp only [List.length_nil, List.length_cons] at hlen; exact (decide_eq_true (by omega)).symm
        | cn => simp only [List.length_nil, List.length_cons] at hlen; exact (decide_eq_false (by omega)).symm
        | eq _ _ => rw [List.zip_cons_cons] at hz; cases hz
        | ne _ _ => rw [List.zip_cons_cons] at hz; cases hz
      subst hv
      wp_walk
      exact ⟨_, rfl, by simpa [Builtin.Tuple.tupleCompareSizes] using h⟩
    case h =>
      exact ⟨rfl, rfl, items.toList, items2.toList, rfl, hx, by omega⟩
end
theorem LtAt.tuples {B : Around} {s : Shared} {l b : Addr} {items items2 : Array Value} {k : Bool} (hl : IsTup s.heap l items) (hb : IsTup s.heap b items2) (hu : B.units < cLine) (hx : LexR B.in1 s items.toList items2.toList k) :
    LtAt B s (.ref l) (.ref b) k := fun prog w E Q h => by
  obtain ⟨⟨cls, dd, data, sl⟩, ho, hc, n, hd⟩ := id hl
  obtain ⟨⟨cls2, dd2, data2, sl2⟩, ho2, hc2, n2, hd2⟩ := id hb
  simp only at hc hd hc2 hd2
  subst hc hd hc2 hd2
  exact richCompare_meets_room (op := .Lt) ⟨_, ho, rfl⟩ ⟨_, ho2, rfl⟩ PySem.F.slot_tuple_lt PySem.F.entry_tuple_lt (PySem.F.args_tuple_lt_2 _ _) (tuple_lt_lex l b items items2 n n2 dd dd2 sl sl2 k)
    ⟨ho, ho2, hx, show Value.bool k ≠ Value.notImplemented ∧ Q (.bool k) s from ⟨(fun x => nomatch x), h⟩⟩ hu
section
variable {X : Cx} {pins : List (Addr × Obj)} {σ : L2.St} {H : Hp} {s : Shared} {A : List Addr} {S : Store}
end
inductive COp where | eq | ne | lt | le | gt | ge | isin | notin | is | isnot
  deriving DecidableEq
noncomputable def COp.py : COp → CmpOp
  | .eq => .Eq | .ne => .NotEq | .lt => .Lt | .le => .LtE | .gt => .Gt | .ge => .GtE | .isin => .In | .notin => .NotIn | .is => .Is | .isnot => .IsNot
noncomputable def flatW : W → Bool
  | .non => true
  | .bl _ => true
  | .int _ => true
  | .str _ => true
  | _ => false
noncomputable def eqF : W → W → Bool
  | .non, .non => true
  | .bl a, .bl b => a == b
  | .bl a, .int b => b2 a == b
  | .int a, .bl b => a == b2 b
  | .int a, .int b => a == b
  | .str a, .str b => a == b
  | _, _ => false
noncomputable def seqOf (S : Store) : W → Option (List W)
  | .tup xs => some xs
  | .ref i => rdL S i
  | _ => none
noncomputable abbrev deep : Nat := 20
noncomputable def inW (x y : W) (S : Store) : Option Bool := match seqOf S y with
  | some ys => if flatW x && ys.all flatW then some (ys.any fun z => eqF z x) else none
  | none => none
noncomputable def nonW : W → Bool
  | .non => true
  | _ => false
noncomputable def intC (f : Int → Int → Bool) : W → W → Option Bool
  | .int i, .int j => some (f i j)
  | _, _ => none
noncomputable def cop : COp → W → W → Store → Option Bool
  | .eq, x, y, S => eqW S deep x y
  | .ne, x, y, S => (eqW S deep x y).map (!·)
  | .lt, x, y, _ => intC (fun i j => decide (i < j)) x y
  | .le, x, y, _ => intC (fun i j => decide (i ≤ j)) x y
  | .gt, x, y, _ => intC (fun i j => decide (j < i)) x y
  | .ge, x, y, _ => intC (fun i j => decide (j ≤ i)) x y
  | .isin, x, y, S => inW x y S
  | .notin, x, y, S => (inW x y S).map (!·)
  | .is, x, y, _ => if nonW y then some (nonW x) else none
  | .isnot, x, y, _ => if nonW y then some (!nonW x) else none
noncomputable def copE (o : COp) (x y : W) (S : Store) : Option (W × Store) := (cop o x y S).map fun k => (.bl k, S)
section
variable {X : Cx}
theorem post_bl {pins : List (Addr × Obj)} {σ : L2.St} {H : Hp} {s : Shared} {A : List Addr} {S : Store} {k : Bool} (I : Inv X pins σ H s) (so : StoreOk X.w X.K A H S) : PostE X pins σ A H S (.bl k) (.bool k) s :=
  ⟨.bl k, H, A, I, rfl, .refl, so, .bl⟩
theorem copE_eq {o : COp} {x y w : W} {S S' : Store} (h : copE o x y S = some (w, S')) : ∃ k, cop o x y S = some k ∧ w = .bl k ∧ S' = S := by
  unfold copE at h
  rw [Option.map_eq_some_iff] at h
  obtain ⟨k, h1, h2⟩ := h
  cases h2
  exact ⟨k, h1, rfl, rfl⟩
theorem flat_rel {A : List Addr} {H : Hp} {w : W} {v : V} (r : Rel X.K A H w v) (f : flatW w = true) : flatV v = true := by
  cases r <;> first | rfl | cases f
theorem flat_rels {A : List Addr} {H : Hp} : ∀ {ws : List W} {vs : List V}, RelL X.K A H ws vs → ws.all flatW = true → vs.all flatV = true
  | _, _, .nil, _ => rfl
  | _, _, .cons r t, f => by
    rw [List.all_cons, Bool.and_eq_true] at f ⊢
    exact ⟨flat_rel r f.1, flat_rels t f.2⟩
theorem eqF_rel {A : List Addr} {H : Hp} {x y : W} {u v : V} (r : Rel X.K A H x u) (q : Rel X.K A H y v) (fx : flatW x = true) (fy : flatW y = true) : eqV u v = eqF x y := by
  cases r <;> cases q <;> first | rfl | cases fx | cases fy
theorem any_rel {A : List Addr} {H : Hp} {y : W} {v : V} (q : Rel X.K A H y v) (fy : flatW y = true) : ∀ {ws : List W} {vs : List V}, RelL X.K A H ws vs → ws.all flatW = true → inV v vs = ws.any fun z => eqF z y
  | _, _, .nil, _ => rfl
  | _, _, .cons r t, f => by
    rw [List.all_cons, Bool.and_eq_true] at f
    have := any_rel q fy t f.2
    unfold inV at this ⊢
    rw [List.any_cons, List.any_cons, eqF_rel r q f.1 fy, this]
theorem seq_rel {pins : List (Addr × Obj)} {σ : L2.St} {H : Hp} {s : Shared} {A : List Addr} {S : Store} {y : W} {b : V} {ys : List W} (so : StoreOk X.w X.K A H S) (r : Rel X.K A H y b) (e : seqOf S y = some ys) : ∃ p vs, b = .ref p ∧ (SqL X.K H p vs ∨ SqT X.K H p vs) ∧ RelL X.K A H ys vs := by
  cases r with
  | tup h1 r1 => cases e; exact ⟨_, _, rfl, .inr h1, r1⟩
  | ref ea =>
    obtain ⟨vs, h1, r1⟩ := rdL_at so e ea
    exact ⟨_, vs, rfl, .inl h1, r1⟩
  | _ => cases e
theorem cop_in {neg : Bool} {o : CmpOp} (ho : OpR X (compareOp o) (rIn X.K neg)) {pins : List (Addr × Obj)} {σ : L2.St} {H : Hp} {s : Shared} {A : List Addr} {S : Store} {x y : W} {a b : V} {u v : Value} {ys : List W} (I : Inv X pins σ H s) (so : StoreOk X.w X.K A H S)
    (rx : Rel X.K A H x a) (ru : RelV a u) (ry : Rel X.K A H y b) (rv : RelV b v) (e : seqOf S y = some ys) (f : (flatW x && ys.all flatW) = true) :
    wpAny (model X.prog X.w) X.A (compareOp o u v) (PostE X pins σ A H S (.bl (if neg then !ys.any fun z => eqF z x else ys.any fun z => eqF z x))) X.xe s := by
  obtain ⟨p, vs, rfl, hq, rl⟩ := seq_rel (pins := pins) (σ := σ) (s := s) so ry e
  rw [Bool.and_eq_true] at f
  refine OpR.go ho I ru rv ⟨p, vs, rfl, hq, flat_rel rx f.1, flat_rels rl f.2, ?_⟩
  rw [any_rel rx f.1 rl f.2]
  exact .here so .bl
theorem lop_cmp (hu : X.A.units + deep < cLine) (o : COp) : LOp X (compareOp o.py) (copE o) := by
  intro pins s σ H A S x y a b u v w S' I so rx ru ry rv e
  obtain ⟨k, ek, e1, e2⟩ := copE_eq e
  subst e1
  subst e2
  clear e
  rename Store => S
  have twoI : ∀ {f : Int → Int → Bool}, intC f x y = some k → ∃ i j, x = .int i ∧ y = .int j ∧ k = f i j := by
    intro f h
    cases x with
    | int i => cases y with
      | int j => cases h; exact ⟨i, j, rfl, rfl, rfl⟩
      | _ => cases h
    | _ => cases h
  have ofSq : ∀ {c : Bool}, inW x y S = some c → ∃ ys, seqOf S y = some ys ∧ (flatW x && ys.all flatW) = true ∧ c = ys.any fun z => eqF z x := by
    intro c h
    unfold inW at h
    split at h
    · split at h
      · cases h; exact ⟨_, by assumption, by assumption, rfl⟩
      · cases h
    · cases h
  have ofN : ∀ {c : Bool}, (if nonW y then some c else none) = some k → y = .non ∧ k = c := by
    intro c h
    cases y with
    | non => cases h; exact ⟨rfl, rfl⟩
    | _ => cases h
  cases o with
  | eq => exact (eq3_W I so deep X.A hu ⟨a, rx, ru⟩ ⟨b, ry, rv⟩ ek).1 _ _ _ _ (post_bl I so)
  | ne =>
    obtain ⟨k', h1, rfl⟩ := Option.map_eq_some_iff.mp ek
    exact (eq3_W I so deep X.A hu ⟨a, rx, ru⟩ ⟨b, ry, rv⟩ h1).2.1 _ _ _ _ (post_bl I so)
  | lt =>
    obtain ⟨i, j, rfl, rfl, rfl⟩ := twoI ek
    cases rx; cases ry
    exact OpR.go op_lt I ru rv ⟨_, _, rfl, rfl, .here so .bl⟩
  | le =>
    obtain ⟨i, j, rfl, rfl, rfl⟩ := twoI ek
    cases rx; cases ry
    exact OpR.go op_le I ru rv ⟨_, _, rfl, rfl, .here so .bl⟩
  | gt =>
    obtain ⟨i, j, rfl, rfl, rfl⟩ := twoI ek
    cases rx; cases ry
    exact OpR.go op_gt I ru rv ⟨_, _, rfl, rfl, .here so .bl⟩
  | ge =>
    obtain ⟨i, j, rfl, rfl, rfl⟩ := twoI ek
    cases rx; cases ry
    exact OpR.go op_ge I ru rv ⟨_, _, rfl, rfl, .here so .bl⟩
  | isin =>
    obtain ⟨ys, h1, h2, rfl⟩ := ofSq ek
    exact cop_in (neg := false) op_in_seq I so rx ru ry rv h1 h2
  | notin =>
    obtain ⟨c, h, rfl⟩ := Option.map_eq_some_iff.mp ek
    obtain ⟨ys, h1, h2, rfl⟩ := ofSq h
    exact cop_in (neg := true) op_notIn_seq I so rx ru ry rv h1 h2
  | is =>
    obtain ⟨rfl, rfl⟩ := ofN ek
    cases ry
    refine OpR.go op_isN I ru rv ⟨rfl, ?_⟩
    cases rx <;> exact .here so .bl
  | isnot =>
    obtain ⟨rfl, rfl⟩ := ofN ek
    cases ry
    refine OpR.go op_notN I ru rv ⟨rfl, ?_⟩
    cases rx <;> exact .here so .bl
end
end Mi
set_option Elab.async false
set_option linter.all false
set_option maxRecDepth 100000
namespace HT
open PySem PyProof.Rows
section
variable {prog : Program} {w : World} {A : Around} {E : Value → Shared → Prop} {s : Shared}
theorem getItem_tuple_whole {t sl : Addr} {items : Array Value} {vl vu : Value} {lo hi : Option Int} {Q : Value → Shared → Prop} (ht : IsTup s.heap t items) (hs : s.heap.IsSliceOf sl vl vu .none) (pl : IsPart vl lo) (pu : IsPart vu hi)
    (hw : sIx items.size 0 lo = 0 ∧ sIx items.size items.size hi = items.size) (h : Q (.ref t) s) : wpAny (model prog w) A (getItem (.ref t) (.ref sl)) Q E s := by
  obtain ⟨os, hos, hcs, hds⟩ := id hs
  have hTs : s.TypeIs (.ref sl) "slice" := ⟨os, hos, hcs⟩
  unfold getItem
  try with_reducible refine wpAny_holding ?_
  first | refine wpAny_bind (wpAny_pure ?_) | skip
  refine wpAny_bind (wpAny_sequenceKey ht.typeIs (by decide) ?_)
  refine wpAny_bind (wpAny_callSpecial?_slot (name := Str.ofString "__getitem__") ht.typeIs PyProof.Rows.slot_tuple_getitem
    (wpAny_call_entry PyProof.Rows.slot_tuple_getitem ht.typeIs entry_tuple_getitem ?_ (args_tuple_getitem _ _)))
  show wpAny _ _ (Builtin.Tuple.tupleItemsOf (.ref t) >>= _) _ _ s
  refine wpAny_bind (tupleItemsOf_ ht ?_)
  refine wpAny_bind (wpAny_typeOf hTs ?_)
  rw [if_pos (by decide)]
  refine wpAny_bind (sliceApplied_gen hs pl pu ?_)
  have hyes : ((((sIx items.size 0 lo : Nat) : Int) == 0 && (1 : Int) == 1 && (sIx items.size items.size hi - sIx items.size 0 lo) == items.size) = true) := by
    rw [hw.1, hw.2]
    simp
  show wpAny _ _ (if (((sIx items.size 0 lo : Nat) : Int) == 0 && (1 : Int) == 1 && (sIx items.size items.size hi - sIx items.size 0 lo) == items.size) = true then _ else _) _ _ s
  rw [if_pos hyes]
  unfold Builtin.Tuple.tupleIsExact
  refine wpAny_bind (wpAny_bind (wpAny_typeOf ht.typeIs (wpAny_pure ?_)))
  rw [if_pos (by decide)]
  exact wpAny_bind (wpAny_rule (wpAny_bind (wpAny_pure (wpAny_pure ⟨_, rfl, wpAny_pure h⟩))))
end
end HT
namespace Mi
open PySem PySem.Spec PyProof.Rows L2
noncomputable def ixW (x y : W) (S : Store) : Option (W × Store) := match x, y with
  | .tup xs, .int i => (atI xs i).map fun w => (w, S)
  | .ref r, .int i => match rdL S r with
    | some xs => (atI xs i).map fun w => (w, S)
    | none => none
  | .str x, .int i => if x.length ≤ sizeLine then (atI x.cps.toList i).map fun c => (.str ⟨#[c]⟩, S) else none
  | _, _ => none
noncomputable def cutW (xs : List W) (lo hi : Option Int) : List W := (xs.drop (HT.sIx xs.length 0 lo)).take (HT.sIx xs.length xs.length hi - HT.sIx xs.length 0 lo)
noncomputable def slW (x : W) (lo hi : Option Int) (S : Store) : Option (W × Store) := match x with
  | .tup xs => some (.tup (cutW xs lo hi), S)
  | .ref r => match rdL S r with
    | some xs => some (.ref S.length, S ++ [.lst (cutW xs lo hi)])
    | none => none
  | _ => none
noncomputable def setW (o i v : W) (S : Store) : Option Store := match o, i with
  | .ref r, .int k => match rdM S r with
    | some xs => match ixN xs.length k with
      | some j => some (S.set r (.lst (xs.set j v)))
      | none => none
    | none => none
  | _, _ => none
section
variable (X : Cx)
noncomputable def LIx (g : W → W → Store → Option (W × Store)) : Prop :=
  ∀ (value slice : Expr) (pins : List (Addr × Obj)) (s : Shared) (σ : L2.St) (H : Hp) (A : List Addr) (S : Store) (x y : W) (a b : V) (u v : Value) (w : W) (S' : Store), Inv X pins σ H s → StoreOk X.w X.K A H S →
    Rel X.K A H x a → RelV a u → Rel X.K A H y b → RelV b v → g x y S = some (w, S') → subscripted slice false u v = operate [u, v] (getItem u v) → wpAny (model X.prog X.w) X.A (subscriptTail value slice u v) (PostE X pins σ A H S' w) X.xe s
noncomputable def LSl (g : W → Option Int → Option Int → Store → Option (W × Store)) : Prop :=
  ∀ (pins : List (Addr × Obj)) (s : Shared) (σ : L2.St) (H : Hp) (A : List Addr) (S : Store) (x : W) (a : V) (v vl vu : Value) (lo hi : Option Int) (sl : Addr) (w : W) (S' : Store), Inv X pins σ H s → StoreOk X.w X.K A H S →
    Rel X.K A H x a → RelV a v → s.heap.IsSliceOf sl vl vu .none → IsPart vl lo → IsPart vu hi → g x lo hi S = some (w, S') →
    ∃ T id, typeLookup (.type T) "__getitem__" = pure (some (.builtin id)) ∧ s.TypeIs v T ∧ wpAny (model X.prog X.w) X.A (getItem v (.ref sl)) (PostE X pins σ A H S' w) X.xe s
noncomputable def LSet (g : W → W → W → Store → Option Store) : Prop :=
  ∀ (pins : List (Addr × Obj)) (s : Shared) (σ : L2.St) (H : Hp) (A : List Addr) (S : Store) (o i x : W) (ao ai ax : V) (uo ui ux : Value) (S' : Store), Inv X pins σ H s → StoreOk X.w X.K A H S →
    Rel X.K A H o ao → RelV ao uo → Rel X.K A H i ai → RelV ai ui → Rel X.K A H x ax → RelV ax ux → g o i x S = some S' →
    wpAny (model X.prog X.w) X.A (setItem uo ui ux) (fun _ s' => ∃ H' A', Inv X pins σ H' s' ∧ Ext X.K A H A' H' ∧ StoreOk X.w X.K A' H' S') X.xe s
noncomputable def LCall (f : Value) (g : List W → Store → Option (W × Store)) : Prop :=
  ∀ (pins : List (Addr × Obj)) (s : Shared) (σ : L2.St) (H : Hp) (A : List Addr) (S : Store) (xs : List W) (vs : List V) (us : List Value) (w : W) (S' : Store), Inv X pins σ H s → StoreOk X.w X.K A H S →
    RelL X.K A H xs vs → Vals vs us → g xs S = some (w, S') → wpAny (model X.prog X.w) X.A (call f us) (PostE X pins σ A H S' w) X.xe s
noncomputable def LMeth (id : String) (g : W → List W → Store → Option (W × Store)) : Prop :=
  ∀ (pins : List (Addr × Obj)) (s : Shared) (σ : L2.St) (H : Hp) (A : List Addr) (S : Store) (x : W) (a : V) (u : Value) (xs : List W) (vs : List V) (us : List Value) (w : W) (S' : Store), Inv X pins σ H s → StoreOk X.w X.K A H S →
    Rel X.K A H x a → RelV a u → RelL X.K A H xs vs → Vals vs us → g x xs S = some (w, S') → wpAny (model X.prog X.w) X.A (call (.builtin id) (u :: us)) (PostE X pins σ A H S' w) X.xe s
end
section
variable {X : Cx} {pins : List (Addr × Obj)} {σ : L2.St} {H : Hp} {s : Shared} {A : List Addr} {S : Store}
theorem IxR.go {r : R2} (h : IxR X r) {S' : Store} {w : W} {a b : V} {u v : Value} {value slice : Expr} (I : Inv X pins σ H s) (ru : RelV a u) (rv : RelV b v) (q : r a b H (EndV X.w X.K A H S' w)) (hs : subscripted slice false u v = operate [u, v] (getItem u v)) :
    wpAny (model X.prog X.w) X.A (subscriptTail value slice u v) (PostE X pins σ A H S' w) X.xe s := thn (h value slice pins s σ H a b u v _ I ru rv q hs) fun _ _ => EP.post
theorem CallR.go {f : Value} {r : List V → Hp → VK → Prop} (h : CallR X f r) {S' : Store} {w : W} {vs : List V} {us : List Value} (I : Inv X pins σ H s) (rv : Vals vs us) (q : r vs H (EndV X.w X.K A H S' w)) :
    wpAny (model X.prog X.w) X.A (call f us) (PostE X pins σ A H S' w) X.xe s := thn (h pins s σ H vs us _ I rv q) fun _ _ => EP.post
theorem MtR.go {id : String} {r : V → List V → Hp → VK → Prop} (h : MtR X id r) {S' : Store} {w : W} {a : V} {u : Value} {vs : List V} {us : List Value} (I : Inv X pins σ H s) (ru : RelV a u) (rv : Vals vs us) (q : r a vs H (EndV X.w X.K A H S' w)) :
    wpAny (model X.prog X.w) X.A (call (.builtin id) (u :: us)) (PostE X pins σ A H S' w) X.xe s := thn (h pins s σ H a vs u us _ I ru rv q) fun _ _ => EP.post
theorem atI_rel {xs : List W} {vs : List V} {i : Int} {w : W} (r : RelL X.K A H xs vs) (e : atI xs i = some w) : ∃ v, atI vs i = some v ∧ Rel X.K A H w v := by
  unfold atI at e ⊢
  rw [r.length] at e
  cases q : ixN vs.length i with
  | none => rw [q] at e; cases e
  | some j =>
    rw [q] at e
    obtain ⟨v, h1, h2⟩ := r.get (show xs[j]? = some w from e)
    exact ⟨v, h1, h2⟩
theorem lix : LIx X ixW := by
  intro value slice pins s σ H A S x y a b u v w S' I so rx ru ry rv e hs
  cases rx with
  | tup h1 r1 => cases ry with
    | int =>
      simp only [ixW, Option.map_eq_some_iff] at e
      obtain ⟨w', e1, e2⟩ := e
      cases e2
      obtain ⟨z, h2, r2⟩ := atI_rel r1 e1
      exact IxR.go ix_tup I ru rv ⟨_, _, _, _, rfl, rfl, h1, h2, .here so r2⟩ hs
    | _ => cases e
  | ref ea => cases ry with
    | int =>
      simp only [ixW] at e
      split at e
      · rename_i ws hw
        rw [Option.map_eq_some_iff] at e
        obtain ⟨w', e1, e2⟩ := e
        cases e2
        obtain ⟨vs, h1, r1⟩ := rdL_at so hw ea
        obtain ⟨z, h2, r2⟩ := atI_rel r1 e1
        exact IxR.go ix_list I ru rv ⟨_, _, _, _, rfl, rfl, h1, h2, .here so r2⟩ hs
      · cases e
    | _ => cases e
  | str => cases ry with
    | int =>
      simp only [ixW] at e
      split at e
      · rw [Option.map_eq_some_iff] at e
        obtain ⟨c, e1, e2⟩ := e
        cases e2
        exact IxR.go ix_str I ru rv ⟨_, _, _, rfl, rfl, by assumption, e1, .here so .str⟩ hs
      · cases e
    | _ => cases e
  | _ => cases ry <;> cases e
theorem cut_rel {xs : List W} {vs : List V} {lo hi : Option Int} (r : RelL X.K A H xs vs) : RelL X.K A H (cutW xs lo hi) (cutV vs lo hi) := by
  unfold cutW cutV
  rw [r.length]
  exact (r.drop _).take _
theorem sl_tupW : SlR X (fun x lo hi H Q => ∃ a xs, x = .ref a ∧ SqT X.K H a xs ∧ (cutV xs lo hi = xs → Q (.ref a) H) ∧ ∀ p, H p = none → Q (.ref p) (upd H p (.tup (cutV xs lo hi)))) := by
  intro pins s σ H x v vl vu lo hi sl Q I rx hs pl pu h
  obtain ⟨a, xs, rfl, hx, q0, q⟩ := h
  by_cases hw : (HT.sIx xs.length 0 lo = 0 ∧ HT.sIx xs.length xs.length hi = xs.length)
  · cases rx
    obtain ⟨its, r, ht, hz⟩ := I.tuple hx
    have hlen : its.toArray.size = xs.length := by rw [List.size_toArray]; exact r.length.symm
    refine ⟨"tuple", _, PyProof.Rows.slot_tuple_getitem.lookup, ht.typeIs, ?_⟩
    refine HT.getItem_tuple_whole ht hs pl pu (by rw [hlen]; exact hw) ⟨.ref a, H, I, rfl, q0 ?_⟩
    unfold cutV
    rw [hw.1, hw.2]
    simp
  · exact sl_tup pins s σ H (.ref a) v vl vu lo hi sl Q I rx hs pl pu ⟨a, xs, rfl, hx, hw, q⟩
theorem lsl : LSl X slW := by
  intro pins s σ H A S x a v vl vu lo hi sl w S' I so rx rv hs pl pu e
  cases rx with
  | tup h1 r1 =>
    cases e
    obtain ⟨T, id, z1, z2, z3⟩ := sl_tupW pins s σ H _ v vl vu lo hi sl (EndV X.w X.K A H S (.tup (cutW _ lo hi))) I rv hs pl pu ⟨_, _, rfl, h1, fun q => .here so (.tup h1 (by have := cut_rel (lo := lo) (hi := hi) r1; rw [q] at this; exact this)), fun p hp => .tup so (cut_rel r1) hp⟩
    exact ⟨T, id, z1, z2, thn z3 fun _ _ => EP.post⟩
  | ref ea =>
    simp only [slW] at e
    split at e
    · rename_i ws hw
      cases e
      obtain ⟨vs, h1, r1⟩ := rdL_at so hw ea
      obtain ⟨T, id, z1, z2, z3⟩ := sl_list pins s σ H _ v vl vu lo hi sl (EndV X.w X.K A H (S ++ [.lst (cutW ws lo hi)]) (.ref S.length)) I rv hs pl pu ⟨_, _, rfl, h1, fun p hp => .lst so (cut_rel r1) hp⟩
      exact ⟨T, id, z1, z2, thn z3 fun _ _ => EP.post⟩
    · cases e
  | _ => cases e
theorem lset : LSet X setW := by
  intro pins s σ H A S o i x ao ai ax uo ui ux S' I so ro ruo ri rui rx rux e
  cases ro with
  | ref ea => cases ri with
    | int =>
      simp only [setW] at e
      split at e
      · rename_i ws hw
        split at e
        · rename_i j hj
          cases e
          obtain ⟨vs, h1, r1⟩ := rdM_at so hw ea
          rw [r1.length] at hj
          obtain ⟨so', ex⟩ := so.write (rdM_eq hw) ea (r1.set rx j)
          exact thn (set_list pins s σ H _ _ _ uo ui ux (fun H' => H' = upd H _ (.lst (vs.set j ax))) I ruo rui rux ⟨_, _, _, _, rfl, rfl, h1, hj, rfl⟩) fun _ s' ⟨H', I', e'⟩ => ⟨_, A, e' ▸ I', ex, so'⟩
        · cases e
      · cases e
    | _ => cases e
  | _ => cases ri <;> cases e
noncomputable def lenW (xs : List W) (S : Store) : Option (W × Store) := match xs with
  | [.tup ys] => some (.int ys.length, S)
  | [.str y] => if y.length ≤ sizeLine then some (.int y.length, S) else none
  | [.ref i] => (rdL S i).map fun ys => (.int ys.length, S)
  | _ => none
theorem lcall_len : LCall X (.builtin "len") lenW := by
  intro pins s σ H A S xs vs us w S' I so rl rv e
  cases rl with
  | nil => cases e
  | cons r t =>
    cases t with
    | cons _ _ => cases r <;> cases e
    | nil =>
      cases r with
      | tup h1 r1 => cases e; rw [r1.length]; exact CallR.go call_len I rv ⟨_, _, rfl, .inr ⟨_, h1, rfl⟩, .here so .int⟩
      | str =>
        simp only [lenW] at e
        split at e
        · cases e; exact CallR.go call_len I rv ⟨_, _, rfl, ⟨by assumption, rfl⟩, .here so .int⟩
        · cases e
      | ref ea =>
        simp only [lenW, Option.map_eq_some_iff] at e
        obtain ⟨ws, hw, e2⟩ := e
        cases e2
        obtain ⟨vs', h1, r1⟩ := rdL_at so hw ea
        rw [r1.length]
        exact CallR.go call_len I rv ⟨_, _, rfl, .inl ⟨_, h1, rfl⟩, .here so .int⟩
      | _ => cases e
noncomputable def listW (xs : List W) (S : Store) : Option (W × Store) := match xs with
  | [x] => match seqOf S x with
    | some ys => some (.ref S.length, S ++ [.lst ys])
    | none => none
  | _ => none
theorem lcall_list : LCall X (.type "list") listW := by
  intro pins s σ H A S xs vs us w S' I so rl rv e
  cases rl with
  | nil => cases e
  | cons r t =>
    cases t with
    | cons _ _ => cases e
    | nil =>
      simp only [listW] at e
      split at e
      · rename_i ys hy
        cases e
        obtain ⟨p, vs', rfl, hq, r1⟩ := seq_rel (pins := pins) (σ := σ) (s := s) so r hy
        exact CallR.go call_list_of I rv ⟨p, vs', rfl, hq, fun l hl => .lst so r1 hl⟩
      · cases e
noncomputable def tupleW (xs : List W) (S : Store) : Option (W × Store) := match xs with
  | [.tup ys] => some (.tup ys, S)
  | [.ref i] => match rdL S i with
    | some ys => some (.tup ys, S)
    | none => none
  | _ => none
theorem lcall_tuple : LCall X (.type "tuple") tupleW := by
  intro pins s σ H A S xs vs us w S' I so rl rv e
  cases rl with
  | nil => cases e
  | cons r t =>
    cases t with
    | cons _ _ => cases r <;> cases e
    | nil =>
      cases r with
      | tup h1 r1 => cases e; exact CallR.go call_tuple_of I rv ⟨_, _, rfl, .inr ⟨h1, .here so (.tup h1 r1)⟩⟩
      | ref ea =>
        simp only [tupleW] at e
        split at e
        · rename_i ys hy
          cases e
          obtain ⟨vs', h1, r1⟩ := rdL_at so hy ea
          exact CallR.go call_tuple_of I rv ⟨_, _, rfl, .inl ⟨h1, fun l hl => .tup so r1 hl⟩⟩
        · cases e
      | _ => cases e
noncomputable def absW (xs : List W) (S : Store) : Option (W × Store) := match xs with
  | [.int i] => some (.int (if i < 0 then -i else i), S)
  | _ => none
theorem lcall_abs : LCall X (.builtin "abs") absW := by
  intro pins s σ H A S xs vs us w S' I so rl rv e
  cases rl with
  | nil => cases e
  | cons r t =>
    cases t with
    | cons _ _ => cases r <;> cases e
    | nil =>
      cases r with
      | int => cases e; exact CallR.go call_abs I rv ⟨_, rfl, .here so .int⟩
      | _ => cases e
noncomputable def intW (xs : List W) (S : Store) : Option (W × Store) := match xs with
  | [.int i] => some (.int i, S)
  | [.bl b] => some (.int (if b then 1 else 0), S)
  | _ => none
theorem lcall_int : LCall X (.type "int") intW := by
  intro pins s σ H A S xs vs us w S' I so rl rv e
  cases rl with
  | nil => cases e
  | cons r t =>
    cases t with
    | cons _ _ => cases r <;> cases e
    | nil =>
      cases r with
      | int => cases e; exact CallR.go call_int1 I rv (.inl ⟨_, rfl, .here so .int⟩)
      | bl => cases e; exact CallR.go call_int1 I rv (.inr ⟨_, rfl, .here so .int⟩)
      | _ => cases e
noncomputable def appendW (x : W) (xs : List W) (S : Store) : Option (W × Store) := match x, xs with
  | .ref i, [y] => match rdM S i with
    | some ys => if ys.length < sizeLine then some (.non, S.set i (.lst (ys ++ [y]))) else none
    | none => none
  | _, _ => none
theorem write_end {i : Nat} {p : Addr} {ws ws0 : List W} {us : List V} (so : StoreOk X.w X.K A H S) (e : rdM S i = some ws0) (ea : A[i]? = some p) (r : RelL X.K A H ws us) {w : W} {v : V} (rw' : Rel X.K A H w v) :
    EndV X.w X.K A H (S.set i (.lst ws)) w v (upd H p (.lst us)) := by
  obtain ⟨so', ex⟩ := so.write (rdM_eq e) ea r
  exact ⟨A, ex, so', rw'.mono ex⟩
theorem lmeth_append : LMeth X "list.append" appendW := by
  intro pins s σ H A S x a u xs vs us w S' I so rx ru rl rv e
  cases rx with
  | ref ea =>
    cases rl with
    | nil => cases e
    | cons r t =>
      cases t with
      | cons _ _ => cases e
      | nil =>
        simp only [appendW] at e
        split at e
        · rename_i ys hy
          split at e
          · rename_i hl
            cases e
            obtain ⟨vs', h1, r1⟩ := rdM_at so hy ea
            rw [r1.length] at hl
            exact MtR.go mt_append I ru rv ⟨_, _, _, rfl, rfl, h1, hl, write_end so hy ea (r1.append (.cons r .nil)) .non⟩
          · cases e
        · cases e
  | _ => cases e
noncomputable def extendW (x : W) (xs : List W) (S : Store) : Option (W × Store) := match x, xs with
  | .ref i, [.ref j] => match rdM S i, rdM S j with
    | some ys, some zs => if ys.length + zs.length ≤ sizeLine then some (.non, S.set i (.lst (ys ++ zs))) else none
    | _, _ => none
  | _, _ => none
theorem lmeth_extend : LMeth X "list.extend" extendW := by
  intro pins s σ H A S x a u xs vs us w S' I so rx ru rl rv e
  cases rx with
  | ref ea =>
    cases rl with
    | nil => cases e
    | cons r t =>
      cases t with
      | cons _ _ => cases r <;> cases e
      | nil =>
        cases r with
        | ref eb =>
          simp only [extendW] at e
          split at e
          · rename_i ys zs hy hz
            split at e
            · rename_i hl
              cases e
              obtain ⟨vs', h1, r1⟩ := rdM_at so hy ea
              obtain ⟨vs2, h2, r2⟩ := rdM_at so hz eb
              rw [r1.length, r2.length] at hl
              exact MtR.go mt_extend I ru rv ⟨_, _, _, _, rfl, rfl, h1, h2, hl, write_end so hy ea (r1.append r2) .non⟩
            · cases e
          · cases e
        | _ => cases e
  | _ => cases e
noncomputable def popW (x : W) (xs : List W) (S : Store) : Option (W × Store) := match x, xs with
  | .ref i, [.int k] => match rdM S i with
    | some ys => if -(2 ^ 63) ≤ k ∧ k < 2 ^ 63 then match seqIndex? k ys.length with
      | some j => match ys[j]? with
        | some y => some (y, S.set i (.lst (ys.eraseIdx j)))
        | none => none
      | none => none
      else none
    | none => none
  | _, _ => none
theorem lmeth_pop : LMeth X "list.pop" popW := by
  intro pins s σ H A S x a u xs vs us w S' I so rx ru rl rv e
  cases rx with
  | ref ea =>
    cases rl with
    | nil => cases e
    | cons r t =>
      cases t with
      | cons _ _ => cases r <;> cases e
      | nil =>
        cases r with
        | int =>
          simp only [popW] at e
          split at e
          · rename_i ys hy
            split at e
            · rename_i hk
              split at e
              · rename_i j hj
                split at e
                · rename_i y hyj
                  cases e
                  obtain ⟨vs', h1, r1⟩ := rdM_at so hy ea
                  obtain ⟨v', h2, r2⟩ := r1.get hyj
                  rw [r1.length] at hj
                  exact MtR.go mt_popAt I ru rv ⟨_, _, _, _, _, rfl, rfl, h1, hk.1, hk.2, hj, h2, write_end so hy ea (r1.eraseIdx j) r2⟩
                · cases e
              · cases e
            · cases e
          · cases e
        | _ => cases e
  | _ => cases e
noncomputable def strsOf : List W → Option (List Str)
  | [] => some []
  | .str x :: xs => (strsOf xs).map (x :: ·)
  | _ :: _ => none
noncomputable def joinW (x : W) (xs : List W) (S : Store) : Option (W × Store) := match x, xs with
  | .str x, [y] => match seqOf S y with
    | some ys => match strsOf ys with
      | some zs => if (zs.map (·.length)).sum + zs.length * x.length ≤ 16777216 then some (.str (Txt.join x zs), S) else none
      | none => none
    | none => none
  | _, _ => none
theorem strs_rel : ∀ {ws : List W} {vs : List V} {us : List Value} {zs : List Str}, RelL X.K A H ws vs → Vals vs us → strsOf ws = some zs → StrsAre us zs
  | _, _, _, zs, .nil, .nil, e => by cases e; exact .nil
  | _, _, _, zs, .cons r t, .cons q p, e => by
    cases r with
    | str =>
      simp only [strsOf, Option.map_eq_some_iff] at e
      obtain ⟨z, e1, e2⟩ := e
      subst e2
      obtain ⟨tk, rfl⟩ : ∃ t, _ = Value.str _ t := q
      exact .cons _ tk (strs_rel t p e1)
    | _ => cases e
theorem lmeth_join : LMeth X "str.join" joinW := by
  intro pins s σ H A S x a u xs vs us w S' I so rx ru rl rv e
  cases rx with
  | str =>
    cases rl with
    | nil => cases e
    | cons r t =>
      cases t with
      | cons _ _ => cases e
      | nil =>
        simp only [joinW] at e
        split at e
        · rename_i ys hy
          split at e
          · rename_i zs hz
            split at e
            · rename_i hl
              cases e
              obtain ⟨p, vs', rfl, hq, r1⟩ := seq_rel (pins := pins) (σ := σ) (s := s) so r hy
              obtain ⟨t0, rfl⟩ : ∃ t, u = Value.str _ t := ru
              obtain ⟨u1, rfl, ru1⟩ := vals1 rv
              have ru1' : u1 = Value.ref p := ru1
              subst ru1'
              rcases hq with hq | hq
              · obtain ⟨its, rr, pl, hz'⟩ := I.list hq
                exact join_list pl.isList (by simpa using strs_rel r1 rr hz) hl fun t' k => ⟨.str _, H, A, I.tok _, ⟨_, rfl⟩, .refl, so, .str⟩
              · obtain ⟨its, rr, pl, hz'⟩ := I.tuple hq
                exact join_tuple pl (by simpa using strs_rel r1 rr hz) hl fun t' k => ⟨.str _, H, A, I.tok _, ⟨_, rfl⟩, .refl, so, .str⟩
            · cases e
          · cases e
        · cases e
  | _ => cases e
noncomputable def truW (S : Store) : W → Option Bool
  | .non => some false
  | .bl b => some b
  | .int i => some (i != 0)
  | .str y => if y.length ≤ sizeLine then some ((y.length : Int) != 0) else none
  | .tup xs => some (!xs.isEmpty)
  | .ref i => (rdL S i).map fun xs => !xs.isEmpty
theorem isEmpty_rel {ws : List W} {vs : List V} (r : RelL X.K A H ws vs) : (!ws.isEmpty) = !vs.isEmpty := by cases r <;> rfl
theorem ltru {x : W} {a : V} {u : Value} {k : Bool} {Q : Bool → Shared → Prop} (I : Inv X pins σ H s) (so : StoreOk X.w X.K A H S) (rx : Rel X.K A H x a) (ru : RelV a u) (e : truW S x = some k) (hq : ∀ s', Inv X pins σ H s' → Q k s') :
    wpAny (model X.prog X.w) X.A (truthy u) Q X.xe s := by
  refine thn (tru_ok pins s σ H a u (fun b H' => b = k ∧ H' = H) I ru ⟨k, ?_, rfl, rfl⟩) fun b s' ⟨H', I', e1, e2⟩ => ?_
  · cases rx with
    | non => cases e; rfl
    | bl => cases e; rfl
    | int => cases e; rfl
    | str =>
      simp only [truW] at e
      split at e
      · cases e; exact ⟨by assumption, rfl⟩
      · cases e
    | tup h1 r1 => cases e; exact .inr (.inl ⟨_, h1, isEmpty_rel r1⟩)
    | ref ea =>
      simp only [truW, Option.map_eq_some_iff] at e
      obtain ⟨ws, hw, e2⟩ := e
      subst e2
      obtain ⟨vs, h1, r1⟩ := rdL_at so hw ea
      exact .inl ⟨_, h1, isEmpty_rel r1⟩
  · subst e1 e2
    exact hq s' I'
end
end Mi
set_option Elab.async false
set_option linter.all false
set_option maxRecDepth 100000
namespace Mi
open PySem PySem.Spec PyProof.Rows L2
mutual
inductive IsT (h : Heap) : T → Value → Prop
  | int {i : Int} {t : Tok} : IsT h (.int i) (.int i t)
  | str {x : Str} {t : Tok} : IsT h (.str x) (.str x t)
  | tup {ks : List T} {a : Addr} {o : Obj} {items : Array Value} {n : Nat} : h.get? a = some o → o.cls = .type "tuple" → o.data = .seq items n → IsTs h ks items.toList → IsT h (.tup ks) (.ref a)
inductive IsTs (h : Heap) : List T → List Value → Prop
  | nil : IsTs h [] []
  | cons {k : T} {v : Value} {ks : List T} {vs : List Value} : IsT h k v → IsTs h ks vs → IsTs h (k :: ks) (v :: vs)
end
mutual
theorem IsT.inj {h : Heap} : ∀ {x y : T} {v : Value}, IsT h x v → IsT h y v → x = y
  | _, _, _, .int, h2 => by cases h2; rfl
  | _, _, _, .str, h2 => by cases h2; rfl
  | _, _, _, .tup a1 _ d1 t1, h2 => by
    cases h2 with
    | tup a2 _ d2 t2 =>
      rw [a1] at a2; cases a2
      rw [d1] at d2; cases d2
      rw [IsTs.inj t1 t2]
theorem IsTs.inj {h : Heap} : ∀ {x y : List T} {v : List Value}, IsTs h x v → IsTs h y v → x = y
  | _, _, _, .nil, h2 => by cases h2; rfl
  | _, _, _, .cons a b, h2 => by
    cases h2 with
    | cons c d => rw [IsT.inj a c, IsTs.inj b d]
end
mutual
theorem IsT.keeps {h h' : Heap} {d : Addr} {o : Obj} {es : Array DictEntry} {ep : Nat} (ho : h.get? d = some o) (hd : o.data = .dict es ep) (hs : Heap.SameBut d h h') : ∀ {x : T} {v : Value}, IsT h x v → IsT h' x v
  | _, _, .int => .int
  | _, _, .str => .str
  | _, _, .tup (a := a) a1 c1 d1 t1 => by
    have hne : a ≠ d := by
      rintro rfl
      rw [a1] at ho; cases ho
      rw [d1] at hd; cases hd
    exact .tup ((hs.2 a hne).trans a1) c1 d1 (IsTs.keeps ho hd hs t1)
theorem IsTs.keeps {h h' : Heap} {d : Addr} {o : Obj} {es : Array DictEntry} {ep : Nat} (ho : h.get? d = some o) (hd : o.data = .dict es ep) (hs : Heap.SameBut d h h') : ∀ {x : List T} {v : List Value}, IsTs h x v → IsTs h' x v
  | _, _, .nil => .nil
  | _, _, .cons a b => .cons (IsT.keeps ho hd hs a) (IsTs.keeps ho hd hs b)
end
theorem IsTs.length {h : Heap} : ∀ {x : List T} {v : List Value}, IsTs h x v → x.length = v.length
  | _, _, .nil => rfl
  | _, _, .cons _ b => by simp [IsTs.length b]
theorem IsTs.get {h : Heap} : ∀ {x : List T} {v : List Value}, IsTs h x v → ∀ (j : Nat) (h1 : j < x.length) (h2 : j < v.length), IsT h x[j] v[j]
  | _, _, .cons a _, 0, _, _ => a
  | _, _, .cons _ b, j + 1, h1, h2 => IsTs.get b j (by simpa using h1) (by simpa using h2)
theorem depth_le : ∀ {ks : List T} (j : Nat) (h : j < ks.length), (ks[j]).depth ≤ T.depths ks
  | k :: ks, 0, _ => by simp only [T.depths, List.getElem_cons_zero]; omega
  | k :: ks, j + 1, h => by
    have := depth_le (ks := ks) j (by simpa using h)
    simp only [T.depths, List.getElem_cons_succ]; omega
section
variable {prog : Program} {w : World} {E : Value → Shared → Prop}
mutual
theorem pyHash_T : ∀ (k : T) (v : Value) (A : Around) (s : Shared) (Q : Int → Shared → Prop), IsT s.heap k v → A.units + k.depth < cLine → Q (hashT w k) { s with toks := s.toks + k.draws } → wpAny (model prog w) A (pyHash v) Q E s
  | .int i, _, A, s, Q, x, _, h => by cases x; exact wpAny_pyHash_int h
  | .str y, _, A, s, Q, x, _, h => by cases x; exact wpAny_pyHash_str h
  | .tup ks, _, A, s, Q, x, hu, h => by
    cases x with
    | @tup _ a o items n hg hc hd hw =>
      simp only [T.depth] at hu
      refine PySem.W.pyHash_slot (T := "tuple") ⟨_, hg, hc⟩ F.slot_tuple_hash F.entry_tuple_hash (F.args_tuple_hash_1 _) (beq_builtin_none _) (.inr (by omega)) ?_
      show wpAny _ _ (Builtin.Tuple.tupleItemsOf (.ref a) >>= _) _ _ s
      refine wpAny_bind (wpAny_tupleItemsOf hg hd ?_)
      refine wpAny_bind ?_
      rw [← Array.forIn_toList]
      refine hashLoop_T ks items.toList A.in1 s #[] _ hw (by rw [in1_units]; omega) fun b hb => ?_
      show wpAny _ _ (retInt (Builtin.Tuple.tupleHashOf b.toList)) _ _ _
      rw [hb]
      refine wpAny_bind (wpAny_mkInt (wpAny_pure ⟨_, _, rfl, ?_⟩))
      simpa [T.draws, Nat.add_assoc, hashT] using h
theorem hashLoop_T : ∀ (ks : List T) (vs : List Value) (A : Around) (s : Shared) (b : Array Int) (Q : Array Int → Shared → Prop), IsTs s.heap ks vs → A.units + T.depths ks < cLine →
    (∀ b', b'.toList = b.toList ++ hashTs w ks → Q b' { s with toks := s.toks + T.drawss ks }) →
    wpAny (model prog w) A (forIn vs b fun x r => do let h ← pyHash x; pure PUnit.unit; pure (ForInStep.yield (r.push h))) Q E s
  | [], _, A, s, b, Q, x, _, h => by cases x; exact wpAny_pure (h b (by simp [hashTs]))
  | k :: ks, _, A, s, b, Q, x, hu, h => by
    cases x with
    | cons x1 x2 =>
      simp only [T.depths] at hu
      rw [List.forIn_cons]
      refine wpAny_bind (wpAny_bind (pyHash_T k _ A s _ x1 (by omega) ?_))
      refine wpAny_bind (wpAny_pure (wpAny_pure ?_))
      refine hashLoop_T ks _ A _ _ Q x2 (by omega) fun b' hb => ?_
      have := h b' (by simp [hb, hashTs])
      simpa [T.drawss, Nat.add_assoc] using this
end
open SeqAt in
theorem eq_T : ∀ (d : Nat) (x y : T) (u v : Value) (B : Around) (s : Shared), x.depth ≤ d → IsT s.heap x u → IsT s.heap y v → B.units + d < cLine → B.units + y.depth < cLine → EqAt B s u v (decide (x = y))
  | d, .int i, y, _, _, B, s, _, h1, h2, hu, hv => by
    cases h1
    cases h2 with
    | int =>
      rename_i j t2
      have : decide (T.int i = T.int j) = (i == j) := by by_cases e : i = j <;> simp [e]
      rw [this]; exact .int_int _ _ _ _
    | str => rw [decide_eq_false (by simp)]; exact .int_str _ _ _ _
    | tup a c dd t => rw [decide_eq_false (by simp)]; exact .int_tuple _ _ ⟨_, a, c, _, dd⟩ (by simp only [T.depth] at hv; omega)
  | d, .str z, y, _, _, B, s, _, h1, h2, hu, hv => by
    cases h1
    cases h2 with
    | int => rw [decide_eq_false (by simp)]; exact .str_int _ _ _ _
    | str =>
      rename_i z2 t2
      have : decide (T.str z = T.str z2) = (z == z2) := by by_cases e : z = z2 <;> simp [e]
      rw [this]; exact .str_str _ _ _ _
    | tup a c dd t => rw [decide_eq_false (by simp)]; exact .str_tuple _ _ ⟨_, a, c, _, dd⟩ (by simp only [T.depth] at hv; omega)
  | 0, .tup ks, y, _, _, B, s, hd, h1, h2, hu, hv => by simp [T.depth] at hd
  | d + 1, .tup ks, y, _, _, B, s, hd, h1, h2, hu, hv => by
    have h1' := h1
    cases h1 with
    | @tup _ a o items n a1 c1 d1 t1 =>
      have hT : s.heap.IsTuple a items := ⟨_, a1, c1, _, d1⟩
      simp only [T.depth] at hd
      cases h2 with
      | int => rw [decide_eq_false (by simp)]; exact .tuple_int _ _ hT (by omega)
      | str => rw [decide_eq_false (by simp)]; exact .tuple_str _ _ hT (by omega)
      | @tup ks2 b o2 items2 n2 a2 c2 d2 t2 =>
        have hT2 : s.heap.IsTuple b items2 := ⟨_, a2, c2, _, d2⟩
        by_cases hab : a = b
        · subst hab
          have : T.tup ks = T.tup ks2 := h1'.inj (.tup a2 c2 d2 t2)
          rw [decide_eq_true this]
          exact EqAt.same _
        · refine EqAt.of_refs hab ?_
          simp only [T.depth] at hv
          have l1 : items.size = ks.length := by rw [← Array.length_toList, t1.length]
          have l2 : items2.size = ks2.length := by rw [← Array.length_toList, t2.length]
          let e : Nat → Bool := fun j => if h : j < ks.length ∧ j < ks2.length then decide (ks[j]'h.1 = ks2[j]'h.2) else true
          have he : ∀ j (h1 : j < items.size) (h2 : j < items2.size), EqAt B.in1 s items[j] items2[j] (e j) := fun j j1 j2 => by
            have g1 := t1.get j (l1 ▸ j1) (by simpa using j1)
            have g2 := t2.get j (l2 ▸ j2) (by simpa using j2)
            have q1 := depth_le (ks := ks) j (l1 ▸ j1)
            have q2 := depth_le (ks := ks2) j (l2 ▸ j2)
            have := eq_T d _ _ _ _ B.in1 s (by omega) g1 g2 (by rw [in1_units]; omega) (by rw [in1_units]; omega)
            show EqAt B.in1 s items[j] items2[j] (if h : j < ks.length ∧ j < ks2.length then decide (ks[j]'h.1 = ks2[j]'h.2) else true)
            rw [dif_pos ⟨l1 ▸ j1, l2 ▸ j2⟩]
            simpa using this
          have := RcAt.tuples hT hT2 (by omega) he
          have hk : ((List.range (min items.size items2.size)).all e && items.size == items2.size) = decide (T.tup ks = T.tup ks2) := by
            rw [l1, l2]
            by_cases hl : ks.length = ks2.length
            · by_cases hq : ks = ks2
              · subst hq
                simp only [Nat.min_self, beq_self_eq_true, Bool.and_true, decide_true, List.all_eq_true, List.mem_range]
                intro j hj
                show (if h : j < ks.length ∧ j < ks.length then decide (ks[j]'h.1 = ks[j]'h.2) else true) = true
                rw [dif_pos ⟨hj, hj⟩]; simp
              · rw [decide_eq_false (by simpa using hq)]
                have : ∃ j, ∃ h : j < ks.length, ks[j] ≠ ks2[j]'(hl ▸ h) := by
                  apply Classical.byContradiction
                  intro hn
                  exact hq (List.ext_getElem hl fun j h1 h2 => Classical.byContradiction fun z => hn ⟨j, h1, z⟩)
                obtain ⟨j, hj, hne⟩ := this
                rw [Bool.and_eq_false_iff]
                left
                rw [List.all_eq_false]
                refine ⟨j, by rw [List.mem_range, ← hl, Nat.min_self]; exact hj, ?_⟩
                show ¬ (if h : j < ks.length ∧ j < ks2.length then decide (ks[j]'h.1 = ks2[j]'h.2) else true) = true
                rw [dif_pos ⟨hj, hl ▸ hj⟩]
                simpa using hne
            · rw [decide_eq_false (by simp; intro z; exact hl (by rw [z])), Bool.and_eq_false_iff]
              right
              simpa using hl
          rw [hk] at this
          exact this
theorem quiet_byV {n : Nat} {v : Value} (h : ∀ a, v ≠ .ref a) : eqIsQuiet n v = pure true := by
  cases v with
  | ref a => exact absurd rfl (h a)
  | _ => first | rfl | simp [eqIsQuiet] | (unfold eqIsQuiet; rfl)
theorem quiet_T : ∀ (d : Nat) (k : T) (v : Value) (A : Around) (s : Shared) (Q : Bool → Shared → Prop), k.depth ≤ d → IsT s.heap k v → Q true s → wpAny (model prog w) A (eqIsQuiet d v) Q E s
  | d, .int i, _, A, s, Q, _, x, h => by cases x; rw [quiet_byV (fun a => by simp)]; exact wpAny_pure h
  | d, .str i, _, A, s, Q, _, x, h => by cases x; rw [quiet_byV (fun a => by simp)]; exact wpAny_pure h
  | 0, .tup ks, _, A, s, Q, hd, x, h => by simp [T.depth] at hd
  | d + 1, .tup ks, _, A, s, Q, hd, x, h => by
    cases x with
    | @tup _ a o items n ho hc hdt hi =>
      simp only [T.depth] at hd
      have hT : s.TypeIs (.ref a) "tuple" := ⟨_, ho, hc⟩
      unfold eqIsQuiet
      refine wpAny_bind (wpAny_specialOf hT F.slot_tuple_eq.lookup ?_)
      show wpAny _ _ (isInstance (.ref a) (.type "tuple") >>= _) _ _ s
      refine wpAny_bind (wpAny_isInstance hT isSubtype_tuple_tuple ?_)
      simp only [Bool.not_true, Bool.false_eq_true, if_false]
      refine wpAny_bind (wpAny_seqItems ho hdt ?_)
      refine wpAny_bind ?_
      show wpAny _ _ (forIn items _ _) _ _ s
      rw [← Array.forIn_toList]
      refine wpAny_forIn_list _ (fun rest r s' => r.1 = none ∧ s' = s ∧ ∃ kk, IsTs s.heap kk rest ∧ T.depths kk ≤ d) _ ?_ ?_ _ _ ⟨rfl, rfl, ks, hi, by omega⟩
      · rintro v rest r s' ⟨hr, rfl, kk, hall, hdk⟩
        cases hall with
        | cons q1 q2 =>
          simp only [T.depths] at hdk
          refine wpAny_bind (quiet_T d _ v _ _ _ (by omega) q1 ?_)
          simp only [Bool.not_true, Bool.false_eq_true, if_false]
          exact wpAny_pure ⟨rfl, rfl, _, q2, by omega⟩
      · rintro ⟨r1, r2⟩ s' ⟨hr, rfl, _⟩
        simp only at hr
        subst hr
        exact wpAny_pure h
end
noncomputable def treeKind (prog : Program) (w : World) : HeapKind prog w T where
  is := fun h k a => IsT h k (.ref a) ∧ k.depth ≤ keyLim
  hash := hashT w
  draws := T.draws
  room := fun A => A.units + keyLim < cLine
  inj := fun hx hy => hx.1.inj hy.1
  keeps := fun x ho hd hs => ⟨x.1.keeps ho hd hs, x.2⟩
  pyHash := fun hu hk h => pyHash_T _ _ _ _ _ hk.1 (by have := hk.2; omega) h
  eqBool := fun hu hx hy h => eq_T keyLim _ _ _ _ _ _ hx.2 hx.1 hy.1 hu (by have := hy.2; omega) _ _ _ _ h
  quiet := fun hk h => quiet_T 8 _ _ _ _ _ (by have := hk.2; unfold keyLim at this; omega) hk.1 h
end Mi
set_option Elab.async false
set_option linter.all false
set_option maxRecDepth 100000
namespace Mi
open PySem PySem.Spec PyProof.Rows L2
noncomputable def rdD (S : Store) (i : Nat) : Option (List (T × W)) := match S[i]? with
  | some (.dic kvs) => some kvs
  | some (.frd kvs) => some kvs
  | _ => none
noncomputable def rdDm (S : Store) (i : Nat) : Option (List (T × W)) := match S[i]? with
  | some (.dic kvs) => some kvs
  | _ => none
noncomputable def getT (kvs : List (T × W)) (k : T) : Option W := (kvs.find? fun p => decide (p.1 = k)).map (·.2)
noncomputable def putT (kvs : List (T × W)) (k : T) (v : W) : List (T × W) :=
  if (kvs.any fun p => decide (p.1 = k)) = true then kvs.map (fun p => if p.1 = k then (p.1, v) else p) else kvs ++ [(k, v)]
noncomputable def keyW (w : W) : Option T := match W.t w with
  | some k => if k.isTup = true ∧ k.depth ≤ keyLim then some k else none
  | none => none
theorem keyW_spec {w : W} {k : T} (h : keyW w = some k) : k.w = w ∧ k.isTup = true ∧ k.depth ≤ keyLim := by
  unfold keyW at h
  split at h
  · rename_i k' hk
    split at h
    · rename_i hc
      cases h
      exact ⟨W.t_w hk, hc.1, hc.2⟩
    · cases h
  · cases h
theorem length_putT (kvs : List (T × W)) (k : T) (v : W) : (putT kvs k v).length ≤ kvs.length + 1 := by
  unfold putT
  split
  · rw [List.length_map]; omega
  · rw [List.length_append, List.length_cons, List.length_nil]; omega
section
variable {X : Cx} {pins : List (Addr × Obj)} {σ : L2.St} {H : Hp} {s : Shared} {A : List Addr} {S : Store}
mutual
theorem isT_of (I : Inv X pins σ H s) : ∀ (k : T) {v : V} {u : Value}, Rel X.K A H k.w v → RelV v u → IsT s.heap k u
  | .int i, _, _, r, q => by
    cases r
    obtain ⟨t, rfl⟩ : ∃ t, _ = Value.int _ t := q
    exact .int
  | .str x, _, _, r, q => by
    cases r
    obtain ⟨t, rfl⟩ : ∃ t, _ = Value.str _ t := q
    exact .str
  | .tup ks, _, _, r, q => by
    simp only [T.w] at r
    cases r with
    | tup sq rl =>
      obtain ⟨its, rv, ⟨o, h1, h2, n, h3⟩, hz⟩ := I.tuple sq
      obtain rfl : _ = Value.ref _ := q
      exact .tup h1 h2 h3 (isTs_of I ks rl (by simpa using rv))
theorem isTs_of (I : Inv X pins σ H s) : ∀ (ks : List T) {vs : List V} {us : List Value}, RelL X.K A H (T.ws ks) vs → Vals vs us → IsTs s.heap ks us
  | [], _, _, r, q => by
    simp only [T.ws] at r
    cases r; cases q; exact .nil
  | k :: ks, _, _, r, q => by
    simp only [T.ws] at r
    cases r with
    | cons r1 r2 =>
      cases q with
      | cons q1 q2 => exact .cons (isT_of I k r1 q1) (isTs_of I ks r2 q2)
end
theorem is_key (I : Inv X pins σ H s) {k : T} {b : Addr} (r : Rel X.K A H k.w (.ref b)) (hd : k.depth ≤ keyLim) : (treeKind X.prog X.w).is s.heap k b := ⟨isT_of I k r rfl, hd⟩
theorem key_ref {w : W} {k : T} {v : V} {u : Value} (hk : keyW w = some k) (r : Rel X.K A H w v) (q : RelV v u) : ∃ b, v = .ref b ∧ u = .ref b ∧ Rel X.K A H k.w (.ref b) := by
  obtain ⟨h1, h2, h3⟩ := keyW_spec hk
  subst h1
  cases k with
  | tup ks =>
    simp only [T.w] at r
    cases r with
    | tup a b => exact ⟨_, rfl, q, by simp only [T.w]; exact .tup a b⟩
  | _ => cases h2
theorem KRel.is {kvs : List (T × W)} {xs : List (T × Addr × Value)} (I : Inv X pins σ H s) (r : KRel X.K A H kvs xs) : ∀ x ∈ xs, (treeKind X.prog X.w).is s.heap x.1 x.2.1 := by
  unfold KRel at r
  induction r with
  | nil => intro x hx; exact nomatch hx
  | @cons p q ps qs h t ih =>
    intro x hx
    rcases List.mem_cons.mp hx with e | hx
    · subst e
      obtain ⟨h1, h2, h3, h4, _⟩ := h
      rw [h1] at h3 h4
      exact is_key I h4 h3
    · exact ih x hx
theorem KRel.length {kvs : List (T × W)} {xs : List (T × Addr × Value)} (r : KRel X.K A H kvs xs) : kvs.length = xs.length := Paired.length r
theorem KRel.val {kvs : List (T × W)} {xs : List (T × Addr × Value)} (r : KRel X.K A H kvs xs) (k : T) :
    (∀ w, getT kvs k = some w → ∃ p v, atKey xs k = some p ∧ Rel X.K A H w v ∧ RelV v p.2) ∧ (getT kvs k = none → atKey xs k = none) := by
  unfold KRel at r
  induction r with
  | nil => exact ⟨fun w h => (nomatch h), fun _ => rfl⟩
  | @cons p q ps qs h t ih =>
    obtain ⟨h1, _, _, _, v, h5, h6⟩ := h
    by_cases e : p.1 = k
    · have e' : q.1 = k := h1.symm.trans e
      have a1 : getT (p :: ps) k = some p.2 := by simp [getT, List.find?_cons, e]
      have a2 : atKey (q :: qs) k = some q.2 := by simp [atKey, List.find?_cons, e']
      rw [a1, a2]
      exact ⟨fun w hw => (by cases hw; exact ⟨_, v, rfl, h5, h6⟩), fun h => nomatch h⟩
    · have e' : ¬ q.1 = k := fun z => e (h1.trans z)
      have a1 : getT (p :: ps) k = getT ps k := by simp [getT, List.find?_cons, e]
      have a2 : atKey (q :: qs) k = atKey qs k := by simp [atKey, List.find?_cons, e']
      rw [a1, a2]
      exact ih
theorem KRel.repl {kvs : List (T × W)} {xs : List (T × Addr × Value)} (r : KRel X.K A H kvs xs) (k : T) {w : W} {v : V} {u : Value} (rw' : Rel X.K A H w v) (rv : RelV v u) :
    KRel X.K A H (kvs.map fun p => if p.1 = k then (p.1, w) else p) (xs.map (putAt k u)) := by
  unfold KRel at r ⊢
  induction r with
  | nil => exact .nil
  | @cons p q ps qs h t ih =>
    rw [List.map_cons, List.map_cons]
    refine .cons ?_ ih
    obtain ⟨h1, h2, h3, h4, h5⟩ := h
    unfold putAt
    by_cases e : p.1 = k
    · rw [if_pos e, if_pos (h1.symm.trans e)]; exact ⟨h1, h2, h3, h4, v, rw', rv⟩
    · rw [if_neg e, if_neg (fun z => e (h1.trans z))]; exact ⟨h1, h2, h3, h4, h5⟩
theorem getT_any (k : T) : ∀ kvs : List (T × W), (kvs.any fun p => decide (p.1 = k)) = (getT kvs k).isSome
  | [] => rfl
  | p :: r => by
    rw [List.any_cons]
    by_cases e : p.1 = k
    · have a1 : getT (p :: r) k = some p.2 := by simp [getT, List.find?_cons, e]
      rw [a1, decide_eq_true e]; rfl
    · have a1 : getT (p :: r) k = getT r k := by simp [getT, List.find?_cons, e]
      rw [a1, decide_eq_false e, Bool.false_or]; exact getT_any k r
theorem KRel.put {kvs : List (T × W)} {xs : List (T × Addr × Value)} (r : KRel X.K A H kvs xs) {k : T} {b : Addr} {w : W} {v : V} {u : Value} (h1 : k.isTup = true) (h2 : k.depth ≤ keyLim) (h3 : Rel X.K A H k.w (.ref b)) (rw' : Rel X.K A H w v) (rv : RelV v u) :
    KRel X.K A H (putT kvs k w) (storedH xs k b u) := by
  have e : (kvs.any fun p => decide (p.1 = k)) = (atKey xs k).isSome := by
    rw [getT_any]
    cases q : getT kvs k with
    | none => rw [(r.val k).2 q]; rfl
    | some x => obtain ⟨p, _, h, _⟩ := (r.val k).1 x q; rw [h]; rfl
  unfold putT storedH
  rw [e]
  by_cases q : (atKey xs k).isSome = true
  · rw [if_pos q, if_pos q]; exact r.repl k rw' rv
  · rw [if_neg q, if_neg q]; exact Paired.snoc r ⟨rfl, h1, h2, h3, v, rw', rv⟩
theorem DicAt.of {h : Heap} {a : Addr} {xs : List (T × Addr × Value)} (hz : xs.length ≤ sizeLine) (hs : (a == sysModules) = false) (d : h.DictOfH (treeKind X.prog X.w) a xs) : DicAt X.w a xs h :=
  let ⟨o, es, ep, h1, h2, h3, h4, _, h6⟩ := d; ⟨hz, hs, h6, o, es, ep, h1, h2, h3, h4⟩
theorem DicAt.stay {wd : World} {h h' : Heap} {a : Addr} {xs : List (T × Addr × Value)} (d : DicAt wd a xs h) (k : ∀ o, h.get? a = some o → h'.get? a = some o) : DicAt wd a xs h' :=
  let ⟨h0, hs, hn, o, es, ep, h1, h2⟩ := d; ⟨h0, hs, hn, o, es, ep, k _ h1, h2⟩
theorem DicAt.ok {P : Program} {h : Heap} {wd : World} {a : Addr} {xs : List (T × Addr × Value)} (d : DicAt wd a xs h) : ObjOk P wd H h a (dicO wd a xs) :=
  ⟨d, let ⟨_, _, _, o, _, _, h1, _⟩ := d; ⟨o, h1⟩, fun _ _ p k => p.stay k⟩
theorem dic_get {a : Addr} {xs : List (T × Addr × Value)} (I : Inv X pins σ H s) (e : Rd H a (dicO X.w a xs)) : DicAt X.w a xs s.heap := (show ObjOk X.prog X.w H s.heap a (dicO X.w a xs) from e.ok I.hok).1
theorem DicAt.dict {kvs : List (T × W)} {a : Addr} {xs : List (T × Addr × Value)} (d : DicAt X.w a xs s.heap) (I : Inv X pins σ H s) (r : KRel X.K A H kvs xs) : s.heap.DictOfH (treeKind X.prog X.w) a xs :=
  let ⟨_, _, hn, o, es, ep, h1, h2, h3, h4⟩ := d; ⟨o, es, ep, h1, h2, h3, h4, r.is I, hn⟩
theorem rdD_at {i : Nat} {kvs : List (T × W)} {a : Addr} (so : StoreOk X.w X.K A H S) (e : rdD S i = some kvs) (ea : A[i]? = some a) : ∃ xs, Rd H a (dicO X.w a xs) ∧ KRel X.K A H kvs xs := by
  unfold rdD at e
  split at e
  · rename_i k h
    cases e
    obtain ⟨xs, q, r⟩ := so.obj i _ a h ea
    exact ⟨xs, .inl q, r⟩
  · rename_i k h
    cases e
    obtain ⟨o, xs, q, r⟩ := so.obj i _ a h ea
    exact ⟨xs, .inr ⟨o, q⟩, r⟩
  · cases e
theorem rdDm_eq {i : Nat} {kvs : List (T × W)} (e : rdDm S i = some kvs) : S[i]? = some (.dic kvs) := by
  unfold rdDm at e
  split at e
  · rename_i h; cases e; exact h
  · cases e
theorem rdDm_at {i : Nat} {kvs : List (T × W)} {a : Addr} (so : StoreOk X.w X.K A H S) (e : rdDm S i = some kvs) (ea : A[i]? = some a) : ∃ xs, H a = some (dicO X.w a xs) ∧ KRel X.K A H kvs xs :=
  so.obj i _ a (rdDm_eq e) ea
theorem room1 {B : Around} (hu : B.units + 10 < cLine) : (treeKind X.prog X.w).room B.in1 := by
  show B.in1.units + keyLim < cLine
  rw [in1_units]; unfold keyLim; omega
noncomputable def ixX (x y : W) (S : Store) : Option (W × Store) := match x, y with
  | .ref r, .tup ks => match rdD S r, keyW (.tup ks) with
    | some kvs, some k => (getT kvs k).map fun w => (w, S)
    | _, _ => none
  | x, y => ixW x y S
theorem lixX (hu : X.A.units + 10 < cLine) : LIx X ixX := by
  intro value slice pins s σ H A S x y a b u v w S' I so rx ru ry rv e hs
  by_cases hxy : ∃ r ks, x = .ref r ∧ y = .tup ks
  · obtain ⟨r, ks, rfl, rfl⟩ := hxy
    simp only [ixX] at e
    split at e
    · rename_i kvs k hk1 hk2
      rw [Option.map_eq_some_iff] at e
      obtain ⟨w', e1, e2⟩ := e
      cases e2
      cases rx with
      | ref ea =>
        obtain ⟨xs, rd, kr⟩ := rdD_at so hk1 ea
        have d := dic_get I rd
        have dd := d.dict I kr
        obtain ⟨bk, rfl, rfl, rk⟩ := key_ref hk2 ry rv
        obtain ⟨p, vv, h1, h2, h3⟩ := (kr.val k).1 _ e1
        obtain rfl : u = Value.ref _ := ru
        refine subscriptTail_builtinR (x := p.2) dd.typeIs slot_dict_getitem.lookup
          (wpAny_getItem_heap (Q := fun r s' => r = p.2 ∧ PostE X pins σ A H S w r s') (room1 hu) (is_key I rk (keyW_spec hk2).2.2) dd h1 ⟨rfl, vv, H, A, I.tok _, h3, .refl, so, h2⟩) hs
    · cases e
  · have : ixX x y S = ixW x y S := by
      cases x <;> cases y <;> first | rfl | exact absurd ⟨_, _, rfl, rfl⟩ hxy
    rw [this] at e
    exact lix value slice pins s σ H A S x y a b u v w S' I so rx ru ry rv e hs
noncomputable def setX (o i v : W) (S : Store) : Option Store := match o, i with
  | .ref r, .tup ks => match rdDm S r, keyW (.tup ks) with
    | some kvs, some k => if kvs.length < sizeLine then some (S.set r (.dic (putT kvs k v))) else none
    | _, _ => none
  | o, i => setW o i v S
theorem lsetX (hu : X.A.units + 10 < cLine) : LSet X setX := by
  intro pins s σ H A S o i x ao ai ax uo ui ux S' I so ro ruo ri rui rx rux e
  by_cases hxy : ∃ r ks, o = .ref r ∧ i = .tup ks
  · obtain ⟨r, ks, rfl, rfl⟩ := hxy
    simp only [setX] at e
    split at e
    · rename_i kvs k hk1 hk2
      split at e
      · rename_i hl
        cases e
        cases ro with
        | ref ea =>
          obtain ⟨xs, hH, kr⟩ := rdDm_at so hk1 ea
          have d := dic_get I (.inl hH)
          have dd := d.dict I kr
          obtain ⟨bk, rfl, rfl, rk⟩ := key_ref hk2 ri rui
          obtain ⟨q1, q2, q3⟩ := keyW_spec hk2
          obtain rfl : uo = Value.ref _ := ruo
          have hz : xs.length ≤ sizeLine := by rw [← kr.length]; omega
          refine wpAny_setItem_heap (hsz := hz) (room1 hu) (is_key I rk q3) dd fun h' dd' hs => ?_
          have kr' := kr.put q2 q3 rk rx rux
          have hz' : (storedH xs k bk ux).length ≤ sizeLine := by
            rw [← kr'.length]
            have := length_putT kvs k x
            omega
          have dn : DicAt X.w _ (storedH xs k bk ux) h' := .of hz' d.2.1 dd'
          obtain ⟨so', ex⟩ := so.writeO (rdDm_eq hk1) rfl ea (u := dicO X.w _ (storedH xs k bk ux)) (n := .dic (putT kvs k x)) ⟨_, upd_same, kr'.mono (ext_upd (.ext hH))⟩
          exact ⟨_, A, d_write I (by rw [hH]; exact True.intro) hs (let ⟨q, _, _, hq, _⟩ := dd'; ⟨q, hq⟩) dn.ok, ex, so'⟩
      · cases e
    · cases e
  · have : setX o i x S = setW o i x S := by
      cases o <;> cases i <;> first | rfl | exact absurd ⟨_, _, rfl, rfl⟩ hxy
    rw [this] at e
    exact lset pins s σ H A S o i x ao ai ax uo ui ux S' I so ro ruo ri rui rx rux e
noncomputable def dgetW (x : W) (xs : List W) (S : Store) : Option (W × Store) := match x, xs with
  | .ref r, [y, z] => match rdD S r, keyW y with
    | some kvs, some k => some ((getT kvs k).getD z, S)
    | _, _ => none
  | _, _ => none
theorem lmeth_dget (hu : X.A.units + 10 < cLine) : LMeth X "dict.get" dgetW := by
  intro pins s σ H A S x a u xs vs us w S' I so rx ru rl rv e
  cases rx with
  | ref ea =>
    cases rl with
    | nil => cases e
    | cons r1 t1 =>
      cases t1 with
      | nil => cases e
      | cons r2 t2 =>
        cases t2 with
        | cons _ _ => cases e
        | nil =>
          simp only [dgetW] at e
          split at e
          · rename_i kvs k hk1 hk2
            cases e
            obtain ⟨xs, rd, kr⟩ := rdD_at so hk1 ea
            have d := dic_get I rd
            have dd := d.dict I kr
            cases rv with
            | cons v1 rv2 =>
              cases rv2 with
              | cons v2 rv3 =>
                cases rv3
                obtain ⟨bk, rfl, rfl, rk⟩ := key_ref hk2 r1 v1
                obtain rfl : u = Value.ref _ := ru
                refine call_meetsIn PySem.F.slot_dict_get dd.typeIs PySem.F.entry_dict_get (PySem.F.args_dict_get_3 _ _ _) (meetsH_dict_get_default (treeKind X.prog X.w) _ bk d.2.1 _) ⟨room1 hu, k, xs, is_key I rk (keyW_spec hk2).2.2, dd, ?_⟩
                cases q : getT kvs k with
                | none =>
                  rw [(kr.val k).2 q]
                  exact ⟨_, H, A, I.tok _, v2, .refl, so, r2⟩
                | some w' =>
                  obtain ⟨p, vv, h1, h2, h3⟩ := (kr.val k).1 _ q
                  rw [h1]
                  exact ⟨vv, H, A, I.tok _, h3, .refl, so, h2⟩
          · cases e
  | _ => cases e
noncomputable def copX (o : COp) (x y : W) (S : Store) : Option (W × Store) := match o, y with
  | .isin, .ref i => match rdD S i with
    | some kvs => (keyW x).map fun k => (.bl (getT kvs k).isSome, S)
    | none => copE .isin x (.ref i) S
  | .notin, .ref i => match rdD S i with
    | some kvs => (keyW x).map fun k => (.bl (!(getT kvs k).isSome), S)
    | none => copE .notin x (.ref i) S
  | o, y => copE o x y S
theorem lop_cmpX (hu : X.A.units + deep < cLine) (o : COp) : LOp X (compareOp o.py) (copX o) := by
  intro pins s σ H A S x y a b u v w S' I so rx ru ry rv e
  have get : ∀ {i : Nat} {kvs : List (T × W)} {k : T}, y = .ref i → rdD S i = some kvs → keyW x = some k → ∃ d c xs, v = .ref d ∧ u = .ref c ∧ (d == sysModules) = false ∧ (treeKind X.prog X.w).is s.heap k c ∧ s.heap.DictOfH (treeKind X.prog X.w) d xs ∧ (getT kvs k).isSome = (atKey xs k).isSome := by
    intro i kvs k hy hk1 hk2
    subst hy
    cases ry with
    | ref ea =>
      obtain ⟨xs, rd, kr⟩ := rdD_at so hk1 ea
      have d := dic_get I rd
      obtain ⟨bk, rfl, rfl, rk⟩ := key_ref hk2 rx ru
      obtain rfl : v = Value.ref _ := rv
      refine ⟨_, bk, xs, rfl, rfl, d.2.1, is_key I rk (keyW_spec hk2).2.2, d.dict I kr, ?_⟩
      cases q : getT kvs k with
      | none => rw [(kr.val k).2 q]; rfl
      | some w' => obtain ⟨p, _, h1, _⟩ := (kr.val k).1 _ q; rw [h1]; rfl
  have old : copE o x y S = some (w, S') → wpAny (model X.prog X.w) X.A (compareOp o.py u v) (PostE X pins σ A H S' w) X.xe s := fun h => lop_cmp hu o pins s σ H A S x y a b u v w S' I so rx ru ry rv h
  have hu' : X.A.units + 10 < cLine := by have : deep = 20 := rfl; omega
  unfold copX at e
  split at e
  · split at e
    · rename_i kvs hk1
      rw [Option.map_eq_some_iff] at e
      obtain ⟨k, hk2, e2⟩ := e
      cases e2
      obtain ⟨d, c, xs, rfl, rfl, q1, q2, q3, q4⟩ := get rfl hk1 hk2
      rw [q4]
      exact wpAny_in_heap (room1 hu') q2 q1 q3 ⟨.bl _, H, A, I.tok _, rfl, .refl, so, .bl⟩
    · exact old e
  · split at e
    · rename_i kvs hk1
      rw [Option.map_eq_some_iff] at e
      obtain ⟨k, hk2, e2⟩ := e
      cases e2
      obtain ⟨d, c, xs, rfl, rfl, q1, q2, q3, q4⟩ := get rfl hk1 hk2
      rw [q4]
      exact wpAny_notIn_heap (room1 hu') q2 q1 q3 ⟨.bl _, H, A, I.tok _, rfl, .refl, so, .bl⟩
    · exact old e
  · exact old e
end
end Mi
set_option Elab.async false
set_option linter.all false
set_option maxRecDepth 100000
namespace Mi
open PySem PySem.Spec PyProof.Rows L2
noncomputable def RawD (d : Addr) (es : Array DictEntry) (ep : Nat) (h : Heap) : Prop := ∃ o, h.get? d = some o ∧ o.ExactDict ∧ o.data = .dict es ep
theorem RawD.at {d : Addr} {es : Array DictEntry} {ep : Nat} {h h' : Heap} (x : RawD d es ep h) (e : ∀ o, h.get? d = some o → h'.get? d = some o) : RawD d es ep h' := let ⟨o, ho, r⟩ := x; ⟨o, e _ ho, r⟩
theorem RawD.lt {d : Addr} {es : Array DictEntry} {ep : Nat} {h : Heap} (x : RawD d es ep h) : d < h.objs.size := let ⟨_, ho, _⟩ := x; Heap.lt_size ho
theorem RawD.type {d : Addr} {es : Array DictEntry} {ep : Nat} {s : Shared} (x : RawD d es ep s.heap) : s.TypeIs (.ref d) "dict" := let ⟨o, ho, hc, _⟩ := x; ⟨o, ho, hc.1⟩
section
variable {prog : Program} {w : World} {A : Around} {E : Value → Shared → Prop} {s : Shared} {it d : Addr} {i ep : Nat} {es : Array DictEntry}
theorem raw_iter {Q : Value → Shared → Prop} (hd : (d == sysModules) = false) (hm : RawD d es ep s.heap)
    (hQ : Q (.ref s.heap.objs.size) { s with heap := s.heap.push { cls := .type "dict_keyiterator", data := .fields #[.ref d, .int 0 0, .int es.size 0, .int ep 0] } }) : wpAny (model prog w) A (pyIter (.ref d)) Q E s := by
  have hT := hm.type
  obtain ⟨o, ho, hc, hdat⟩ := id hm
  refine wpAny_pyIter_slot hT F.slot_dict_iter (wpAny_call_entry F.slot_dict_iter hT F.entry_dict_iter ?_ (F.args_dict_iter_1 _))
  unfold Builtin.«dict.__iter__» Builtin.Dict.dictSlotNone
  refine wpAny_bind (wpAny_bind (wpAny_notOrdered_dict hT ?_))
  show wpAny _ _ (pure (Value.ref d)) _ _ s
  refine wpAny_pure ?_
  show wpAny _ _ (Builtin.Dict.showsAll d >>= _) _ _ s
  unfold Builtin.Dict.showsAll
  rw [if_neg (by rw [hd]; exact Bool.false_ne_true)]
  refine wpAny_bind (wpAny_pure (wpAny_bind (wpAny_dictEntries ho hdat (wpAny_bind (wpAny_dictEpoch ho hdat ?_)))))
  refine wpAny_bind (wpAny_newObj_type (wpAny_pure ⟨_, rfl, "dict_keyiterator", _, ⟨_, Heap.get?_push_size _ rfl, rfl⟩, F.slot_dict_keyiterator_next.lookup, ?_⟩))
  simpa [rawInt] using hQ
theorem raw_next {Q : Option Value → Shared → Prop} (hit : s.heap.IsKeyIter it d i es.size ep) (hm : RawD d es ep s.heap) (hi : i < es.size)
    (hQ : ∀ h', h'.IsKeyIter it d (i + 1) es.size ep → Heap.SameBut it s.heap h' → Q (some es[i].key) { s with heap := h' }) : wpAny (model prog w) A (pyNext (.ref it)) Q E s := by
  obtain ⟨o, ho, hc, hd⟩ := id hit
  obtain ⟨od, hod, hcd, hdd⟩ := id hm
  unfold pyNext
  refine wpAny_bind (wpAny_attempt (wpAny_callSpecial?_slot (name := Str.ofString "__next__") hit.typeIs F.slot_dict_keyiterator_next
    (wpAny_call_entry F.slot_dict_keyiterator_next hit.typeIs F.entry_dict_keyiterator_next ?_ (F.args_dict_keyiterator_next_1 _))))
  refine wpAny_bind (wpAny_pure (wpAny_bind (wpAny_bind ?_)))
  first | refine wpAny_bind (wpAny_typeNameOfWhole_keyiter hit.typeIs (wpAny_pure ?_)) | refine wpAny_bind (wpAny_typeNameOf_keyiter hit.typeIs (wpAny_pure ?_))
  refine wpAny_bind (wpAny_fieldsOf ho hd ?_)
  have hown : Builtin.Dict_items.ownsTuple "dict_keyiterator" = false := by decide
  simp only [hown, Bool.false_eq_true, if_false]
  show wpAny _ _ (if (Value.ref d == Value.none) = true then _ else _) _ _ s
  rw [if_neg (show ¬ ((Value.ref d == Value.none) = true) from Bool.false_ne_true)]
  refine wpAny_bind (wpAny_pure (wpAny_bind (wpAny_dictEntries hod hdd ?_)))
  rw [if_neg (by simp)]
  refine wpAny_bind (wpAny_pure (wpAny_bind (wpAny_dictEpoch hod hdd ?_)))
  rw [if_neg (by simp)]
  refine wpAny_pure ?_
  simp only [show ¬ ((i : Int) < 0) from by omega, if_false, Int.toNat_natCast, Array.getElem?_eq_getElem hi]
  refine wpAny_bind ?_
  first | refine wpAny_bind (wpAny_typeNameOfWhole_keyiter hit.typeIs (wpAny_pure ?_)) | refine wpAny_bind (wpAny_typeNameOf_keyiter hit.typeIs (wpAny_pure ?_))
  refine wpAny_bind (wpAny_isOneOf_keyiter hit.typeIs ?_)
  show wpAny _ _ (setField (.ref it) 1 (rawInt ((i : Int) + 1)) >>= _) _ _ s
  refine wpAny_bind (wpAny_setField ho hd (by simp) ?_)
  have hit' : (s.heap.update it (Obj.mapFields (·.setIfInBounds 1 (rawInt ((i : Int) + 1))))).IsKeyIter it d (i + 1) es.size ep :=
    ⟨_, Heap.get?_update_self _ ho (Obj.isFreed_of_fields (Obj.data_mapFields hd _)), (Obj.cls_mapFields ..).trans hc, by rw [Obj.data_mapFields hd]; simp [rawInt]⟩
  refine wpAny_bind (wpAny_holding ?_)
  refine wpAny_bind (wpAny_isOneOf_keyiter (s := { s with heap := s.heap.update it (Obj.mapFields (·.setIfInBounds 1 (rawInt ((i : Int) + 1)))) }) hit'.typeIs ?_)
  show wpAny _ _ (pure es[i].key) _ _ _
  exact wpAny_pure (wpAny_pure ⟨_, rfl, wpAny_pure (hQ _ hit' (Heap.SameBut.update ..))⟩)
theorem raw_end {Q : Option Value → Shared → Prop} (hh : A.handled = none) (hit : s.heap.IsKeyIter it d i es.size ep) (hm : RawD d es ep s.heap) (hge : es.size ≤ i)
    (hQ : ∀ h', Heap.ExtBut it s.heap h' → Q none { s with heap := h' }) : wpAny (model prog w) A (pyNext (.ref it)) Q E s := by
  obtain ⟨o, ho, hc, hd⟩ := id hit
  obtain ⟨od, hod, hcd, hdd⟩ := id hm
  unfold pyNext
  refine wpAny_bind (wpAny_attempt (wpAny_callSpecial?_slot (name := Str.ofString "__next__") hit.typeIs F.slot_dict_keyiterator_next
    (wpAny_call_entry F.slot_dict_keyiterator_next hit.typeIs F.entry_dict_keyiterator_next ?_ (F.args_dict_keyiterator_next_1 _))))
  refine wpAny_bind (wpAny_pure (wpAny_bind (wpAny_bind ?_)))
  first | refine wpAny_bind (wpAny_typeNameOfWhole_keyiter hit.typeIs (wpAny_pure ?_)) | refine wpAny_bind (wpAny_typeNameOf_keyiter hit.typeIs (wpAny_pure ?_))
  refine wpAny_bind (wpAny_fieldsOf ho hd ?_)
  have hown : Builtin.Dict_items.ownsTuple "dict_keyiterator" = false := by decide
  simp only [hown, Bool.false_eq_true, if_false]
  show wpAny _ _ (if (Value.ref d == Value.none) = true then _ else _) _ _ s
  rw [if_neg (show ¬ ((Value.ref d == Value.none) = true) from Bool.false_ne_true)]
  refine wpAny_bind (wpAny_pure (wpAny_bind (wpAny_dictEntries hod hdd ?_)))
  rw [if_neg (by simp)]
  refine wpAny_bind (wpAny_pure (wpAny_bind (wpAny_dictEpoch hod hdd ?_)))
  rw [if_neg (by simp)]
  refine wpAny_pure ?_
  simp only [show ¬ ((i : Int) < 0) from by omega, if_false, Int.toNat_natCast, Array.getElem?_eq_none hge]
  refine wpAny_bind ?_
  first | refine wpAny_bind (wpAny_typeNameOfWhole_keyiter hit.typeIs (wpAny_pure ?_)) | refine wpAny_bind (wpAny_typeNameOf_keyiter hit.typeIs (wpAny_pure ?_))
  show wpAny _ _ (setField (.ref it) 0 .none >>= _) _ _ s
  refine wpAny_bind (wpAny_setField ho hd (by simp) ?_)
  show wpAny _ _ (newExc (.type "StopIteration") [] >>= _) _ _ _
  refine wpAny_bind ?_
  simp only [newExc, newTuple]
  refine wpAny_bind (wpAny_newObj_type ?_ (by size_fits))
  refine wpAny_bind (m := firstArgMember _ _) (wpAny_of_eq (a := Value.none) (by first | rfl | (simp only [firstArgMember]; rfl)) ?_)
  refine wpAny_newObj_type ?_ (by size_fits)
  simp only [raiseNew]
  refine wpAny_bind (wpAny_handled ?_)
  rw [show A.in1.handled = none from hh]
  refine wpAny_bind (wpAny_pure (wpAny_throw ?_))
  refine wpAny_bind (wpAny_isInstance (T := "StopIteration") (b := true) ⟨_, Heap.get?_push_size _ rfl, rfl⟩ isSubtype_stop ?_)
  exact wpAny_pure (hQ _ (((Heap.SameBut.update ..).extBut.push _).push _))
theorem raw_walks (hh : A.handled = none) (I d : Addr) (hne : d ≠ I) (es : Array DictEntry) (ep : Nat) :
    Walks prog w A I [I, d] [I] es.size (fun i v => ∃ e, es[i]? = some e ∧ e.key = v) (fun i h => h.IsKeyIter I d i es.size ep ∧ RawD d es ep h) where
  sub := fun b hb => by simp at hb; simp [hb]
  frame := fun _ _ _ st hk => ⟨st.1.at fun o e => hk I (by simp) o e, st.2.at fun o e => hk d (by simp) o e⟩
  item := fun i s Q E hi st hQ =>
    raw_next st.1 st.2 hi fun h' hit' hs' => hQ _ h' s.toks ⟨es[i], by simp [hi], rfl⟩ ⟨hit', st.2.at fun o e => (hs'.2 d hne).trans e⟩ fun b o hb e => hs'.extBut b o (fun h => hb (by simp [h])) e
  done := fun s Q E st hQ => raw_end hh st.1 st.2 (Nat.le_refl _) fun h' he' => hQ h' s.toks fun b o hb e => he' b o (fun h => hb (by simp [h])) e
  self := fun _ _ _ _ st hQ => wpAny_pyIter_keyiter st.1 hQ
theorem raw_src (lo : (d == sysModules) = false) : PySem.W.KdlSrc prog w "dict" d d es.size (fun i v => ∃ e, es[i]? = some e ∧ e.key = v) (RawD d es ep) where
  type := fun _ hm => hm.type
  there := fun _ hm => ⟨hm.lt, hm.lt⟩
  keep := fun _ _ hm hk => hm.at fun o e => hk d (.inl rfl) o e
  notList := by decide
  notTuple := by decide
  hint := fun _ _ _ _ hm hq => PySem.W.kdl_hint_dict hm.type hq
  iter := fun _ _ hh hm => ⟨_, _, (fun _ _ hq => raw_iter lo hm hq), raw_walks hh _ d (Nat.ne_of_lt hm.lt) es ep, ⟨⟨_, Heap.get?_push_size _ rfl, rfl, rfl⟩, hm.at fun o e => Heap.get?_push_of_some _ e⟩⟩
theorem iadd_src {T : String} {r d S : Addr} {n : Nat} {P : Nat → Value → Prop} {OK : Heap → Prop} {R : Result → Shared → Prop} (K : PySem.W.KdlSrc prog w T r d n P OK) (hh : A.handled = none) (hok : OK s.heap) (hn : n ≤ sizeLine) (hSr : S ≠ r) (hSd : S ≠ d)
    (hS : s.heap.get? S = some { cls := .type "list", data := .seq #[] 0 })
    (hR : ∀ h' tk acc' c', (∀ b o, b ≠ S → s.heap.get? b = some o → h'.get? b = some o) → h'.get? S = some { cls := .type "list", dict := none, data := .seq acc' c', slots := #[] } → ItemsOf P acc' n → R (.ok (.ret (.ref S))) { s with heap := h', toks := tk }) :
    codeAny (model prog w) A (.builtin "list.__iadd__" ⟨[.ref S, .ref r], []⟩) R s := by
  refine codeAny_builtin F.entry_list_iadd ?_
  rw [Around.under_plainId F.plain_list_iadd _]
  show wpAny _ A.in1 (Builtin.List.listExtendWith (.ref S) (.ref r) (.ref S)) _ _ _
  exact PySem.W.kdl_extend K hh hok S hSr hSd _ 0 hS hR hn
theorem collect_src {T : String} {r d : Addr} {n : Nat} {P : Nat → Value → Prop} {OK : Heap → Prop} {Q : List Value → Shared → Prop} (K : PySem.W.KdlSrc prog w T r d n P OK) (hh : A.handled = none) (hok : OK s.heap) (hn : n ≤ sizeLine)
    (hQ : ∀ h' tk acc, (∀ b o, s.heap.get? b = some o → h'.get? b = some o) → s.heap.objs.size ≤ h'.objs.size → ItemsOf P acc n → Q acc.toList { s with heap := h', toks := tk }) : wpAny (model prog w) A (collect (.ref r)) Q E s := by
  unfold collect
  refine wpAny_bind (wpAny_runValue (codeAny_builtin F.entry_proto_collect ?_))
  rw [Around.under_plainId F.plain_proto_collect _]
  show wpAny _ A.in1 (newList [] >>= fun l => again (.builtin "list.__iadd__" ⟨[l, .ref r], []⟩)) _ _ s
  refine wpAny_bind (wpAny_newObj_type ?_)
  have hlt := K.there _ hok
  refine wpAny_pure ⟨plainId_quiet F.plain_list_iadd _, iadd_src (s := { s with heap := s.heap.push { cls := .type "list", data := .seq ([] : List Value).toArray } }) K hh (K.keep _ _ hok fun b _ o e => Heap.get?_push_of_some _ e) hn (Nat.ne_of_gt hlt.1) (Nat.ne_of_gt hlt.2) (Heap.get?_push_size _ rfl) fun h' tk acc' c' hk hS' hacc => ?_⟩
  show wpAny (model prog w) A (do
      let o ← load s.heap.objs.size
      match o.data with
      | .seq xs _ => pure xs.toList
      | _ => unsupported "internal:collect") Q E { s with heap := h', toks := tk }
  refine wpAny_bind (wpAny_load hS' ?_)
  exact wpAny_pure (hQ h' tk acc' (fun b o e => hk b o (Nat.ne_of_lt (Heap.lt_size e)) (Heap.get?_push_of_some _ e)) (Nat.le_of_lt (Heap.lt_size hS')) hacc)
end
end Mi
set_option Elab.async false
set_option linter.all false
set_option maxRecDepth 100000
namespace Mi
open PySem PySem.Spec PyProof.Rows L2
mutual
noncomputable def ltT : T → T → Option Bool
  | .int a, .int b => some (decide (a < b))
  | .str a, .str b => some (decide (a.cps.toList < b.cps.toList))
  | .tup xs, .tup ys => ltTs xs ys
  | _, _ => none
noncomputable def ltTs : List T → List T → Option Bool
  | [], [] => some false
  | [], _ :: _ => some true
  | _ :: _, [] => some false
  | x :: xs, y :: ys => if x = y then ltTs xs ys else ltT x y
end
mutual
theorem IsT.kept {h h' : Heap} (hk : ∀ b o, o.cls = .type "tuple" → h.get? b = some o → h'.get? b = some o) : ∀ {x : T} {v : Value}, IsT h x v → IsT h' x v
  | _, _, .int => .int
  | _, _, .str => .str
  | _, _, .tup a1 c1 d1 t1 => .tup (hk _ _ c1 a1) c1 d1 (IsTs.kept hk t1)
theorem IsTs.kept {h h' : Heap} (hk : ∀ b o, o.cls = .type "tuple" → h.get? b = some o → h'.get? b = some o) : ∀ {x : List T} {v : List Value}, IsTs h x v → IsTs h' x v
  | _, _, .nil => .nil
  | _, _, .cons a b => .cons (IsT.kept hk a) (IsTs.kept hk b)
end
theorem lexT {B : Around} {s : Shared} {d : Nat} (hu : B.units + d < cLine) (hl : ∀ (x y : T) (u v : Value) (k : Bool), x.depth ≤ d → y.depth ≤ d → IsT s.heap x u → IsT s.heap y v → ltT x y = some k → LtAt B s u v k) :
    ∀ (xs ys : List T) (us vs : List Value) (k : Bool), T.depths xs ≤ d → T.depths ys ≤ d → IsTs s.heap xs us → IsTs s.heap ys vs → ltTs xs ys = some k → LexR B s us vs k
  | [], [], _, _, k, _, _, h1, h2, e => by cases h1; cases h2; cases e; exact .nn
  | [], y :: ys, _, _, k, _, _, h1, h2, e => by cases h1; cases h2; cases e; exact .nc
  | x :: xs, [], _, _, k, _, _, h1, h2, e => by cases h1; cases h2; cases e; exact .cn
  | x :: xs, y :: ys, _, _, k, d1, d2, h1, h2, e => by
    simp only [T.depths] at d1 d2
    cases h1 with
    | cons p1 q1 =>
      cases h2 with
      | cons p2 q2 =>
        have he := eq_T d x y _ _ B s (by omega) p1 p2 hu (by omega)
        simp only [ltTs] at e
        by_cases hxy : x = y
        · rw [if_pos hxy] at e
          rw [decide_eq_true hxy] at he
          exact .eq he (lexT hu hl xs ys _ _ k (by omega) (by omega) q1 q2 e)
        · rw [if_neg hxy] at e
          rw [decide_eq_false hxy] at he
          exact .ne he (hl x y _ _ k (by omega) (by omega) p1 p2 e)
theorem lt_T : ∀ (d : Nat) (x y : T) (u v : Value) (B : Around) (s : Shared) (k : Bool), x.depth ≤ d → y.depth ≤ d → IsT s.heap x u → IsT s.heap y v → B.units + d < cLine → ltT x y = some k → LtAt B s u v k := by
  intro d
  induction d with
  | zero =>
    intro x y u v B s k d1 d2 h1 h2 hu e
    cases h1 with
    | int => cases h2 with
      | int => cases e; exact fun prog w E Q h => (PyProof.Rows.lt_int h : wpAny (model prog w) B (compareOp .Lt _ _) Q E s)
      | _ => cases e
    | str => cases h2 with
      | str => cases e; exact fun prog w E Q h => (lt_str h : wpAny (model prog w) B (compareOp .Lt _ _) Q E s)
      | _ => cases e
    | tup _ _ _ _ => simp [T.depth] at d1
  | succ d ih =>
    intro x y u v B s k d1 d2 h1 h2 hu e
    cases h1 with
    | int => cases h2 with
      | int => cases e; exact fun prog w E Q h => (PyProof.Rows.lt_int h : wpAny (model prog w) B (compareOp .Lt _ _) Q E s)
      | _ => cases e
    | str => cases h2 with
      | str => cases e; exact fun prog w E Q h => (lt_str h : wpAny (model prog w) B (compareOp .Lt _ _) Q E s)
      | _ => cases e
    | tup a1 c1 e1 t1 => cases h2 with
      | tup a2 c2 e2 t2 =>
        simp only [T.depth] at d1 d2
        have hu1 : B.in1.units + d < cLine := by rw [in1_units]; omega
        exact LtAt.tuples ⟨_, a1, c1, _, e1⟩ ⟨_, a2, c2, _, e2⟩ (by omega) (lexT hu1 (fun x y u v k q1 q2 q3 q4 q5 => ih x y u v B.in1 s k q1 q2 q3 q4 hu1 q5) _ _ _ _ k (by omega) (by omega) t1 t2 e)
      | _ => cases e
section
variable {prog : Program} {w : World} {A : Around} {R : Result → Shared → Prop} {I S : Addr} {fp wr : List Addr} {n : Nat} {P : Nat → Value → Prop} {St : Nat → Heap → Prop} {Ok : Heap → Prop} {bt : Nat → Nat → Bool}
noncomputable def CmpOk (prog : Program) (w : World) (A : Around) (P : Nat → Value → Prop) (Ok : Heap → Prop) (bt : Nat → Nat → Bool) : Prop :=
  ∀ i j vi vj (s : Shared) (Q : Value → Shared → Prop) (E : Value → Shared → Prop), Ok s.heap → P i vi → P j vj → Q (.bool (bt i j)) s → wpAny (model prog w) A (richCompare .Lt vi vj) Q E s
theorem min_loop (W : Walks prog w A.in1 I fp wr n P St) (hcmp : CmpOk prog w A.in1 P Ok bt) (hSf : S ∉ fp) (hok : ∀ h h', Ok h → (∀ b o, b ∉ wr → b ≠ S → h.get? b = some o → h'.get? b = some o) → Ok h') :
    ∀ (k j : Nat) (s : Shared) (vb : Value) (c : Nat), n - (j + 1) = k → j < n → St (j + 1) s.heap → P (argBest bt j) vb → Ok s.heap → s.heap.get? S = some { cls := .type "list", dict := none, data := .seq #[vb, vb] c, slots := #[] } →
    (∀ v h' tk, P (argBest bt (n - 1)) v → (∀ b o, b ∉ wr → b ≠ S → s.heap.get? b = some o → h'.get? b = some o) → R (.ok (.ret v)) { s with heap := h', toks := tk }) →
    codeAny (model prog w) A (.builtin "min.loop" ⟨[.ref I, .none, .ref S], []⟩) R s := by
  have hSw : S ∉ wr := fun h => hSf (W.sub _ h)
  have hname : (toString "min" ++ toString ".loop" : String) = "min.loop" := by decide
  intro k
  induction k with
  | zero =>
    intro j s vb c hk hj hst hPb hO hS hR
    have hin : j + 1 = n := by omega
    refine codeAny_builtin F.entry_min_loop ?_
    rw [Around.under_plainId F.plain_min_loop _]
    show wpAny _ A.in1 (seqItems? (.ref S) >>= _) _ _ s
    refine wpAny_bind (wpAny_seqItems hS rfl ?_)
    show wpAny _ A.in1 (tryCatch (pyNext (.ref I)) _ >>= _) _ _ s
    refine wpAny_bind (wpAny_tryCatch (W.done s _ _ (hin ▸ hst) fun h' tk hk' => ?_))
    have hS' := hk' S _ hSw hS
    show wpAny _ A.in1 (updateSeq S (fun _ => #[]) >>= _) _ _ _
    refine wpAny_bind (wpAny_updateSeq hS' rfl (wpAny_bind (wpAny_letGo (wpAny_pure ?_))))
    have e : j = n - 1 := by omega
    exact hR vb _ tk (e ▸ hPb) fun b o hbw hbS e => (Heap.get?_update_other _ _ (Ne.symm hbS)).trans (hk' b o hbw e)
  | succ k ih =>
    intro j s vb c hk hj hst hPb hO hS hR
    have hlt : j + 1 < n := by omega
    refine codeAny_builtin F.entry_min_loop ?_
    rw [Around.under_plainId F.plain_min_loop _]
    show wpAny _ A.in1 (seqItems? (.ref S) >>= _) _ _ s
    refine wpAny_bind (wpAny_seqItems hS rfl ?_)
    show wpAny _ A.in1 (tryCatch (pyNext (.ref I)) _ >>= _) _ _ s
    refine wpAny_bind (wpAny_tryCatch (W.item (j + 1) s _ _ hlt hst fun v h' tk hP hst' hk' => ?_))
    have hS' := hk' S _ hSw hS
    have hO' : Ok h' := hok _ _ hO fun b o hb _ e => hk' b o hb e
    show wpAny _ A.in1 (tryCatch (holding [v, v] (richCompare .Lt v vb >>= _)) _ >>= _) _ _ _
    refine wpAny_bind (wpAny_tryCatch (wpAny_holding (wpAny_bind (hcmp (j + 1) (argBest bt j) v vb _ _ _ hO' hP hPb ?_))))
    refine wpAny_bind (wpAny_holding (wpAny_truthy_bool ?_))
    refine wpAny_bind (wpAny_letGo (wpAny_pure ?_))
    cases hb : bt (j + 1) (argBest bt j) with
    | true =>
      simp only [if_true]
      refine wpAny_bind (wpAny_updateSeq hS' rfl (wpAny_bind (wpAny_letGo ?_)))
      rw [hname]
      refine wpAny_pure ⟨plainId_quiet F.plain_min_loop _, ih (j + 1) _ v _ (by omega) hlt (W.frame _ _ _ hst' fun b hbf o e => ?_) (by simp only [argBest, hb, if_true]; exact hP) (hok _ _ hO' fun b o _ hbS e => (Heap.get?_update_other _ _ (Ne.symm hbS)).trans e) (Heap.get?_update_self _ hS' rfl)
        fun v' h'' tk'' hP' hk'' => ?_⟩
      · exact (Heap.get?_update_other _ _ (fun h : S = b => hSf (by rw [h]; exact hbf))).trans e
      · exact hR v' h'' tk'' hP' fun b o hbw hbS e => hk'' b o hbw hbS ((Heap.get?_update_other _ _ (Ne.symm hbS)).trans (hk' b o hbw e))
    | false =>
      simp only [Bool.false_eq_true, if_false]
      refine wpAny_bind (wpAny_letGo ?_)
      rw [hname]
      refine wpAny_pure ⟨plainId_quiet F.plain_min_loop _, ih (j + 1) _ vb c (by omega) hlt hst' (by simp only [argBest, hb, Bool.false_eq_true, if_false]; exact hPb) hO' hS' fun v' h'' tk'' hP' hk'' => ?_⟩
      exact hR v' h'' tk'' hP' fun b o hbw hbS e => hk'' b o hbw hbS (hk' b o hbw e)
theorem min_first (W : Walks prog w A.in1 I fp wr n P St) (hcmp : CmpOk prog w A.in1 P Ok bt) (hSf : S ∉ fp) (hok : ∀ h h', Ok h → (∀ b o, b ∉ wr → b ≠ S → h.get? b = some o → h'.get? b = some o) → Ok h') (hn : 0 < n) {s : Shared} {c : Nat} (hst : St 0 s.heap) (hO : Ok s.heap)
    (hS : s.heap.get? S = some { cls := .type "list", dict := none, data := .seq #[] c, slots := #[] })
    (hR : ∀ v h' tk, P (argBest bt (n - 1)) v → (∀ b o, b ∉ wr → b ≠ S → s.heap.get? b = some o → h'.get? b = some o) → R (.ok (.ret v)) { s with heap := h', toks := tk }) :
    codeAny (model prog w) A (.builtin "min.loop" ⟨[.ref I, .none, .ref S], []⟩) R s := by
  have hSw : S ∉ wr := fun h => hSf (W.sub _ h)
  have hname : (toString "min" ++ toString ".loop" : String) = "min.loop" := by decide
  refine codeAny_builtin F.entry_min_loop ?_
  rw [Around.under_plainId F.plain_min_loop _]
  show wpAny _ A.in1 (seqItems? (.ref S) >>= _) _ _ s
  refine wpAny_bind (wpAny_seqItems hS rfl ?_)
  show wpAny _ A.in1 (tryCatch (pyNext (.ref I)) _ >>= _) _ _ s
  refine wpAny_bind (wpAny_tryCatch (W.item 0 s _ _ hn hst fun v h' tk hP hst' hk' => ?_))
  have hS' := hk' S _ hSw hS
  show wpAny _ A.in1 (updateSeq S (fun _ => #[v, v]) >>= _) _ _ _
  refine wpAny_bind (wpAny_updateSeq hS' rfl ?_)
  rw [hname]
  have hO' : Ok h' := hok _ _ hO fun b o hb _ e => hk' b o hb e
  refine wpAny_pure ⟨plainId_quiet F.plain_min_loop _, min_loop W hcmp hSf hok _ 0 _ v _ rfl hn (W.frame _ _ _ hst' fun b hbf o e => ?_) hP (hok _ _ hO' fun b o _ hbS e => (Heap.get?_update_other _ _ (Ne.symm hbS)).trans e) (Heap.get?_update_self _ hS' rfl) fun v' h'' tk'' hP' hk'' => ?_⟩
  · exact (Heap.get?_update_other _ _ (fun h : S = b => hSf (by rw [h]; exact hbf))).trans e
  · exact hR v' h'' tk'' hP' fun b o hbw hbS e => hk'' b o hbw hbS ((Heap.get?_update_other _ _ (Ne.symm hbS)).trans (hk' b o hbw e))
end
section
variable {prog : Program} {w : World} {A : Around} {E : Value → Shared → Prop} {s : Shared}
theorem min_list {l : Addr} {items : Array Value} {bt : Nat → Nat → Bool} {Q : Value → Shared → Prop} (hh : A.handled = none) (hl : s.heap.IsList l items) (hn : 0 < items.size)
    (hcmp : CmpOk prog w A.in1 (fun i v => items[i]? = some v) (fun h => ∀ b o, s.heap.get? b = some o → h.get? b = some o) bt)
    (hQ : ∀ v h' tk, items[argBest bt (items.size - 1)]? = some v → (∀ b o, s.heap.get? b = some o → h'.get? b = some o) → Q v { s with heap := h', toks := tk }) :
    wpAny (model prog w) A (call (.builtin "min") [.ref l]) Q E s := by
  have hname : (toString "min" ++ toString ".loop" : String) = "min.loop" := by decide
  refine call_function_tree F.kind_min F.plain_min F.entry_min (F.args_min1 _) ?_
  show wpAny _ A.in1 (Builtin.Builtins.bindParams "min" ["key", "default"] 0 ⟨[], []⟩ >>= _) _ _ s
  refine wpAny_bind (wpAny_of_eq (show Builtin.Builtins.bindParams "min" ["key", "default"] 0 ⟨[], []⟩ = pure [none, none] from rfl) ?_)
  refine wpAny_bind (wpAny_pure ?_)
  refine wpAny_bind (wpAny_pyIter_list hl ?_)
  refine wpAny_bind (wpAny_newObj_type ?_)
  rw [hname]
  have hlt : l < s.heap.objs.size := let ⟨_, ho, _⟩ := hl; Heap.lt_size ho
  have hne : l ≠ s.heap.objs.size := Nat.ne_of_lt hlt
  have W := Walks.list (prog := prog) (w := w) (A := A.in1) hh s.heap.objs.size l hne items
  have hsz : ∀ o : Obj, (s.heap.push o).objs.size = s.heap.objs.size + 1 := fun o => by simp [Heap.push]
  refine wpAny_pure ⟨plainId_quiet F.plain_min_loop _, min_first (A := A) (Ok := fun h => ∀ b o, s.heap.get? b = some o → h.get? b = some o) W hcmp (fun hm => ?_) (fun h h' ho hk b o e => ?_) hn ⟨?_, ?_⟩ (fun b o e => Heap.get?_push_of_some _ (Heap.get?_push_of_some _ e)) (Heap.get?_push_size _ rfl) fun v h' tk hv hk => ?_⟩
  · rcases List.mem_cons.mp hm with e | hm
    · exact absurd (show (s.heap.push _).objs.size = s.heap.objs.size from e) (by rw [hsz]; exact Nat.succ_ne_self _)
    · have e : (s.heap.push _).objs.size = l := List.mem_singleton.mp hm
      rw [hsz] at e
      exact absurd hlt (by rw [← e]; exact Nat.not_lt.mpr (Nat.le_succ _))
  · have hb := Heap.lt_size e
    refine hk b o (fun z => ?_) (fun z => ?_) (ho b o e)
    · rw [List.mem_singleton.mp z] at hb; exact Nat.lt_irrefl _ hb
    · have z' : b = (s.heap.push _).objs.size := z
      rw [hsz] at z'
      rw [z'] at hb
      exact absurd hb (Nat.not_lt.mpr (Nat.le_succ _))
  · exact ⟨_, Heap.get?_push_of_some _ (Heap.get?_push_size _ rfl), rfl, rfl⟩
  · obtain ⟨o, ho, hc⟩ := hl
    exact ⟨o, Heap.get?_push_of_some _ (Heap.get?_push_of_some _ ho), hc⟩
  · refine hQ v h' tk hv fun b o e => hk b o (fun z => ?_) (fun z => ?_) (Heap.get?_push_of_some _ (Heap.get?_push_of_some _ e))
    · have hb := Heap.lt_size e
      rw [List.mem_singleton.mp z] at hb; exact Nat.lt_irrefl _ hb
    · have hb := Heap.lt_size e
      have z' : b = (s.heap.push _).objs.size := z
      rw [hsz] at z'
      rw [z'] at hb
      exact absurd hb (Nat.not_lt.mpr (Nat.le_succ _))
end
end Mi
set_option Elab.async false
set_option linter.all false
set_option maxRecDepth 100000
namespace Mi
open PySem PySem.Spec PyProof.Rows L2
open PySem.W (KasT kas_sort kas_ask kas_cmp kas_item kas_asc kas_desc kas_tail3 kas_descPart kas_count kas_place kas_bin kas_rev)
noncomputable def runK {α : Type} (lt : Nat → Nat → Bool) : KasT α → α
  | .ret a => a
  | .ask i j k => runK lt (k (lt i j))
noncomputable def OkK {α : Type} (n : Nat) (P : α → Prop) : KasT α → Prop
  | .ret a => P a
  | .ask i j k => i < n ∧ j < n ∧ ∀ b, OkK n P (k b)
theorem runK_ok' {α : Type} {n : Nat} {P : α → Prop} {lt : Nat → Nat → Bool} : ∀ (t : KasT α), OkK n P t → P (runK lt t)
  | .ret _, h => h
  | .ask i j k, h => runK_ok' (k (lt i j)) (h.2.2 _)
theorem runK_ok {α : Type} {n : Nat} {P : α → Prop} {lt : Nat → Nat → Bool} {t : KasT α} (h : OkK n P t) : P (runK lt t) := runK_ok' t h
theorem OkK.bind {α β : Type} {n : Nat} {P : α → Prop} {P' : β → Prop} {f : α → KasT β} : ∀ {t : KasT α}, OkK n P t → (∀ a, P a → OkK n P' (f a)) → OkK n P' (t.bind f)
  | .ret a, h, hf => hf a h
  | .ask _ _ _, h, hf => ⟨h.1, h.2.1, fun b => OkK.bind (h.2.2 b) hf⟩
theorem kasWp_run {α : Type} {n : Nat} {P : α → Prop} {lt : Nat → Nat → Bool} {cmp : Nat → Nat → (Bool → Shared → Prop) → Shared → Prop} {Q : α → Shared → Prop} {s : Shared} (hc : ∀ i j, i < n → j < n → ∀ C : Bool → Shared → Prop, C (lt i j) s → cmp i j C s) :
    ∀ {t : KasT α}, OkK n P t → Q (runK lt t) s → t.kasWp cmp Q s
  | .ret _, _, h => h
  | .ask i j k, h, hq => hc i j h.1 h.2.1 _ (kasWp_run hc (h.2.2 _) hq)
noncomputable def Pm (n : Nat) (p : Array Nat) : Prop := p.toList.Perm (List.range n)
theorem Pm.size {n : Nat} {p : Array Nat} (h : Pm n p) : p.size = n := by rw [← Array.length_toList, h.length_eq, List.length_range]
theorem Pm.lt {n : Nat} {p : Array Nat} (h : Pm n p) (hn : 0 < n) (i : Nat) : p.getD i 0 < n := by
  by_cases hi : i < p.size
  · have e : p.getD i 0 = p[i] := by simp [Array.getD, hi]
    rw [e]
    have : p[i] ∈ p.toList := by simp
    exact List.mem_range.mp (h.mem_iff.mp this)
  · have e : p.getD i 0 = 0 := by simp [Array.getD, hi]
    rw [e]; exact hn
theorem Pm.rev {n : Nat} {p : Array Nat} (h : Pm n p) (i j : Nat) : Pm n (kas_rev p i j) := (Array.perm_iff_toList_perm.mp (mirror_perm p i j _)).trans h
theorem Pm.bub {n : Nat} {p : Array Nat} (h : Pm n p) (i j : Nat) : Pm n (bubble p i j) := (Array.perm_iff_toList_perm.mp (bubble_perm p i j)).trans h
section
variable {n : Nat} (hn : 0 < n)
include hn
theorem ok_asc {p : Array Nat} (h : Pm n p) : ∀ (f m : Nat), OkK n (fun _ => True) (kas_asc p f m)
  | 0, _ => trivial
  | f + 1, m => ⟨h.lt hn _, h.lt hn _, fun b => by
    show OkK n _ (if b = true then _ else _)
    split
    · trivial
    · exact ok_asc h f (m + 1)⟩
theorem ok_desc : ∀ (f : Nat) (p : Array Nat) (m q : Nat), Pm n p → OkK n (fun r => Pm n r.1) (kas_desc f p m q)
  | 0, p, m, q, h => h
  | f + 1, p, m, q, h => ⟨h.lt hn _, h.lt hn _, fun b => by
    show OkK n _ (if b = true then _ else _)
    split
    · split
      · exact ok_desc f _ _ _ (h.rev _ _)
      · exact ok_desc f _ _ _ h
    · refine ⟨h.lt hn _, h.lt hn _, fun c => ?_⟩
      show OkK n _ (if c = true then _ else _)
      split
      · exact h
      · exact ok_desc f _ _ _ h⟩
theorem ok_tail {p : Array Nat} (h : Pm n p) (m k : Nat) : OkK n (fun r => Pm n r.2) (kas_tail3 m k p) := by
  unfold kas_tail3
  exact OkK.bind (ok_asc hn (h.rev 0 m) _ _) fun a _ => h.rev 0 m
theorem ok_descPart {p : Array Nat} (h : Pm n p) (m k : Nat) : OkK n (fun r => Pm n r.2) (kas_descPart m k p) := by
  unfold kas_descPart
  refine OkK.bind (ok_desc hn _ _ _ _ h) fun r hr => ?_
  split
  · exact ok_tail hn (hr.rev _ _) _ _
  · exact ok_tail hn hr _ _
theorem ok_count {p : Array Nat} (h : Pm n p) (k : Nat) : OkK n (fun r => Pm n r.2) (kas_count k p) := by
  unfold kas_count
  refine OkK.bind (ok_asc hn h _ _) fun m _ => ?_
  split
  · exact h
  · split
    · refine ⟨h.lt hn _, h.lt hn _, fun c => ?_⟩
      show OkK n _ (if c = true then _ else _)
      split
      · exact h
      · exact ok_descPart hn (h.rev _ _) _ _
    · exact ok_descPart hn h _ _
theorem ok_place {p : Array Nat} (h : Pm n p) (k : Nat) : ∀ (f l r : Nat), OkK n (fun _ => True) (kas_place p k f l r)
  | 0, _, _ => trivial
  | f + 1, l, r => by
    unfold kas_place
    split
    · trivial
    · refine ⟨h.lt hn _, h.lt hn _, fun c => ?_⟩
      show OkK n _ (if c = true then _ else _)
      split
      · exact ok_place h k f _ _
      · exact ok_place h k f _ _
theorem ok_bin : ∀ (f : Nat) (p : Array Nat) (k : Nat), Pm n p → OkK n (Pm n) (kas_bin f p k)
  | 0, p, k, h => h
  | f + 1, p, k, h => by
    unfold kas_bin
    exact OkK.bind (ok_place hn h k _ _ _) fun l _ => ok_bin f _ _ (h.bub _ _)
theorem ok_sort : OkK n (Pm n) (kas_sort n) := by
  unfold kas_sort
  refine OkK.bind (ok_count hn (by unfold Pm; simp) _) fun r hr => ?_
  split
  · exact ok_bin hn _ _ _ hr
  · exact hr
end
section
variable {prog : Program} {w : World} {A : Around} {E : Value → Shared → Prop} {s : Shared} {vs : List Value}
noncomputable def outK (lt : Nat → Nat → Bool) {β : Type} (d : β) (vs : List β) : List β := if vs.length < 2 then vs else (runK lt (kas_sort vs.length)).toList.map fun i => vs.getD i d
theorem outK_length {lt : Nat → Nat → Bool} {β : Type} {d : β} {vs : List β} : (outK lt d vs).length = vs.length := by
  unfold outK
  split
  · rfl
  · rw [List.length_map, Array.length_toList, (runK_ok (lt := lt) (ok_sort (n := vs.length) (by omega))).size]
theorem sort_list {a : Addr} {n : Nat} {lt : Nat → Nat → Bool} {κ : SortKind} {P : PySem.Fin → Shared → Prop} (ho : s.heap.get? a = some (seqObj "list" vs.toArray n)) (h64 : vs.length < 64)
    (hkind : 2 ≤ vs.length → ∀ h', (∀ b o, b ≠ a → s.heap.get? b = some o → h'.get? b = some o) → ∀ Q : SortKind → Shared → Prop, Q κ { s with heap := h' } → wpAny (model prog w) A (keyKind' vs.toArray) Q (fun _ _ => False) { s with heap := h' })
    (hlt : 2 ≤ vs.length → ∀ h', (∀ b o, b ≠ a → s.heap.get? b = some o → h'.get? b = some o) → ∀ i j, i < vs.length → j < vs.length → ∀ Q : Bool → Shared → Prop, Q (lt i j) { s with heap := h' } →
      wpAny (model prog w) A (keyLt' κ (vs.getD i Value.none) (vs.getD j Value.none)) Q (fun _ _ => False) { s with heap := h' })
    (h : ∀ h' c, (∀ b o, b ≠ a → s.heap.get? b = some o → h'.get? b = some o) → h'.get? a = some (seqObj "list" (outK lt Value.none vs).toArray c) → P (.done (.ret .none)) { s with heap := h' }) :
    wpAny (model prog w) A (Builtin.«list.sort» ⟨[.ref a], []⟩) P E s := by
  have ha : a < s.heap.objs.size := Heap.lt_size ho
  obtain ⟨e1, ho1⟩ : ∃ e1, (s.heap.update a (Obj.mapSeq fun _ => (#[] : Array Value))).get? a = some (seqObj "list" #[] e1) := ⟨_, get?_update_seq ho fun _ => #[]⟩
  have keep : ∀ b o, b ≠ a → s.heap.get? b = some o → (((s.heap.update a (Obj.mapSeq fun _ => (#[] : Array Value))).push (seqObj "tuple" vs.toArray 0)).push (seqObj "list" #[] 0)).get? b = some o := fun b o hb e =>
    Heap.get?_push_of_some _ (Heap.get?_push_of_some _ ((Heap.get?_update_ne _ _ _ _ hb).trans e))
  have ho3 : (((s.heap.update a (Obj.mapSeq fun _ => (#[] : Array Value))).push (seqObj "tuple" vs.toArray 0)).push (seqObj "list" #[] 0)).get? a = some (seqObj "list" #[] e1) := Heap.get?_push_of_some _ (Heap.get?_push_of_some _ ho1)
  have fin : ∀ (out : List Value), out.length = vs.length → out = outK lt Value.none vs → P (.done (.ret .none)) { s with heap := (((s.heap.update a (Obj.mapSeq fun _ => (#[] : Array Value))).push (seqObj "tuple" vs.toArray 0)).push (seqObj "list" #[] 0)).update a (Obj.mapSeq fun _ => out.toArray) } := fun out hl e => by
    obtain ⟨c2, hc2⟩ : ∃ c2, ((((s.heap.update a (Obj.mapSeq fun _ => (#[] : Array Value))).push (seqObj "tuple" vs.toArray 0)).push (seqObj "list" #[] 0)).update a (Obj.mapSeq fun _ => out.toArray)).get? a = some (seqObj "list" out.toArray c2) := ⟨_, get?_update_seq ho3 fun _ => out.toArray⟩
    exact h _ c2 (fun b o hb q => (Heap.get?_update_ne _ _ _ _ hb).trans (keep b o hb q)) (e ▸ hc2)
  rw [list_sort_plain]
  refine wpAny_bind (listItems_at ho rfl ?_)
  refine wpAny_bind (listUpdate_at ho rfl ?_ (by rw [List.size_toArray, sizeLine_eq]; omega) (Nat.zero_le _))
  refine wpAny_bind (seqEpoch_at ho1 rfl ?_)
  refine wpAny_bind (wpAny_newTuple ?_ (by show vs.length ≤ _; rw [sizeLine_eq]; omega))
  refine wpAny_bind (wpAny_newList ?_ (Nat.zero_le _))
  refine wpAny_holding ?_
  show wpAny (model prog w) A _ P E { s with heap := ((s.heap.update a (Obj.mapSeq fun _ => (#[] : Array Value))).push (seqObj "tuple" vs.toArray 0)).push (seqObj "list" #[] 0) }
  dsimp only
  by_cases h2 : vs.length < 2
  · rw [if_pos (by rw [List.size_toArray]; exact h2), if_pos (by rw [List.size_toArray]; exact h2)]
    refine wpAny_bind (wpAny_pure (wpAny_bind ?_))
    rw [StateT.run_pure]
    refine wpAny_pure ?_
    dsimp only
    refine wpAny_bind (seqEpoch_at ho3 rfl ?_)
    have hs : ((arrOf (SortSt.mk' general' (vs.toArray.zip vs.toArray) #[] 7 none)).map (·.2)) = vs.toArray := by
      show (vs.toArray.zip vs.toArray).map (·.2) = vs.toArray
      apply Array.toList_inj.mp
      rw [Array.toList_map, Array.toList_zip]
      exact List.map_snd_zip (Nat.le_refl _)
    rw [hs]
    refine wpAny_bind (listUpdate_at ho3 rfl ?_ (Nat.zero_le _) (by rw [List.size_toArray, sizeLine_eq]; omega))
    simp only [bne_self_eq_false, Bool.false_eq_true, if_false]
    exact wpAny_pure (fin vs rfl (by unfold outK; rw [if_pos h2]))
  · have hn2 : ¬ vs.toArray.size < 2 := by rw [List.size_toArray]; exact h2
    have h2' : 2 ≤ vs.length := by omega
    rw [if_neg hn2, if_neg hn2]
    refine wpAny_bind (wpAny_mono (hkind h2' _ keep (fun (k : SortKind) (s' : Shared) => k = κ ∧ s' = { s with heap := ((s.heap.update a (Obj.mapSeq fun _ => (#[] : Array Value))).push (seqObj "tuple" vs.toArray 0)).push (seqObj "list" #[] 0) }) ⟨rfl, rfl⟩) ?_ fun _ _ x => x.elim)
    rintro _ _ ⟨rfl, rfl⟩
    refine wpAny_bind (wpAny_mono (PySem.W.kat_run (Q := fun st' s' => ∃ p : Array Nat, p.size = vs.length ∧ arrOf st' = p.map (kas_item (vs.toArray.zip vs.toArray)) ∧ failedOf st' = none ∧ p = runK lt (kas_sort vs.length) ∧ s' = { s with heap := ((s.heap.update a (Obj.mapSeq fun _ => (#[] : Array Value))).push (seqObj "tuple" vs.toArray 0)).push (seqObj "list" #[] 0) })
      (G := fun p s' => p = runK lt (kas_sort vs.length) ∧ s' = { s with heap := ((s.heap.update a (Obj.mapSeq fun _ => (#[] : Array Value))).push (seqObj "tuple" vs.toArray 0)).push (seqObj "list" #[] 0) }) rfl h2' h64 (fun p' st' s' a1 a2 a3 a4 => ⟨p', a1, a2, a3, a4⟩)
      (kasWp_run (lt := lt) (fun i j hi hj C hC => hlt h2' _ keep i j hi hj C hC) (ok_sort (n := vs.length) (by omega)) ⟨rfl, rfl⟩)) ?_ fun _ _ e => e)
    rintro ⟨⟨⟩, st'⟩ s' ⟨p, hp, har, hf, ep, rfl⟩
    dsimp only
    have hout := PySem.W.kat_snds rfl har
    have hsz : (p.toList.map fun i => vs.getD i Value.none).length = vs.length := by rw [List.length_map, Array.length_toList, hp]
    rw [hout]
    refine wpAny_bind (seqEpoch_at ho3 rfl ?_)
    refine wpAny_bind (listUpdate_at ho3 rfl ?_ (Nat.zero_le _) (by rw [List.size_toArray, hsz, sizeLine_eq]; omega))
    rw [hf]
    simp only [bne_self_eq_false, Bool.false_eq_true, if_false]
    exact wpAny_pure (fin _ hsz (by unfold outK; rw [if_neg h2, ep]))
theorem sorted_of {x : Value} {lt : Nat → Nat → Bool} {κ : SortKind} {Q : Value → Shared → Prop} (h64 : vs.length < 64)
    (hcol : ∀ Q' : List Value → Shared → Prop, (∀ h' tk, (∀ b o, s.heap.get? b = some o → h'.get? b = some o) → s.heap.objs.size ≤ h'.objs.size → Q' vs { s with heap := h', toks := tk }) → wpAny (model prog w) A.in1 (collect x) Q' E s)
    (hkind : 2 ≤ vs.length → ∀ h' tk, (∀ b o, s.heap.get? b = some o → h'.get? b = some o) → ∀ Q : SortKind → Shared → Prop, Q κ { s with heap := h', toks := tk } → wpAny (model prog w) A.in1.in1 (keyKind' vs.toArray) Q (fun _ _ => False) { s with heap := h', toks := tk })
    (hlt : 2 ≤ vs.length → ∀ h' tk, (∀ b o, s.heap.get? b = some o → h'.get? b = some o) → ∀ i j, i < vs.length → j < vs.length → ∀ Q : Bool → Shared → Prop, Q (lt i j) { s with heap := h', toks := tk } →
      wpAny (model prog w) A.in1.in1 (keyLt' κ (vs.getD i Value.none) (vs.getD j Value.none)) Q (fun _ _ => False) { s with heap := h', toks := tk })
    (h : ∀ D h' tk c, (∀ b o, s.heap.get? b = some o → h'.get? b = some o) → s.heap.objs.size ≤ D → h'.get? D = some (seqObj "list" (outK lt Value.none vs).toArray c) → Q (.ref D) { s with heap := h', toks := tk }) :
    wpAny (model prog w) A (call (.builtin "sorted") [x]) Q E s := by
  refine Calls.call_function_entry kind_sorted plain_sorted entry_sorted (args_sorted1 _) ?_
  unfold Builtin.«sorted»
  refine wpAny_bind (m := checkCount "sorted" 1 1 _) (wpAny_pure ?_)
  refine wpAny_bind (hcol _ fun h1 tk1 hk1 hle => ?_)
  refine wpAny_bind (wpAny_newList ?_ (by rw [sizeLine_eq]; omega))
  have hoL : (h1.push (seqObj "list" vs.toArray 0)).get? h1.objs.size = some (seqObj "list" vs.toArray 0) := Heap.get?_push_size _ rfl
  have kp : ∀ b o, s.heap.get? b = some o → (h1.push (seqObj "list" vs.toArray 0)).get? b = some o := fun b o e => Heap.get?_push_of_some _ (hk1 b o e)
  have hne : ∀ b o, s.heap.get? b = some o → b ≠ h1.objs.size := fun b o e => Nat.ne_of_lt (Nat.lt_of_lt_of_le (Heap.lt_size e) hle)
  show wpAny _ _ _ _ _ { s with heap := h1.push (seqObj "list" vs.toArray 0), toks := tk1 }
  refine wpAny_bind (wpAny_holding (wpAny_call_entry slot_list_sort ⟨_, hoL, rfl⟩ entry_list_sort ?_ (args_list_sort _)))
  refine sort_list (s := { s with heap := h1.push (seqObj "list" vs.toArray 0), toks := tk1 }) (lt := lt) (κ := κ) hoL h64 (fun h2 h' hk Q hq => hkind h2 h' tk1 (fun b o e => hk b o (hne b o e) (kp b o e)) Q hq)
    (fun h2 h' hk i j hi hj Q hq => hlt h2 h' tk1 (fun b o e => hk b o (hne b o e) (kp b o e)) i j hi hj Q hq) fun h' c hk hD => ?_
  exact ⟨_, rfl, wpAny_pure ⟨_, rfl, h _ h' tk1 c (fun b o e => hk b o (hne b o e) (kp b o e)) hle hD⟩⟩
end
end Mi
set_option Elab.async false
set_option linter.all false
set_option maxRecDepth 100000
namespace Mi
open PySem PySem.Spec PyProof.Rows L2
noncomputable def tyT : T → String
  | .int _ => "int" | .str _ => "str" | .tup _ => "tuple"
noncomputable def firstT : T → Option T
  | .tup (x :: _) => some x
  | _ => none
noncomputable def skT (ks : List T) : Option Nat :=
  if ks.all (fun k => tyT k == "int") then some 0
  else if ks.all (fun k => tyT k == "str") then some 1
  else if ks.all (fun k => (firstT k).any fun f => tyT f == "int") then some 2
  else if ks.all (fun k => (firstT k).any fun f => tyT f == "str") then some 3
  else if ks.all (fun k => (firstT k).any fun f => tyT f == "tuple") then some 4
  else none
noncomputable def kindK : Nat → SortKind
  | 0 => oneType' | 1 => oneType' | 2 => tuples' true | 3 => tuples' true | _ => tuples' false
noncomputable def allLt (ks : List T) : Bool := ks.all fun x => ks.all fun y => (ltT x y).isSome
noncomputable def ltK (ks : List T) (i j : Nat) : Bool := (ltT (ks.getD i (.int 0)) (ks.getD j (.int 0))).getD false
theorem ltK_eq {ks : List T} (h : allLt ks = true) {i j : Nat} (hi : i < ks.length) (hj : j < ks.length) : ltT (ks[i]) (ks[j]) = some (ltK ks i j) := by
  unfold allLt at h
  rw [List.all_eq_true] at h
  have h1 := h ks[i] (List.getElem_mem hi)
  rw [List.all_eq_true] at h1
  have h2 := h1 ks[j] (List.getElem_mem hj)
  unfold ltK
  rw [show ks.getD i (.int 0) = ks[i] by simp [hi], show ks.getD j (.int 0) = ks[j] by simp [hj]]
  obtain ⟨b, hb⟩ := Option.isSome_iff_exists.mp h2
  rw [hb]; rfl
noncomputable def skC (c : Nat) (x y : T) : Prop := match c with | 0 => tyT x = "int" ∧ tyT y = "int" | 1 => tyT x = "str" ∧ tyT y = "str" | 2 => ∃ f g, firstT x = some f ∧ firstT y = some g ∧ tyT f = "int" ∧ tyT g = "int" | 3 => ∃ f g, firstT x = some f ∧ firstT y = some g ∧ tyT f = "str" ∧ tyT g = "str" | _ => ∃ f g, firstT x = some f ∧ firstT y = some g
section
variable {prog : Program} {w : World} {A : Around} {E : Value → Shared → Prop} {s : Shared}
theorem looks_T {h : Heap} {k : T} {v : Value} (x : IsT h k v) : PySem.W.Looks (model prog w) h (typeOf v) (.type (tyT k)) := by
  cases x with
  | int => exact .now
  | str => exact .now
  | tup a c d t => exact c ▸ ((PySem.W.Looks.ld a).andThen .now : PySem.W.Looks (model prog w) h (typeOf (.ref _)) _)
theorem IsTs.mem {h : Heap} : ∀ {ks : List T} {vs : List Value}, IsTs h ks vs → ∀ v ∈ vs, ∃ k ∈ ks, IsT h k v
  | _, _, .cons a b, v, hv => by
    rcases List.mem_cons.mp hv with rfl | hv
    · exact ⟨_, .head _, a⟩
    · obtain ⟨k, hk, q⟩ := IsTs.mem b v hv
      exact ⟨k, .tail _ hk, q⟩
theorem katTups_T {h : Heap} {p : T → Bool} : ∀ {ks : List T} {vs : List Value}, IsTs h ks vs → ks.all (fun k => (firstT k).any p) = true → ∃ fs, PySem.W.KatTups h vs fs ∧ fs.length = vs.length ∧ ∀ v ∈ fs, ∃ k, p k = true ∧ IsT h k v
  | _, _, .nil, _ => ⟨[], .nil, rfl, fun v hv => nomatch hv⟩
  | k :: ks, _, .cons a b, hp => by
    rw [List.all_cons, Bool.and_eq_true] at hp
    obtain ⟨fs, h1, h2, h3⟩ := katTups_T b hp.2
    cases a with
    | int => simp [firstT] at hp
    | str => simp [firstT] at hp
    | @tup kk ad o items n a1 c1 d1 t1 =>
      cases kk with
      | nil => simp [firstT] at hp
      | cons x xs =>
        have hx : p x = true := by simpa [firstT] using hp.1
        generalize hit : items.toList = its at t1
        cases t1 with
        | @cons _ u _ us q1 q2 =>
          refine ⟨u :: fs, .cons a1 c1 d1 (by rw [← Array.getElem?_toList, hit]; rfl) h1, by simp [h2], fun v hv => ?_⟩
          rcases List.mem_cons.mp hv with rfl | hv
          · exact ⟨x, hx, q1⟩
          · exact h3 v hv
theorem kind_T {ks : List T} {vs : List Value} {c : Nat} {Q : SortKind → Shared → Prop} (h : IsTs s.heap ks vs) (h2 : 2 ≤ vs.length) (hc : skT ks = some c) (hq : Q (kindK c) s) : wpAny (model prog w) A (keyKind' vs.toArray) Q E s := by
  have one : ∀ ty : String, (Value.type ty != Value.type "tuple") = true → ks.all (fun k => tyT k == ty) = true → Q oneType' s → wpAny (model prog w) A (keyKind' vs.toArray) Q E s := fun ty hty hall hq =>
    PySem.W.kas_kind (T := .type ty) h2 (fun v hv => by
      obtain ⟨k, hk, x⟩ := h.mem v hv
      have := eq_of_beq (List.all_eq_true.mp hall k hk)
      exact this ▸ looks_T x) hty (by simp) hq
  have tup : ∀ ty : String, ks.all (fun k => (firstT k).any fun f => tyT f == ty) = true → Q (tuples' (Value.type ty != Value.type "tuple")) s → wpAny (model prog w) A (keyKind' vs.toArray) Q E s := fun ty hall hq => by
    obtain ⟨fs, h1, h3, h4⟩ := katTups_T h hall
    exact PySem.W.kat_kind (T := .type ty) h1 (by omega) (fun v hv => by
      obtain ⟨k, hk, x⟩ := h4 v hv
      have := eq_of_beq hk
      exact this ▸ looks_T x) (by simp) hq
  unfold skT at hc
  split at hc
  · cases hc; exact one "int" (by decide) (by assumption) hq
  · split at hc
    · cases hc; exact one "str" (by decide) (by assumption) hq
    · split at hc
      · cases hc; exact tup "int" (by assumption) hq
      · split at hc
        · cases hc; exact tup "str" (by assumption) hq
        · split at hc
          · cases hc; exact tup "tuple" (by assumption) hq
          · cases hc
theorem katLex_T {b : Bool} {Q : Bool → Shared → Prop} {d : Nat} (hu : A.units + d < cLine) : ∀ (xs ys : List T) (us vs : List Value) (i : Nat) (k : Bool), T.depths xs ≤ d → T.depths ys ≤ d → IsTs s.heap xs us → IsTs s.heap ys vs → ltTs xs ys = some k →
    (b = true → i = 0 → ∀ x y, xs.head? = some x → ys.head? = some y → (tyT x = "int" ∧ tyT y = "int") ∨ (tyT x = "str" ∧ tyT y = "str")) → Q k s → PySem.W.KatLex prog w A b (decide (us.length < vs.length)) Q (us.zip vs) i s
  | [], [], _, _, i, k, _, _, h1, h2, e, hb, hq => by cases h1; cases h2; cases e; exact PySem.W.kat_nil (by simpa using hq)
  | [], y :: ys, _, _, i, k, _, _, h1, h2, e, hb, hq => by cases h1; cases h2; cases e; exact PySem.W.kat_nil (by simpa using hq)
  | x :: xs, [], _, _, i, k, _, _, h1, h2, e, hb, hq => by cases h1; cases h2; cases e; exact PySem.W.kat_nil (by simpa using hq)
  | x :: xs, y :: ys, _, _, i, k, d1, d2, h1, h2, e, hb, hq => by
    simp only [T.depths] at d1 d2
    cases h1 with
    | @cons _ u _ us p1 q1 =>
      cases h2 with
      | @cons _ v _ vs p2 q2 =>
        have he := eq_T d x y _ _ A s (by omega) p1 p2 hu (by omega)
        rw [List.zip_cons_cons]
        refine PySem.W.kat_cons (he prog w _ _ ?_)
        simp only [ltTs] at e
        have hlen : decide ((u :: us).length < (v :: vs).length) = decide (us.length < vs.length) := by simp
        rw [hlen]
        by_cases hxy : x = y
        · rw [if_pos hxy] at e
          rw [decide_eq_true hxy]
          exact PySem.W.kat_yes (katLex_T hu xs ys us vs (i + 1) k (by omega) (by omega) q1 q2 e (fun _ z => absurd z (Nat.succ_ne_zero _)) hq)
        · rw [if_neg hxy] at e
          rw [decide_eq_false hxy]
          refine PySem.W.kat_no ?_
          by_cases hb0 : b = true ∧ i = 0
          · obtain ⟨rfl, rfl⟩ := hb0
            rcases hb rfl rfl x y rfl rfl with ⟨hx, hy⟩ | ⟨hx, hy⟩
            · cases p1 with
              | int => cases p2 with
                | int => cases e; exact oneLt_int hq
                | _ => exact absurd hy (by simp [tyT])
              | _ => exact absurd hx (by simp [tyT])
            · cases p1 with
              | str => cases p2 with
                | str => cases e; exact oneLt_str hq
                | _ => exact absurd hy (by simp [tyT])
              | _ => exact absurd hx (by simp [tyT])
          · have hf : (b && i == 0) = false := by
              cases b with
              | false => rfl
              | true =>
                have : i ≠ 0 := fun z => hb0 ⟨rfl, z⟩
                simpa using this
            rw [hf]
            exact PySem.W.kat_one _ _ ((lt_T d x y _ _ A s k (by omega) (by omega) p1 p2 hu e) prog w _ _ hq)
theorem keyLt_T {c d : Nat} {x y : T} {u v : Value} {k : Bool} {Q : Bool → Shared → Prop} (hu : A.units + d < cLine) (d1 : x.depth ≤ d) (d2 : y.depth ≤ d) (h1 : IsT s.heap x u) (h2 : IsT s.heap y v) (e : ltT x y = some k)
    (hc : skC c x y)
    (hq : Q k s) : wpAny (model prog w) A (keyLt' (kindK c) u v) Q E s := by
  have tup : ∀ b : Bool, (∃ f g, firstT x = some f ∧ firstT y = some g ∧ (b = true → (tyT f = "int" ∧ tyT g = "int") ∨ (tyT f = "str" ∧ tyT g = "str"))) → wpAny (model prog w) A (keyLt' (tuples' b) u v) Q E s := by
    rintro b ⟨f, g, hf, hg, hb⟩
    cases h1 with
    | int => cases hf
    | str => cases hf
    | @tup xs a o items n a1 c1 e1 t1 =>
      cases h2 with
      | int => cases hg
      | str => cases hg
      | @tup ys a' o' items' n' a2 c2 e2 t2 =>
        simp only [T.depth] at d1 d2
        refine PySem.W.kat_lt a1 e1 a2 e2 ?_
        have := katLex_T (prog := prog) (w := w) (b := b) (Q := Q) hu xs ys items.toList items'.toList 0 k (by omega) (by omega) t1 t2 e (fun hb' _ p q hp hq' => by
          cases xs with
          | nil => cases hp
          | cons x0 xs => cases ys with
            | nil => cases hq'
            | cons y0 ys => cases hp; cases hq'; cases hf; cases hg; exact hb hb') hq
        simpa using this
  match c, hc with
  | 0, ⟨hx, hy⟩ =>
    cases h1 with
    | int => cases h2 with
      | int => cases e; exact PySem.W.kat_lt_int hq
      | _ => exact absurd hy (by simp [tyT])
    | _ => exact absurd hx (by simp [tyT])
  | 1, ⟨hx, hy⟩ =>
    cases h1 with
    | str => cases h2 with
      | str => cases e; exact PySem.W.kas_lt_str hq
      | _ => exact absurd hy (by simp [tyT])
    | _ => exact absurd hx (by simp [tyT])
  | 2, ⟨f, g, h1', h2', h3, h4⟩ => exact tup true ⟨f, g, h1', h2', fun _ => .inl ⟨h3, h4⟩⟩
  | 3, ⟨f, g, h1', h2', h3, h4⟩ => exact tup true ⟨f, g, h1', h2', fun _ => .inr ⟨h3, h4⟩⟩
  | n + 4, ⟨f, g, h1', h2'⟩ => exact tup false ⟨f, g, h1', h2', fun z => nomatch z⟩
end
end Mi
set_option Elab.async false
set_option linter.all false
set_option maxRecDepth 100000
namespace Mi
open PySem PySem.Spec PyProof.Rows L2
theorem sk_pair {ks : List T} {c : Nat} (h : skT ks = some c) {x y : T} (hx : x ∈ ks) (hy : y ∈ ks) :
    skC c x y := by
  have one : ∀ {ty : String}, ks.all (fun k => tyT k == ty) = true → tyT x = ty ∧ tyT y = ty := fun ha => ⟨eq_of_beq (List.all_eq_true.mp ha x hx), eq_of_beq (List.all_eq_true.mp ha y hy)⟩
  have fst : ∀ {ty : String}, ks.all (fun k => (firstT k).any fun f => tyT f == ty) = true → ∃ f g, firstT x = some f ∧ firstT y = some g ∧ tyT f = ty ∧ tyT g = ty := fun {ty} ha => by
    have h1 := List.all_eq_true.mp ha x hx
    have h2 := List.all_eq_true.mp ha y hy
    cases e1 : firstT x with
    | none => rw [e1] at h1; cases h1
    | some f =>
      cases e2 : firstT y with
      | none => rw [e2] at h2; cases h2
      | some g =>
        rw [e1] at h1; rw [e2] at h2
        exact ⟨f, g, rfl, rfl, eq_of_beq (by simpa using h1), eq_of_beq (by simpa using h2)⟩
  unfold skT at h
  split at h
  · cases h; exact one (by assumption)
  · split at h
    · cases h; exact one (by assumption)
    · split at h
      · cases h; exact fst (by assumption)
      · split at h
        · cases h; exact fst (by assumption)
        · split at h
          · cases h
            obtain ⟨f, g, h1, h2, _⟩ := fst (by assumption)
            exact ⟨f, g, h1, h2⟩
          · cases h
noncomputable def itemsW (S : Store) : W → Option (List W)
  | .tup xs => some xs
  | .ref i => match rdL S i with
    | some xs => some xs
    | none => (rdD S i).map fun kvs => kvs.map fun p => p.1.w
  | _ => none
noncomputable def sortLim : Nat := 8
noncomputable def okSort (ks : List T) : Bool := decide (ks.length < 64) && decide (T.depths ks ≤ sortLim) && (decide (ks.length < 2) || ((skT ks).isSome && allLt ks))
noncomputable def sortedW (xs : List W) (S : Store) : Option (W × Store) := match xs with
  | [x] => match itemsW S x with
    | some ws => match W.ts ws with
      | some ks => if okSort ks then some (.ref S.length, S ++ [.lst (outK (ltK ks) .non ws)]) else none
      | none => none
    | none => none
  | _ => none
noncomputable def listX (xs : List W) (S : Store) : Option (W × Store) := match xs with
  | [.ref i] => match rdD S i with
    | some kvs => some (.ref S.length, S ++ [.lst (kvs.map fun p => p.1.w)])
    | none => listW [.ref i] S
  | xs => listW xs S
noncomputable def lenX (xs : List W) (S : Store) : Option (W × Store) := match xs with
  | [.ref i] => match rdD S i with
    | some kvs => some (.int kvs.length, S)
    | none => lenW [.ref i] S
  | xs => lenW xs S
noncomputable def minI (ks : List T) : Nat := argBest (ltK ks) (ks.length - 1)
noncomputable def minW (xs : List W) (S : Store) : Option (W × Store) := match xs with
  | [.ref i] => match rdL S i with
    | some ws => match W.ts ws with
      | some ks => if T.depths ks ≤ sortLim ∧ allLt ks = true then (ws[minI ks]?).map fun w => (w, S) else none
      | none => none
    | none => none
  | _ => none
noncomputable def boolsW : List W → Option (List Bool)
  | [] => some []
  | .bl b :: ws => (boolsW ws).map (b :: ·)
  | _ :: _ => none
noncomputable def allW (xs : List W) (S : Store) : Option (W × Store) := match xs with
  | [.ref i] => match rdL S i with
    | some ws => (boolsW ws).map fun bs => (.bl (bs.all id), S)
    | none => none
  | _ => none
noncomputable def anyW (xs : List W) (S : Store) : Option (W × Store) := match xs with
  | [.ref i] => match rdL S i with
    | some ws => (boolsW ws).map fun bs => (.bl (bs.any id), S)
    | none => none
  | _ => none
section
variable {X : Cx} {pins : List (Addr × Obj)} {σ : L2.St} {H : Hp} {s : Shared} {A : List Addr} {S : Store}
theorem RelL.pick {K : PySem.W.Frag} {ws : List W} {vs : List V} (r : RelL K A H ws vs) (d : W) (d' : V) : ∀ (is : List Nat), (∀ i ∈ is, i < ws.length) → RelL K A H (is.map fun i => ws.getD i d) (is.map fun i => vs.getD i d')
  | [], _ => .nil
  | i :: is, h => by
    have hi := h i (.head _)
    obtain ⟨v, h1, h2⟩ := r.get (List.getElem?_eq_getElem hi)
    refine .cons ?_ (RelL.pick r d d' is fun j hj => h j (.tail _ hj))
    have e1 : ws.getD i d = ws[i] := by simp [hi]
    have e2 : vs.getD i d' = v := by simp [h1]
    show Rel K A H (ws.getD i d) (vs.getD i d')
    rw [e1, e2]; exact h2
theorem Vals.pick {vs : List V} {us : List Value} (r : Vals vs us) (d : V) (d' : Value) : ∀ (is : List Nat), (∀ i ∈ is, i < vs.length) → Vals (is.map fun i => vs.getD i d) (is.map fun i => us.getD i d')
  | [], _ => .nil
  | i :: is, h => by
    have hi := h i (.head _)
    obtain ⟨v, h1, h2⟩ := L2.Vals.get r (List.getElem?_eq_getElem hi)
    refine .cons ?_ (Vals.pick r d d' is fun j hj => h j (.tail _ hj))
    have e1 : vs.getD i d = vs[i] := by simp [hi]
    have e2 : us.getD i d' = v := by simp [h1]
    show L2.RelV (vs.getD i d) (us.getD i d')
    rw [e1, e2]; exact h2
theorem runK_lt {n : Nat} {lt : Nat → Nat → Bool} (hn : 0 < n) : ∀ i ∈ (runK lt (PySem.W.kas_sort n)).toList, i < n := fun i hi => List.mem_range.mp ((runK_ok (lt := lt) (ok_sort hn)).mem_iff.mp hi)
theorem outK_rel {K : PySem.W.Frag} {lt : Nat → Nat → Bool} {ws : List W} {vs : List V} (r : RelL K A H ws vs) : RelL K A H (outK lt .non ws) (outK lt .non vs) := by
  unfold outK
  rw [r.length]
  split
  · exact r
  · exact r.pick _ _ _ fun i hi => by rw [r.length]; exact runK_lt (by omega) i hi
theorem outK_vals {lt : Nat → Nat → Bool} {vs : List V} {us : List Value} (r : Vals vs us) : Vals (outK lt .non vs) (outK lt .none us) := by
  unfold outK
  rw [L2.Vals.length r]
  split
  · exact r
  · exact Vals.pick r _ _ _ fun i hi => by rw [L2.Vals.length r]; exact runK_lt (by omega) i hi
theorem collect_tup {prog : Program} {w : World} {B : Around} {E : Value → Shared → Prop} {l : Addr} {vs : List Value} {Q : List Value → Shared → Prop} (hl : IsTup s.heap l vs.toArray) (hsz : vs.length ≤ sizeLine)
    (h : ∀ h' tk, (∀ b o, s.heap.get? b = some o → h'.get? b = some o) → s.heap.objs.size ≤ h'.objs.size → Q vs { s with heap := h', toks := tk }) : wpAny (model prog w) B (collect (.ref l)) Q E s := by
  obtain ⟨o, ho, hc, n, hd⟩ := id hl
  unfold collect
  refine wpAny_bind (wpAny_runValue (codeAny_builtin entry_proto_collect' ?_))
  show wpAny _ _ (do again (.builtin "list.__iadd__" ⟨[← newList [], .ref l], []⟩)) _ _ s
  refine wpAny_bind (wpAny_newList (wpAny_pure ⟨Code.quiet_builtin _ (by decide +kernel), codeAny_builtin entry_list_iadd' ?_⟩))
  show wpAny _ _ (Builtin.List.listExtendWith (.ref s.heap.objs.size) (.ref l) (.ref s.heap.objs.size)) _ _ { s with heap := s.heap.push (seqObj "list" #[] 0) }
  unfold Builtin.List.listExtendWith
  have ho' : (s.heap.push (seqObj "list" #[] 0)).get? l = some o := Heap.get?_push_of_some _ ho
  refine wpAny_bind (wpAny_typeOf (T := "tuple") ⟨o, ho', hc⟩ ?_)
  have ht : (Value.type "tuple" == Value.type "tuple") = true := by rfl
  rw [if_pos (by rw [ht]; simp)]
  refine wpAny_bind (listItems_at ho' hd ?_)
  refine wpAny_bind (listItems_at (xs := #[]) (n := 0) (Heap.get?_push_size _ rfl) rfl ?_)
  rw [if_neg (by simp)]
  refine wpAny_bind (listUpdate_at (xs := #[]) (n := 0) (Heap.get?_push_size _ rfl) rfl ?_ (Nat.zero_le _) (by show (#[] ++ vs.toArray).size ≤ sizeLine + 1; simp only [Array.size_append, List.size_toArray, List.length_nil]; omega))
  refine wpAny_pure ?_
  show wpAny (model prog w) B (do
      let o ← load s.heap.objs.size
      match o.data with
      | .seq xs _ => pure xs.toList
      | _ => unsupported "internal:collect") Q E { s with heap := (s.heap.push (seqObj "list" #[] 0)).update s.heap.objs.size (Obj.mapSeq (· ++ vs.toArray)) }
  refine wpAny_bind (wpAny_load (get?_update_seq (Heap.get?_push_size _ rfl) _) ?_)
  show wpAny _ _ (pure ((#[] : Array Value) ++ vs.toArray).toList) Q E _
  rw [show ((#[] : Array Value) ++ vs.toArray).toList = vs by simp]
  refine wpAny_pure (h _ s.toks (fun b o' e => (Heap.get?_update_ne _ _ _ _ (Nat.ne_of_lt (Heap.lt_size e))).trans (Heap.get?_push_of_some _ e)) ?_)
  rw [Heap.size_update, size_push']
  exact Nat.le_succ _
theorem DicAt.raw {wd : World} {a : Addr} {xs : List (T × Addr × Value)} {h : Heap} (d : DicAt wd a xs h) : ∃ es ep, RawD a es ep h ∧ es.toList = xs.map (entT wd) :=
  let ⟨_, _, _, o, es, ep, h1, h2, h3, h4⟩ := d; ⟨es, ep, ⟨o, h1, h2, h3⟩, h4⟩
theorem KRel.keysL {kvs : List (T × W)} {xs : List (T × Addr × Value)} (r : KRel X.K A H kvs xs) : RelL X.K A H (kvs.map fun p => p.1.w) (xs.map fun q => V.ref q.2.1) := by
  unfold KRel at r
  induction r with
  | nil => exact .nil
  | cons h t ih => exact .cons h.2.2.2.1 ih
theorem keys_vals (xs : List (T × Addr × Value)) : Vals (xs.map fun q => V.ref q.2.1) (xs.map fun q => Value.ref q.2.1) := by
  induction xs with
  | nil => exact .nil
  | cons x xs ih => exact .cons rfl ih
theorem items_keys {wd : World} {es : Array DictEntry} {xs : List (T × Addr × Value)} (he : es.toList = xs.map (entT wd)) {acc : Array Value} (ha : ItemsOf (fun i v => ∃ e, es[i]? = some e ∧ e.key = v) acc es.size) : acc.toList = xs.map fun q => Value.ref q.2.1 := by
  have hl : es.size = xs.length := by rw [← Array.length_toList, he, List.length_map]
  apply List.ext_getElem
  · rw [Array.length_toList, ha.1, List.length_map, hl]
  · intro i h1 h2
    rw [Array.length_toList] at h1
    obtain ⟨e, q1, q2⟩ := ha.2 i acc[i] (by simp [h1])
    rw [← Array.getElem?_toList, he, List.getElem?_map] at q1
    rw [List.length_map] at h2
    rw [List.getElem?_eq_getElem h2] at q1
    simp only [Option.map_some, Option.some.injEq] at q1
    subst q1
    rw [List.getElem_map, Array.getElem_toList]
    exact q2.symm
theorem items_src {x : W} {a : V} {u : Value} {ws : List W} (hh : X.A.handled = none) (I : Inv X pins σ H s) (so : StoreOk X.w X.K A H S) (rx : Rel X.K A H x a) (ru : RelV a u) (e : itemsW S x = some ws) : ∃ vs us, RelL X.K A H ws vs ∧ Vals vs us ∧ us.length ≤ sizeLine ∧
    ∀ (B : Around) (hB : B.handled = none) (E : Value → Shared → Prop) (Q' : List Value → Shared → Prop), (∀ h' tk, (∀ b o, s.heap.get? b = some o → h'.get? b = some o) → s.heap.objs.size ≤ h'.objs.size → Q' us { s with heap := h', toks := tk }) → wpAny (model X.prog X.w) B (collect u) Q' E s := by
  cases rx with
  | tup h1 r1 =>
    cases e
    obtain ⟨its, rv, ht, hz⟩ := I.tuple h1
    obtain rfl : u = Value.ref _ := ru
    exact ⟨_, its, r1, rv, by rw [← L2.Vals.length rv]; exact hz, fun B hB E Q' h => collect_tup ht (by rw [← L2.Vals.length rv]; exact hz) h⟩
  | ref ea =>
    simp only [itemsW] at e
    split at e
    · rename_i xs hx
      cases e
      obtain ⟨vs, h1, r1⟩ := rdL_at so hx ea
      obtain ⟨its, rv, p, hz⟩ := I.list h1
      obtain rfl : u = Value.ref _ := ru
      refine ⟨_, its, r1, rv, by rw [← L2.Vals.length rv]; exact hz, fun B hB E Q' h => collect_list p.isList (h _ s.toks (fun b o' e => (Heap.get?_update_ne _ _ _ _ (Nat.ne_of_lt (Heap.lt_size e))).trans (Heap.get?_push_of_some _ e)) ?_) (by rw [← L2.Vals.length rv]; exact hz)⟩
      rw [Heap.size_update, size_push']
      exact Nat.le_succ _
    · rw [Option.map_eq_some_iff] at e
      obtain ⟨kvs, hk, rfl⟩ := e
      obtain ⟨xs, rd, kr⟩ := rdD_at so hk ea
      have d := dic_get I rd
      obtain ⟨es, ep, raw, he⟩ := d.raw
      obtain rfl : u = Value.ref _ := ru
      have hl : es.size = xs.length := by rw [← Array.length_toList, he, List.length_map]
      refine ⟨_, _, kr.keysL, keys_vals xs, by rw [List.length_map]; exact d.1, fun B hB E Q' h => collect_src (raw_src d.2.1) hB raw (by rw [hl]; exact d.1) fun h' tk acc hk' hle ha => ?_⟩
      rw [items_keys he ha]
      exact h h' tk hk' hle
  | _ => cases e
theorem post_list {h' : Heap} {tk c : Nat} {D : Addr} {ws : List W} {vs : List V} {us : List Value} (I : Inv X pins σ H s) (so : StoreOk X.w X.K A H S) (r : RelL X.K A H ws vs) (rv : Vals vs us) (hz : us.length ≤ sizeLine) (hk : ∀ b o, s.heap.get? b = some o → h'.get? b = some o) (hD : s.heap.objs.size ≤ D)
    (ho : h'.get? D = some { cls := .type "list", data := .seq us.toArray c }) : PostE X pins σ A H (S ++ [.lst ws]) (.ref S.length) (.ref D) { s with heap := h', toks := tk } := by
  have hn : H D = none := I.hok.fresh hD
  refine ⟨.ref D, _, A ++ [D], I.laid (a := D) (o := .lst vs) (t' := tk) hk hD ⟨by rw [L2.Vals.length rv]; exact hz, us, c, rv, ho⟩, rfl, ext_push hn, so.push hn r, .ref ?_⟩
  rw [← so.len]; simp
theorem lcall_sorted (hh : X.A.handled = none) (hu : X.A.units + 12 < cLine) : LCall X (.builtin "sorted") sortedW := by
  intro pins s σ H A S xs vs us w S' I so rl rv e
  cases rl with
  | nil => cases e
  | cons r t =>
    cases t with
    | cons _ _ => cases e
    | nil =>
      cases rv with
      | cons ru rv2 =>
        cases rv2
        simp only [sortedW] at e
        split at e
        · rename_i ws hw
          split at e
          · rename_i ks hk
            split at e
            · rename_i hok
              cases e
              obtain ⟨vs', us', r1, rv1, hz, hcol⟩ := items_src hh I so r ru hw
              simp only [okSort, Bool.and_eq_true, decide_eq_true_eq] at hok
              obtain ⟨⟨h64, hd⟩, hok⟩ := hok
              have hws : T.ws ks = ws := W.ts_w hk
              have hT : IsTs s.heap ks us' := isTs_of I ks (hws ▸ r1) rv1
              have hl : us'.length = ks.length := hT.length.symm
              have sk : 2 ≤ us'.length → (skT ks).isSome = true ∧ allLt ks = true := fun h2 => by
                rcases Bool.or_eq_true _ _ ▸ hok with h | h
                · simp only [decide_eq_true_eq] at h; omega
                · simpa using h
              refine sorted_of (vs := us') (lt := ltK ks) (κ := kindK ((skT ks).getD 0)) (by omega) (fun Q' hQ' => hcol X.A.in1 hh _ Q' hQ') (fun h2 h' tk hk' Q hq => ?_) (fun h2 h' tk hk' i j hi hj Q hq => ?_) fun D h' tk c hk' hD ho => ?_
              · obtain ⟨q1, q2⟩ := sk h2
                obtain ⟨c, hc⟩ := Option.isSome_iff_exists.mp q1
                rw [hc] at hq
                exact kind_T (s := { s with heap := h', toks := tk }) (hT.kept fun b o _ e => hk' b o e) h2 hc hq
              · obtain ⟨q1, q2⟩ := sk h2
                obtain ⟨c, hc⟩ := Option.isSome_iff_exists.mp q1
                rw [hc]
                have hi' : i < ks.length := by omega
                have hj' : j < ks.length := by omega
                have g := (hT.kept (h' := h') fun b o _ e => hk' b o e)
                have e1 : us'.getD i Value.none = us'[i] := by simp [hi]
                have e2 : us'.getD j Value.none = us'[j] := by simp [hj]
                rw [e1, e2]
                have b1 := depth_le (ks := ks) i hi'
                have b2 := depth_le (ks := ks) j hj'
                exact keyLt_T (s := { s with heap := h', toks := tk }) (d := sortLim) (c := c) (by rw [in1_units, in1_units]; unfold sortLim; omega) (by omega) (by omega) (g.get i hi' hi) (g.get j hj' hj) (ltK_eq q2 hi' hj') (sk_pair hc (List.getElem_mem hi') (List.getElem_mem hj')) hq
              · exact post_list I so (outK_rel r1) (outK_vals rv1) (by rw [outK_length]; exact hz) hk' hD ho
            · cases e
          · cases e
        · cases e
theorem lcall_listX (hh : X.A.handled = none) : LCall X (.type "list") listX := by
  intro pins s σ H A S xs vs us w S' I so rl rv e
  by_cases hd : ∃ i kvs, xs = [.ref i] ∧ rdD S i = some kvs
  · obtain ⟨i, kvs, rfl, hk⟩ := hd
    simp only [listX, hk] at e
    cases e
    cases rl with
    | cons r t =>
      cases t
      cases rv with
      | cons ru rv2 =>
        cases rv2
        cases r with
        | ref ea =>
          obtain ⟨xs, rd, kr⟩ := rdD_at so hk ea
          have d := dic_get I rd
          obtain ⟨es, ep, raw, he⟩ := d.raw
          obtain rfl : _ = Value.ref _ := ru
          have hl : es.size = xs.length := by rw [← Array.length_toList, he, List.length_map]
          refine PySem.W.kdl_call (raw_src d.2.1) hh raw (by rw [hl]; exact d.1) fun h' tk acc' c' hk' hD ha => ?_
          have ea' := items_keys he ha
          refine post_list (us := acc'.toList) I so kr.keysL (ea' ▸ keys_vals xs) (by rw [ea', List.length_map]; exact d.1) hk' (Nat.le_refl _) (c := c') ?_
          simpa using hD
  · have : listX xs S = listW xs S := by
      unfold listX
      split
      · rename_i i
        split
        · rename_i kvs hk
          exact absurd ⟨i, kvs, rfl, hk⟩ hd
        · rfl
      · rfl
    rw [this] at e
    exact lcall_list pins s σ H A S xs vs us w S' I so rl rv e
end
end Mi
set_option Elab.async false
set_option linter.all false
set_option maxRecDepth 100000
namespace Mi
open PySem PySem.Spec PyProof.Rows L2
section
variable {X : Cx} {pins : List (Addr × Obj)} {σ : L2.St} {H : Hp} {s : Shared} {A : List Addr} {S : Store}
theorem lcall_min (hh : X.A.handled = none) (hu : X.A.units + 12 < cLine) : LCall X (.builtin "min") minW := by
  intro pins s σ H A S xs vs us w S' I so rl rv e
  cases rl with
  | nil => cases e
  | cons r t =>
    cases t with
    | cons _ _ => cases r <;> cases e
    | nil =>
      cases rv with
      | cons ru rv2 =>
        cases rv2
        cases r with
        | ref ea =>
          simp only [minW] at e
          split at e
          · rename_i ws hw
            split at e
            · rename_i ks hk
              split at e
              · rename_i hc
                rw [Option.map_eq_some_iff] at e
                obtain ⟨w', e1, e2⟩ := e
                cases e2
                obtain ⟨vs', h1, r1⟩ := rdL_at so hw ea
                obtain ⟨its, rv1, p, hz⟩ := I.list h1
                obtain rfl : _ = Value.ref _ := ru
                have hws : T.ws ks = ws := W.ts_w hk
                have hT : IsTs s.heap ks its := isTs_of I ks (hws ▸ r1) rv1
                have hl : its.length = ks.length := hT.length.symm
                have hlw : ws.length = ks.length := by rw [r1.length, L2.Vals.length rv1, hl]
                have hn : 0 < ks.length := by
                  have := (List.getElem?_eq_some_iff.mp e1).1
                  omega
                refine min_list (items := its.toArray) (bt := ltK ks) hh p.isList (by simpa [hl] using hn) (fun i j vi vj s' Q E hk' hi hj hq => ?_) fun v h' tk hv hk' => ?_
                · have hi' : i < ks.length := by
                    have := (Array.getElem?_eq_some_iff.mp hi).1
                    simpa [hl] using this
                  have hj' : j < ks.length := by
                    have := (Array.getElem?_eq_some_iff.mp hj).1
                    simpa [hl] using this
                  have g := hT.kept (h' := s'.heap) fun b o _ e => hk' b o e
                  have e1 : vi = its[i]'(by omega) := by
                    have := (Array.getElem?_eq_some_iff.mp hi).2
                    simpa using this.symm
                  have e2 : vj = its[j]'(by omega) := by
                    have := (Array.getElem?_eq_some_iff.mp hj).2
                    simpa using this.symm
                  subst e1 e2
                  have b1 := depth_le (ks := ks) i hi'
                  have b2 := depth_le (ks := ks) j hj'
                  exact lt_T sortLim _ _ _ _ X.A.in1 s' _ (by omega) (by omega) (g.get i hi' (by omega)) (g.get j hj' (by omega)) (by rw [in1_units]; unfold sortLim; omega) (ltK_eq hc.2 hi' hj') X.prog X.w _ _ hq
                · have hv' : its[minI ks]? = some v := by
                    have : its.toArray.size = ks.length := by simpa using hl
                    rw [this] at hv
                    simpa [minI] using hv
                  obtain ⟨v', q1, q2⟩ := r1.get e1
                  obtain ⟨u', q3, q4⟩ := L2.Vals.get rv1 q1
                  rw [hv'] at q3
                  cases q3
                  exact ⟨v', H, A, I.kept hk', q4, .refl, so, q2⟩
              · cases e
            · cases e
          · cases e
        | _ => cases e
theorem bools_get : ∀ {ws : List W} {bs : List Bool}, boolsW ws = some bs → ws = bs.map W.bl
  | [], bs, h => by cases h; rfl
  | .bl b :: ws, bs, h => by
    simp only [boolsW, Option.map_eq_some_iff] at h
    obtain ⟨r, h1, h2⟩ := h
    subst h2
    rw [bools_get h1]; rfl
  | .non :: _, _, h | .int _ :: _, _, h | .str _ :: _, _, h | .tup _ :: _, _, h | .ref _ :: _, _, h => by cases h
theorem bools_vals {bs : List Bool} {vs : List V} {us : List Value} (r : RelL X.K A H (bs.map W.bl) vs) (rv : Vals vs us) : us = bs.map Value.bool := by
  induction bs generalizing vs us with
  | nil => cases r; cases rv; rfl
  | cons b bs ih =>
    cases r with
    | cons r1 r2 =>
      cases rv with
      | cons v1 v2 =>
        cases r1
        obtain rfl : _ = Value.bool b := v1
        rw [ih r2 v2]; rfl
theorem all_range (bs : List Bool) : (List.range bs.length).all (fun i => bs.getD i false) = bs.all id := by
  induction bs with
  | nil => rfl
  | cons b bs ih => simp [List.range_succ_eq_map, List.all_map, Function.comp_def] at ih ⊢; rw [ih]
theorem any_range (bs : List Bool) : (List.range bs.length).any (fun i => bs.getD i false) = bs.any id := by
  induction bs with
  | nil => rfl
  | cons b bs ih => simp [List.range_succ_eq_map, List.any_map, Function.comp_def] at ih ⊢; rw [ih]
theorem allany {id : String} {fb : List Bool → Bool} {g : List W → Store → Option (W × Store)} (hg : ∀ xs S, g xs S = match xs with | [.ref i] => (match rdL S i with | some ws => (boolsW ws).map fun bs => (.bl (fb bs), S) | none => none) | _ => none)
    (hcall : ∀ {s : Shared} {x : Value} {Q : Value → Shared → Prop} {E : Value → Shared → Prop} {bs : List Bool}, wpAny (model X.prog X.w) X.A.in1 (pyIter x) (fun it s₂ => ∃ I fp wr P St, it = .ref I ∧ Walks X.prog X.w X.A.in1 I fp wr bs.length P St ∧ St 0 s₂.heap ∧ TruthOf X.prog X.w X.A.in1 P (fun i => bs.getD i false) ∧
      ∀ h' tk, (∀ b o, b ∉ wr → s₂.heap.get? b = some o → h'.get? b = some o) → Q (.bool (fb bs)) { s₂ with heap := h', toks := tk }) E s → wpAny (model X.prog X.w) X.A (call (.builtin id) [x]) Q E s)
    (hh : X.A.handled = none) : LCall X (.builtin id) g := by
  intro pins s σ H A S xs vs us w S' I so rl rv e
  rw [hg] at e
  cases rl with
  | nil => cases e
  | cons r t =>
    cases t with
    | cons _ _ => cases r <;> cases e
    | nil =>
      cases rv with
      | cons ru rv2 =>
        cases rv2
        cases r with
        | @ref ri ad ea =>
          simp only at e
          split at e
          · rename_i ws hw
            rw [Option.map_eq_some_iff] at e
            obtain ⟨bs, e1, e2⟩ := e
            cases e2
            obtain ⟨vs', h1, r1⟩ := rdL_at so hw ea
            obtain ⟨its, rv1, p, hz⟩ := I.list h1
            obtain rfl : _ = Value.ref _ := ru
            rw [bools_get e1] at r1
            have hits := bools_vals r1 rv1
            refine hcall (bs := bs) ?_
            refine wpAny_pyIter_list p.isList ?_
            have hlt : ad < s.heap.objs.size := by obtain ⟨_, ho, _⟩ := p.isList; exact Heap.lt_size ho
            have W := Walks.list (prog := X.prog) (w := X.w) (A := X.A.in1) hh s.heap.objs.size ad (Nat.ne_of_lt hlt) its.toArray
            have hsz : its.toArray.size = bs.length := by rw [List.size_toArray, hits, List.length_map]
            rw [hsz] at W
            refine ⟨_, _, _, _, _, rfl, W, ⟨⟨_, Heap.get?_push_size _ rfl, rfl, rfl⟩, ?_⟩, fun i v s' Q E hi hq => ?_, fun h' tk hk => ?_⟩
            · obtain ⟨o, ho, hc⟩ := p.isList
              exact ⟨o, Heap.get?_push_of_some _ ho, hc⟩
            · have hb : bs[i]?.map Value.bool = some v := by rw [← List.getElem?_map, ← hits]; simpa using hi
              cases q : bs[i]? with
              | none => rw [q] at hb; cases hb
              | some b =>
                rw [q] at hb
                cases hb
                have eb : bs.getD i false = b := by simp [q]
                have hq : Q (bs.getD i false) s' := hq
                rw [eb] at hq
                exact wpAny_truthy_bool hq
            · refine ⟨.bl (fb bs), H, A, I.kept (fun b o e => hk b o (fun z => ?_) (Heap.get?_push_of_some _ e)), rfl, .refl, so, .bl⟩
              have hb := Heap.lt_size e
              rw [List.mem_singleton.mp z] at hb
              exact Nat.lt_irrefl _ hb
          · cases e
        | _ => cases e
theorem lcall_all (hh : X.A.handled = none) : LCall X (.builtin "all") allW :=
  allany (fb := fun bs => bs.all id) (fun xs S => rfl) (fun {s x Q E bs} h => call_all_walk (wpAny_mono h (fun it s₂ ⟨I, fp, wr, P, St', a, b, c, d, f⟩ => ⟨I, fp, wr, _, P, St', _, a, b, c, d, fun h' tk hk => by rw [all_range]; exact f h' tk hk⟩) fun _ _ e => e)) hh
theorem lcall_any (hh : X.A.handled = none) : LCall X (.builtin "any") anyW :=
  allany (fb := fun bs => bs.any id) (fun xs S => rfl) (fun {s x Q E bs} h => call_any_walk (wpAny_mono h (fun it s₂ ⟨I, fp, wr, P, St', a, b, c, d, f⟩ => ⟨I, fp, wr, _, P, St', _, a, b, c, d, fun h' tk hk => by rw [any_range]; exact f h' tk hk⟩) fun _ _ e => e)) hh
end
end Mi
set_option Elab.async false
set_option linter.all false
set_option maxRecDepth 100000
namespace Mi
open PySem PySem.Spec PyProof.Rows L2
noncomputable abbrev FA := Fm → Store → Option (List W × Store)
noncomputable abbrev FT := Fm → Store → Option (Bool × Store)
inductive Out where
  | nx (ρ : Fm) | rt (w : W) | bk (ρ : Fm) | ct (ρ : Fm)
noncomputable abbrev FS := Fm → Store → Option (Out × Store)
section
variable (X : Cx)
noncomputable def tE (f : FE) : TE := fun σ H Q => ∃ A ρ S w S', EnvRel X.K A H ρ σ ∧ StoreOk X.w X.K A H S ∧ f ρ S = some (w, S') ∧ ∀ v H', EndV X.w X.K A H S' w v H' → Q v H'
noncomputable def EndB (A : List Addr) (H : Hp) (S' : Store) (k : Bool) : Bool → Hp → Prop := fun b H' => b = k ∧ ∃ A', Ext X.K A H A' H' ∧ StoreOk X.w X.K A' H' S'
noncomputable def tT (f : FT) : TT := fun σ H Q => ∃ A ρ S k S', EnvRel X.K A H ρ σ ∧ StoreOk X.w X.K A H S ∧ f ρ S = some (k, S') ∧ ∀ b H', EndB X A H S' k b H' → Q b H'
noncomputable def EndA (A : List Addr) (H : Hp) (S' : Store) (ws : List W) : List V → Hp → Prop := fun vs H' => ∃ A', Ext X.K A H A' H' ∧ StoreOk X.w X.K A' H' S' ∧ RelL X.K A' H' ws vs
noncomputable def tA (f : FA) : TA := fun σ H Q => ∃ A ρ S ws S', EnvRel X.K A H ρ σ ∧ StoreOk X.w X.K A H S ∧ f ρ S = some (ws, S') ∧ ∀ vs H', EndA X A H S' ws vs H' → Q vs H'
noncomputable def EndS (A : List Addr) (H : Hp) (o : Out) (S' : Store) : Ends where
  nx := fun σ' H' => ∃ ρ' A', o = .nx ρ' ∧ Ext X.K A H A' H' ∧ StoreOk X.w X.K A' H' S' ∧ EnvRel X.K A' H' ρ' σ'
  rt := fun v H' => ∃ w A', o = .rt w ∧ Ext X.K A H A' H' ∧ StoreOk X.w X.K A' H' S' ∧ Rel X.K A' H' w v
  bk := fun σ' H' => ∃ ρ' A', o = .bk ρ' ∧ Ext X.K A H A' H' ∧ StoreOk X.w X.K A' H' S' ∧ EnvRel X.K A' H' ρ' σ'
  ct := fun σ' H' => ∃ ρ' A', o = .ct ρ' ∧ Ext X.K A H A' H' ∧ StoreOk X.w X.K A' H' S' ∧ EnvRel X.K A' H' ρ' σ'
structure Imp (E D : Ends) : Prop where
  nx : ∀ σ H, E.nx σ H → D.nx σ H
  rt : ∀ v H, E.rt v H → D.rt v H
  bk : ∀ σ H, E.bk σ H → D.bk σ H
  ct : ∀ σ H, E.ct σ H → D.ct σ H
noncomputable def tS (f : FS) : TS := fun D σ H => ∃ A ρ S o S', EnvRel X.K A H ρ σ ∧ StoreOk X.w X.K A H S ∧ f ρ S = some (o, S') ∧ Imp (EndS X A H o S') D
noncomputable abbrev GE (e : Expr) (f : FE) : Prop := PE X e (tE X f)
noncomputable abbrev GT (e : Expr) (f : FT) : Prop := PT X e (tT X f)
noncomputable abbrev GW (e : Expr) (f : FT) : Prop := PW X e (tT X f)
noncomputable abbrev GA (es : List Expr) (f : FA) : Prop := PA X es (tA X f)
noncomputable abbrev GS (st : Stmt) (f : FS) : Prop := PS X st (tS X f)
noncomputable abbrev GSs (sts : List Stmt) (f : FS) : Prop := PSs X sts (tS X f)
end
theorem Imp.trans {E D F : Ends} (a : Imp E D) (b : Imp D F) : Imp E F := ⟨fun _ _ h => b.nx _ _ (a.nx _ _ h), fun _ _ h => b.rt _ _ (a.rt _ _ h), fun _ _ h => b.bk _ _ (a.bk _ _ h), fun _ _ h => b.ct _ _ (a.ct _ _ h)⟩
section
variable {X : Cx}
theorem GE.of {e : Expr} {t : TE} {f : FE} (h : PE X e t) (hf : ∀ (σ : L2.St) (H : Hp) (A : List Addr) (ρ : Fm) (S : Store) (w : W) (S' : Store), EnvRel X.K A H ρ σ → StoreOk X.w X.K A H S → f ρ S = some (w, S') → ∀ Q : VK, (∀ v H', EndV X.w X.K A H S' w v H' → Q v H') → t σ H Q) : GE X e f :=
  fun pins s σ H Q I ⟨A, ρ, S, w, S', er, so, e1, hq⟩ => h pins s σ H Q I (hf σ H A ρ S w S' er so e1 Q hq)
theorem GT.of {e : Expr} {t : TT} {f : FT} (h : PT X e t) (hf : ∀ (σ : L2.St) (H : Hp) (A : List Addr) (ρ : Fm) (S : Store) (k : Bool) (S' : Store), EnvRel X.K A H ρ σ → StoreOk X.w X.K A H S → f ρ S = some (k, S') → ∀ Q : Bool → Hp → Prop, (∀ b H', EndB X A H S' k b H' → Q b H') → t σ H Q) : GT X e f :=
  fun pins s σ H Q I ⟨A, ρ, S, w, S', er, so, e1, hq⟩ => h pins s σ H Q I (hf σ H A ρ S w S' er so e1 Q hq)
theorem GW.of {e : Expr} {t : TT} {f : FT} (h : PW X e t) (hf : ∀ (σ : L2.St) (H : Hp) (A : List Addr) (ρ : Fm) (S : Store) (k : Bool) (S' : Store), EnvRel X.K A H ρ σ → StoreOk X.w X.K A H S → f ρ S = some (k, S') → ∀ Q : Bool → Hp → Prop, (∀ b H', EndB X A H S' k b H' → Q b H') → t σ H Q) : GW X e f :=
  fun wh pins s σ H Q I ⟨A, ρ, S, w, S', er, so, e1, hq⟩ => h wh pins s σ H Q I (hf σ H A ρ S w S' er so e1 Q hq)
theorem GA.of {es : List Expr} {t : TA} {f : FA} (h : PA X es t) (hf : ∀ (σ : L2.St) (H : Hp) (A : List Addr) (ρ : Fm) (S : Store) (ws : List W) (S' : Store), EnvRel X.K A H ρ σ → StoreOk X.w X.K A H S → f ρ S = some (ws, S') → ∀ Q : List V → Hp → Prop, (∀ vs H', EndA X A H S' ws vs H' → Q vs H') → t σ H Q) : GA X es f :=
  fun pos pins s σ H Q I ⟨A, ρ, S, w, S', er, so, e1, hq⟩ => h pos pins s σ H Q I (hf σ H A ρ S w S' er so e1 Q hq)
theorem GS.of {st : Stmt} {t : TS} {f : FS} (h : PS X st t) (hf : ∀ (σ : L2.St) (H : Hp) (A : List Addr) (ρ : Fm) (S : Store) (o : Out) (S' : Store), EnvRel X.K A H ρ σ → StoreOk X.w X.K A H S → f ρ S = some (o, S') → ∀ D : Ends, Imp (EndS X A H o S') D → t D σ H) : GS X st f :=
  fun pins s σ H D I ⟨A, ρ, S, o, S', er, so, e1, hq⟩ => h pins s σ H D I (hf σ H A ρ S o S' er so e1 D hq)
theorem GSs.of {st : List Stmt} {t : TS} {f : FS} (h : PSs X st t) (hf : ∀ (σ : L2.St) (H : Hp) (A : List Addr) (ρ : Fm) (S : Store) (o : Out) (S' : Store), EnvRel X.K A H ρ σ → StoreOk X.w X.K A H S → f ρ S = some (o, S') → ∀ D : Ends, Imp (EndS X A H o S') D → t D σ H) : GSs X st f :=
  fun pins s σ H D I ⟨A, ρ, S, o, S', er, so, e1, hq⟩ => h pins s σ H D I (hf σ H A ρ S o S' er so e1 D hq)
theorem EndV.after {A A1 : List Addr} {H H1 : Hp} {S' : Store} {w : W} {v : V} {H' : Hp} (e : Ext X.K A H A1 H1) (h : EndV X.w X.K A1 H1 S' w v H') : EndV X.w X.K A H S' w v H' := by
  obtain ⟨A', x, y, z⟩ := h
  exact ⟨A', e.trans x, y, z⟩
theorem EndB.after {A A1 : List Addr} {H H1 : Hp} {S' : Store} {k b : Bool} {H' : Hp} (e : Ext X.K A H A1 H1) (h : EndB X A1 H1 S' k b H') : EndB X A H S' k b H' := by
  obtain ⟨h1, A', x, y⟩ := h
  exact ⟨h1, A', e.trans x, y⟩
theorem EndS.after {A A1 : List Addr} {H H1 : Hp} {S' : Store} {o : Out} (e : Ext X.K A H A1 H1) : Imp (EndS X A1 H1 o S') (EndS X A H o S') :=
  ⟨fun _ _ ⟨ρ', A', a, b, c, d⟩ => ⟨ρ', A', a, e.trans b, c, d⟩, fun _ _ ⟨ρ', A', a, b, c, d⟩ => ⟨ρ', A', a, e.trans b, c, d⟩, fun _ _ ⟨ρ', A', a, b, c, d⟩ => ⟨ρ', A', a, e.trans b, c, d⟩, fun _ _ ⟨ρ', A', a, b, c, d⟩ => ⟨ρ', A', a, e.trans b, c, d⟩⟩
noncomputable def fC (w : W) : FE := fun _ S => some (w, S)
noncomputable def fV (i : Nat) : FE := fun ρ S => match ρ[i]? with
  | some (some w) => some (w, S)
  | _ => none
theorem ge_c {e : Expr} {v : V} {w : W} (h : PE X e (tC v)) (r : ∀ A H, Rel X.K A H w v) : GE X e (fC w) :=
  GE.of h fun σ H A ρ S w' S' er so e Q hq => by cases e; exact hq _ _ (.here so (r A H))
theorem ge_v {i : Nat} {e : Expr} (h : PE X e (tVar i)) : GE X e (fV i) := GE.of h fun σ H A ρ S w S' er so e Q hq => by
  unfold fV at e
  split at e
  · rename_i w' hw
    cases e
    obtain ⟨v, h1, h2⟩ := er.2 i _ hw
    exact ⟨v, h1, hq _ _ (.here so h2)⟩
  · cases e
noncomputable def fOp (g : W → W → Store → Option (W × Store)) (fa fb : FE) : FE := fun ρ S => match fa ρ S with
  | some (x, S1) => match fb ρ S1 with
    | some (y, S2) => g x y S2
    | none => none
  | none => none
theorem two {fa fb : FE} {g : W → W → Store → Option (W × Store)} {ρ : Fm} {S : Store} {r : W × Store} (e : fOp g fa fb ρ S = some r) : ∃ x S1 y S2, fa ρ S = some (x, S1) ∧ fb ρ S1 = some (y, S2) ∧ g x y S2 = some r := by
  unfold fOp at e
  split at e
  · rename_i x S1 h1
    split at e
    · rename_i y S2 h2
      exact ⟨x, S1, y, S2, h1, h2, e⟩
    · cases e
  · cases e
theorem two_read {fa fb : FE} {ρ : Fm} {S S1 S2 : Store} {x y : W} {σ : L2.St} {H : Hp} {A : List Addr} {R : V → V → Hp → Prop} (er : EnvRel X.K A H ρ σ) (so : StoreOk X.w X.K A H S) (h1 : fa ρ S = some (x, S1)) (h2 : fb ρ S1 = some (y, S2))
    (h : ∀ a b H2 A2, Ext X.K A H A2 H2 → StoreOk X.w X.K A2 H2 S2 → Rel X.K A2 H2 x a → Rel X.K A2 H2 y b → R a b H2) : tE X fa σ H fun a H1 => tE X fb σ H1 fun b H2 => R a b H2 := by
  refine ⟨A, ρ, S, x, S1, er, so, h1, fun a H1 ⟨A1, e1, o1, r1⟩ => ?_⟩
  refine ⟨A1, ρ, S1, y, S2, er.mono e1, o1, h2, fun b H2 ⟨A2, e2, o2, r2⟩ => ?_⟩
  exact h a b H2 A2 (e1.trans e2) o2 (r1.mono e2) r2
theorem LOp.opr {f : Value → Value → Sem Value} {g : W → W → Store → Option (W × Store)} (h : LOp X f g) : OpR X f (fun a b H Q => ∃ A S x y w S', StoreOk X.w X.K A H S ∧ Rel X.K A H x a ∧ Rel X.K A H y b ∧ g x y S = some (w, S') ∧ ∀ v H', EndV X.w X.K A H S' w v H' → Q v H') := by
  intro pins s σ H a b u v Q I ru rv ⟨A, S, x, y, w, S', so, rx, ry, e, hq⟩
  exact thn (h pins s σ H A S x y a b u v w S' I so rx ru ry rv e) fun u' s' ⟨v', H', A', I', r', e1, o1, z1⟩ => ⟨v', H', I', r', hq v' H' ⟨A', e1, o1, z1⟩⟩
theorem ge_op {a b : Expr} {op : Operator} {pos : Pos} {fa fb : FE} {g : W → W → Store → Option (W × Store)} (ho : LOp X (binaryOp op) g) (ha : GE X a fa) (hb : GE X b fb) : GE X (.BinOp a op b pos) (fOp g fa fb) :=
  GE.of (pe_op ho.opr ha hb) fun σ H A ρ S w S' er so e Q hq => by
    obtain ⟨x, S1, y, S2, h1, h2, h3⟩ := two e
    exact two_read er so h1 h2 fun a b H2 A2 e2 o2 r1 r2 => ⟨A2, S2, x, y, w, S', o2, r1, r2, h3, fun v H' z => hq v H' (z.after e2)⟩
noncomputable def fNeg (fa : FE) : FE := fun ρ S => match fa ρ S with
  | some (.int i, S1) => some (.int (-i), S1)
  | _ => none
theorem ge_neg {a : Expr} {pos : Pos} {fa : FE} (ha : GE X a fa) : GE X (.UnaryOp .USub a pos) (fNeg fa) :=
  GE.of (pe_un un_neg ha) fun σ H A ρ S w S' er so e Q hq => by
    unfold fNeg at e
    split at e
    · rename_i i S1 h1
      cases e
      refine ⟨A, ρ, S, _, _, er, so, h1, fun v H1 ⟨A1, e1, o1, r1⟩ => ?_⟩
      cases r1
      exact ⟨_, rfl, hq _ _ ⟨A1, e1, o1, .int⟩⟩
    · cases e
noncomputable def fCmp (o : COp) (fa fb : FE) : FE := fOp (copX o) fa fb
theorem ge_cmp {a b : Expr} {o : COp} {pos : Pos} {fa fb : FE} (hu : X.A.units + deep < cLine) (ha : GE X a fa) (hb : GE X b fb) (hm : behindInMarks o.py b = false) : GE X (.Compare a [o.py] [b] pos) (fCmp o fa fb) :=
  GE.of (pe_cmpR (lop_cmpX hu o).opr ha hb hm) fun σ H A ρ S w S' er so e Q hq => by
    obtain ⟨x, S1, y, S2, h1, h2, h3⟩ := two e
    exact two_read er so h1 h2 fun a b H2 A2 e2 o2 r1 r2 => ⟨A2, S2, x, y, w, S', o2, r1, r2, h3, fun v H' z => hq v H' (z.after e2)⟩
noncomputable def fTst (f : FE) : FT := fun ρ S => match f ρ S with
  | some (.bl k, S') => some (k, S')
  | _ => none
theorem gt_cmp {a b : Expr} {o : COp} {pos : Pos} {fa fb : FE} (hu : X.A.units + deep < cLine) (ha : GE X a fa) (hb : GE X b fb) (hm : behindInMarks o.py b = false) : GT X (.Compare a [o.py] [b] pos) (fTst (fCmp o fa fb)) :=
  GT.of (pt_cmpR (lop_cmpX hu o).opr ha hb hm) fun σ H A ρ S k S' er so e Q hq => by
    unfold fTst at e
    split at e
    · rename_i k' S'' h0
      cases e
      obtain ⟨x, S1, y, S2, h1, h2, h3⟩ := two h0
      refine two_read er so h1 h2 fun a b H2 A2 e2 o2 r1 r2 => ⟨A2, S2, x, y, _, _, o2, r1, r2, h3, fun v H' ⟨A', z1, z2, z3⟩ => ?_⟩
      cases z3
      exact ⟨k, rfl, hq _ _ ⟨rfl, A', e2.trans z1, z2⟩⟩
    · cases e
noncomputable def fChain (o o' : COp) (fa fb fc : FE) : FE := fun ρ S => match fa ρ S with
  | some (x, S1) => match fb ρ S1 with
    | some (y, S2) => match cop o x y S2 with
      | some true => match fc ρ S2 with
        | some (z, S3) => copE o' y z S3
        | none => none
      | some false => some (.bl false, S2)
      | none => none
    | none => none
  | none => none
theorem chain_read {o o' : COp} {fa fb fc : FE} {σ : L2.St} {H : Hp} {A : List Addr} {ρ : Fm} {S : Store} {w : W} {S' : Store} (er : EnvRel X.K A H ρ σ) (so : StoreOk X.w X.K A H S) (e : fChain o o' fa fb fc ρ S = some (w, S')) (Q : VK) (hq : ∀ v H', EndV X.w X.K A H S' w v H' → Q v H') :
    tChain (fun a b H Q => ∃ A S x y w S', StoreOk X.w X.K A H S ∧ Rel X.K A H x a ∧ Rel X.K A H y b ∧ copE o x y S = some (w, S') ∧ ∀ v H', EndV X.w X.K A H S' w v H' → Q v H')
      (fun a b H Q => ∃ A S x y w S', StoreOk X.w X.K A H S ∧ Rel X.K A H x a ∧ Rel X.K A H y b ∧ copE o' x y S = some (w, S') ∧ ∀ v H', EndV X.w X.K A H S' w v H' → Q v H') (tE X fa) (tE X fb) (tE X fc) σ H Q := by
  unfold fChain at e
  split at e
  · rename_i x S1 h1
    split at e
    · rename_i y S2 h2
      refine two_read er so h1 h2 fun a b H2 A2 e2 o2 r1 r2 => ?_
      split at e
      · rename_i hc
        split at e
        · rename_i z S3 h3
          refine ⟨A2, S2, x, y, .bl true, S2, o2, r1, r2, by simp [copE, hc], fun v H3 ⟨A3, z1, z2, z3⟩ => ?_⟩
          cases z3
          refine ⟨true, rfl, ?_⟩
          rw [if_pos rfl]
          refine ⟨A3, ρ, S2, z, S3, er.mono (e2.trans z1), z2, h3, fun c H4 ⟨A4, y1, y2, y3⟩ => ?_⟩
          exact ⟨A4, S3, y, z, w, S', y2, (r2.mono z1).mono y1, y3, e, fun v H' q => hq v H' (q.after ((e2.trans z1).trans y1))⟩
        · cases e
      · rename_i hc
        cases e
        refine ⟨A2, S', x, y, .bl false, S', o2, r1, r2, by simp [copE, hc], fun v H3 ⟨A3, z1, z2, z3⟩ => ?_⟩
        cases z3
        refine ⟨false, rfl, ?_⟩
        rw [if_neg Bool.false_ne_true]
        exact hq _ _ ⟨A3, e2.trans z1, z2, .bl⟩
      · cases e
    · cases e
  · cases e
theorem ge_chain {a b c : Expr} {o o' : COp} {pos : Pos} {fa fb fc : FE} (hu : X.A.units + deep < cLine) (ha : GE X a fa) (hb : GE X b fb) (hc : GE X c fc) (hm : lastMarks [o.py, o'.py] [b, c] = false) : GE X (.Compare a [o.py, o'.py] [b, c] pos) (fChain o o' fa fb fc) :=
  GE.of (pe_chain (lop_cmp hu o).opr (lop_cmp hu o').opr ha hb hc hm) fun σ H A ρ S w S' er so e Q hq => chain_read er so e Q hq
theorem gt_chain {a b c : Expr} {o o' : COp} {pos : Pos} {fa fb fc : FE} (hu : X.A.units + deep < cLine) (ha : GE X a fa) (hb : GE X b fb) (hc : GE X c fc) (hm : lastMarks [o.py, o'.py] [b, c] = false) : GT X (.Compare a [o.py, o'.py] [b, c] pos) (fTst (fChain o o' fa fb fc)) :=
  GT.of (pt_chain (lop_cmp hu o).opr (lop_cmp hu o').opr ha hb hc hm) fun σ H A ρ S k S' er so e Q hq => by
    unfold fTst at e
    split at e
    · rename_i k' S'' h0
      cases e
      refine chain_read er so h0 (fun x H' => ∃ k, x = .bl k ∧ Q k H') fun v H' ⟨A', z1, z2, z3⟩ => ?_
      cases z3
      exact ⟨_, rfl, hq _ _ ⟨rfl, A', z1, z2⟩⟩
    · cases e
noncomputable def fTru (f : FE) : FT := fun ρ S => match f ρ S with
  | some (w, S') => (truW S' w).map fun k => (k, S')
  | none => none
theorem gt_val {e : Expr} {f : FE} (h : GE X e f) (he : ∀ whole, isTrue e X.env whole = (do let v ← whole; standAt e.pos; holding [v] (truthy v))) : GT X e (fTru f) := by
  intro pins s σ H Q I ⟨A, ρ, S, k, S', er, so, e1, hq⟩
  unfold fTru at e1
  split at e1
  · rename_i w S1 h1
    rw [Option.map_eq_some_iff] at e1
    obtain ⟨k', ek, e2⟩ := e1
    cases e2
    refine isTrue_plain (thn (h pins s σ H (EndV X.w X.K A H _ w) I ⟨A, ρ, S, w, _, er, so, h1, fun _ _ z => z⟩) fun v s1 ⟨x, H1, I1, r1, A1, e1, o1, z1⟩ => ?_) (he _)
    exact ltru I1 o1 z1 r1 ek fun s' I' => ⟨H1, I', hq _ _ ⟨rfl, A1, e1, o1⟩⟩
  · cases e1
noncomputable def fAnd (f g : FT) : FT := fun ρ S => match f ρ S with
  | some (true, S1) => g ρ S1
  | some (false, S1) => some (false, S1)
  | none => none
noncomputable def fOr (f g : FT) : FT := fun ρ S => match f ρ S with
  | some (true, S1) => some (true, S1)
  | some (false, S1) => g ρ S1
  | none => none
noncomputable def fNot (f : FT) : FT := fun ρ S => match f ρ S with
  | some (k, S1) => some (!k, S1)
  | none => none
theorem and_read {f g : FT} {σ : L2.St} {H : Hp} {A : List Addr} {ρ : Fm} {S : Store} {k : Bool} {S' : Store} (er : EnvRel X.K A H ρ σ) (so : StoreOk X.w X.K A H S) (e : fAnd f g ρ S = some (k, S')) (Q : Bool → Hp → Prop) (hq : ∀ b H', EndB X A H S' k b H' → Q b H') :
    tAnd (tT X f) (tT X g) σ H Q := by
  unfold fAnd at e
  split at e
  · rename_i S1 h1
    refine ⟨A, ρ, S, true, S1, er, so, h1, fun b H1 ⟨z0, A1, z1, z2⟩ => ?_⟩
    subst z0
    rw [if_pos rfl]
    exact ⟨A1, ρ, S1, k, S', er.mono z1, z2, e, fun b H' q => hq b H' (q.after z1)⟩
  · rename_i S1 h1
    cases e
    refine ⟨A, ρ, S, false, _, er, so, h1, fun b H1 ⟨z0, A1, z1, z2⟩ => ?_⟩
    subst z0
    rw [if_neg Bool.false_ne_true]
    exact hq _ _ ⟨rfl, A1, z1, z2⟩
  · cases e
theorem or_read {f g : FT} {σ : L2.St} {H : Hp} {A : List Addr} {ρ : Fm} {S : Store} {k : Bool} {S' : Store} (er : EnvRel X.K A H ρ σ) (so : StoreOk X.w X.K A H S) (e : fOr f g ρ S = some (k, S')) (Q : Bool → Hp → Prop) (hq : ∀ b H', EndB X A H S' k b H' → Q b H') :
    tOr (tT X f) (tT X g) σ H Q := by
  unfold fOr at e
  split at e
  · rename_i S1 h1
    cases e
    refine ⟨A, ρ, S, true, _, er, so, h1, fun b H1 ⟨z0, A1, z1, z2⟩ => ?_⟩
    subst z0
    rw [if_pos rfl]
    exact hq _ _ ⟨rfl, A1, z1, z2⟩
  · rename_i S1 h1
    refine ⟨A, ρ, S, false, S1, er, so, h1, fun b H1 ⟨z0, A1, z1, z2⟩ => ?_⟩
    subst z0
    rw [if_neg Bool.false_ne_true]
    exact ⟨A1, ρ, S1, k, S', er.mono z1, z2, e, fun b H' q => hq b H' (q.after z1)⟩
  · cases e
theorem gw_and1 {a : Expr} {pos : Pos} {f : FT} (h : GT X a f) : GW X (.BoolOp .And [a] pos) f := pw_and1 h
theorem gw_or1 {a : Expr} {pos : Pos} {f : FT} (h : GT X a f) : GW X (.BoolOp .Or [a] pos) f := pw_or1 h
theorem gw_and {a b : Expr} {r : List Expr} {pos : Pos} {f g : FT} (h : GT X a f) (h2 : GW X (.BoolOp .And (b :: r) pos) g) : GW X (.BoolOp .And (a :: b :: r) pos) (fAnd f g) :=
  GW.of (pw_and h h2) fun σ H A ρ S k S' er so e Q hq => and_read er so e Q hq
theorem gw_or {a b : Expr} {r : List Expr} {pos : Pos} {f g : FT} (h : GT X a f) (h2 : GW X (.BoolOp .Or (b :: r) pos) g) : GW X (.BoolOp .Or (a :: b :: r) pos) (fOr f g) :=
  GW.of (pw_or h h2) fun σ H A ρ S k S' er so e Q hq => or_read er so e Q hq
theorem gt_not {a : Expr} {pos : Pos} {f : FT} (h : GT X a f) : GT X (.UnaryOp .Not a pos) (fNot f) :=
  GT.of (pt_not h) fun σ H A ρ S k S' er so e Q hq => by
    unfold fNot at e
    split at e
    · rename_i k1 S1 h1
      cases e
      refine ⟨A, ρ, S, k1, _, er, so, h1, fun b H1 ⟨z0, A1, z1, z2⟩ => ?_⟩
      subst z0
      exact hq _ _ ⟨rfl, A1, z1, z2⟩
    · cases e
noncomputable def fAndV (f g : FE) : FE := fun ρ S => match f ρ S with
  | some (.bl true, S1) => g ρ S1
  | some (.bl false, S1) => some (.bl false, S1)
  | _ => none
noncomputable def fOrV (f g : FE) : FE := fun ρ S => match f ρ S with
  | some (.bl true, S1) => some (.bl true, S1)
  | some (.bl false, S1) => g ρ S1
  | _ => none
noncomputable def fNotV (f : FE) : FE := fun ρ S => match f ρ S with
  | some (.bl k, S1) => some (.bl (!k), S1)
  | _ => none
theorem ge_one {a : Expr} {op : BoolOp} {pos : Pos} {f : FE} (h : GE X a f) : GE X (.BoolOp op [a] pos) f := pe_one h
theorem ge_and {a b : Expr} {r : List Expr} {pos : Pos} {f g : FE} (h : GE X a f) (h2 : GE X (.BoolOp .And (b :: r) pos) g) : GE X (.BoolOp .And (a :: b :: r) pos) (fAndV f g) :=
  GE.of (pe_and h h2) fun σ H A ρ S w S' er so e Q hq => by
    unfold fAndV at e
    split at e
    · rename_i S1 h1
      refine ⟨A, ρ, S, _, S1, er, so, h1, fun v H1 ⟨A1, z1, z2, z3⟩ => ?_⟩
      cases z3
      refine ⟨true, rfl, ?_⟩
      rw [if_pos rfl]
      exact ⟨A1, ρ, S1, w, S', er.mono z1, z2, e, fun b H' q => hq b H' (q.after z1)⟩
    · rename_i S1 h1
      cases e
      refine ⟨A, ρ, S, _, _, er, so, h1, fun v H1 ⟨A1, z1, z2, z3⟩ => ?_⟩
      cases z3
      refine ⟨false, rfl, ?_⟩
      rw [if_neg Bool.false_ne_true]
      exact hq _ _ ⟨A1, z1, z2, .bl⟩
    · cases e
theorem ge_or {a b : Expr} {r : List Expr} {pos : Pos} {f g : FE} (h : GE X a f) (h2 : GE X (.BoolOp .Or (b :: r) pos) g) : GE X (.BoolOp .Or (a :: b :: r) pos) (fOrV f g) :=
  GE.of (pe_or h h2) fun σ H A ρ S w S' er so e Q hq => by
    unfold fOrV at e
    split at e
    · rename_i S1 h1
      cases e
      refine ⟨A, ρ, S, _, _, er, so, h1, fun v H1 ⟨A1, z1, z2, z3⟩ => ?_⟩
      cases z3
      refine ⟨true, rfl, ?_⟩
      rw [if_pos rfl]
      exact hq _ _ ⟨A1, z1, z2, .bl⟩
    · rename_i S1 h1
      refine ⟨A, ρ, S, _, S1, er, so, h1, fun v H1 ⟨A1, z1, z2, z3⟩ => ?_⟩
      cases z3
      refine ⟨false, rfl, ?_⟩
      rw [if_neg Bool.false_ne_true]
      exact ⟨A1, ρ, S1, w, S', er.mono z1, z2, e, fun b H' q => hq b H' (q.after z1)⟩
    · cases e
theorem ge_not {a : Expr} {pos : Pos} {f : FE} (h : GE X a f) : GE X (.UnaryOp .Not a pos) (fNotV f) :=
  GE.of (pe_not h) fun σ H A ρ S w S' er so e Q hq => by
    unfold fNotV at e
    split at e
    · rename_i k1 S1 h1
      cases e
      refine ⟨A, ρ, S, _, _, er, so, h1, fun b H1 ⟨A1, z1, z2, z3⟩ => ?_⟩
      cases z3
      exact ⟨_, rfl, hq _ _ ⟨A1, z1, z2, .bl⟩⟩
    · cases e
noncomputable def fIte (c : FT) (f g : FE) : FE := fun ρ S => match c ρ S with
  | some (true, S1) => f ρ S1
  | some (false, S1) => g ρ S1
  | none => none
theorem ge_ite {c a b : Expr} {pos : Pos} {fc : FT} {f g : FE} (hc : GT X c fc) (ha : GE X a f) (hb : GE X b g) : GE X (.IfExp c a b pos) (fIte fc f g) :=
  GE.of (pe_ifExp hc ha hb) fun σ H A ρ S w S' er so e Q hq => by
    unfold fIte at e
    split at e
    · rename_i S1 h1
      refine ⟨A, ρ, S, _, S1, er, so, h1, fun b H1 ⟨z0, A1, z1, z2⟩ => ?_⟩
      subst z0
      rw [if_pos rfl]
      exact ⟨A1, ρ, S1, w, S', er.mono z1, z2, e, fun b H' q => hq b H' (q.after z1)⟩
    · rename_i S1 h1
      refine ⟨A, ρ, S, _, S1, er, so, h1, fun b H1 ⟨z0, A1, z1, z2⟩ => ?_⟩
      subst z0
      rw [if_neg Bool.false_ne_true]
      exact ⟨A1, ρ, S1, w, S', er.mono z1, z2, e, fun b H' q => hq b H' (q.after z1)⟩
    · cases e
noncomputable def fNil : FA := fun _ S => some ([], S)
noncomputable def fCons (f : FE) (g : FA) : FA := fun ρ S => match f ρ S with
  | some (w, S1) => match g ρ S1 with
    | some (ws, S2) => some (w :: ws, S2)
    | none => none
  | none => none
theorem ga_nil : GA X [] fNil := GA.of pa_nil fun σ H A ρ S ws S' er so e Q hq => by cases e; exact hq _ _ ⟨A, .refl, so, .nil⟩
theorem ga_cons {e : Expr} {es : List Expr} {f : FE} {g : FA} (h : GE X e f) (h2 : GA X es g) (hs : starEach (e :: es) X.env = (false, eval e X.env) :: starEach es X.env) : GA X (e :: es) (fCons f g) :=
  GA.of (pa_cons h h2 hs) fun σ H A ρ S ws S' er so e Q hq => by
    unfold fCons at e
    split at e
    · rename_i w S1 h1
      split at e
      · rename_i ws2 S2 h2
        cases e
        refine ⟨A, ρ, S, w, S1, er, so, h1, fun v H1 ⟨A1, z1, z2, z3⟩ => ?_⟩
        refine ⟨A1, ρ, S1, ws2, _, er.mono z1, z2, h2, fun vs H2 ⟨A2, y1, y2, y3⟩ => ?_⟩
        exact hq _ _ ⟨A2, z1.trans y1, y2, .cons (z3.mono y1) y3⟩
      · cases e
    · cases e
noncomputable def fTup (f : FA) : FE := fun ρ S => match f ρ S with
  | some (ws, S1) => newT S1 ws
  | none => none
noncomputable def fLst (f : FA) : FE := fun ρ S => match f ρ S with
  | some (ws, S1) => newL S1 ws
  | none => none
theorem ge_tup {es : List Expr} {k : Nat} {pos : Pos} {f : FA} (h : GA X es f) : GE X (.Tuple es k pos) (fTup f) :=
  GE.of (pe_tup h) fun σ H A ρ S w S' er so e Q hq => by
    unfold fTup at e
    split at e
    · rename_i ws S1 h1
      obtain ⟨hl, rfl, rfl⟩ := newT_eq e
      refine ⟨A, ρ, S, ws, _, er, so, h1, fun vs H1 ⟨A1, z1, z2, z3⟩ => ⟨by rw [← z3.length]; exact hl, fun p hp => ?_⟩⟩
      exact hq _ _ (EndV.after z1 (.tup z2 z3 hp))
    · cases e
theorem ge_lst {es : List Expr} {pos : Pos} {f : FA} (h : GA X es f) : GE X (.List es pos) (fLst f) :=
  GE.of (pe_lst h) fun σ H A ρ S w S' er so e Q hq => by
    unfold fLst at e
    split at e
    · rename_i ws S1 h1
      obtain ⟨hl, rfl, rfl⟩ := newL_eq e
      refine ⟨A, ρ, S, ws, _, er, so, h1, fun vs H1 ⟨A1, z1, z2, z3⟩ => ⟨by rw [← z3.length]; exact hl, fun p hp => ?_⟩⟩
      exact hq _ _ (EndV.after z1 (.lst z2 z3 hp))
    · cases e
noncomputable def fCall (g : List W → Store → Option (W × Store)) (f : FA) : FE := fun ρ S => match f ρ S with
  | some (ws, S1) => g ws S1
  | none => none
theorem LCall.callr {v : Value} {g : List W → Store → Option (W × Store)} (h : LCall X v g) : CallR X v (fun vs H Q => ∃ A S ws w S', StoreOk X.w X.K A H S ∧ RelL X.K A H ws vs ∧ g ws S = some (w, S') ∧ ∀ v H', EndV X.w X.K A H S' w v H' → Q v H') := by
  intro pins s σ H vs us Q I rv ⟨A, S, ws, w, S', so, rl, e, hq⟩
  exact thn (h pins s σ H A S ws vs us w S' I so rl rv e) fun u' s' ⟨v', H', A', I', r', e1, o1, z1⟩ => ⟨v', H', I', r', hq v' H' ⟨A', e1, o1, z1⟩⟩
theorem call_read {g : List W → Store → Option (W × Store)} {f : FA} {σ : L2.St} {H : Hp} {A : List Addr} {ρ : Fm} {S : Store} {w : W} {S' : Store} (er : EnvRel X.K A H ρ σ) (so : StoreOk X.w X.K A H S) (e : fCall g f ρ S = some (w, S')) (Q : VK) (hq : ∀ v H', EndV X.w X.K A H S' w v H' → Q v H') :
    tA X f σ H fun vs H1 => ∃ A S ws w S', StoreOk X.w X.K A H1 S ∧ RelL X.K A H1 ws vs ∧ g ws S = some (w, S') ∧ ∀ v H', EndV X.w X.K A H1 S' w v H' → Q v H' := by
  unfold fCall at e
  split at e
  · rename_i ws S1 h1
    exact ⟨A, ρ, S, ws, S1, er, so, h1, fun vs H1 ⟨A1, z1, z2, z3⟩ => ⟨A1, S1, ws, w, S', z2, z3, e, fun v H' q => hq v H' (q.after z1)⟩⟩
  · cases e
theorem ge_bi {id : String} {x : Str} {e : Expr} {es : List Expr} {p pos : Pos} {f : FA} {g : List W → Store → Option (W × Store)} (hc : LCall X (.builtin id) g) (hg : Gl X x) (hm : X.mg x = none) (hv : bootBuiltins x = some (.builtin id)) (ha : GA X (e :: es) f)
    (hn : x ≠ "__name__") (hdb : (x == ("__debug__" : Str)) = false) (hs : starEach (e :: es) X.env = (false, eval e X.env) :: starEach es X.env) (hpl : (backTo pos (starEach es X.env)).any (·.1) = false) : GE X (.Call (.Name x p) (e :: es) [] pos) (fCall g f) :=
  GE.of (pe_callB hc.callr hg hm hv ha hn hdb hs hpl) fun σ H A ρ S w S' er so e Q hq => call_read er so e Q hq
theorem ge_ty {id : String} {x : Str} {e : Expr} {es : List Expr} {p pos : Pos} {f : FA} {g : List W → Store → Option (W × Store)} (hc : LCall X (.type id) g) (hg : Gl X x) (hm : X.mg x = none) (hv : bootBuiltins x = some (.type id)) (ha : GA X (e :: es) f)
    (hn : x ≠ "__name__") (hdb : (x == ("__debug__" : Str)) = false) (hs : starEach (e :: es) X.env = (false, eval e X.env) :: starEach es X.env) (hpl : (backTo pos (starEach es X.env)).any (·.1) = false) : GE X (.Call (.Name x p) (e :: es) [] pos) (fCall g f) :=
  GE.of (pe_callTy hc.callr hg hm hv ha hn hdb hs hpl) fun σ H A ρ S w S' er so e Q hq => call_read er so e Q hq
end
end Mi
set_option Elab.async false
set_option linter.all false
set_option maxRecDepth 100000
namespace Mi
open PySem PySem.Spec PyProof.Rows L2
noncomputable def tyOk (T : String) (S : Store) : W → Bool
  | .str _ => T == "str"
  | .ref i => (T == "list" && (rdL S i).isSome) || (T == "dict" && (rdD S i).isSome)
  | _ => false
noncomputable def fMe (T : String) (g : W → List W → Store → Option (W × Store)) (fo : FE) (f : FA) : FE := fun ρ S => match fo ρ S with
  | some (x, S1) => if tyOk T S1 x then match f ρ S1 with
    | some (ws, S2) => g x ws S2
    | none => none
    else none
  | none => none
noncomputable def fIx (fa fb : FE) : FE := fOp ixX fa fb
noncomputable abbrev FO := Fm → Store → Option (Option Int × Store)
noncomputable def fNoP : FO := fun _ S => some (none, S)
noncomputable def fPart (f : FE) : FO := fun ρ S => match f ρ S with
  | some (.int i, S1) => some (some i, S1)
  | _ => none
noncomputable def fSl (fa : FE) (fl fh : FO) : FE := fun ρ S => match fa ρ S with
  | some (x, S1) => match fl ρ S1 with
    | some (lo, S2) => match fh ρ S2 with
      | some (hi, S3) => slW x lo hi S3
      | none => none
    | none => none
  | none => none
section
variable {X : Cx}
theorem LMeth.mtr {id : String} {g : W → List W → Store → Option (W × Store)} (h : LMeth X id g) : MtR X id (fun a vs H Q => ∃ A S x ws w S', StoreOk X.w X.K A H S ∧ Rel X.K A H x a ∧ RelL X.K A H ws vs ∧ g x ws S = some (w, S') ∧ ∀ v H', EndV X.w X.K A H S' w v H' → Q v H') := by
  intro pins s σ H a vs u us Q I ru rv ⟨A, S, x, ws, w, S', so, rx, rl, e, hq⟩
  exact thn (h pins s σ H A S x a u ws vs us w S' I so rx ru rl rv e) fun u' s' ⟨v', H', A', I', r', e1, o1, z1⟩ => ⟨v', H', I', r', hq v' H' ⟨A', e1, o1, z1⟩⟩
theorem tyOk.is {pins : List (Addr × Obj)} {σ : L2.St} {s : Shared} {A : List Addr} {H : Hp} {S : Store} {T : String} {x : W} {a : V} {v : Value} (I : Inv X pins σ H s) (so : StoreOk X.w X.K A H S) (r : Rel X.K A H x a) (rv : RelV a v) (h : tyOk T S x = true) :
    s.TypeIs v T ∧ ∀ b, v = .ref b → ∃ ob, s.heap.get? b = some ob ∧ ob.dict = none := by
  cases r with
  | str => exact tyV_is I rv (show tyV X.K T (.str _) H from eq_of_beq h)
  | ref ea =>
    simp only [tyOk, Bool.or_eq_true, Bool.and_eq_true] at h
    rcases h with ⟨h1, h2⟩ | ⟨h1, h2⟩
    · obtain ⟨xs, hx⟩ := Option.isSome_iff_exists.mp h2
      obtain ⟨vs, h3, _⟩ := rdL_at so hx ea
      exact tyV_is I rv (show tyV X.K T (.ref _) H from .inl ⟨eq_of_beq h1, vs, h3⟩)
    · obtain ⟨kvs, hx⟩ := Option.isSome_iff_exists.mp h2
      obtain ⟨xs, rd, _⟩ := rdD_at so hx ea
      obtain ⟨_, _, _, o, es, ep, q1, q2, q3, q4⟩ := dic_get I rd
      have e := eq_of_beq h1
      subst e
      obtain rfl : v = Value.ref _ := rv
      exact ⟨⟨o, q1, q2.1⟩, fun b e => by cases e; exact ⟨o, q1, q2.2.1⟩⟩
  | _ => cases h
theorem ge_me {o e : Expr} {es : List Expr} {name : Str} {apos cpos : Pos} {T id : String} {g : W → List W → Store → Option (W × Store)} {fo : FE} {f : FA} (pa : PlainAttrs T) (slot : Slot T name id) (hty : typeOf (.builtin id) = pure (.type "method_descriptor")) (hm : LMeth X id g)
    (ho : GE X o fo) (ha : GA X (e :: es) f) (hbase : attributeBase o name X.env (eval o X.env) = eval o X.env)
    (hfew : ((backTo cpos (starEach (e :: es) X.env)).all (fun x => !x.1) && (backToKw cpos (keywordEach [] X.env)).all (fun x => x.1.isSome)
      && decide ((e :: es).length + ([] : List Keyword).length + (if ([] : List Keyword).isEmpty then 0 else 1) < 30)) = true)
    (hline : (apos.endLine == cpos.line) = true) (hs : starEach (e :: es) X.env = (false, eval e X.env) :: starEach es X.env) (hplain : (backTo cpos (starEach es X.env)).any (·.1) = false) :
    GE X (.Call (.Attribute o name apos) (e :: es) [] cpos) (fMe T g fo f) := by
  intro pins s σ H Q I ⟨A, ρ, S, w, S', er, so, e, hq⟩
  unfold fMe at e
  split at e
  · rename_i x S1 h1
    split at e
    · rename_i ht
      split at e
      · rename_i ws S2 h2
        refine wpAny_Call_method_late hbase hfew hline rfl (thn (ho pins s σ H (EndV X.w X.K A H S1 x) I ⟨A, ρ, S, _, _, er, so, h1, fun _ _ z => z⟩) fun v s1 ⟨a, H1, I1, r1, A1, e1, o1, z1⟩ => ?_)
        obtain ⟨t1, t2⟩ := tyOk.is I1 o1 z1 r1 ht
        refine ⟨T, id, pa, slot, hty, t1, t2, ?_⟩
        have hA := ha cpos pins s1 σ H1 (EndA X A1 H1 S2 ws) I1 ⟨A1, ρ, S1, ws, S2, er.mono e1, o1, h2, fun _ _ z => z⟩
        rw [hs] at hA ⊢
        refine Calls.callWith_builtin (by show (false || (backTo cpos (starEach es X.env)).any (·.1)) = false; rw [hplain] <;> rfl) (Calls.evalArgs_plain ?_)
        refine thn hA fun us s2 ⟨vs, H2, I2, r2, A2, e2, o2, z2⟩ => ?_
        refine thn (hm pins s2 σ H2 A2 S2 x a v ws vs us w S' I2 o2 (z1.mono e2) r1 z2 r2 e) fun u' s' ⟨v', H', A', I', r', e3, o3, z3⟩ => ?_
        exact ⟨v', H', I', r', hq v' H' ⟨A', (e1.trans e2).trans e3, o3, z3⟩⟩
      · cases e
    · cases e
  · cases e
theorem LIx.ixr {g : W → W → Store → Option (W × Store)} (h : LIx X g) : IxR X (fun a b H Q => ∃ A S x y w S', StoreOk X.w X.K A H S ∧ Rel X.K A H x a ∧ Rel X.K A H y b ∧ g x y S = some (w, S') ∧ ∀ v H', EndV X.w X.K A H S' w v H' → Q v H') := by
  intro value slice pins s σ H a b u v Q I ru rv ⟨A, S, x, y, w, S', so, rx, ry, e, hq⟩ hs
  exact thn (h value slice pins s σ H A S x y a b u v w S' I so rx ru ry rv e hs) fun u' s' ⟨v', H', A', I', r', e1, o1, z1⟩ => ⟨v', H', I', r', hq v' H' ⟨A', e1, o1, z1⟩⟩
theorem ge_ix {a b : Expr} {pos : Pos} {fa fb : FE} (hu : X.A.units + 10 < cLine) (ha : GE X a fa) (hb : GE X b fb) (hs : PlainIx b) : GE X (.Subscript a b pos) (fIx fa fb) :=
  GE.of (pe_ix (lixX hu).ixr ha hb hs) fun σ H A ρ S w S' er so e Q hq => by
    obtain ⟨x, S1, y, S2, h1, h2, h3⟩ := two e
    exact two_read er so h1 h2 fun a b H2 A2 e2 o2 r1 r2 => ⟨A2, S2, x, y, w, S', o2, r1, r2, h3, fun v H' z => hq v H' (z.after e2)⟩
noncomputable def tO (X : Cx) (f : FO) : TO := fun σ H Q => ∃ A ρ S k S', EnvRel X.K A H ρ σ ∧ StoreOk X.w X.K A H S ∧ f ρ S = some (k, S') ∧ ∀ H' A', Ext X.K A H A' H' → StoreOk X.w X.K A' H' S' → Q k H'
noncomputable abbrev GO (X : Cx) (e : Option Expr) (f : FO) : Prop := PO X e (tO X f)
theorem go_none : GO X none fNoP := fun pins s σ H Q I ⟨A, ρ, S, k, S', er, so, e, hq⟩ => by
  cases e
  exact po_none pins s σ H Q I (hq H A .refl so)
theorem go_some {e : Expr} {f : FE} (h : GE X e f) : GO X (some e) (fPart f) := fun pins s σ H Q I ⟨A, ρ, S, k, S', er, so, e, hq⟩ => by
  unfold fPart at e
  split at e
  · rename_i i S1 h1
    cases e
    refine po_some h pins s σ H Q I ⟨A, ρ, S, _, _, er, so, h1, fun v H1 ⟨A1, z1, z2, z3⟩ => ?_⟩
    cases z3
    exact ⟨i, rfl, hq H1 A1 z1 z2⟩
  · cases e
theorem LSl.slr {g : W → Option Int → Option Int → Store → Option (W × Store)} (h : LSl X g) : SlR X (fun a lo hi H Q => ∃ A S x w S', StoreOk X.w X.K A H S ∧ Rel X.K A H x a ∧ g x lo hi S = some (w, S') ∧ ∀ v H', EndV X.w X.K A H S' w v H' → Q v H') := by
  intro pins s σ H a v vl vu lo hi sl Q I rv hs pl pu ⟨A, S, x, w, S', so, rx, e, hq⟩
  obtain ⟨T, id, h1, h2, h3⟩ := h pins s σ H A S x a v vl vu lo hi sl w S' I so rx rv hs pl pu e
  exact ⟨T, id, h1, h2, thn h3 fun u' s' ⟨v', H', A', I', r', e1, o1, z1⟩ => ⟨v', H', I', r', hq v' H' ⟨A', e1, o1, z1⟩⟩⟩
theorem ge_sl {a : Expr} {lo hi : Option Expr} {p2 pos : Pos} {fa : FE} {fl fh : FO} (ha : GE X a fa) (hl : GO X lo fl) (hh : GO X hi fh) : GE X (.Subscript a (.Slice lo hi none p2) pos) (fSl fa fl fh) :=
  GE.of (pe_slice lsl.slr ha hl hh) fun σ H A ρ S w S' er so e Q hq => by
    unfold fSl at e
    split at e
    · rename_i x S1 h1
      split at e
      · rename_i l S2 h2
        split at e
        · rename_i h S3 h3
          refine ⟨A, ρ, S, x, S1, er, so, h1, fun v H1 ⟨A1, z1, z2, z3⟩ => ?_⟩
          refine ⟨A1, ρ, S1, l, S2, er.mono z1, z2, h2, fun H2 A2 y1 y2 => ?_⟩
          refine ⟨A2, ρ, S2, h, S3, er.mono (z1.trans y1), y2, h3, fun H3 A3 x1 x2 => ?_⟩
          exact ⟨A3, S3, x, w, S', x2, (z3.mono y1).mono x1, e, fun v H' q => hq v H' (q.after ((z1.trans y1).trans x1))⟩
        · cases e
      · cases e
    · cases e
noncomputable abbrev FF := List W → Store → Option (W × Store)
noncomputable def spF (wd : World) (K : PySem.W.Frag) (n : Nat) (g : FF) : Sp := fun vs H Q _ => ∃ A S ws w S', StoreOk wd K A H S ∧ RelL K A H ws vs ∧ ws.length = n ∧ g ws S = some (w, S') ∧ ∀ v H', EndV wd K A H S' w v H' → Q v H'
noncomputable def fOwn (n : Nat) (g : FF) (f : FA) : FE := fun ρ S => match f ρ S with
  | some (ws, S1) => if ws.length = n then g ws S1 else none
  | none => none
theorem own_read {n : Nat} {g : FF} {f : FA} {σ : L2.St} {H : Hp} {A : List Addr} {ρ : Fm} {S : Store} {w : W} {S' : Store} {E : XK} (er : EnvRel X.K A H ρ σ) (so : StoreOk X.w X.K A H S) (e : fOwn n g f ρ S = some (w, S')) (Q : VK) (hq : ∀ v H', EndV X.w X.K A H S' w v H' → Q v H') :
    tCall (spF X.w X.K n g) [] E (tA X f) σ H Q := by
  unfold fOwn at e
  split at e
  · rename_i ws S1 h1
    split at e
    · rename_i hl
      refine ⟨A, ρ, S, ws, S1, er, so, h1, fun vs H1 ⟨A1, z1, z2, z3⟩ => ?_⟩
      show spF X.w X.K n g (vs ++ []) H1 Q E
      rw [List.append_nil]
      exact ⟨A1, S1, ws, w, S', z2, z3, hl, e, fun v H' q => hq v H' (q.after z1)⟩
    · cases e
  · cases e
theorem ge_own {k n : Nat} {fa : Addr} {fd : FuncData} {ps : List Str} {g : FF} {x : Str} {e : Expr} {es : List Expr} {p pos : Pos} {f : FA} (F : FnOk X.prog X.w X.K X.mg X.base CX0 k fa fd ps (spF X.w X.K n g)) (hr : Room k X.A) (hg : Gl X x) (hm : X.mg x = some (.ref fa)) (hk : PySem.W.keepIn X.K (.ref fa) = true)
    (hb : Binds X.K fd ps []) (ha : GA X (e :: es) f) (hdb : (x == ("__debug__" : Str)) = false) (he : starEach (e :: es) X.env = (false, eval e X.env) :: starEach es X.env) (hpl : (backTo pos (starEach es X.env)).any (·.1) = false) :
    GE X (.Call (.Name x p) (e :: es) [] pos) (fOwn n g f) :=
  GE.of (pe_call F hr hg hm hk hb .nil pass0 ha hdb he hpl) fun σ H A ρ S w S' er so e Q hq => own_read er so e Q hq
theorem ge_own0 {k n : Nat} {fa : Addr} {fd : FuncData} {ps : List Str} {g : FF} {x : Str} {p pos : Pos} (F : FnOk X.prog X.w X.K X.mg X.base CX0 k fa fd ps (spF X.w X.K n g)) (hr : Room k X.A) (hg : Gl X x) (hm : X.mg x = some (.ref fa)) (hk : PySem.W.keepIn X.K (.ref fa) = true)
    (hb : Binds X.K fd ps []) (hdb : (x == ("__debug__" : Str)) = false) : GE X (.Call (.Name x p) [] [] pos) (fOwn n g fNil) :=
  GE.of (pe_call0 F hr hg hm hk hb .nil pass0 hdb) fun σ H A ρ S w S' er so e Q hq => by
    obtain ⟨A1, S1, ws, w1, S1', a1, a2, a3, a4, a5⟩ := own_read (f := fNil) (E := E0) er so e Q hq |> fun ⟨A, ρ, S, ws, S', b1, b2, b3, b4⟩ => b4 [] H (by cases b3; exact ⟨A, .refl, b2, .nil⟩)
    exact ⟨A1, S1, ws, w1, S1', a1, a2, a3, a4, a5⟩
theorem gss_nil : GSs X [] (fun ρ S => some (.nx ρ, S)) := GSs.of pss_nil fun σ H A ρ S o S' er so e D hd => by cases e; exact hd.nx _ _ ⟨ρ, A, rfl, .refl, so, er⟩
noncomputable def fSeq (f g : FS) : FS := fun ρ S => match f ρ S with
  | some (.nx ρ', S1) => g ρ' S1
  | some (.rt w, S1) => some (.rt w, S1)
  | some (.bk ρ', S1) => some (.bk ρ', S1)
  | some (.ct ρ', S1) => some (.ct ρ', S1)
  | none => none
theorem gss_cons {st : Stmt} {sts : List Stmt} {f g : FS} (h : GS X st f) (h2 : GSs X sts g) : GSs X (st :: sts) (fSeq f g) := GSs.of (pss_cons h h2) fun σ H A ρ S o S' er so e D hd => by
  unfold fSeq at e
  split at e
  · rename_i ρ1 S1 h1
    refine ⟨A, ρ, S, _, _, er, so, h1, ⟨fun σ' H' ⟨ρ', A', e1, e2, e3, e4⟩ => ?_, fun v H' ⟨w, A', e1, _⟩ => (by cases e1), fun v H' ⟨w, A', e1, _⟩ => (by cases e1), fun v H' ⟨w, A', e1, _⟩ => (by cases e1)⟩⟩
    cases e1
    exact ⟨A', _, S1, o, S', e4, e3, e, (EndS.after e2).trans hd⟩
  · rename_i w S1 h1
    cases e
    exact ⟨A, ρ, S, _, _, er, so, h1, ⟨fun σ' H' ⟨w, A', e1, _⟩ => (by cases e1), hd.rt, hd.bk, hd.ct⟩⟩
  · rename_i w S1 h1
    cases e
    exact ⟨A, ρ, S, _, _, er, so, h1, ⟨fun σ' H' ⟨w, A', e1, _⟩ => (by cases e1), hd.rt, hd.bk, hd.ct⟩⟩
  · rename_i w S1 h1
    cases e
    exact ⟨A, ρ, S, _, _, er, so, h1, ⟨fun σ' H' ⟨w, A', e1, _⟩ => (by cases e1), hd.rt, hd.bk, hd.ct⟩⟩
  · cases e
noncomputable def fExS (f : FE) : FS := fun ρ S => match f ρ S with
  | some (_, S1) => some (.nx ρ, S1)
  | none => none
theorem gs_ex {e : Expr} {pos : Pos} {f : FE} (h : GE X e f) (hs : swapsWith e none pos.line X.env = pure false) : GS X (.Expr e pos) (fExS f) := GS.of (ps_expr h hs) fun σ H A ρ S o S' er so e D hd => by
  unfold fExS at e
  split at e
  · rename_i w S1 h1
    cases e
    exact ⟨A, ρ, S, w, _, er, so, h1, fun v H1 ⟨A1, z1, z2, z3⟩ => hd.nx _ _ ⟨ρ, A1, rfl, z1, z2, er.mono z1⟩⟩
  · cases e
noncomputable def fPass : FS := fun ρ S => some (.nx ρ, S)
theorem gs_doc {x : Str} {j : Nat} {pos pos' : Pos} : GS X (.Expr (.Constant (.str x) j pos) pos') fPass := GS.of ps_doc fun σ H A ρ S o S' er so e D hd => by cases e; exact hd.nx _ _ ⟨ρ, A, rfl, .refl, so, er⟩
theorem gs_pass {pos : Pos} : GS X (.Pass pos) fPass := GS.of ps_pass fun σ H A ρ S o S' er so e D hd => by cases e; exact hd.nx _ _ ⟨ρ, A, rfl, .refl, so, er⟩
theorem gs_break {pos : Pos} : GS X (.Break pos) (fun ρ S => some (.bk ρ, S)) := GS.of ps_break fun σ H A ρ S o S' er so e D hd => by cases e; exact hd.bk _ _ ⟨ρ, A, rfl, .refl, so, er⟩
theorem gs_cont {pos : Pos} : GS X (.Continue pos) (fun ρ S => some (.ct ρ, S)) := GS.of ps_continue fun σ H A ρ S o S' er so e D hd => by cases e; exact hd.ct _ _ ⟨ρ, A, rfl, .refl, so, er⟩
noncomputable def fRet (f : FE) : FS := fun ρ S => match f ρ S with
  | some (w, S1) => some (.rt w, S1)
  | none => none
theorem gs_ret {e : Expr} {pos : Pos} {f : FE} (h : GE X e f) : GS X (.Return (some e) pos) (fRet f) := GS.of (ps_ret h) fun σ H A ρ S o S' er so e D hd => by
  unfold fRet at e
  split at e
  · rename_i w S1 h1
    cases e
    exact ⟨A, ρ, S, w, _, er, so, h1, fun v H1 ⟨A1, z1, z2, z3⟩ => hd.rt _ _ ⟨w, A1, rfl, z1, z2, z3⟩⟩
  · cases e
theorem gs_retN {pos : Pos} : GS X (.Return none pos) (fun ρ S => some (.rt .non, S)) := GS.of ps_retN fun σ H A ρ S o S' er so e D hd => by cases e; exact hd.rt _ _ ⟨_, A, rfl, .refl, so, .non⟩
noncomputable def fIfS (c : FT) (f g : FS) : FS := fun ρ S => match c ρ S with
  | some (true, S1) => f ρ S1
  | some (false, S1) => g ρ S1
  | none => none
theorem gs_if {c : Expr} {a b : List Stmt} {pos : Pos} {fc : FT} {f g : FS} (hc : GT X c fc) (ha : GSs X a f) (hb : GSs X b g) : GS X (.If c a b pos) (fIfS fc f g) := GS.of (ps_if hc ha hb) fun σ H A ρ S o S' er so e D hd => by
  unfold fIfS at e
  split at e
  · rename_i S1 h1
    refine ⟨A, ρ, S, _, S1, er, so, h1, fun b H1 ⟨z0, A1, z1, z2⟩ => ?_⟩
    subst z0
    rw [if_pos rfl]
    exact ⟨A1, ρ, S1, o, S', er.mono z1, z2, e, (EndS.after z1).trans hd⟩
  · rename_i S1 h1
    refine ⟨A, ρ, S, _, S1, er, so, h1, fun b H1 ⟨z0, A1, z1, z2⟩ => ?_⟩
    subst z0
    rw [if_neg Bool.false_ne_true]
    exact ⟨A1, ρ, S1, o, S', er.mono z1, z2, e, (EndS.after z1).trans hd⟩
  · cases e
noncomputable abbrev FG := W → Fm → Store → Option (Fm × Store)
noncomputable def tG (X : Cx) (f : FG) : TG := fun v σ H Q => ∃ A ρ S w ρ' S', EnvRel X.K A H ρ σ ∧ StoreOk X.w X.K A H S ∧ Rel X.K A H w v ∧ f w ρ S = some (ρ', S') ∧ ∀ σ' H' A', Ext X.K A H A' H' → StoreOk X.w X.K A' H' S' → EnvRel X.K A' H' ρ' σ' → Q σ' H'
noncomputable abbrev GG (X : Cx) (tg : Expr) (f : FG) : Prop := PG X tg (tG X f)
noncomputable def gNm (i : Nat) : FG := fun w ρ S => some (ρ.set i (some w), S)
theorem gg_name {i : Nat} {x : Str} {pos : Pos} (hN : X.N.Nodup) (hi : X.N[i]? = some x) (hx : Loc X.env.scope x) (hf : X.fn x = true ∨ X.env.scope.names.lookup x = some .local) : GG X (.Name x pos) (gNm i) := by
  intro pins s σ H v u Q I r ⟨A, ρ, S, w, ρ', S', er, so, rw', e, hq⟩
  cases e
  exact pg_name hN hi hx hf pins s σ H v u Q I r (hq _ _ A .refl so (er.set rw' i))
noncomputable def setAll : List Nat → List W → Fm → Option Fm
  | [], [], ρ => some ρ
  | i :: is, w :: ws, ρ => setAll is ws (ρ.set i (some w))
  | _, _, _ => none
noncomputable def gTp (is : List Nat) : FG := fun w ρ S => match w with
  | .tup ws => (setAll is ws ρ).map fun ρ' => (ρ', S)
  | _ => none
theorem ggs_names : ∀ {ts : List Expr} {is : List Nat}, (∀ x ∈ ts, ∃ y p, x = .Name y p) → Paired (fun (t : Expr) (i : Nat) => ∃ x p, t = Expr.Name x p ∧ X.N[i]? = some x ∧ Loc X.env.scope x ∧ (X.fn x = true ∨ X.env.scope.names.lookup x = some .local)) ts is → X.N.Nodup →
    PGs X ts (fun vs σ H Q => ∃ A ρ ws ρ' S, EnvRel X.K A H ρ σ ∧ StoreOk X.w X.K A H S ∧ RelL X.K A H ws vs ∧ setAll is ws ρ = some ρ' ∧ ∀ σ', EnvRel X.K A H ρ' σ' → Q σ' H) := by
  intro ts
  induction ts with
  | nil =>
    intro is _ h hN
    cases h
    intro pins s σ H vs us Q I r ⟨A, ρ, ws, ρ', S, er, so, rl, e, hq⟩
    cases rl with
    | nil => cases e; exact pgs_nil pins s σ H [] us Q I r ⟨rfl, hq _ er⟩
    | cons _ _ => cases e
  | cons t ts ih =>
    intro is hs h hN
    cases h with
    | cons h1 h2 =>
      obtain ⟨x, p, rfl, hi, hl, hf⟩ := h1
      have := ih (fun y hy => hs y (List.mem_cons_of_mem _ hy)) h2 hN
      intro pins s σ H vs us Q I r ⟨A, ρ, ws, ρ', S, er, so, rl, e, hq⟩
      cases rl with
      | nil => cases e
      | cons r1 r2 =>
        refine pgs_cons (pg_name hN hi hl hf) this rfl pins s σ H _ us Q I r ⟨_, _, rfl, ?_⟩
        exact ⟨A, _, _, ρ', S, er.set r1 _, so, r2, e, hq⟩
theorem gg_tup {ts : List Expr} {is : List Nat} {k : Nat} {pos : Pos} (hc : X.calm = true) (hs : ∀ x ∈ ts, ∃ y p, x = .Name y p) (h : Paired (fun (t : Expr) (i : Nat) => ∃ x p, t = Expr.Name x p ∧ X.N[i]? = some x ∧ Loc X.env.scope x ∧ (X.fn x = true ∨ X.env.scope.names.lookup x = some .local)) ts is) (hN : X.N.Nodup)
    (hn : (assignEach ts X.env).length = ts.length) (hst : (assignEach ts X.env).findIdx? (·.1) = none) : GG X (.Tuple ts k pos) (gTp is) := by
  intro pins s σ H v u Q I r ⟨A, ρ, S, w, ρ', S', er, so, rw', e, hq⟩
  unfold gTp at e
  split at e
  · rw [Option.map_eq_some_iff] at e
    obtain ⟨ρ1, e1, e2⟩ := e
    cases e2
    cases rw' with
    | tup h1 r1 =>
      have hl : ∀ (is : List Nat) (ws : List W) (ρ ρ' : Fm), setAll is ws ρ = some ρ' → is.length = ws.length := by
        intro is
        induction is with
        | nil => intro ws ρ ρ' e; cases ws <;> first | rfl | cases e
        | cons i is ih => intro ws ρ ρ' e; cases ws <;> first | cases e | (simp; exact ih _ _ _ e)
      exact pg_tup hc (ggs_names hs h hN) hn hst pins s σ H _ u Q I r ⟨_, _, rfl, h1, by rw [← r1.length, ← hl _ _ _ _ e1, ← Paired.length h], A, ρ, _, _, _, er, so, r1, e1, fun σ' z => hq _ _ A .refl so z⟩
  · cases e
noncomputable def gSet (fo fi : FE) : FG := fun w ρ S => match fo ρ S with
  | some (o, S1) => match fi ρ S1 with
    | some (i, S2) => match setX o i w S2 with
      | some S3 => some (ρ, S3)
      | none => none
    | none => none
  | none => none
theorem LSet.pset {g : W → W → W → Store → Option Store} (h : LSet X g) : PSet X (fun ao ai av H Q => ∃ A S o i w S', StoreOk X.w X.K A H S ∧ Rel X.K A H o ao ∧ Rel X.K A H i ai ∧ Rel X.K A H w av ∧ g o i w S = some S' ∧ ∀ H' A', Ext X.K A H A' H' → StoreOk X.w X.K A' H' S' → Q H') := by
  intro pins s σ H ao ai av uo ui uv Q I ro ri rv ⟨A, S, o, i, w, S', so, r1, r2, r3, e, hq⟩
  exact thn (h pins s σ H A S o i w ao ai av uo ui uv S' I so r1 ro r2 ri r3 rv e) fun _ s' ⟨H', A', I', e1, o1⟩ => ⟨H', I', hq H' A' e1 o1⟩
theorem gg_sub {o i : Expr} {pos : Pos} {fo fi : FE} (hu : X.A.units + 10 < cLine) (ho : GE X o fo) (hi : GE X i fi) (ha : ∀ v, assign (.Subscript o i pos) X.env v = (do
      let ov ← holding [v] (eval o X.env)
      let iv ← holding [v, ov] (eval i X.env)
      standAt pos
      holding [v, ov, iv] (setItem ov iv v)
      release [v, ov, iv] [])) : GG X (.Subscript o i pos) (gSet fo fi) := by
  intro pins s σ H v u Q I r ⟨A, ρ, S, w, ρ', S', er, so, rw', e, hq⟩
  unfold gSet at e
  split at e
  · rename_i o' S1 h1
    split at e
    · rename_i i' S2 h2
      split at e
      · rename_i S3 h3
        cases e
        refine pg_sub ho hi (lsetX hu).pset ha pins s σ H v u Q I r ?_
        refine ⟨A, ρ, S, o', S1, er, so, h1, fun a H1 ⟨A1, e1, o1, r1⟩ => ?_⟩
        refine ⟨A1, ρ, S1, i', S2, er.mono e1, o1, h2, fun b H2 ⟨A2, e2, o2, r2⟩ => ?_⟩
        exact ⟨A2, S2, o', i', w, _, o2, r1.mono e2, r2, rw'.mono (e1.trans e2), h3, fun H' A' z1 z2 => hq σ H' A' ((e1.trans e2).trans z1) z2 (er.mono ((e1.trans e2).trans z1))⟩
      · cases e
    · cases e
  · cases e
noncomputable def fAsg (f : FE) (g : FG) : FS := fun ρ S => match f ρ S with
  | some (w, S1) => match g w ρ S1 with
    | some (ρ', S2) => some (.nx ρ', S2)
    | none => none
  | none => none
theorem gs_asg {tg e : Expr} {pos : Pos} {f : FE} {g : FG} (h : GE X e f) (hg : GG X tg g) (hs : swapsWithSole [tg] e pos.line X.env = pure false) (hw : swappedStores [tg] e X.env = pure none) (h1 : (assignEach [tg] X.env).map (·.2) = [assign tg X.env]) :
    GS X (.Assign [tg] e pos) (fAsg f g) := GS.of (ps_asg h hg hs hw h1) fun σ H A ρ S o S' er so e D hd => by
  unfold fAsg at e
  split at e
  · rename_i w S1 h1
    split at e
    · rename_i ρ1 S2 h2
      cases e
      refine ⟨A, ρ, S, w, S1, er, so, h1, fun v H1 ⟨A1, z1, z2, z3⟩ => ?_⟩
      exact ⟨A1, ρ, S1, w, ρ1, _, er.mono z1, z2, z3, h2, fun σ' H' A' y1 y2 y3 => hd.nx _ _ ⟨ρ1, A', rfl, z1.trans y1, y2, y3⟩⟩
    · cases e
  · cases e
noncomputable def fPar (i j : Nat) (f : FA) : FS := fun ρ S => match f ρ S with
  | some ([x, y], S1) => some (.nx ((ρ.set i (some x)).set j (some y)), S1)
  | _ => none
theorem gs_par {i j : Nat} {x y : Str} {a b : Expr} {f : FA} {px py pt pos : Pos} {kt k2 : Nat} {pt2 : Pos} (hc : X.calm = true) (hN : X.N.Nodup) (hi : X.N[i]? = some x) (hj : X.N[j]? = some y) (hij : i ≠ j)
    (hx : X.env.scope.names.lookup x = some .local) (hy : X.env.scope.names.lookup y = some .local) (ha : GA X [a, b] f)
    (hw : swappedStores [.Tuple [.Name x px, .Name y py] kt pt] (.Tuple [a, b] k2 pt2) X.env = pure (some [x, y]))
    (hs : swapsWithSole [.Tuple [.Name x px, .Name y py] kt pt] (.Tuple [a, b] k2 pt2) pos.line X.env = pure false) :
    GS X (.Assign [.Tuple [.Name x px, .Name y py] kt pt] (.Tuple [a, b] k2 pt2) pos) (fPar i j f) := GS.of (ps_par hc hN hi hj hij hx hy ha hw hs) fun σ H A ρ S o S' er so e D hd => by
  unfold fPar at e
  split at e
  · rename_i x y S1 h1
    cases e
    refine ⟨A, ρ, S, _, _, er, so, h1, fun vs H1 ⟨A1, z1, z2, z3⟩ => ?_⟩
    cases z3 with
    | cons r1 t =>
      cases t with
      | cons r2 t =>
        cases t
        exact ⟨_, _, rfl, hd.nx _ _ ⟨_, A1, rfl, z1, z2, ((er.mono z1).set r1 i).set r2 j⟩⟩
  · cases e
noncomputable def fWhl (c : FT) (b : FS) : Nat → FS
  | 0, _, _ => none
  | n + 1, ρ, S => match c ρ S with
    | some (true, S1) => match b ρ S1 with
      | some (.nx ρ', S2) => fWhl c b n ρ' S2
      | some (.ct ρ', S2) => fWhl c b n ρ' S2
      | some (.bk ρ', S2) => some (.nx ρ', S2)
      | some (.rt w, S2) => some (.rt w, S2)
      | none => none
    | some (false, S1) => some (.nx ρ, S1)
    | none => none
theorem gs_while {c : Expr} {body : List Stmt} {pos : Pos} {fc : FT} {fb : FS} (n : Nat) (hp : PassesOwn (model X.prog X.w) X.A X.env X.xe) (hc : GT X c fc) (hb : GSs X body fb) : GS X (.While c body [] pos) (fWhl fc fb n) := GS.of (ps_while hp hc hb) fun σ H A ρ S o S' er so e D hd => by
  refine ⟨fun m σ1 H1 => ∃ A1 ρ1 S1, Ext X.K A H A1 H1 ∧ EnvRel X.K A1 H1 ρ1 σ1 ∧ StoreOk X.w X.K A1 H1 S1 ∧ fWhl fc fb m ρ1 S1 = some (o, S'), ⟨n, A, ρ, S, .refl, er, so, e⟩, ?_⟩
  rintro m σ1 H1 ⟨A1, ρ1, S1, e1, er1, so1, w1⟩
  cases m with
  | zero => cases w1
  | succ m =>
    simp only [fWhl] at w1
    split at w1
    · rename_i S2 h1
      refine ⟨A1, ρ1, S1, _, S2, er1, so1, h1, fun b H2 ⟨z0, A2, z1, z2⟩ => ?_⟩
      subst z0
      rw [if_pos rfl]
      refine ⟨fun σ3 H3 => ∃ A3 ρ3 S3, Ext X.K A H A3 H3 ∧ EnvRel X.K A3 H3 ρ3 σ3 ∧ StoreOk X.w X.K A3 H3 S3 ∧ fWhl fc fb m ρ3 S3 = some (o, S'), fun σ' H' h => ⟨m, Nat.lt_succ_self _, h⟩, ?_⟩
      split at w1
      · rename_i ρ3 S3 h3
        refine ⟨A2, ρ1, S2, _, S3, er1.mono z1, z2, h3, ⟨fun σ' H' ⟨ρ', A', y0, y1, y2, y3⟩ => ?_, fun v H' ⟨w, A', y0, _⟩ => (by cases y0), fun v H' ⟨w, A', y0, _⟩ => (by cases y0), fun v H' ⟨w, A', y0, _⟩ => (by cases y0)⟩⟩
        cases y0
        exact ⟨A', _, S3, (e1.trans z1).trans y1, y3, y2, w1⟩
      · rename_i ρ3 S3 h3
        refine ⟨A2, ρ1, S2, _, S3, er1.mono z1, z2, h3, ⟨fun v H' ⟨w, A', y0, _⟩ => (by cases y0), fun v H' ⟨w, A', y0, _⟩ => (by cases y0), fun v H' ⟨w, A', y0, _⟩ => (by cases y0), fun σ' H' ⟨ρ', A', y0, y1, y2, y3⟩ => ?_⟩⟩
        cases y0
        exact ⟨A', _, S3, (e1.trans z1).trans y1, y3, y2, w1⟩
      · rename_i ρ3 S3 h3
        cases w1
        refine ⟨A2, ρ1, S2, _, _, er1.mono z1, z2, h3, ⟨fun v H' ⟨w, A', y0, _⟩ => (by cases y0), fun v H' ⟨w, A', y0, _⟩ => (by cases y0), fun σ' H' ⟨ρ', A', y0, y1, y2, y3⟩ => ?_, fun v H' ⟨w, A', y0, _⟩ => (by cases y0)⟩⟩
        cases y0
        exact hd.nx _ _ ⟨_, A', rfl, (e1.trans z1).trans y1, y2, y3⟩
      · rename_i w3 S3 h3
        cases w1
        refine ⟨A2, ρ1, S2, _, _, er1.mono z1, z2, h3, ⟨fun v H' ⟨w, A', y0, _⟩ => (by cases y0), fun v H' ⟨w, A', y0, y1, y2, y3⟩ => ?_, fun v H' ⟨w, A', y0, _⟩ => (by cases y0), fun v H' ⟨w, A', y0, _⟩ => (by cases y0)⟩⟩
        cases y0
        exact hd.rt _ _ ⟨_, A', rfl, (e1.trans z1).trans y1, y2, y3⟩
      · cases w1
    · rename_i S2 h1
      cases w1
      refine ⟨A1, ρ1, S1, _, _, er1, so1, h1, fun b H2 ⟨z0, A2, z1, z2⟩ => ?_⟩
      subst z0
      rw [if_neg Bool.false_ne_true]
      exact hd.nx _ _ ⟨_, A2, rfl, e1.trans z1, z2, er1.mono z1⟩
    · cases w1
end
end Mi
set_option Elab.async false
set_option linter.all false
set_option maxRecDepth 100000
namespace Mi
open PySem PySem.Spec PyProof.Rows L2
inductive MI where
  | its (ws : List W)
  | live (r : Nat)
noncomputable def MI.at (S : Store) (i : Nat) : MI → Option (Option W)
  | .its ws => some ws[i]?
  | .live r => match rdL S r with
    | some xs => some xs[i]?
    | none => none
noncomputable def MI.len (S : Store) : MI → Option Nat
  | .its ws => some ws.length
  | .live r => (rdL S r).map (·.length)
noncomputable abbrev FI := Fm → Store → Option (MI × Store)
structure MIt (wd : World) (K : PySem.W.Frag) (mi : MI) (J : It) (A0 : List Addr) (H0 : Hp) : Prop where
  go : ∀ A H S i w, Ext K A0 H0 A H → StoreOk wd K A H S → mi.at S i = some (some w) → J.go i H ∧ ∀ x H', J.yld i H x H' → Ext K A H A H' ∧ StoreOk wd K A H' S ∧ Rel K A H' w x
  stop : ∀ A H S i, Ext K A0 H0 A H → StoreOk wd K A H S → mi.at S i = some none → J.stop i H
noncomputable def tI (X : Cx) (f : FI) : TI := fun σ H R => ∃ A ρ S mi S', EnvRel X.K A H ρ σ ∧ StoreOk X.w X.K A H S ∧ f ρ S = some (mi, S') ∧ ∀ J H' A', Ext X.K A H A' H' → StoreOk X.w X.K A' H' S' → MIt X.w X.K mi J A' H' → R J H'
noncomputable abbrev GI (X : Cx) (tg iter : Expr) (f : FI) : Prop := PI X tg iter (tI X f)
noncomputable def iSeq (f : FE) : FI := fun ρ S => match f ρ S with
  | some (.tup ws, S1) => some (.its ws, S1)
  | some (.ref r, S1) => match rdL S1 r with
    | some _ => some (.live r, S1)
    | none => none
  | _ => none
noncomputable def rngW (lo : Int) (n : Nat) : List W := (List.range n).map fun (k : Nat) => .int (lo + (k : Int))
noncomputable def iRng (f : FA) : FI := fun ρ S => match f ρ S with
  | some ([.int j], S1) => if -(2 ^ 62) ≤ j ∧ j < 2 ^ 62 then some (.its (rngW 0 j.toNat), S1) else none
  | _ => none
noncomputable def iRng2 (f : FA) : FI := fun ρ S => match f ρ S with
  | some ([.int i, .int j], S1) => if -(2 ^ 62) ≤ i ∧ i < 2 ^ 62 ∧ -(2 ^ 62) ≤ j ∧ j < 2 ^ 62 then some (.its (rngW i (j - i).toNat), S1) else none
  | _ => none
noncomputable def fLoop (mi : MI) (g : FG) (b : FS) : Nat → Nat → FS
  | 0, i, ρ, S => match mi.at S i with
    | some none => some (.nx ρ, S)
    | _ => none
  | n + 1, i, ρ, S => match mi.at S i with
    | some (some w) => match g w ρ S with
      | some (ρ1, S1) => match b ρ1 S1 with
        | some (.nx ρ2, S2) => fLoop mi g b n (i + 1) ρ2 S2
        | some (.ct ρ2, S2) => fLoop mi g b n (i + 1) ρ2 S2
        | some (.bk ρ2, S2) => some (.nx ρ2, S2)
        | some (.rt w, S2) => some (.rt w, S2)
        | none => none
      | none => none
    | _ => none
noncomputable def fFor (fi : FI) (g : FG) (b : FS) : FS := fun ρ S => match fi ρ S with
  | some (mi, S1) => match mi.len S1 with
    | some n => fLoop mi g b n 0 ρ S1
    | none => none
  | none => none
section
variable {X : Cx}
theorem mit_tup {A : List Addr} {H : Hp} {ws : List W} {a : Addr} {vs : List V} (h : SqT X.K H a vs) (r : RelL X.K A H ws vs) : MIt X.w X.K (.its ws) (Itt X.K a) A H := by
  refine ⟨fun A' H' S i w e so hi => ?_, fun A' H' S i e so hi => ?_⟩
  · simp only [MI.at, Option.some.injEq] at hi
    obtain ⟨v, h1, h2⟩ := (r.mono e).get hi
    refine ⟨⟨vs, v, e.tp _ _ h, h1⟩, fun x H2 ⟨z1, z2⟩ => ?_⟩
    subst z1
    have := z2 vs (e.tp _ _ h)
    rw [h1] at this; cases this
    exact ⟨.refl, so, h2⟩
  · simp only [MI.at, Option.some.injEq] at hi
    refine ⟨vs, e.tp _ _ h, ?_⟩
    rw [← r.length]
    exact List.getElem?_eq_none_iff.mp hi
theorem mit_lst {A : List Addr} {H : Hp} {r : Nat} {a : Addr} (ea : A[r]? = some a) : MIt X.w X.K (.live r) (Itl X.K a) A H := by
  refine ⟨fun A' H' S i w e so hi => ?_, fun A' H' S i e so hi => ?_⟩
  · simp only [MI.at] at hi
    split at hi
    · rename_i xs hx
      simp only [Option.some.injEq] at hi
      obtain ⟨vs, h1, r1⟩ := rdL_at so hx (e.ad _ _ ea)
      obtain ⟨v, h2, h3⟩ := r1.get hi
      refine ⟨⟨vs, v, h1, h2⟩, fun x H2 ⟨z1, z2⟩ => ?_⟩
      subst z1
      have := z2 vs h1
      rw [h2] at this; cases this
      exact ⟨.refl, so, h3⟩
    · cases hi
  · simp only [MI.at] at hi
    split at hi
    · rename_i xs hx
      simp only [Option.some.injEq] at hi
      obtain ⟨vs, h1, r1⟩ := rdL_at so hx (e.ad _ _ ea)
      refine ⟨vs, h1, ?_⟩
      rw [← r1.length]
      exact List.getElem?_eq_none_iff.mp hi
    · cases hi
theorem rngW_get {lo : Int} {n i : Nat} : (rngW lo n)[i]? = if i < n then some (.int (lo + i)) else none := by
  unfold rngW
  rw [List.getElem?_map]
  by_cases h : i < n
  · rw [if_pos h, List.getElem?_range h]; rfl
  · rw [if_neg h, List.getElem?_eq_none_iff.mpr (by simp; omega)]; rfl
theorem mit_rng {A : List Addr} {H : Hp} {lo : Int} {n : Nat} : MIt X.w X.K (.its (rngW lo n)) (Itr lo n) A H := by
  refine ⟨fun A' H' S i w e so hi => ?_, fun A' H' S i e so hi => ?_⟩
  · simp only [MI.at, Option.some.injEq] at hi
    rw [rngW_get] at hi
    split at hi
    · cases hi
      refine ⟨by assumption, fun x H2 ⟨z1, z2⟩ => ?_⟩
      subst z1 z2
      exact ⟨.refl, so, .int⟩
    · cases hi
  · simp only [MI.at, Option.some.injEq] at hi
    rw [rngW_get] at hi
    split at hi
    · cases hi
    · show n ≤ i
      omega
theorem pi_list_val {tg : Expr} {pins : List (Addr × Obj)} {σ : L2.St} {H1 : Hp} {s1 : Shared} {R : It → Hp → Prop} {a : Addr} {xs : List V} {v : Value} (I1 : Inv X pins σ H1 s1) (r1 : RelV (.ref a) v) (hq : SqL X.K H1 a xs) (q : R (Itl X.K a) H1) :
    wpAny (model X.prog X.w) X.A (pyIter v) (PIE X pins σ tg R) X.xe s1 := by
  cases r1
  obtain ⟨its, rv, p, hz⟩ := I1.list hq
  refine wpAny_pyIter_list p.isList ?_
  refine ⟨s1.heap.objs.size, [s1.heap.objs.size], _, _, H1, rfl, I1.kept (t' := s1.toks) fun b o e => Heap.get?_push_of_some _ e, turn_list a _, ⟨_, Heap.get?_push_size _ rfl, rfl, rfl⟩, fun b hb => ?_, q⟩
  have e : b = s1.heap.objs.size := by simpa using hb
  subst e
  exact I1.fpOk (Nat.le_refl _) (I1.hok.fresh (Nat.le_refl _))
theorem pi_tup_val {tg : Expr} {pins : List (Addr × Obj)} {σ : L2.St} {H1 : Hp} {s1 : Shared} {R : It → Hp → Prop} {a : Addr} {xs : List V} {v : Value} (I1 : Inv X pins σ H1 s1) (r1 : RelV (.ref a) v) (hq : SqT X.K H1 a xs) (q : R (Itt X.K a) H1) :
    wpAny (model X.prog X.w) X.A (pyIter v) (PIE X pins σ tg R) X.xe s1 := by
  cases r1
  obtain ⟨its, rv, p, hz⟩ := I1.tuple hq
  refine wpAny_pyIter_tuple (show s1.heap.IsTuple a its.toArray from p) ?_
  refine ⟨s1.heap.objs.size, [s1.heap.objs.size], _, _, H1, rfl, I1.kept (t' := s1.toks) fun b o e => Heap.get?_push_of_some _ e, turn_tuple a _, ⟨_, Heap.get?_push_size _ rfl, rfl, rfl⟩, fun b hb => ?_, q⟩
  have e : b = s1.heap.objs.size := by simpa using hb
  subst e
  exact I1.fpOk (Nat.le_refl _) (I1.hok.fresh (Nat.le_refl _))
theorem gi_rng1 {tg a : Expr} {f : FA} {p pos : Pos} (hg : Gl X "range") (hm : X.mg "range" = none) (ha : GA X [a] f) (hs : starEach [a] X.env = [(false, eval a X.env)]) : GI X tg (.Call (.Name "range" p) [a] [] pos) (iRng f) := by
  intro pins s σ H R I ⟨A, ρ, S, mi, S', er, so, e, hq⟩
  unfold iRng at e
  split at e
  · rename_i j S1 h1
    split at e
    · rename_i hj
      cases e
      refine pi_range1 hg hm ha hs pins s σ H R I ⟨A, ρ, S, _, _, er, so, h1, fun vs H1 ⟨A1, z1, z2, z3⟩ => ?_⟩
      cases z3 with
      | cons r1 t =>
        cases t
        cases r1
        exact ⟨j, rfl, hj.1, hj.2, hq _ _ A1 z1 z2 mit_rng⟩
    · cases e
  · cases e
theorem gi_rng2 {tg a b : Expr} {f : FA} {p pos : Pos} (hg : Gl X "range") (hm : X.mg "range" = none) (ha : GA X [a, b] f) (hs : starEach [a, b] X.env = [(false, eval a X.env), (false, eval b X.env)]) (hs2 : starEach [b] X.env = [(false, eval b X.env)]) : GI X tg (.Call (.Name "range" p) [a, b] [] pos) (iRng2 f) := by
  intro pins s σ H R I ⟨A, ρ, S, mi, S', er, so, e, hq⟩
  unfold iRng2 at e
  split at e
  · rename_i i j S1 h1
    split at e
    · rename_i hj
      cases e
      refine pi_range2 hg hm ha hs hs2 pins s σ H R I ⟨A, ρ, S, _, _, er, so, h1, fun vs H1 ⟨A1, z1, z2, z3⟩ => ?_⟩
      cases z3 with
      | cons r1 t =>
        cases t with
        | cons r2 t =>
          cases t
          cases r1
          cases r2
          exact ⟨i, j, rfl, hj, hq _ _ A1 z1 z2 mit_rng⟩
    · cases e
  · cases e
theorem gi_seq {tg l : Expr} {f : FE} (h : GE X l f) : GI X tg l (iSeq f) := by
  intro pins s σ H R I ⟨A, ρ, S, mi, S', er, so, e, hq⟩
  unfold iSeq at e
  split at e
  · rename_i ws S1 h1
    cases e
    refine thn (h pins s σ H (EndV X.w X.K A H _ (.tup ws)) I ⟨A, ρ, S, _, _, er, so, h1, fun _ _ z => z⟩) fun v s1 ⟨x, H1, I1, r1, A1, e1, o1, z1⟩ => ?_
    cases z1 with
    | tup hq1 rl =>
      refine pi_tup_val I1 r1 hq1 (hq _ _ A1 e1 o1 (mit_tup hq1 rl))
  · rename_i r S1 h1
    split at e
    · rename_i ys hy
      cases e
      refine thn (h pins s σ H (EndV X.w X.K A H _ (.ref r)) I ⟨A, ρ, S, _, _, er, so, h1, fun _ _ z => z⟩) fun v s1 ⟨x, H1, I1, r1, A1, e1, o1, z1⟩ => ?_
      cases z1 with
      | ref ea =>
        obtain ⟨vs, hl, _⟩ := rdL_at o1 hy ea
        exact pi_list_val I1 r1 hl (hq _ _ A1 e1 o1 (mit_lst ea))
    · cases e
  · cases e
theorem gs_for {tg iter : Expr} {body : List Stmt} {pos : Pos} {fi : FI} {g : FG} {fb : FS} (hp : PassesOwn (model X.prog X.w) X.A X.env X.xe) (hc : X.calm = true) (hi : GI X tg iter fi) (hg : GG X tg g) (hb : GSs X body fb)
    (hs : ∀ x, foldedSetIterable iter X.env x = pure x) : GS X (.For tg iter body [] pos) (fFor fi g fb) := GS.of (ps_for hp hc hi hg hb hs) fun σ H A ρ S o S' er so e D hd => by
  unfold fFor at e
  split at e
  · rename_i mi S1 h1
    split at e
    · rename_i n hn
      refine ⟨A, ρ, S, mi, S1, er, so, h1, fun J H1 A1 z1 z2 mit => ?_⟩
      refine ⟨fun i m σ2 H2 => ∃ A2 ρ2 S2, Ext X.K A1 H1 A2 H2 ∧ EnvRel X.K A2 H2 ρ2 σ2 ∧ StoreOk X.w X.K A2 H2 S2 ∧ fLoop mi g fb m i ρ2 S2 = some (o, S'), ⟨n, A1, ρ, S1, .refl, er.mono z1, z2, e⟩, ?_⟩
      rintro i m σ2 H2 ⟨A2, ρ2, S2, e2, er2, so2, w2⟩
      cases m with
      | zero =>
        simp only [fLoop] at w2
        split at w2
        · rename_i hs
          cases w2
          exact .inl ⟨mit.stop A2 H2 _ i e2 so2 hs, hd.nx _ _ ⟨_, A2, rfl, z1.trans e2, so2, er2⟩⟩
        · cases w2
      | succ m =>
        simp only [fLoop] at w2
        split at w2
        · rename_i w hw
          obtain ⟨go, yl⟩ := mit.go A2 H2 S2 i w e2 so2 hw
          refine .inr ⟨go, fun σ3 H3 => ∃ A3 ρ3 S3, Ext X.K A1 H1 A3 H3 ∧ EnvRel X.K A3 H3 ρ3 σ3 ∧ StoreOk X.w X.K A3 H3 S3 ∧ fLoop mi g fb m (i + 1) ρ3 S3 = some (o, S'), fun σ' H' h => ⟨m, Nat.lt_succ_self _, h⟩, fun x H3 hy => ?_⟩
          obtain ⟨x1, x2, x3⟩ := yl x H3 hy
          split at w2
          · rename_i ρ3 S3 h3
            refine ⟨A2, ρ2, S2, w, ρ3, S3, er2.mono x1, x2, x3, h3, fun σ4 H4 A4 y1 y2 y3 => ?_⟩
            have ex : Ext X.K A1 H1 A4 H4 := (e2.trans x1).trans y1
            split at w2
            · rename_i ρ5 S5 h5
              refine ⟨A4, ρ3, S3, _, S5, y3, y2, h5, ⟨fun σ' H' ⟨ρ', A', u0, u1, u2, u3⟩ => ?_, fun v H' ⟨w, A', y0, _⟩ => (by cases y0), fun v H' ⟨w, A', y0, _⟩ => (by cases y0), fun v H' ⟨w, A', y0, _⟩ => (by cases y0)⟩⟩
              cases u0
              exact ⟨A', _, S5, ex.trans u1, u3, u2, w2⟩
            · rename_i ρ5 S5 h5
              refine ⟨A4, ρ3, S3, _, S5, y3, y2, h5, ⟨fun v H' ⟨w, A', y0, _⟩ => (by cases y0), fun v H' ⟨w, A', y0, _⟩ => (by cases y0), fun v H' ⟨w, A', y0, _⟩ => (by cases y0), fun σ' H' ⟨ρ', A', u0, u1, u2, u3⟩ => ?_⟩⟩
              cases u0
              exact ⟨A', _, S5, ex.trans u1, u3, u2, w2⟩
            · rename_i ρ5 S5 h5
              cases w2
              refine ⟨A4, ρ3, S3, _, _, y3, y2, h5, ⟨fun v H' ⟨w, A', y0, _⟩ => (by cases y0), fun v H' ⟨w, A', y0, _⟩ => (by cases y0), fun σ' H' ⟨ρ', A', u0, u1, u2, u3⟩ => ?_, fun v H' ⟨w, A', y0, _⟩ => (by cases y0)⟩⟩
              cases u0
              exact hd.nx _ _ ⟨_, A', rfl, (z1.trans ex).trans u1, u2, u3⟩
            · rename_i w5 S5 h5
              cases w2
              refine ⟨A4, ρ3, S3, _, _, y3, y2, h5, ⟨fun v H' ⟨w, A', y0, _⟩ => (by cases y0), fun v H' ⟨w, A', u0, u1, u2, u3⟩ => ?_, fun v H' ⟨w, A', y0, _⟩ => (by cases y0), fun v H' ⟨w, A', y0, _⟩ => (by cases y0)⟩⟩
              cases u0
              exact hd.rt _ _ ⟨_, A', rfl, (z1.trans ex).trans u1, u2, u3⟩
            · cases w2
          · cases w2
        · cases w2
    · cases e
  · cases e
end
end Mi
set_option Elab.async false
set_option linter.all false
set_option maxRecDepth 100000
namespace Mi
open PySem PySem.Spec PyProof.Rows L2
section
variable {prog : Program} {w : World} {B : Around} {E : Value → Shared → Prop} {s : Shared}
theorem raw_len {d : Addr} {es : Array DictEntry} {ep : Nat} {Q : Value → Shared → Prop} (hd : (d == sysModules) = false) (hm : RawD d es ep s.heap) (hfit : (es.size : Int) < 2 ^ 63)
    (h : Q (.int es.size (s.toks + 1)) { s with toks := s.toks + 1 + 1 }) : wpAny (model prog w) B (call (.builtin "len") [.ref d]) Q E s := by
  have hT := hm.type
  obtain ⟨o, ho, hc, hdat⟩ := id hm
  refine Calls.call_function_entry kind_len plain_len entry_len (args_len1 _) ?_
  unfold Builtin.«len»
  refine wpAny_bind (m := oneArg "len" _) (wpAny_pure ?_)
  refine wpAny_bind (m := callSpecial? (.ref d) (Str.ofString "__len__")) (wpAny_callSpecial?_slot (name := Str.ofString "__len__") hT F.slot_dict_len (wpAny_call_entry F.slot_dict_len hT F.entry_dict_len ?_ (F.args_dict_len_1 _)))
  show wpAny _ _ (dictSize d >>= _) _ _ s
  unfold dictSize
  refine wpAny_bind (wpAny_bind (wpAny_dictEntries ho hdat (wpAny_pure ?_)))
  show wpAny _ _ (Builtin.Dict.pendingCount d >>= _) _ _ s
  refine wpAny_bind (wpAny_pendingCount_other hd ?_)
  refine wpAny_ret_mkInt ?_
  rw [Nat.add_zero]
  show wpAny _ _ _ _ _ { s with toks := s.toks + 1 }
  refine wpAny_bind (wpAny_holding (wpAny_pure ?_))
  refine wpAny_bind (wpAny_letGo ?_)
  show wpAny _ _ (if ((es.size : Nat) : Int) < 0 then _ else _) _ _ _
  rw [if_neg (by omega)]
  show wpAny _ _ (if ((es.size : Nat) : Int) ≥ 2 ^ 63 then _ else _) _ _ _
  rw [if_neg (by omega)]
  exact wpAny_bind (wpAny_mkInt (wpAny_pure ⟨_, rfl, h⟩))
end
section
variable {X : Cx} {pins : List (Addr × Obj)} {σ : L2.St} {H : Hp} {s : Shared} {A : List Addr} {S : Store}
theorem lcall_lenX : LCall X (.builtin "len") lenX := by
  intro pins s σ H A S xs vs us w S' I so rl rv e
  by_cases hd : ∃ i kvs, xs = [.ref i] ∧ rdD S i = some kvs
  · obtain ⟨i, kvs, rfl, hk⟩ := hd
    simp only [lenX, hk] at e
    cases e
    cases rl with
    | cons r t =>
      cases t
      cases rv with
      | cons ru rv2 =>
        cases rv2
        cases r with
        | ref ea =>
          obtain ⟨xs, rd, kr⟩ := rdD_at so hk ea
          have d := dic_get I rd
          obtain ⟨es, ep, raw, he⟩ := d.raw
          obtain rfl : _ = Value.ref _ := ru
          have hl : es.size = xs.length := by rw [← Array.length_toList, he, List.length_map]
          have hz := d.1
          have hs : sizeLine = 16777216 := sizeLine_eq
          refine raw_len d.2.1 raw (by omega) ⟨.int kvs.length, H, A, I.tok _, ⟨_, by rw [kr.length, hl]⟩, .refl, so, .int⟩
  · have : lenX xs S = lenW xs S := by
      unfold lenX
      split
      · rename_i i
        split
        · rename_i kvs hk
          exact absurd ⟨i, kvs, rfl, hk⟩ hd
        · rfl
      · rfl
    rw [this] at e
    exact lcall_len pins s σ H A S xs vs us w S' I so rl rv e
noncomputable def tyW (S : Store) : W → Option String
  | .non => some "NoneType" | .bl _ => some "bool" | .int _ => some "int" | .str _ => some "str" | .tup _ => some "tuple"
  | .ref i => match rdL S i with
    | some _ => some "list"
    | none => (rdD S i).map fun _ => "dict"
noncomputable def isCls : List String := ["bool", "int", "str", "tuple", "list", "dict"]
noncomputable def isW (S : Store) (x : W) (c : String) : Option Bool := match tyW S x with
  | some t => if isCls.contains c then some (t == c || (t == "bool" && c == "int")) else none
  | none => none
theorem kit_of {K : PySem.W.Frag} {t c : String} (ht : t ∈ ["NoneType", "bool", "int", "str", "tuple", "list", "dict"]) (hc : c ∈ isCls) : PySem.W.kitOne K (.type t) (.type c) = some (t == c || (t == "bool" && c == "int")) := by
  simp only [isCls, List.mem_cons, List.not_mem_nil, or_false] at ht hc
  rcases ht with rfl | rfl | rfl | rfl | rfl | rfl | rfl <;> rcases hc with rfl | rfl | rfl | rfl | rfl | rfl <;> rfl
theorem call_isi : CallR X (.builtin "isinstance") (fun vs H Q => ∃ A S x v c b, vs = [v, .ty c] ∧ StoreOk X.w X.K A H S ∧ Rel X.K A H x v ∧ isW S x c = some b ∧ Q (.bl b) H) := by
  intro pins s σ H vs us Q I rv ⟨A, S, x, v, c, b, e1, so, rx, e2, hq⟩
  subst e1
  cases rv with
  | cons r1 rv2 => cases rv2 with
    | cons r2 rv3 =>
      cases rv3
      obtain rfl : _ = Value.type c := r2
      unfold isW at e2
      split at e2
      · rename_i t ht
        split at e2
        · rename_i hc
          cases e2
          have hc' : c ∈ isCls := by simpa using hc
          have fin : ∀ tk, EP X pins σ Q (.bool (t == c || (t == "bool" && c == "int"))) { s with toks := tk } := fun tk => ⟨.bl _, H, I.tok _, rfl, hq⟩
          cases rx with
          | non => cases ht; cases (show _ = Value.none from r1); exact PySem.W.kia_one PySem.W.kitx_none I.kIn True.intro (kit_of (by simp) hc') (fun z => nomatch z) fin
          | bl => cases ht; cases (show _ = Value.bool _ from r1); exact PySem.W.kia_one PySem.W.kitx_bool I.kIn True.intro (kit_of (by simp) hc') (fun z => nomatch z) fin
          | int => cases ht; obtain ⟨t', q⟩ := (show ∃ t, _ = Value.int _ t from r1); cases q; exact PySem.W.kia_one PySem.W.kitx_int I.kIn True.intro (kit_of (by simp) hc') (fun z => nomatch z) fin
          | str => cases ht; obtain ⟨t', q⟩ := (show ∃ t, _ = Value.str _ t from r1); cases q; exact PySem.W.kia_one PySem.W.kitx_str I.kIn True.intro (kit_of (by simp) hc') (fun z => nomatch z) fin
          | tup h1 r1' =>
            cases ht
            obtain ⟨its, rv, ⟨o, q1, q2, _⟩, hz⟩ := I.tuple h1
            cases (show _ = Value.ref _ from r1)
            exact PySem.W.kia_one PySem.W.kitx_tuple I.kIn ⟨o, q1, q2⟩ (kit_of (by simp) hc') (fun z => nomatch z) fin
          | ref ea =>
            cases (show _ = Value.ref _ from r1)
            simp only [tyW] at ht
            split at ht
            · rename_i ws hw
              cases ht
              obtain ⟨vs, h1, _⟩ := rdL_at so hw ea
              obtain ⟨its, rv, p, hz⟩ := I.list h1
              obtain ⟨o, q1, q2, _⟩ := p.isList
              exact PySem.W.kia_one PySem.W.kitx_list I.kIn ⟨o, q1, q2⟩ (kit_of (by simp) hc') (fun z => nomatch z) fin
            · rw [Option.map_eq_some_iff] at ht
              obtain ⟨kvs, hk, rfl⟩ := ht
              obtain ⟨xs, rd, kr⟩ := rdD_at so hk ea
              obtain ⟨es, ep, ⟨o, q1, q2, _⟩, he⟩ := (dic_get I rd).raw
              exact PySem.W.kia_one PySem.W.kitx_dict I.kIn ⟨o, q1, q2.1⟩ (kit_of (by simp) hc') (fun z => nomatch z) fin
        · cases e2
      · cases e2
noncomputable def fIsi (c : String) (f : FE) : FE := fun ρ S => match f ρ S with
  | some (x, S1) => (isW S1 x c).map fun b => (.bl b, S1)
  | none => none
theorem ge_isi {cn : Str} {c : String} {e : Expr} {p p2 pos : Pos} {f : FE} (hg : Gl X "isinstance") (hm : X.mg "isinstance" = none) (hg2 : Gl X cn) (hm2 : X.mg cn = none) (hv2 : bootBuiltins cn = some (.type c)) (hn2 : cn ≠ "__name__") (hd2 : (cn == ("__debug__" : Str)) = false)
    (he : GE X e f) (hs : starEach [e, .Name cn p2] X.env = (false, eval e X.env) :: starEach [.Name cn p2] X.env) : GE X (.Call (.Name "isinstance" p) [e, .Name cn p2] [] pos) (fIsi c f) :=
  GE.of (pe_callB (call_isi) hg hm rfl (pa_cons he (pa_cons (pe_bltn (v := .ty c) hg2 hm2 hv2 rfl hn2 hd2) pa_nil) hs) (by decide) (by decide) hs rfl) fun σ H A ρ S w S' er so e Q hq => by
    unfold fIsi at e
    split at e
    · rename_i x1 S1 h1
      rw [Option.map_eq_some_iff] at e
      obtain ⟨b, e1, e2⟩ := e
      cases e2
      exact ⟨A, ρ, S, x1, _, er, so, h1, fun v H1 ⟨A1, z1, z2, z3⟩ => ⟨A1, _, x1, v, c, b, rfl, z2, z3, e1, hq _ _ ⟨A1, z1, z2, .bl⟩⟩⟩
    · cases e
end
end Mi
set_option Elab.async false
set_option linter.all false
set_option maxRecDepth 100000
namespace Mi
open PySem PySem.Spec PyProof.Rows L2
noncomputable def putAll : List (T × W) → List W → Option (List (T × W))
  | kvs, [] => some kvs
  | kvs, k :: v :: ws => match keyW k with
    | some t => putAll (putT kvs t v) ws
    | none => none
  | _, [_] => none
noncomputable def fDNew : FE := fun _ S => some (.ref S.length, S ++ [.dic []])
noncomputable def fDisp (f : FA) : FE := fun ρ S => match f ρ (S ++ [.dic []]) with
  | some (ws, S1) => match S1[S.length]? with
    | some (.dic []) => match putAll [] ws with
      | some kvs => some (.ref S.length, S1.set S.length (.dic kvs))
      | none => none
    | _ => none
  | none => none
section
variable (K : PySem.W.Frag) (A : List Addr) (H : Hp)
inductive RelP : List W → List (V × V) → Prop
  | nil : RelP [] []
  | cons {k v : W} {a b : V} {ws : List W} {ps : List (V × V)} : Rel K A H k a → Rel K A H v b → RelP ws ps → RelP (k :: v :: ws) ((a, b) :: ps)
end
theorem RelP.mono {K : PySem.W.Frag} {A A' : List Addr} {H H' : Hp} (e : Ext K A H A' H') {ws : List W} {ps : List (V × V)} (h : RelP K A H ws ps) : RelP K A' H' ws ps := by
  induction h with
  | nil => exact .nil
  | cons a b c ih => exact .cons (a.mono e) (b.mono e) ih
section
variable {X : Cx} {pins : List (Addr × Obj)} {σ : L2.St} {H : Hp} {s : Shared} {A : List Addr} {S : Store}
noncomputable def EndP (X : Cx) (A : List Addr) (H : Hp) (S' : Store) (ws : List W) : List (V × V) → Hp → Prop := fun ps H' => ∃ A', Ext X.K A H A' H' ∧ StoreOk X.w X.K A' H' S' ∧ RelP X.K A' H' ws ps
noncomputable def GPs (X : Cx) (pos : Pos) (keys : List (Option Expr)) (values : List Expr) (f : FA) : Prop :=
  ∀ (pins : List (Addr × Obj)) (s : Shared) (σ : L2.St) (H : Hp) (A : List Addr) (ρ : Fm) (S : Store) (ws : List W) (S' : Store), Inv X pins σ H s → EnvRel X.K A H ρ σ → StoreOk X.w X.K A H S → f ρ S = some (ws, S') →
    wpAny (model X.prog X.w) X.A (evalPairs (pairTrees keys values X.env pos)) (fun vs s' => ∃ ps H', Inv X pins σ H' s' ∧ VV ps vs ∧ EndP X A H S' ws ps H') X.xe s
theorem gps_nil {pos : Pos} : GPs X pos [] [] fNil := fun pins s σ H A ρ S ws S' I er so e => by
  cases e
  exact pairTrees_nil_walk ⟨[], H, I, .nil, A, .refl, so, .nil⟩
theorem gps_cons {pos : Pos} {k v : Expr} {ks : List (Option Expr)} {vs : List Expr} {fk fv : FE} {f : FA} (hk : GE X k fk) (hv : GE X v fv) (hr : GPs X pos ks vs f) : GPs X pos (some k :: ks) (v :: vs) (fCons fk (fCons fv f)) := fun pins s σ H A ρ S ws S' I er so e => by
  unfold fCons at e
  split at e
  · rename_i w1 S1 h1
    split at e
    · rename_i w2 S2 h2
      cases e
      split at h2
      · rename_i w3 S3 h3
        split at h2
        · rename_i w4 S4 h4
          cases h2
          refine pairTrees_cons_walk (thn (hk pins s σ H (EndV X.w X.K A H S1 w1) I ⟨A, ρ, S, _, _, er, so, h1, fun _ _ z => z⟩) fun u s1 ⟨x, H1, I1, r1, A1, e1, o1, z1⟩ =>
            thn (hv pins s1 σ H1 (EndV X.w X.K A1 H1 S3 w3) I1 ⟨A1, ρ, S1, _, _, er.mono e1, o1, h3, fun _ _ z => z⟩) fun u2 s2 ⟨x2, H2, I2, r2, A2, e2, o2, z2⟩ =>
            thn (hr pins s2 σ H2 A2 ρ S3 _ _ I2 (er.mono (e1.trans e2)) o2 h4) fun vs' s3 ⟨ps, H3, I3, rel, A3, e3, o3, z3⟩ => ?_)
          exact ⟨(x, x2) :: ps, H3, I3, .cons ⟨r1, r2⟩ rel, A3, e1.trans (e2.trans e3), o3, .cons (z1.mono (e2.trans e3)) (z2.mono e3) z3⟩
        · cases h2
      · cases h2
    · cases e
  · cases e
theorem disp_loop {r : Nat} {d : Addr} {E : Value → Shared → Prop} (hu : X.A.units + 10 < cLine) : ∀ (vs : List (Value × Value)) (ps : List (V × V)) (ws : List W) (kvs kvs' : List (T × W)) (s : Shared) (H : Hp) (S : Store) (Q : PUnit → Shared → Prop),
    Inv X pins σ H s → StoreOk X.w X.K A H S → rdDm S r = some kvs → A[r]? = some d → RelP X.K A H ws ps → VV ps vs → putAll kvs ws = some kvs' → kvs.length + vs.length ≤ 30 →
    (∀ s' H', Inv X pins σ H' s' → Ext X.K A H A H' → StoreOk X.w X.K A H' (S.set r (.dic kvs')) → Q PUnit.unit s') →
    wpAny (model X.prog X.w) X.A (forIn vs PUnit.unit fun (x : Value × Value) (_ : PUnit) => (do dictSet d x.1 x.2; pure (ForInStep.yield PUnit.unit) : Sem (ForInStep PUnit))) Q E s
  | [], _, _, kvs, kvs', s, H, S, Q, I, so, hr, ea, rp, vv, e, hl, hq => by
    cases vv
    cases rp
    cases e
    rw [List.forIn_nil]
    refine wpAny_pure (hq s H I .refl ?_)
    have hS := rdDm_eq hr
    have : S.set r (.dic kvs) = S := by
      apply List.ext_getElem?
      intro j
      rw [List.getElem?_set]
      split
      · rename_i e; subst e
        split
        · exact hS.symm
        · rename_i h; exact absurd (List.getElem?_eq_some_iff.mp hS).1 h
      · rfl
    rw [this]; exact so
  | (ku, vu) :: vs, _, _, kvs, kvs', s, H, S, Q, I, so, hr, ea, rp, vv, e, hl, hq => by
    cases vv with
    | cons hv vv2 =>
      cases rp with
      | @cons wk wv va vb ws2 ps2 rk rv' rp2 =>
        simp only [putAll] at e
        split at e
        · rename_i t ht
          rw [List.forIn_cons]
          obtain ⟨xs, hH, kr⟩ := rdDm_at so hr ea
          have dd0 := dic_get I (.inl hH)
          have dd := dd0.dict I kr
          obtain ⟨bk, e1, e2, rkk⟩ := key_ref ht rk hv.1
          have e2 : ku = Value.ref bk := e2
          subst e2
          obtain ⟨q1, q2, q3⟩ := keyW_spec ht
          rw [List.length_cons] at hl
          have hz : xs.length ≤ sizeLine := dd0.1
          refine wpAny_bind (wpAny_bind (wpAny_dictSet_heap (hsz := hz) (show X.A.units + keyLim < cLine by unfold keyLim; omega) (is_key I rkk q3) dd fun h' dd' hs => wpAny_pure ?_))
          have kr' := kr.put q2 q3 rkk rv' hv.2
          have hz' : (storedH xs t bk vu).length ≤ sizeLine := by
            rw [← kr'.length]
            have h2 := length_putT kvs t wv
            rw [sizeLine_eq]
            omega
          have dn : DicAt X.w d (storedH xs t bk vu) h' := .of hz' dd0.2.1 dd'
          obtain ⟨so', ex⟩ := so.writeO (rdDm_eq hr) rfl ea (u := dicO X.w d (storedH xs t bk vu)) (n := .dic (putT kvs t wv)) ⟨_, upd_same, kr'.mono (ext_upd (.ext hH))⟩
          have I' : Inv X pins σ (upd H d (dicO X.w d (storedH xs t bk vu))) { s with heap := h', toks := s.toks + (treeKind X.prog X.w).draws t } := d_write I (by rw [hH]; exact True.intro) hs (let ⟨q, _, _, hq, _⟩ := dd'; ⟨q, hq⟩) dn.ok
          have hl' : (S.set r (.dic (putT kvs t wv)))[r]? = some (.dic (putT kvs t wv)) := by
            rw [List.getElem?_set, if_pos rfl, if_pos (List.getElem?_eq_some_iff.mp (rdDm_eq hr)).1]
          refine disp_loop hu vs _ _ (putT kvs t wv) kvs' _ _ _ Q I' so' (by unfold rdDm; rw [hl']) ea (rp2.mono ex) vv2 e (by have := length_putT kvs t wv; omega) fun s' H' I2 ex2 so2 => ?_
          rw [List.set_set] at so2
          exact hq s' H' I2 (ex.trans ex2) so2
        · cases e
theorem ge_dnew {pos : Pos} : GE X (.Dict [] [] pos) fDNew := fun pins s σ H Q I ⟨A, ρ, S, w, S', er, so, e, hq⟩ => by
  cases e
  have hn := I.hok.fresh (Nat.le_refl s.heap.objs.size)
  have dn : DicAt X.w s.heap.objs.size [] (s.heap.push { cls := .type "dict", data := .dict #[] }) := ⟨Nat.zero_le _, beq_eq_false_iff_ne.mpr (Ne.symm (Nat.ne_of_lt I.big)), List.nodup_nil, _, #[], 0, Heap.get?_push_size _ rfl, ⟨rfl, rfl, rfl⟩, rfl, rfl⟩
  refine wpAny_Dict_empty ⟨.ref s.heap.objs.size, _, I.laid (a := s.heap.objs.size) (o := dicO X.w s.heap.objs.size []) (t' := s.toks) (fun _ _ q => Heap.get?_push_of_some _ q) (Nat.le_refl _) dn.ok, rfl, hq _ _ ⟨A ++ [s.heap.objs.size], ext_push hn, so.pushO hn ⟨[], upd_same, .nil⟩, .ref ?_⟩⟩
  rw [← so.len]; simp
theorem ge_disp {pos : Pos} {keys : List (Option Expr)} {values : List Expr} {f : FA} (hu : X.A.units + 10 < cLine) (h : GPs X pos keys values f) (hall : keys.all (·.isSome) = true) (hl : keys.length = values.length) (h0 : keys ≠ []) (h15 : keys.length ≤ 15) : GE X (.Dict keys values pos) (fDisp f) := by
  intro pins s σ H Q I ⟨A, ρ, S, w, S', er, so, e, hq⟩
  unfold fDisp at e
  split at e
  · rename_i ws S1 h1
    split at e
    · rename_i hS1
      split at e
      · rename_i kvs hp
        cases e
        have hn := I.hok.fresh (Nat.le_refl s.heap.objs.size)
        have dn : DicAt X.w s.heap.objs.size [] (s.heap.push { cls := .type "dict", data := .dict #[] }) := ⟨Nat.zero_le _, beq_eq_false_iff_ne.mpr (Ne.symm (Nat.ne_of_lt I.big)), List.nodup_nil, _, #[], 0, Heap.get?_push_size _ rfl, ⟨rfl, rfl, rfl⟩, rfl, rfl⟩
        have I1 := I.laid (a := s.heap.objs.size) (o := dicO X.w s.heap.objs.size []) (h' := s.heap.push { cls := .type "dict", data := .dict #[] }) (t' := s.toks) (fun _ _ q => Heap.get?_push_of_some _ q) (Nat.le_refl _) dn.ok
        have ex0 : Ext X.K A H (A ++ [s.heap.objs.size]) (upd H s.heap.objs.size (dicO X.w s.heap.objs.size [])) := ext_push hn
        have so0 : StoreOk X.w X.K (A ++ [s.heap.objs.size]) (upd H s.heap.objs.size (dicO X.w s.heap.objs.size [])) (S ++ [.dic []]) := so.pushO hn ⟨[], upd_same, .nil⟩
        have hlen := pairTrees_length keys values X.env pos hall hl
        have hne : pairTrees keys values X.env pos ≠ [] := fun he => by
          rw [he] at hlen
          exact h0 (List.length_eq_zero_iff.mp hlen.symm)
        rw [arm_eval_Dict, zip_pairTrees keys values X.env pos hall hl, dictDisplay_pairs _ hne (by omega)]
        refine wpAny_bind (wpAny_standAt (wpAny_bind ?_))
        unfold subDict
        refine wpAny_bind (wpAny_alloc ?_)
        refine wpAny_bind (wpAny_holding ?_)
        rw [if_pos (by omega)]
        refine wpAny_bind (wpAny_mono (wpAny_evalPairs_len (h pins _ σ _ _ ρ _ _ _ I1 (er.mono ex0) so0 h1)) (fun vs s₁ h₁ => ?_) fun _ _ e => e)
        obtain ⟨hvl, ps, H2, I2, vv, A2, ex2, so2, rp⟩ := h₁
        refine wpAny_holding ?_
        have ea : A2[S.length]? = some s.heap.objs.size := ex2.ad _ _ (by rw [← so.len]; simp)
        refine wpAny_bind (disp_loop hu vs ps ws [] kvs s₁ H2 S1 _ I2 so2 (by unfold rdDm; rw [hS1]) ea rp vv hp (by rw [List.length_nil]; omega) fun s' H' I3 ex3 so3 => ?_)
        exact wpAny_pure (wpAny_pure (wpAny_pure ⟨.ref s.heap.objs.size, H', I3, rfl, hq _ _ ⟨A2, ex0.trans (ex2.trans ex3), so3, .ref ea⟩⟩))
      · cases e
    · cases e
  · cases e
end
end Mi
set_option Elab.async false
set_option linter.all false
set_option maxRecDepth 100000
namespace Mi
open PySem PySem.Spec PyProof.Rows L2
noncomputable def ItD (wd : World) (a : Addr) (o : Obj) (xs : List (T × Addr × Value)) : It :=
  ⟨fun i H => H a = some (.frz o (dicO wd a xs)) ∧ i < xs.length, fun i H x H' => H' = H ∧ ∃ q, xs[i]? = some q ∧ x = .ref q.2.1, fun i H => H a = some (.frz o (dicO wd a xs)) ∧ xs.length ≤ i⟩
theorem turn_dict {P : Program} {w : World} {K : PySem.W.Frag} {tg : Expr} (a it : Addr) {o : Obj} {es : Array DictEntry} {ep : Nat} {xs : List (T × Addr × Value)} (hx : o.ExactDict) (hd : o.data = .dict es ep) (he : es.toList = xs.map (entT w)) :
    Turn P w K tg (ItD w a o xs) [it] it (fun i h => h.IsKeyIter it a i es.size ep) where
  mem := by simp
  obj := fun i h st b hb => by
    have e : b = it := by simpa using hb
    subst e
    obtain ⟨o, e, c, d⟩ := st
    exact ⟨o, e, fun v z => by rw [d] at z; cases z⟩
  keep := fun i h h' st k => st.at fun o e => k it (by simp) o e
  item := by
    intro X hP hw hK hc i pins s σ H E I hf st hg
    subst hP hw hK
    obtain ⟨hH, hi⟩ := hg
    have ho : s.heap.get? a = some o := (show ObjOk X.prog X.w H s.heap a (.frz o (dicO X.w a xs)) from I.hok a _ hH).1
    have hl : es.size = xs.length := by rw [← Array.length_toList, he, List.length_map]
    have hi' : i < es.size := by omega
    obtain ⟨f0, f1, f2, f3, f4, f5⟩ := hf it (by simp)
    have hk : es[i].key = .ref (xs[i]).2.1 := by
      have : es.toList[i]? = some (entT X.w xs[i]) := by rw [he, List.getElem?_map, List.getElem?_eq_getElem hi]; rfl
      rw [Array.getElem?_toList, Array.getElem?_eq_getElem hi'] at this
      have := Option.some.inj this
      rw [this]; rfl
    refine raw_next st ⟨o, ho, hx, hd⟩ hi' fun h' st' sb => ?_
    have I1 : Inv X pins σ H { s with heap := h' } := I.turned (t' := s.toks) (fun b o hb e => (sb.2 b hb).trans e) f0 f1 f3 f4 f5
    obtain ⟨o', e, c, d⟩ := id st'
    exact ⟨_, rfl, go_of (s := { s with heap := h' }) e c d (by decide) ⟨.ref (xs[i]).2.1, H, I1, hk, ⟨rfl, xs[i], List.getElem?_eq_getElem hi, rfl⟩, st', fun b hb => (hf b hb).1⟩⟩
  done := by
    intro X hP hw hK hc i pins s σ H E I hf st hg
    subst hP hw hK
    obtain ⟨hH, hi⟩ := hg
    have ho : s.heap.get? a = some o := (show ObjOk X.prog X.w H s.heap a (.frz o (dicO X.w a xs)) from I.hok a _ hH).1
    have hl : es.size = xs.length := by rw [← Array.length_toList, he, List.length_map]
    obtain ⟨f0, f1, f2, f3, f4, f5⟩ := hf it (by simp)
    exact raw_end (I.ok.hd hc) st ⟨o, ho, hx, hd⟩ (by omega) fun h' eb => ⟨rfl, I.turned (t' := s.toks) (fun b o hb e => eb b o hb e) f0 f1 f3 f4 f5⟩
  self := fun _ _ _ _ _ st h => wpAny_pyIter_keyiter st h
noncomputable def iSeqX (f : FE) : FI := fun ρ S => match f ρ S with
  | some (.tup ws, S1) => some (.its ws, S1)
  | some (.ref r, S1) => match rdL S1 r with
    | some _ => some (.live r, S1)
    | none => match rdD S1 r with
      | some kvs => some (.its (kvs.map fun p => p.1.w), S1.set r (.frd kvs))
      | none => none
  | _ => none
section
variable {X : Cx} {pins : List (Addr × Obj)} {σ : L2.St} {H : Hp} {s : Shared} {A : List Addr} {S : Store}
theorem mit_dict {a : Addr} {o : Obj} {kvs : List (T × W)} {xs : List (T × Addr × Value)} (hH : H a = some (.frz o (dicO X.w a xs))) (kr : KRel X.K A H kvs xs) : MIt X.w X.K (.its (kvs.map fun p => p.1.w)) (ItD X.w a o xs) A H := by
  refine ⟨fun A' H' S i w e so hi => ?_, fun A' H' S i e so hi => ?_⟩
  · simp only [MI.at, Option.some.injEq] at hi
    obtain ⟨v, h1, h2⟩ := ((kr.mono e).keysL).get hi
    rw [List.getElem?_map, Option.map_eq_some_iff] at h1
    obtain ⟨q, q1, q2⟩ := h1
    refine ⟨⟨e.fz _ _ _ hH, (List.getElem?_eq_some_iff.mp q1).1⟩, fun x H2 ⟨z1, q', z2, z3⟩ => ?_⟩
    subst z1 z3
    rw [q1] at z2; cases z2
    exact ⟨.refl, so, by rw [q2]; exact h2⟩
  · simp only [MI.at, Option.some.injEq] at hi
    refine ⟨e.fz _ _ _ hH, ?_⟩
    have := List.getElem?_eq_none_iff.mp hi
    rw [List.length_map, kr.length] at this
    exact this
theorem gi_seqX {tg l : Expr} {f : FE} (h : GE X l f) : GI X tg l (iSeqX f) := by
  intro pins s σ H R I ⟨A, ρ, S, mi, S', er, so, e, hq⟩
  by_cases hd : ∃ r S1 kvs, f ρ S = some (.ref r, S1) ∧ rdL S1 r = none ∧ rdD S1 r = some kvs
  · obtain ⟨r, S1, kvs, h1, h2, h3⟩ := hd
    simp only [iSeqX, h1, h2, h3] at e
    cases e
    refine thn (h pins s σ H (EndV X.w X.K A H S1 (.ref r)) I ⟨A, ρ, S, _, _, er, so, h1, fun _ _ z => z⟩) fun v s1 ⟨x, H1, I1, r1, A1, e1, o1, z1⟩ => ?_
    cases z1 with
    | @ref _ a ea =>
      obtain rfl : v = Value.ref a := r1
      have fz : ∃ o xs H2, Inv X pins σ H2 s1 ∧ Ext X.K A1 H1 A1 H2 ∧ StoreOk X.w X.K A1 H2 (S1.set r (.frd kvs)) ∧ H2 a = some (.frz o (dicO X.w a xs)) ∧ KRel X.K A1 H2 kvs xs := by
        unfold rdD at h3
        split at h3
        · rename_i k hk
          cases h3
          obtain ⟨xs, hH, kr⟩ := o1.obj r _ a hk ea
          have d := dic_get I1 (.inl hH)
          obtain ⟨_, _, _, o, es, ep, q1, q2, q3, q4⟩ := id d
          obtain ⟨so', ex⟩ := o1.writeO hk rfl ea (u := .frz o (dicO X.w a xs)) (n := .frd kvs) ⟨o, xs, upd_same, kr.mono (ext_upd (.ext hH))⟩
          exact ⟨o, xs, _, d_write (h' := s1.heap) (t' := s1.toks) (ob := .frz o (dicO X.w a xs)) I1 (by rw [hH]; exact True.intro) (Heap.SameBut.refl _ _) ⟨o, q1⟩ ⟨q1, d.ok⟩, ex, so', upd_same, kr.mono ex⟩
        · rename_i k hk
          cases h3
          obtain ⟨o, xs, hH, kr⟩ := o1.obj r _ a hk ea
          have : S1.set r (.frd kvs) = S1 := by
            apply List.ext_getElem?
            intro j
            rw [List.getElem?_set]
            split
            · rename_i e; subst e
              split
              · exact hk.symm
              · rename_i h; exact absurd (List.getElem?_eq_some_iff.mp hk).1 h
            · rfl
          rw [this]
          exact ⟨o, xs, H1, I1, .refl, o1, hH, kr⟩
        · cases h3
      obtain ⟨o, xs, H2, I2, ex, so2, hH, kr⟩ := fz
      have d := dic_get I2 (.inr ⟨o, hH⟩)
      have ho : s1.heap.get? a = some o := (show ObjOk X.prog X.w H2 s1.heap a (.frz o (dicO X.w a xs)) from I2.hok a _ hH).1
      obtain ⟨_, hsm, _, o', es, ep, q1, q2, q3, q4⟩ := id d
      rw [ho] at q1
      cases q1
      refine raw_iter hsm ⟨o, ho, q2, q3⟩ ?_
      refine ⟨s1.heap.objs.size, [s1.heap.objs.size], _, _, H2, rfl, I2.kept (t' := s1.toks) fun b o e => Heap.get?_push_of_some _ e, turn_dict a _ q2 q3 q4, ⟨_, Heap.get?_push_size _ rfl, rfl, rfl⟩, fun b hb => ?_, hq _ _ A1 (e1.trans ex) so2 (mit_dict hH kr)⟩
      have e : b = s1.heap.objs.size := by simpa using hb
      subst e
      exact I2.fpOk (Nat.le_refl _) (I2.hok.fresh (Nat.le_refl _))
  · have : iSeqX f ρ S = iSeq f ρ S := by
      unfold iSeqX iSeq
      cases hf : f ρ S with
      | none => rfl
      | some p =>
        obtain ⟨w, S1⟩ := p
        cases w with
        | ref r =>
          cases h2 : rdL S1 r with
          | some _ => simp only [h2]
          | none =>
            cases h3 : rdD S1 r with
            | none => simp only [h2, h3]
            | some kvs => exact absurd ⟨r, S1, kvs, hf, h2, h3⟩ hd
        | _ => rfl
    rw [this] at e
    exact gi_seq h pins s σ H R I ⟨A, ρ, S, mi, S', er, so, e, hq⟩
end
end Mi
set_option Elab.async false
set_option linter.all false
set_option maxRecDepth 100000
namespace Mi
open PySem PySem.Spec PyProof.Rows L2
noncomputable def fCollect (mi : MI) (g : FG) (c : FT) (f : FE) : Nat → Nat → Fm → Store → Option (List W × Store)
  | 0, i, _, S => match mi.at S i with
    | some none => some ([], S)
    | _ => none
  | n + 1, i, ρ, S => match mi.at S i with
    | some (some w) => match g w ρ S with
      | some (ρ1, S1) => match c ρ1 S1 with
        | some (true, S2) => match f ρ1 S2 with
          | some (y, S3) => match fCollect mi g c f n (i + 1) ρ1 S3 with
            | some (ys, S4) => some (y :: ys, S4)
            | none => none
          | none => none
        | some (false, S2) => fCollect mi g c f n (i + 1) ρ1 S2
        | none => none
      | none => none
    | _ => none
noncomputable def capF (cap : List (Option Nat)) (ρ : Fm) : Fm := cap.map fun o => match o with
  | some j => (ρ[j]?).join
  | none => none
noncomputable def fComp (fi : FI) (g : FG) (c : FT) (f : FE) (cap : List (Option Nat)) : FE := fun ρ S => match fi ρ S with
  | some (mi, S1) => match mi.len S1 with
    | some n => match fCollect mi g c f n 0 (capF cap ρ) S1 with
      | some (ys, S2) => newL S2 ys
      | none => none
    | none => none
  | none => none
noncomputable def fTrue : FT := fun _ S => some (true, S)
noncomputable def cxB (X : Cx) (scope : Scope) (cl : List (Str × Addr)) (C : Addr) (N : List Str) (s0 : Shared) (H0 : Hp) (ex : List Addr) : Cx :=
  { X with env := compEnvC scope cl C X.env, N := N, s₀ := s0, H₀ := H0, outer := X.stack, stack := X.stack, ex := ex, fn := fun _ => false, pn := [], xe := fun _ _ => False }
structure CompOk (X : Cx) (scope : Scope) (cl : List (Str × Addr)) (N : List Str) (cap : List (Option Nat)) : Prop where
  clos : closureFor scope X.env = pure cl
  kind : scope.kind = .function
  names : ∀ y ∈ scope.names, y.2 = .local → scope.names.lookup y.1 = some .local
  nocell : ∀ y ∈ scope.names, y.2 ≠ .cell
  sub : ∀ x c, cl.lookup x = some c → X.env.cells.lookup x = some c
  has : ∀ x, ((relabel scope X.env).names.lookup x = some .cell ∨ (relabel scope X.env).names.lookup x = some .free) → ∃ c, cl.lookup x = some c
  len : cap.length = N.length
  cap : ∀ (i j : Nat) (x : Str), cap[i]? = some (some j) → N[i]? = some x → X.N[j]? = some x ∧ (X.env.kindOf x = some .cell ∨ X.env.kindOf x = some .free) ∧ ((relabel scope X.env).names.lookup x = some .cell ∨ (relabel scope X.env).names.lookup x = some .free)
theorem codeAny_compLoop_go {prog : Program} {w : World} {A : Around} {R : Result → Shared → Prop} {s : Shared} {elt target iter : Expr} {ifs : List Expr} {scope : Scope} {pos : Pos} {it acc : Value} {env : Env} (I : Nat → Shared → Prop)
    (turn : ∀ n s, I n s → wpAny (model prog w) A (pyNext it) (fun r s₁ => match r with
      | none => R (.ok .next) s₁
      | some v => wpAny (model prog w) A (letOwnedTupleGo target it v) (fun _ s₁ => wpAny (model prog w) A (assign target env v) (fun _ s₂ =>
          wpAny (model prog w) A (forIn ifs true fun c r => if r = true then do let ok ← isTrue c env (eval c env); pure (ForInStep.yield ok) else pure (ForInStep.yield r)) (fun ok s₃ =>
            if ok = true then wpAny (model prog w) A (eval elt env) (fun x s₄ =>
              wpAny (model prog w) A (call (.builtin "list.append") [acc, x]) (fun _ s₅ => ∃ m, m < n ∧ I m s₅) (fun _ _ => False) s₄) (fun _ _ => False) s₃
            else ∃ m, m < n ∧ I m s₃) (fun _ _ => False) s₂) (fun _ _ => False) s₁) (fun _ _ => False) s₁) (fun _ _ => False) s)
    (n : Nat) (h : I n s) :
    codeAny (model prog w) A (.compLoop (.ListComp elt [⟨target, iter, ifs, 0⟩] scope pos) 0 it acc env) R s := by
  refine codeAny_loop rfl I (fun n s hI => ?_) n h
  show wpAny _ A ((compTurn (.ListComp elt [⟨target, iter, ifs, 0⟩] scope pos) 0 it acc env).onRaise (fun x => do noteFrame x env; theTreesLotGoes x)) _ _ s
  refine wpAny_noted ?_
  rw [compTurn_list]
  refine wpAny_bind (wpAny_standAt (wpAny_bind (wpAny_mono (turn n s hI) (fun r s₁ h₁ => ?_) fun _ _ h' => h'.elim)))
  cases r with
  | none => exact wpAny_pure h₁
  | some v =>
    refine wpAny_bind (wpAny_mono h₁ (fun _ s₁ h₁ => ?_) fun _ _ h' => h'.elim)
    refine wpAny_bind (wpAny_mono h₁ (fun _ s₂ h₂ => wpAny_bind (wpAny_mono h₂ (fun ok s₃ h₃ => ?_) fun _ _ h' => h'.elim)) fun _ _ h' => h'.elim)
    cases ok with
    | false => exact wpAny_pure ⟨rfl, h₃⟩
    | true =>
      exact wpAny_bind (wpAny_bind (wpAny_mono h₃ (fun x s₄ h₄ => wpAny_bind (wpAny_mono h₄ (fun _ s₅ h₅ => wpAny_pure (wpAny_pure ⟨rfl, h₅⟩)) fun _ _ h' => h'.elim)) fun _ _ h' => h'.elim))
section
variable {X : Cx} {pins : List (Addr × Obj)} {σ : L2.St} {H : Hp} {s : Shared}
theorem Inv.adopt {D : Addr} {o : HO} (I : Inv X pins σ H s) (hn : H D = none) (h1 : D ∈ X.ex ∨ X.s₀.heap.objs.size ≤ D) (hL : D ≠ X.env.locals) (h2 : ∀ x c, X.env.cells.lookup x = some c → c ≠ D) (h3 : ∀ p ∈ X.pn ++ pins, p.1 ≠ D)
    (new : ObjOk X.prog X.w (upd H D o) s.heap D o) : Inv X pins σ (upd H D o) s := by
  have nit : ∀ b u, H b = some u → b ≠ D := fun b u e z => by rw [z, hn] at e; cases e
  have key : Inv X pins σ (upd H D o) { s with heap := s.heap, gens := s.gens, drawn := s.drawn, toks := s.toks } := by
    refine I.step (g' := s.gens) (d' := s.drawn) (t' := s.toks) (h' := s.heap) (ch := [D]) (fun b hb => ?_) (fun b o _ _ hc e _ => e) (fun b o _ _ hc e _ => ⟨o.slots, e⟩) (fun b o hc e n => ?_)
      (fun b o hc e => ⟨o, e⟩) (fun b xs e => ?_) (fun b o xs e => ?_) (fun b ps e => ⟨#[], ?_⟩) (fun m hm => hm) (fun b u e => ?_) I.bare
    · have e : b = D := by simpa using hb
      subst e
      exact ⟨h1, hL, h2, h3⟩
    · rw [upd_ne (fun z => hc (by simp [z]))]; exact n
    · rw [upd_ne (nit b _ e)]; exact e
    · rw [upd_ne (nit b _ e)]; exact e
    · rw [upd_ne (nit b _ e), e]; simp
    · by_cases hb : b = D
      · subst hb; rw [upd_same] at e; cases e; exact new
      · rw [upd_ne hb] at e
        refine (I.hok b u e).stay (fun c v hc q => q) (fun c q => ?_) fun c xs q => ?_
        · rw [upd_ne (nit c _ q)]; exact q
        · rw [upd_ne (nit c _ q)]; exact q
  exact key
theorem cxB_ok {scope : Scope} {cl : List (Str × Addr)} {N : List Str} {cap : List (Option Nat)} {C : Addr} {s0 : Shared} {ex : List Addr} (I : Inv X pins σ H s) (ck : CompOk X scope cl N cap) (hs : s.heap.objs.size ≤ s0.heap.objs.size) (hC : s0.heap.objs.size ≤ C)
    (hk : ∀ b o, s.heap.get? b = some o → s0.heap.get? b = some o) (hex : ∀ b ∈ ex, (b ≠ C) ∧ (∀ x c, X.env.cells.lookup x = some c → c ≠ b) ∧ (∀ o, X.base.get? b ≠ some o) ∧ b ∉ frs X.stack) :
    (cxB X scope cl C N s0 H ex).Ok where
  mod := I.ok.mod
  kind := ck.kind
  glob := I.ok.glob
  blt := I.ok.blt
  above := hC
  inj := fun x y c h1 h2 => I.ok.inj x y c (ck.sub x c h1) (ck.sub y c h2)
  has := fun x h => ck.has x h
  cab := fun x c h => by cases h
  hd := I.ok.hd
  frames := I.ok.frames
  stk := .inl rfl
  exf := fun b hb => ⟨(hex b hb).1, fun x c h => (hex b hb).2.1 x c (ck.sub x c h)⟩
  bs := fun b o e => ⟨hk b o (I.bk b o e), (I.bs b o e).2⟩
  bsz := Nat.le_trans (Nat.le_trans I.ok.bsz I.sz) hs
  noex := fun b o e hb => (hex b hb).2.2.1 o e
  exfs := fun b hb => (hex b hb).2.2.2
  funs := I.stack.of_keeps fun b o e _ => ⟨o, hk b o e, rfl⟩
  frf := I.stkFree
structure BlockOk (X : Cx) (scope : Scope) (cl : List (Str × Addr)) (N : List Str) (tg elt : Expr) (ifs : List Expr) (g : FG) (c : FT) (f : FE) : Prop where
  tgt : ∀ C s0 H0 ex, GG (cxB X scope cl C N s0 H0 ex) tg g
  tst : ∀ C s0 H0 ex pins s σ H Q, Inv (cxB X scope cl C N s0 H0 ex) pins σ H s → tT (cxB X scope cl C N s0 H0 ex) c σ H Q →
    wpAny (model X.prog X.w) X.A (forIn ifs true fun c r => if r = true then do let ok ← isTrue c (compEnvC scope cl C X.env) (eval c (compEnvC scope cl C X.env)); pure (ForInStep.yield ok) else pure (ForInStep.yield r)) (TP (cxB X scope cl C N s0 H0 ex) pins σ Q) (fun _ _ => False) s
  elt : ∀ C s0 H0 ex, GE (cxB X scope cl C N s0 H0 ex) elt f
theorem append_plain {prog : Program} {w : World} {B : Around} {s : Shared} {E : Value → Shared → Prop} {Q : Value → Shared → Prop} {D : Addr} {its : List Value} {n : Nat} {u : Value} (e : s.heap.get? D = some { cls := .type "list", data := .seq its.toArray n }) (hz : its.length < sizeLine)
    (h : ∀ h' n', h'.get? D = some { cls := .type "list", data := .seq (its ++ [u]).toArray n' } → (∀ b o, b ≠ D → s.heap.get? b = some o → h'.get? b = some o) → Q .none { s with heap := h' }) :
    wpAny (model prog w) B (call (.builtin "list.append") [.ref D, u]) Q E s := by
  refine call_meets F.slot_list_append ⟨_, e, rfl⟩ F.entry_list_append (F.args_list_append_2 _ _) (PySem.list_append D its.toArray n u (by rw [List.size_toArray]; omega)) ⟨e, ?_⟩
  have q := PySem.IsL.update e (fun a => a.push u)
  have e2 : its.toArray.push u = (its ++ [u]).toArray := by simp
  rw [e2] at q
  exact h _ _ q (fun b o hb ho => (Heap.get?_update_other s.heap (Obj.mapSeq fun a => a.push u) (Ne.symm hb)).trans ho)
theorem comp_core {scope : Scope} {cl : List (Str × Addr)} {N : List Str} {cap : List (Option Nat)} {tg elt iter : Expr} {ifs : List Expr} {g : FG} {c : FT} {f : FE} {pos : Pos} {A : List Addr} {ρ : Fm} {S S' : Store} {mi : MI} {n : Nat} {ws : List W} {E : Value → Shared → Prop}
    {it : Addr} {fp : List Addr} {tn : Nat → Heap → Prop} {J : It} {RR : Value → Addr → Result → Shared → Prop}
    (I : Inv X pins σ H s) (hc : X.calm = true) (er : EnvRel X.K A H ρ σ) (so : StoreOk X.w X.K A H S) (ck : CompOk X scope cl N cap) (bk : BlockOk X scope cl N tg elt ifs g c f)
    (T : Turn X.prog X.w X.K tg J fp it tn) (t0 : tn 0 s.heap) (hfp : ∀ b ∈ fp, FpOk X pins H b) (mit : MIt X.w X.K mi J A H) (e : fCollect mi g c f n 0 (capF cap ρ) S = some (ws, S')) (hz : ws.length ≤ sizeLine)
    (fin : ∀ D C s' H' A' vs m, s'.heap.Ns C m → H' D = none → D ≠ C → C ≠ X.env.locals → C ∉ X.fs → H' C = none → X.s₀.heap.objs.size ≤ C → (∀ x c, X.env.cells.lookup x = some c → c ≠ C) → (∀ p ∈ X.pn ++ pins, p.1 ≠ C) →
      Inv X pins σ (upd H' D (.lst vs)) s' → Ext X.K A H A' H' → StoreOk X.w X.K A' H' S' → RelL X.K A' H' ws vs → RR (.ref D) C (.ok .next) s') :
    wpAny (model X.prog X.w) X.A (newList []) (fun acc s₃ => wpAny (model X.prog X.w) X.A (newFunctionEnv scope X.env.globals cl [] X.env.qual none .none (some X.env)) (fun cenv s₄ =>
      codeAny (model X.prog X.w) X.A (.compStart (.ListComp elt [⟨tg, iter, ifs, 0⟩] scope pos) 0 (.ref it) acc { cenv with scope := relabel scope X.env }) (RR acc cenv.locals) s₄) E s₃) E s := by
  refine wpAny_newObj_type (wpAny_newFunctionEnv ck.nocell (by intro y hy; simp at hy) (fun h₁ hns₁ hsb₁ => ?_) ck.kind)
  dsimp only at hns₁ hsb₁ ⊢
  generalize hH2 : s.heap.push { cls := .type "list", dict := none, data := .seq ([] : List Value).toArray } = h2 at hns₁ hsb₁ ⊢
  have hCs : h2.objs.size = s.heap.objs.size + 1 := by rw [← hH2, Heap.size_push]
  have k2 : ∀ b o, s.heap.get? b = some o → h2.get? b = some o := fun b o z => hH2 ▸ Heap.get?_push_of_some _ z
  have lt2 : ∀ b o, h2.get? b = some o → b < h2.objs.size := fun b o z => Heap.lt_size z
  have k1 : ∀ b o, h2.get? b = some o → h₁.get? b = some o := fun b o z => hsb₁.extBut b o (Nat.ne_of_lt (lt2 b o z)) (Heap.get?_push_of_some _ z)
  have hD2 : h2.get? s.heap.objs.size = some { cls := .type "list", data := .seq ([] : List Value).toArray } := hH2 ▸ Heap.get?_push_size _ rfl
  have hDC : s.heap.objs.size ≠ h2.objs.size := by rw [hCs]; omega
  have fresh : ∀ a, s.heap.objs.size ≤ a → H a = none := fun a ha => I.hok.fresh ha
  have cellLt : ∀ x c, X.env.cells.lookup x = some c → c < s.heap.objs.size := fun x c z => let ⟨_, q⟩ := I.cell x c z; q.lt
  have fpLt : ∀ b ∈ fp, b < s.heap.objs.size := fun b hb => let ⟨_, q, _⟩ := T.obj 0 s.heap t0 b hb; Heap.lt_size q
  have stkLt : ∀ b ∈ frs X.stack, b < s.heap.objs.size := fun b hb => let ⟨_, o, q, _⟩ := I.stack.mem hb; Heap.lt_size q
  have baseLt : ∀ b o, X.base.get? b = some o → b < s.heap.objs.size := fun b o z => Heap.lt_size (I.bk b o z)
  have fpStk : ∀ b ∈ fp, b ∉ frs X.stack := fun b hb z => by
    rcases List.mem_cons.mp (I.stkSub b z) with q | q
    · exact (hfp b hb).2.1 q
    · exact (hfp b hb).2.2.1 q
  have fpBase : ∀ b ∈ fp, ∀ o, X.base.get? b ≠ some o := fun b hb o z => by
    rcases (hfp b hb).2.2.2.1 with q | q
    · exact I.ok.noex b o z q
    · exact absurd (Nat.lt_of_lt_of_le (Heap.lt_size (I.ok.bs b o z).1) q) (Nat.lt_irrefl _)
  have ltC : ∀ {b : Addr}, b < s.heap.objs.size → b ≠ h2.objs.size := fun hb => by rw [hCs]; exact Nat.ne_of_lt (Nat.lt_succ_of_lt hb)
  let s3 : Shared := { s with heap := h2 }
  have ok' : (cxB X scope cl h2.objs.size N s3 H (fp ++ [s.heap.objs.size])).Ok := by
    refine cxB_ok I ck (show s.heap.objs.size ≤ h2.objs.size by rw [hCs]; omega) (Nat.le_refl _) k2 fun b hb => ?_
    rcases List.mem_append.mp hb with hb | hb
    · exact ⟨ltC (fpLt b hb), (hfp b hb).2.2.2.2.1, fpBase b hb, fpStk b hb⟩
    · have eb : b = s.heap.objs.size := by simpa using hb
      subst eb
      exact ⟨hDC, fun x c z => Nat.ne_of_lt (cellLt x c z), fun o z => Nat.lt_irrefl _ (baseLt _ o z), fun z => Nat.lt_irrefl _ (stkLt _ z)⟩
  obtain ⟨m0, hn0, hl0⟩ := I.loc
  have I0 : Inv (cxB X scope cl h2.objs.size N s3 H (fp ++ [s.heap.objs.size])) [] (cap.map fun o => match o with | some j => (σ[j]?).join | none => none) H { s3 with heap := h₁, toks := s3.toks + ([] : List (Str × Value)).length } := by
    refine ⟨ok', rfl, I.bare, Un.kept k1, ⟨_, hns₁, fun i x v e1 e2 e3 => ?_⟩, fun x cc z => ?_, fresh _ (show s.heap.objs.size ≤ h2.objs.size by rw [hCs]; exact Nat.le_succ _), fun x cc z => I.freeC x cc (ck.sub x cc z), fun p hp => absurd hp (by simp [cxB]), (I.hok.kept k2).kept k1, by rw [List.length_map]; exact ck.len⟩
    · rw [List.getElem?_map] at e2
      cases q : cap[i]? with
      | none => rw [q] at e2; cases e2
      | some oj =>
        rw [q] at e2
        cases oj with
        | none => cases e2
        | some j =>
          obtain ⟨z1, z2, z3⟩ := ck.cap i j x q e1
          have e2' : (σ[j]?).join = some v := by simpa using e2
          have e2'' : σ[j]? = some (some v) := by
            cases r : σ[j]? with
            | none => rw [r] at e2'; cases e2'
            | some y => rw [r] at e2'; exact congrArg some e2'
          obtain ⟨u, ru, lk⟩ := hl0 j x v z1 e2'' (by
            rcases z2 with z | z
            · exact .inr (.inl z)
            · exact .inr (.inr z))
          refine ⟨u, ru, ?_⟩
          rcases lk with ⟨zk, _⟩ | ⟨_, cc, zc, zi⟩
          · rcases z2 with z | z <;> (rw [zk] at z; cases z)
          · obtain ⟨c2, hc2⟩ := ck.has x z3
            have := ck.sub x c2 hc2
            rw [zc] at this; cases this
            refine .inr ⟨z3, cc, hc2, ?_⟩
            obtain ⟨o, ho, hd⟩ := zi
            exact ⟨o, k1 _ _ (k2 _ _ ho), hd⟩
    · obtain ⟨v, o, ho, hd⟩ := I.cell x cc (ck.sub x cc z)
      exact ⟨v, o, k1 _ _ (k2 _ _ ho), hd⟩
  have er0 : EnvRel X.K A H (capF cap ρ) (cap.map fun o => match o with | some j => (σ[j]?).join | none => none) := by
    refine ⟨by simp [capF], fun i w q => ?_⟩
    unfold capF at q
    rw [List.getElem?_map] at q ⊢
    cases r : cap[i]? with
    | none => rw [r] at q; cases q
    | some oj =>
      rw [r] at q
      cases oj with
      | none => cases q
      | some j =>
        have q' : (ρ[j]?).join = some w := by simpa using q
        have q'' : ρ[j]? = some (some w) := by
          cases z : ρ[j]? with
          | none => rw [z] at q'; cases q'
          | some y => rw [z] at q'; exact congrArg some q'
        obtain ⟨v, z1, z2⟩ := er.2 j w q''
        exact ⟨v, by simp [z1], z2⟩
  have t1 : tn 0 h₁ := T.keep 0 s.heap h₁ t0 fun b hb o z => k1 b o (k2 b o z)
  have fpOk' : ∀ {H' : Hp} {pp : List (Addr × Obj)}, (∀ b ∈ fp, H' b = none) → (∀ p ∈ pp, p.1 = s.heap.objs.size) → ∀ b ∈ fp, FpOk (cxB X scope cl h2.objs.size N s3 H (fp ++ [s.heap.objs.size])) pp H' b := fun hn hp b hb =>
    ⟨hn b hb, ltC (fpLt b hb), fpStk b hb, .inl (List.mem_append_left _ hb), fun x cc z => (hfp b hb).2.2.2.2.1 x cc (ck.sub x cc z), fun p hpp => by
      rw [hp p (by simpa [cxB] using hpp)]
      exact (Nat.ne_of_lt (fpLt b hb)).symm⟩
  have DinEx : s.heap.objs.size ∈ fp ++ [s.heap.objs.size] := List.mem_append_right _ (by simp)
  have cellD : ∀ x c, cl.lookup x = some c → c ≠ s.heap.objs.size := fun x cc z => Nat.ne_of_lt (cellLt x cc (ck.sub x cc z))
  have fpD : ∀ b ∈ fp, b ≠ s.heap.objs.size := fun b hb => Nat.ne_of_lt (fpLt b hb)
  have theEnd : ∀ s' σ' H' A' vs its nn, Inv (cxB X scope cl h2.objs.size N s3 H (fp ++ [s.heap.objs.size])) [] σ' H' s' → s'.heap.get? s.heap.objs.size = some { cls := .type "list", data := .seq its nn } → ∀ (hits : ∃ l : List Value, its = l.toArray ∧ Vals vs l), H' s.heap.objs.size = none → Ext X.K A H A' H' → StoreOk X.w X.K A' H' S' → RelL X.K A' H' ws vs →
      RR (.ref s.heap.objs.size) h2.objs.size (.ok .next) s' := by
    intro s' σ' H' A' vs its nn I' hD hits hDn ex so' rl
    obtain ⟨l, rfl, rv⟩ := hits
    obtain ⟨m, hn, _⟩ := id I'.loc
    have un : Un (frs X.stack) (fp ++ [s.heap.objs.size]) H H' s.heap s'.heap := (Un.kept k2).trans I'.base
    have hch : ∀ b ∈ fp ++ [s.heap.objs.size], (b ∈ X.ex ∨ X.s₀.heap.objs.size ≤ b) ∧ b ≠ X.env.locals ∧ (∀ x c, X.env.cells.lookup x = some c → c ≠ b) ∧ ∀ p ∈ X.pn ++ pins, p.1 ≠ b := fun b hb => by
      rcases List.mem_append.mp hb with hb | hb
      · exact ⟨(hfp b hb).2.2.2.1, (hfp b hb).2.1, (hfp b hb).2.2.2.2.1, (hfp b hb).2.2.2.2.2⟩
      · have eb : b = s.heap.objs.size := by simpa using hb
        subst eb
        exact ⟨.inr I.sz, (Nat.ne_of_lt I.lt).symm, fun x cc z => Nat.ne_of_lt (cellLt x cc z), fun p hp => Nat.ne_of_lt (Heap.lt_size (I.pin p hp).1)⟩
    have I2 : Inv X pins σ H' s' := I.call' (show s'.os = s.os from I'.os) un I'.hok I'.bare hch
    have I3 : Inv X pins σ (upd H' s.heap.objs.size (.lst vs)) s' := Inv.adopt I2 hDn (hch _ DinEx).1 (hch _ DinEx).2.1 (hch _ DinEx).2.2.1 (hch _ DinEx).2.2.2 ⟨by rw [← rl.length]; exact hz, l, nn, rv, hD⟩
    have hCle : s.heap.objs.size ≤ h2.objs.size := by rw [hCs]; exact Nat.le_succ _
    exact fin _ _ s' H' A' vs m hn hDn hDC (Nat.ne_of_gt (Nat.lt_of_lt_of_le I.lt hCle)) (I.nofs hCle) I'.free (Nat.le_trans I.sz hCle) (fun x cc z => Nat.ne_of_lt (Nat.lt_of_lt_of_le (cellLt x cc z) hCle))
      (fun p hp => Nat.ne_of_lt (Nat.lt_of_lt_of_le (Heap.lt_size (I.pin p hp).1) hCle)) I3 ex so' rl
  have loop : ∀ s4 : Shared, s4 = { s3 with heap := h₁, toks := s3.toks + ([] : List (Str × Value)).length } →
      codeAny (model X.prog X.w) X.A (.compLoop (.ListComp elt [⟨tg, iter, ifs, 0⟩] scope pos) 0 (.ref it) (.ref s.heap.objs.size) (compEnvC scope cl h2.objs.size X.env)) (RR (.ref s.heap.objs.size) h2.objs.size) s4 := by
    rintro s4 rfl
    refine codeAny_compLoop_go (fun k s5 => ∃ i σ5 H5 A5 ρ5 S5 done its nn vs ys, Inv (cxB X scope cl h2.objs.size N s3 H (fp ++ [s.heap.objs.size])) [] σ5 H5 s5 ∧ tn i s5.heap ∧ (∀ b ∈ fp, H5 b = none) ∧ s5.heap.get? s.heap.objs.size = some { cls := .type "list", data := .seq (its : List Value).toArray nn } ∧ H5 s.heap.objs.size = none ∧ Vals vs its ∧
      Ext X.K A H A5 H5 ∧ EnvRel X.K A5 H5 ρ5 σ5 ∧ StoreOk X.w X.K A5 H5 S5 ∧ RelL X.K A5 H5 done vs ∧ ws = done ++ ys ∧ fCollect mi g c f k i ρ5 S5 = some (ys, S')) ?_ n
      ⟨0, _, H, A, _, S, [], [], 0, [], ws, I0, t1, fun b hb => (hfp b hb).1, k1 _ _ hD2, fresh _ (Nat.le_refl _), .nil, .refl, er0, so, .nil, rfl, e⟩
    rintro k s5 ⟨i, σ5, H5, A5, ρ5, S5, done, its, nn, vs, ys, I5, t5, f5, d5, n5, v5, e5, er5, so5, rl5, hw5, w5⟩
    have pinD : Inv (cxB X scope cl h2.objs.size N s3 H (fp ++ [s.heap.objs.size])) [(s.heap.objs.size, { cls := .type "list", data := .seq its.toArray nn })] σ5 H5 s5 := I5.pins_of fun p hp => by
      have hp' : p = (s.heap.objs.size, { cls := .type "list", data := .seq its.toArray nn }) := by simpa using hp
      subst hp'
      exact ⟨d5, n5, hDC, fun z => Nat.lt_irrefl _ (stkLt _ z), fun v z => by cases z⟩
    have oneD : ∀ p ∈ [(s.heap.objs.size, ({ cls := .type "list", data := .seq its.toArray nn } : Obj))], p.1 = s.heap.objs.size := fun p hp => by
      have hp' : p = (s.heap.objs.size, { cls := .type "list", data := .seq its.toArray nn }) := by simpa using hp
      rw [hp']
    cases k with
    | zero =>
      simp only [fCollect] at w5
      split at w5
      · rename_i hst
        cases w5
        rw [List.append_nil] at hw5
        subst hw5
        refine thn (T.done (cxB X scope cl h2.objs.size N s3 H (fp ++ [s.heap.objs.size])) rfl rfl rfl hc i _ s5 σ5 H5 _ pinD (fpOk' f5 oneD) t5 (mit.stop A5 H5 _ i e5 so5 hst)) fun r s6 ⟨hr, I6⟩ => ?_
        subst hr
        have p6 := I6.pin _ (List.mem_append_right _ (List.mem_singleton.mpr rfl))
        exact theEnd s6 σ5 H5 A5 vs _ nn (I6.pins_of fun p hp => absurd hp (by simp)) p6.1 ⟨its, rfl, v5⟩ n5 e5 so5 rl5
      · cases w5
    | succ k =>
      simp only [fCollect] at w5
      split at w5
      · rename_i w hw
        obtain ⟨go, yl⟩ := mit.go A5 H5 S5 i w e5 so5 hw
        refine thn (T.item (cxB X scope cl h2.objs.size N s3 H (fp ++ [s.heap.objs.size])) rfl rfl rfl hc i _ s5 σ5 H5 _ pinD (fpOk' f5 oneD) t5 go) fun r s6 ⟨u, hr, h6⟩ => ?_
        subst hr
        refine thn h6 fun _ s7 ⟨x, H7, I7, r7, y7, t7, f7⟩ => ?_
        obtain ⟨x1, x2, x3⟩ := yl x H7 y7
        have I7' := I7.pinned (fpOk' f7 oneD) (T.obj _ _ t7)
        split at w5
        · rename_i ρ8 S8 h8
          refine thn (bk.tgt _ _ _ _ _ s7 σ5 H7 x u (fun σ' H' => ∃ A', Ext X.K A5 H5 A' H' ∧ StoreOk X.w X.K A' H' S8 ∧ EnvRel X.K A' H' ρ8 σ') I7' r7 ⟨A5, ρ5, S5, w, ρ8, S8, er5.mono x1, x2, x3, h8, fun σ' H' A' q1 q2 q3 => ⟨A', x1.trans q1, q2, q3⟩⟩) fun _ s8 ⟨σ8, H8, I8, A8, e58, so8, er8⟩ => ?_
          have e8 : Ext X.K A H A8 H8 := e5.trans e58
          have pD : ∀ {σ' : L2.St} {H' : Hp} {s' : Shared}, Inv (cxB X scope cl h2.objs.size N s3 H (fp ++ [s.heap.objs.size])) ([(s.heap.objs.size, { cls := .type "list", data := .seq its.toArray nn })] ++ pinsAt fp s7.heap) σ' H' s' → s'.heap.get? s.heap.objs.size = some { cls := .type "list", data := .seq its.toArray nn } ∧ H' s.heap.objs.size = none := fun I' =>
            let q := I'.pin _ (List.mem_append_right _ (List.mem_append_left _ (List.mem_singleton.mpr rfl)))
            ⟨q.1, q.2.1⟩
          have pF : ∀ {σ' : L2.St} {H' : Hp} {s' : Shared}, Inv (cxB X scope cl h2.objs.size N s3 H (fp ++ [s.heap.objs.size])) ([(s.heap.objs.size, { cls := .type "list", data := .seq its.toArray nn })] ++ pinsAt fp s7.heap) σ' H' s' → (∀ b ∈ fp, H' b = none) ∧ ∀ b ∈ fp, ∀ o, s7.heap.get? b = some o → s'.heap.get? b = some o := fun I' =>
            ⟨fun b hb => by
              obtain ⟨o, eo, _⟩ := T.obj _ _ t7 b hb
              exact (I'.pin (b, o) (List.mem_append_right _ (List.mem_append_right _ (mem_pinsAt hb eo)))).2.1,
             fun b hb o eo => (I'.pin (b, o) (List.mem_append_right _ (List.mem_append_right _ (mem_pinsAt hb eo)))).1⟩
          split at w5
          · rename_i S9 h9
            refine thn (bk.tst _ _ _ _ _ s8 σ8 H8 (fun b H' => b = true ∧ ∃ A', Ext X.K A8 H8 A' H' ∧ StoreOk X.w X.K A' H' S9) I8 ⟨A8, ρ8, S8, true, S9, er8, so8, h9, fun b H' ⟨z0, A', z1, z2⟩ => ⟨z0, A', z1, z2⟩⟩) fun b s9 ⟨H9, I9, z0, A9, e9, so9⟩ => ?_
            subst z0
            rw [if_pos rfl]
            split at w5
            · rename_i y S10 h10
              split at w5
              · rename_i ys' S4 h11
                cases w5
                refine thn (bk.elt _ _ _ _ _ s9 σ8 H9 (EndV X.w X.K A9 H9 S10 y) I9 ⟨A9, ρ8, S9, y, S10, er8.mono e9, so9, h10, fun _ _ z => z⟩) fun u10 s10 ⟨v10, H10, I10, r10, A10, e10, so10, rl10⟩ => ?_
                obtain ⟨d10, n10⟩ := pD I10
                obtain ⟨f10, k10⟩ := pF I10
                have hlen : its.length < sizeLine := by
                  have l1 := v5.length
                  have l2 := rl5.length
                  rw [hw5, List.length_append, List.length_cons] at hz
                  omega
                refine append_plain d10 hlen fun h' n' hd' hk' => ?_
                have Ib : Inv (cxB X scope cl h2.objs.size N s3 H (fp ++ [s.heap.objs.size])) [] σ8 H10 { s10 with heap := h' } := by
                  have Ia : Inv (cxB X scope cl h2.objs.size N s3 H (fp ++ [s.heap.objs.size])) [] σ8 H10 s10 := I10.pins_of fun p hp => absurd hp (by simp)
                  exact Ia.turned (t' := s10.toks) (it := s.heap.objs.size) hk' n10 hDC (.inl DinEx) cellD (fun p hp => absurd hp (by simp [cxB]))
                refine ⟨k, Nat.lt_succ_self k, i + 1, σ8, H10, A10, ρ8, S10, done ++ [y], its ++ [u10], n', vs ++ [v10], ys', Ib, ?_, f10, hd', n10, v5.append (.cons r10 .nil), (e8.trans e9).trans e10, (er8.mono e9).mono e10, so10, ?_, ?_, h11⟩
                · exact T.keep (i + 1) s7.heap h' t7 fun b hb o eo => hk' b o (fpD b hb) (k10 b hb o eo)
                · exact (rl5.mono ((e58.trans e9).trans e10)).append (.cons rl10 .nil)
                · rw [hw5, List.append_assoc]; rfl
              · cases w5
            · cases w5
          · rename_i S9 h9
            refine thn (bk.tst _ _ _ _ _ s8 σ8 H8 (fun b H' => b = false ∧ ∃ A', Ext X.K A8 H8 A' H' ∧ StoreOk X.w X.K A' H' S9) I8 ⟨A8, ρ8, S8, false, S9, er8, so8, h9, fun b H' ⟨z0, A', z1, z2⟩ => ⟨z0, A', z1, z2⟩⟩) fun b s9 ⟨H9, I9, z0, A9, e9, so9⟩ => ?_
            subst z0
            rw [if_neg Bool.false_ne_true]
            obtain ⟨d9, n9⟩ := pD I9
            obtain ⟨f9, k9⟩ := pF I9
            refine ⟨k, Nat.lt_succ_self k, i + 1, σ8, H9, A9, ρ8, S9, done, its, nn, vs, ys, I9.pins_of fun p hp => absurd hp (by simp), T.keep (i + 1) s7.heap _ t7 k9, f9, d9, n9, v5, e8.trans e9, er8.mono e9, so9, rl5.mono (e58.trans e9), hw5, w5⟩
          · cases w5
        · cases w5
      · cases w5
  exact codeAny_compStart_list (loop _ rfl) (T.self X.A 0 _ _ _ t1 (loop _ rfl))
theorem fComp_eq {fi : FI} {g : FG} {c : FT} {f : FE} {cap : List (Option Nat)} {ρ : Fm} {S : Store} {w : W} {S' : Store} (e : fComp fi g c f cap ρ S = some (w, S')) :
    ∃ mi S1 n ys S2, fi ρ S = some (mi, S1) ∧ mi.len S1 = some n ∧ fCollect mi g c f n 0 (capF cap ρ) S1 = some (ys, S2) ∧ ys.length ≤ sizeLine ∧ w = .ref S2.length ∧ S' = S2 ++ [.lst ys] := by
  unfold fComp at e
  split at e
  · rename_i mi S1 h1
    split at e
    · rename_i n h2
      split at e
      · rename_i ys S2 h3
        obtain ⟨h4, h5, h6⟩ := newL_eq e
        exact ⟨mi, S1, n, ys, S2, h1, h2, h3, h4, h5, h6⟩
      · cases e
    · cases e
  · cases e
theorem ge_comp {scope : Scope} {N : List Str} {cap : List (Option Nat)} {tg elt iter : Expr} {ifs : List Expr} {fi : FI} {g : FG} {c : FT} {f : FE} {pos : Pos} (hc : X.calm = true) (hi : GI X tg iter fi) (hck : X.Ok → ∃ cl, CompOk X scope cl N cap ∧ BlockOk X scope cl N tg elt ifs g c f)
    (hs : ∀ x, foldedSetIterable iter X.env x = pure x) : GE X (.ListComp elt [⟨tg, iter, ifs, 0⟩] scope pos) (fComp fi g c f cap) := by
  intro pins s σ H Q I ⟨A, ρ, S, w, S', er, so, e, hq⟩
  obtain ⟨mi, S1, n, ys, S2, h1, h2, h3, h4, rfl, rfl⟩ := fComp_eq e
  obtain ⟨cl, ck, bk⟩ := hck I.ok
  rw [eval_ListComp]
  refine wpAny_comprehension_free (use := none) rfl hs ck.clos ck.kind ck.names (thn (hi pins s σ H (fun J H' => ∃ A', Ext X.K A H A' H' ∧ StoreOk X.w X.K A' H' S1 ∧ MIt X.w X.K mi J A' H') I ⟨A, ρ, S, mi, S1, er, so, h1, fun J H' A' z1 z2 z3 => ⟨A', z1, z2, z3⟩⟩) fun v s1 q1 => thn q1 fun itv s2 q2 => ?_)
  obtain ⟨it, fp, tn, J, H2, rfl, I2, T, t0, hfp, A2, e2, so2, mit⟩ := q2
  refine comp_core (RR := fun acc C => compPost (model X.prog X.w) X.A X.xe none (EP X pins σ Q) acc C) I2 hc (er.mono e2) so2 ck bk T t0 hfp mit h3 h4 ?_
  intro D C s' H' A' vs m hn hDn hDC hCL hCf hCn hCs hCc hCp I3 ex so3 rl
  refine ⟨m, hn, fun h' hs' => ?_⟩
  have I4 : Inv X pins σ (upd H' D (.lst vs)) { s' with heap := h' } := I3.turned (t' := s'.toks) (it := C) (fun b o hb eo => hs'.extBut b o hb eo) (by rw [upd_ne (Ne.symm hDC)]; exact hCn) hCL (.inr hCs) hCc hCp
  exact ⟨.ref D, _, I4, rfl, hq _ _ (EndV.after (e2.trans ex) (.lst so3 rl hDn))⟩
theorem gs_setcomp {scope : Scope} {N : List Str} {cap : List (Option Nat)} {tg elt iter : Expr} {ifs : List Expr} {fi : FI} {g : FG} {c : FT} {f : FE} {pos py spos : Pos} {y : Str} {i : Nat} (hc : X.calm = true) (hi : GI X tg iter fi) (hck : X.Ok → ∃ cl, CompOk X scope cl N cap ∧ BlockOk X scope cl N tg elt ifs g c f)
    (hs : ∀ x, foldedSetIterable iter X.env x = pure x) (hsw : swapsWith (.ListComp elt [⟨tg, iter, ifs, 0⟩] scope pos) (some (.Name y py)) spos.line X.env = pure true) (hN : X.N.Nodup) (hy : X.N[i]? = some y) (hl : X.env.scope.names.lookup y = some .local) :
    GS X (.Assign [.Name y py] (.ListComp elt [⟨tg, iter, ifs, 0⟩] scope pos) spos) (fAsg (fComp fi g c f cap) (gNm i)) := by
  intro pins s σ H Dd I ⟨A, ρ, S, o, S', er, so, e, hd⟩
  unfold fAsg at e
  split at e
  · rename_i w S0 h0
    simp only [gNm] at e
    cases e
    obtain ⟨mi, S1, n, ys, S2, h1, h2, h3, h4, rfl, rfl⟩ := fComp_eq h0
    obtain ⟨cl, ck, bk⟩ := hck I.ok
    rw [exec_Assign_Name_used _ _ _ _ hsw]
    refine wpAny_bind (wpAny_standAt (wpAny_bind ?_))
    show wpAny _ X.A (do let _ ← comprehension (.ListComp elt [⟨tg, iter, ifs, 0⟩] scope pos) scope X.env _ (newList []) false (eval iter X.env) (some (assign (.Name y py) X.env))) _ _ s
    refine wpAny_bind (wpAny_mono (wpAny_comprehension_free (use := some (assign (.Name y py) X.env)) (Q := fun _ s' => SP X pins Dd .next s') rfl hs ck.clos ck.kind ck.names
      (thn (hi pins s σ H (fun J H' => ∃ A', Ext X.K A H A' H' ∧ StoreOk X.w X.K A' H' S1 ∧ MIt X.w X.K mi J A' H') I ⟨A, ρ, S, mi, S1, er, so, h1, fun J H' A' z1 z2 z3 => ⟨A', z1, z2, z3⟩⟩) fun v s1 q1 => thn q1 fun itv s2 q2 => ?_)) (fun _ s' hq => wpAny_pure (wpAny_pure hq)) fun _ _ e => e)
    obtain ⟨it, fp, tn, J, H2, rfl, I2, T, t0, hfp, A2, e2, so2, mit⟩ := q2
    refine comp_core (RR := fun acc C => compPost (model X.prog X.w) X.A X.xe (some (assign (.Name y py) X.env)) (fun _ s' => SP X pins Dd .next s') acc C) I2 hc (er.mono e2) so2 ck bk T t0 hfp mit h3 h4 ?_
    intro D C s' H' A' vs m hn hDn hDC hCL hCf hCn hCs hCc hCp I3 ex so3 rl
    obtain ⟨oC, esC, epC, hoC, hdC, hrC⟩ := id hn
    have I3' : Inv X (pins ++ [(C, oC)]) σ (upd H' D (.lst vs)) s' := I3.pins_of fun p hp => by
      rcases List.mem_append.mp hp with hp | hp
      · exact I3.pin p (List.mem_append_right _ hp)
      · have hp' : p = (C, oC) := by simpa using hp
        subst hp'
        exact ⟨hoC, by rw [upd_ne (Ne.symm hDC)]; exact hCn, hCL, hCf, fun v z => by rw [hdC] at z; cases z⟩
    show wpAny _ X.A (assign (.Name y py) X.env (.ref D)) _ _ _
    refine wpAny_assign_Name (store_ok I3' hN hy (.inl hl) (v := .ref D) rfl (fun s4 I4 => ?_) (.inr hl))
    have pC := I4.pin (C, oC) (List.mem_append_right _ (List.mem_append_right _ (List.mem_singleton.mpr rfl)))
    refine ⟨m, ⟨oC, esC, epC, pC.1, hdC, hrC⟩, fun h' hs' => ?_⟩
    have I5 : Inv X pins (σ.set i (some (.ref D))) (upd H' D (.lst vs)) s4 := I4.pins_of fun p hp => I4.pin p (List.mem_append_right _ (List.mem_append_left _ hp))
    have I6 : Inv X pins (σ.set i (some (.ref D))) (upd H' D (.lst vs)) { s4 with heap := h' } := I5.turned (t' := s4.toks) (it := C) (fun b o hb eo => hs'.extBut b o hb eo) (by rw [upd_ne (Ne.symm hDC)]; exact hCn) hCL (.inr hCs) hCc hCp
    obtain ⟨Af, f1, f2, f3⟩ := EndV.after (e2.trans ex) (EndV.lst so3 rl hDn)
    exact ⟨_, _, I6, hd.nx _ _ ⟨_, Af, rfl, f1, f2, (er.mono f1).set f3 i⟩⟩
  · cases e
end
end Mi
set_option Elab.async false
set_option linter.all false
set_option maxRecDepth 100000
namespace Mi
open PySem PySem.Spec PyProof.Rows L2
inductive Bi where | len | list | tuple | abs | int | all | any | min | sorted
  deriving DecidableEq
noncomputable def Bi.fn : Bi → List W → Store → Option (W × Store)
  | .len => lenX | .list => listX | .tuple => tupleW | .abs => absW | .int => intW | .all => allW | .any => anyW | .min => minW | .sorted => sortedW
noncomputable def Bi.name : Bi → Str
  | .len => "len" | .list => "list" | .tuple => "tuple" | .abs => "abs" | .int => "int" | .all => "all" | .any => "any" | .min => "min" | .sorted => "sorted"
inductive Me where | append | extend | pop | join | get
  deriving DecidableEq
noncomputable def Me.fn : Me → W → List W → Store → Option (W × Store)
  | .append => appendW | .extend => extendW | .pop => popW | .join => joinW | .get => dgetW
noncomputable def Me.name : Me → Str
  | .append => "append" | .extend => "extend" | .pop => "pop" | .join => "join" | .get => "get"
noncomputable def Me.ty : Me → String
  | .append => "list" | .extend => "list" | .pop => "list" | .join => "str" | .get => "dict"
inductive Tg where
  | nm (i : Nat) | tp (is : List Nat)
set_option genSizeOf false in
set_option genInjectivity false in
mutual
inductive E where
  | c (w : W) | v (i : Nat)
  | op (o : BOp) (a b : E) | neg (a : E)
  | cmp (o : COp) (a b : E) | chn (o o' : COp) (a b d : E)
  | and (a b : E) | or (a b : E) | not (a : E) | ite (t a b : E)
  | own (f : Str) (n : Nat) (es : Es) | bi (b : Bi) (es : Es) | me (m : Me) (o : E) (es : Es)
  | ix (a b : E) | sl (a : E) (lo hi : Ep) | tup (es : Es) | lst (es : Es)
  | isi (c : String) (a : E) | dnew | disp (es : Es)
  | comp (elt : E) (tg : Tg) (it : Ie) (cs : Es) (cap : List (Option Nat))
inductive Es where
  | nil | cons (e : E) (es : Es)
inductive Ep where
  | no | yes (e : E)
inductive Ie where
  | seq (e : E) | rng (es : Es) | rng2 (es : Es)
end
set_option genSizeOf false in
set_option genInjectivity false in
mutual
inductive Sm where
  | set (i : Nat) (e : E) | asg (is : List Nat) (e : E) | par (i j : Nat) (es : Es) | put (o k e : E)
  | ex (e : E) | ret (e : E) | retN | pass | brk | cont
  | ite (t : E) (a b : Ss) | whl (t : E) (b : Ss) | loop (tg : Tg) (it : Ie) (b : Ss)
inductive Ss where
  | nil | cons (s : Sm) (ss : Ss)
end
noncomputable def evG : Tg → FG
  | .nm i => gNm i
  | .tp is => gTp is
section
variable (Φ : Str → FF)
mutual
noncomputable def evE : E → FE
  | .c w => fC w
  | .v i => fV i
  | .op o a b => fOp (bop o) (evE a) (evE b)
  | .neg a => fNeg (evE a)
  | .cmp o a b => fCmp o (evE a) (evE b)
  | .chn o o' a b d => fChain o o' (evE a) (evE b) (evE d)
  | .and a b => fAndV (evE a) (evE b)
  | .or a b => fOrV (evE a) (evE b)
  | .not a => fNotV (evE a)
  | .ite t a b => fIte (evT t) (evE a) (evE b)
  | .own f n es => fOwn n (Φ f) (evA es)
  | .bi b es => fCall b.fn (evA es)
  | .me m o es => fMe m.ty m.fn (evE o) (evA es)
  | .ix a b => fIx (evE a) (evE b)
  | .sl a lo hi => fSl (evE a) (evP lo) (evP hi)
  | .tup es => fTup (evA es)
  | .lst es => fLst (evA es)
  | .isi c a => fIsi c (evE a)
  | .dnew => fDNew
  | .disp es => fDisp (evA es)
  | .comp elt tg it cs cap => fComp (evI it) (evG tg) (evC cs) (evE elt) cap
noncomputable def evT : E → FT
  | .cmp o a b => fTst (fCmp o (evE a) (evE b))
  | .chn o o' a b d => fTst (fChain o o' (evE a) (evE b) (evE d))
  | .and a b => fAnd (evT a) (evT b)
  | .or a b => fOr (evT a) (evT b)
  | .not a => fNot (evT a)
  | .c w => fTru (fC w)
  | .v i => fTru (fV i)
  | .op o a b => fTru (fOp (bop o) (evE a) (evE b))
  | .neg a => fTru (fNeg (evE a))
  | .ite _ _ _ => fun _ _ => none
  | .own f n es => fTru (fOwn n (Φ f) (evA es))
  | .bi b es => fTru (fCall b.fn (evA es))
  | .me m o es => fTru (fMe m.ty m.fn (evE o) (evA es))
  | .ix a b => fTru (fIx (evE a) (evE b))
  | .sl a lo hi => fTru (fSl (evE a) (evP lo) (evP hi))
  | .tup es => fTru (fTup (evA es))
  | .lst es => fTru (fLst (evA es))
  | .isi c a => fTru (fIsi c (evE a))
  | .dnew => fTru fDNew
  | .disp es => fTru (fDisp (evA es))
  | .comp _ _ _ _ _ => fun _ _ => none
noncomputable def evA : Es → FA
  | .nil => fNil
  | .cons e es => fCons (evE e) (evA es)
noncomputable def evC : Es → FT
  | .nil => fTrue
  | .cons e .nil => evT e
  | .cons _ (.cons _ _) => fun _ _ => none
noncomputable def evP : Ep → FO
  | .no => fNoP
  | .yes e => fPart (evE e)
noncomputable def evI : Ie → FI
  | .seq e => iSeqX (evE e)
  | .rng es => iRng (evA es)
  | .rng2 es => iRng2 (evA es)
end
variable (fuel : Nat)
mutual
noncomputable def evS : Sm → FS
  | .set i e => fAsg (evE Φ e) (gNm i)
  | .asg is e => fAsg (evE Φ e) (gTp is)
  | .par i j es => fPar i j (evA Φ es)
  | .put o k e => fAsg (evE Φ e) (gSet (evE Φ o) (evE Φ k))
  | .ex e => fExS (evE Φ e)
  | .ret e => fRet (evE Φ e)
  | .retN => fun _ S => some (.rt .non, S)
  | .pass => fPass
  | .brk => fun ρ S => some (.bk ρ, S)
  | .cont => fun ρ S => some (.ct ρ, S)
  | .ite t a b => fIfS (evT Φ t) (evSs a) (evSs b)
  | .whl t b => fWhl (evT Φ t) (evSs b) fuel
  | .loop tg it b => fFor (evI Φ it) (evG tg) (evSs b)
noncomputable def evSs : Ss → FS
  | .nil => fun ρ S => some (.nx ρ, S)
  | .cons s ss => fSeq (evS s) (evSs ss)
end
end
structure Gam where
  sc : List (Str × NameKind)
  N : List Str
  fns : List (Str × Nat)
  blt : List Str
  dfn : Bool
noncomputable def visK : Option NameKind → Bool
  | some .local => true | some .cell => true | some .free => true | _ => false
noncomputable def capK : Option NameKind → Bool
  | some .cell => true | some .free => true | _ => false
noncomputable def relabelN (names outer : List (Str × NameKind)) : List (Str × NameKind) := names.map fun (n, k) => if (k == .free && outer.lookup n == some .cell) then (n, .cell) else (n, k)
noncomputable def slot (Γ : Gam) (x : Str) : Option Nat := if visK (Γ.sc.lookup x) && !(x == ("__debug__" : Str)) && !(x == ("__classdict__" : Str)) then Γ.N.findIdx? (· == x) else none
noncomputable def bopOf : Operator → Option BOp
  | .Add => some .add | .Sub => some .sub | .Mult => some .mul | .FloorDiv => some .fdiv | .Mod => some .mod | .Pow => some .pow | _ => none
noncomputable def copOf : CmpOp → Option COp
  | .Eq => some .eq | .NotEq => some .ne | .Lt => some .lt | .LtE => some .le | .Gt => some .gt | .GtE => some .ge | .In => some .isin | .NotIn => some .notin | .Is => some .is | .IsNot => some .isnot
noncomputable def biOf (x : Str) : Option Bi := [Bi.len, .list, .tuple, .abs, .int, .all, .any, .min, .sorted].find? fun b => b.name == x
noncomputable def meOf (x : Str) : Option Me := [Me.append, .extend, .pop, .join, .get].find? fun b => b.name == x
noncomputable def isGl' (Γ : Gam) (x : Str) : Bool := Γ.sc.lookup x == some .globalImplicit && !(x == ("__debug__" : Str))
noncomputable def clsOf (x : Str) : Option String := if x == ("bool" : Str) then some "bool" else if x == ("int" : Str) then some "int" else if x == ("str" : Str) then some "str" else if x == ("tuple" : Str) then some "tuple" else if x == ("list" : Str) then some "list" else if x == ("dict" : Str) then some "dict" else none
noncomputable def inter : List (Option Expr) → List Expr → List Expr
  | some k :: ks, v :: vs => k :: v :: inter ks vs
  | _, _ => []
noncomputable def cIsi (Γ : Gam) (f : Expr → Option E) : List Expr → Option E
  | [a, .Name c _] => if isGl' Γ c && Γ.blt.contains c then match clsOf c, f a with
    | some cs, some a' => some (.isi cs a')
    | _, _ => none
    else none
  | _ => none
noncomputable def plainRecv : Expr → Bool
  | .Name _ _ => true | .Constant _ _ _ => true | .Subscript _ _ _ => true | _ => false
noncomputable def isGl (Γ : Gam) (x : Str) : Bool := Γ.sc.lookup x == some .globalImplicit && !(x == ("__debug__" : Str))
noncomputable def storeSlot (Γ : Gam) (x : Str) : Option Nat := if (Γ.sc.lookup x == some .local) || (Γ.dfn && Γ.sc.lookup x == some .cell) then Γ.N.findIdx? (· == x) else none
noncomputable def cA (f : Expr → Option E) (es : List Expr) : Option Es := es.foldr (fun e acc => match f e, acc with | some e', some es' => some (.cons e' es') | _, _ => none) (some .nil)
noncomputable def cB (f : Expr → Option E) (op : BoolOp) : List Expr → Option E
  | [] => none
  | [a] => f a
  | a :: b :: rest => match f a, cB f op (b :: rest) with
    | some a', some b' => some (match op with | .And => .and a' b' | .Or => .or a' b')
    | _, _ => none
noncomputable def cP (f : Expr → Option E) : Option Expr → Option Ep
  | none => some .no
  | some e => (f e).map .yes
noncomputable def cI (Γ : Gam) (f : Expr → Option E) : Expr → Option Ie
  | .Call (.Name x p) [a] [] q => if x == ("range" : Str) && isGl Γ x && Γ.blt.contains x then (cA f [a]).map .rng else (f (.Call (.Name x p) [a] [] q)).map .seq
  | .Call (.Name x p) [a, b] [] q => if x == ("range" : Str) && isGl Γ x && Γ.blt.contains x then (cA f [a, b]).map .rng2 else (f (.Call (.Name x p) [a, b] [] q)).map .seq
  | e => (f e).map .seq
noncomputable def cTs (Γ : Gam) : List Expr → Option (List Nat)
  | [] => some []
  | .Name x _ :: ts => match storeSlot Γ x, cTs Γ ts with
    | some i, some is => some (i :: is)
    | _, _ => none
  | _ :: _ => none
noncomputable def cT (Γ : Gam) : Expr → Option Tg
  | .Name x _ => (storeSlot Γ x).map .nm
  | .Tuple ts _ _ => (cTs Γ ts).map .tp
  | _ => none
noncomputable def compN (names : List (Str × NameKind)) : List Str := (names.filter fun p => p.2 == .local || p.2 == .free).map (·.1)
noncomputable def compCap (Γ : Gam) (names : List (Str × NameKind)) : List (Option Nat) := (compN names).map fun x => if names.lookup x == some .local then none else Γ.N.findIdx? (· == x)
noncomputable def scOk (Γ : Gam) (scope : Scope) : Bool :=
  (scope.kind == .function) && scope.names.all (fun y => !(y.2 == .local) || scope.names.lookup y.1 == some .local) && scope.names.all (fun y => !(y.2 == .cell)) &&
  scope.names.all (fun y => !(y.2 == .free) || (capK (Γ.sc.lookup y.1) && scope.names.lookup y.1 == some .free && (Γ.N.findIdx? (· == y.1)).isSome)) && decide (compN scope.names).Nodup
noncomputable def inner (Γ : Gam) (scope : Scope) : Gam := { Γ with sc := relabelN scope.names Γ.sc, N := compN scope.names, dfn := false }
noncomputable def cE : Nat → Gam → Expr → Option E
  | 0, _, _ => none
  | n + 1, Γ, e => match e with
    | .Constant (.int i) _ _ => some (.c (.int i))
    | .Constant (.str x) _ _ => some (.c (.str x))
    | .Constant (.bool b) _ _ => some (.c (.bl b))
    | .Constant .none _ _ => some (.c .non)
    | .Name x _ => (slot Γ x).map .v
    | .BinOp a op b _ => match bopOf op, cE n Γ a, cE n Γ b with
      | some o, some a', some b' => some (.op o a' b')
      | _, _, _ => none
    | .UnaryOp .USub a _ => (cE n Γ a).map .neg
    | .UnaryOp .Not a _ => (cE n Γ a).map .not
    | .BoolOp op vs _ => cB (cE n Γ) op vs
    | .Compare a [op] [b] _ => match copOf op, cE n Γ a, cE n Γ b with
      | some o, some a', some b' => some (.cmp o a' b')
      | _, _, _ => none
    | .Compare a [op, op'] [b, d] _ => match copOf op, copOf op', cE n Γ a, cE n Γ b, cE n Γ d with
      | some o, some o', some a', some b', some d' => some (.chn o o' a' b' d')
      | _, _, _, _, _ => none
    | .IfExp t a b _ => match cE n Γ t, cE n Γ a, cE n Γ b with
      | some t', some a', some b' => some (.ite t' a' b')
      | _, _, _ => none
    | .Call (.Name f _) args [] _ => if isGl Γ f then match Γ.fns.lookup f with
        | some k => (cA (cE n Γ) args).map (.own f k)
        | none => if f == ("isinstance" : Str) then (if Γ.blt.contains f then cIsi Γ (cE n Γ) args else none) else match biOf f, args with
          | some b, a :: as => if Γ.blt.contains f then (cA (cE n Γ) (a :: as)).map (.bi b) else none
          | _, _ => none
      else none
    | .Call (.Attribute o m apos) (a :: as) [] cpos => match meOf m, cE n Γ o, cA (cE n Γ) (a :: as) with
      | some m', some o', some es => if plainRecv o && (apos.endLine == cpos.line) && decide ((a :: as).length < 29) then some (.me m' o' es) else none
      | _, _, _ => none
    | .Subscript a (.Slice lo hi none _) _ => match cE n Γ a, cP (cE n Γ) lo, cP (cE n Γ) hi with
      | some a', some lo', some hi' => some (.sl a' lo' hi')
      | _, _, _ => none
    | .Subscript a b _ => match cE n Γ a, cE n Γ b with
      | some a', some b' => some (.ix a' b')
      | _, _ => none
    | .Tuple es _ _ => (cA (cE n Γ) es).map .tup
    | .List es _ => (cA (cE n Γ) es).map .lst
    | .Dict keys values _ => if keys.isEmpty && values.isEmpty then some .dnew
      else if keys.all (·.isSome) && decide (keys.length = values.length) && decide (keys.length ≤ 15) then (cA (cE n Γ) (inter keys values)).map .disp else none
    | .ListComp elt [⟨tg, iter, ifs, asy⟩] scope _ => if (asy == 0) && (scOk Γ scope && decide (ifs.length ≤ 1)) then
        match cI Γ (cE n Γ) iter, cT (inner Γ scope) tg, cA (cE n (inner Γ scope)) ifs, cE n (inner Γ scope) elt with
        | some it, some t, some cs, some el => some (.comp el t it cs (compCap Γ scope.names))
        | _, _, _, _ => none
      else none
    | _ => none
structure CtxOk (Φ : Str → FF) (X : Cx) (Γ : Gam) : Prop where
  names : X.env.scope.names = Γ.sc
  kind : X.env.scope.kind = .function
  N : X.N = Γ.N
  nd : Γ.N.Nodup
  calm : X.calm = true
  xe : X.xe = fun _ _ => False
  un : X.A.units + deep < cLine
  dfn : Γ.dfn = true → ∀ x, X.fn x = true
  blt : ∀ x ∈ Γ.blt, X.mg x = none
  fns : ∀ f n, Γ.fns.lookup f = some n → ∃ k fa fd ps, FnOk X.prog X.w X.K X.mg X.base CX0 k fa fd ps (spF X.w X.K n (Φ f)) ∧ Room k X.A ∧ X.mg f = some (.ref fa) ∧ PySem.W.keepIn X.K (.ref fa) = true ∧ Binds X.K fd ps []
theorem no_some {α : Type} {x : α} {P : Prop} (h : (none : Option α) = some x) : P := nomatch h
noncomputable def noStar : Expr → Bool
  | .Starred _ _ => false
  | _ => true
theorem star_cons {e : Expr} {es : List Expr} {env : Env} (h : noStar e = true) : starEach (e :: es) env = (false, eval e env) :: starEach es env := by
  cases e <;> first | rfl | cases h
theorem star_any {env : Env} {pos : Pos} : ∀ {es : List Expr}, es.all noStar = true → (backTo pos (starEach es env)).any (·.1) = false
  | [], _ => rfl
  | e :: es, h => by
    rw [List.all_cons, Bool.and_eq_true] at h
    rw [star_cons h.1]
    show (false || (backTo pos (starEach es env)).any (·.1)) = false
    rw [star_any h.2]
    rfl
theorem star_all {env : Env} {pos : Pos} : ∀ {es : List Expr}, es.all noStar = true → (backTo pos (starEach es env)).all (fun x => !x.1) = true
  | [], _ => rfl
  | e :: es, h => by
    rw [List.all_cons, Bool.and_eq_true] at h
    rw [star_cons h.1]
    show (true && (backTo pos (starEach es env)).all (fun x => !x.1)) = true
    rw [star_all h.2]
    rfl
theorem cE_noStar {n : Nat} {Γ : Gam} {e : Expr} {e' : E} (h : cE n Γ e = some e') : noStar e = true := by
  cases n with
  | zero => cases h
  | succ n => cases e <;> first | rfl | (exact no_some h)
theorem cA_cons {f : Expr → Option E} {e : Expr} {es : List Expr} {r : Es} (h : cA f (e :: es) = some r) : ∃ e' es', f e = some e' ∧ cA f es = some es' ∧ r = .cons e' es' := by
  simp only [cA, List.foldr_cons] at h
  split at h
  · rename_i e' es' h1 h2
    cases h
    exact ⟨e', es', h1, h2, rfl⟩
  · cases h
theorem cA_noStar {n : Nat} {Γ : Gam} : ∀ {es : List Expr} {r : Es}, cA (cE n Γ) es = some r → es.all noStar = true
  | [], _, _ => rfl
  | e :: es, r, h => by
    obtain ⟨e', es', h1, h2, _⟩ := cA_cons h
    rw [List.all_cons, cE_noStar h1, cA_noStar h2]
    rfl
theorem findIdx_get {N : List Str} {x : Str} {i : Nat} (h : N.findIdx? (· == x) = some i) : N[i]? = some x := by
  obtain ⟨hl, h1, _⟩ := List.findIdx?_eq_some_iff_getElem.mp h
  rw [List.getElem?_eq_getElem hl]
  exact congrArg some (eq_of_beq h1)
end Mi
set_option Elab.async false
set_option linter.all false
set_option maxRecDepth 100000
namespace Mi
open PySem PySem.Spec PyProof.Rows L2
section
variable {Φ : Str → FF} {X : Cx} {Γ : Gam}
theorem gt_none {e : Expr} : GT X e (fun _ _ => none) := fun pins s σ H Q I ⟨A, ρ, S, k, S', er, so, e1, hq⟩ => by cases e1
theorem visK_vis {x : Str} (h : visK (X.env.scope.names.lookup x) = true) : Vis X.env.scope x := by
  unfold visK at h
  split at h
  · exact .inl (by assumption)
  · exact .inr (.inl (by assumption))
  · exact .inr (.inr (by assumption))
  · cases h
theorem s_name (K : CtxOk Φ X Γ) {x : Str} {pos : Pos} {i : Nat} (h : slot Γ x = some i) : GE X (.Name x pos) (fV i) := by
  unfold slot at h
  split at h
  · rename_i hc
    rw [Bool.and_eq_true, Bool.and_eq_true] at hc
    obtain ⟨⟨h1, h2⟩, h3⟩ := hc
    refine ge_v (pe_var (by rw [K.N]; exact findIdx_get h) (visK_vis (by rw [K.names]; exact h1)) (by simpa using h2) (by simpa using h3))
  · cases h
theorem gl_of (K : CtxOk Φ X Γ) {x : Str} (h : isGl Γ x = true) : Gl X x ∧ (x == ("__debug__" : Str)) = false := by
  unfold isGl at h
  rw [Bool.and_eq_true] at h
  refine ⟨?_, by simpa using h.2⟩
  show X.env.scope.names.lookup x = _
  rw [K.names]
  exact eq_of_beq h.1
theorem copOf_py {o : CmpOp} {c : COp} (h : copOf o = some c) : c.py = o := by
  cases o <;> (simp only [copOf, Option.some.injEq] at h; subst h; rfl)
theorem bopOf_py {o : Operator} {c : BOp} (h : bopOf o = some c) : c.py = o := by
  cases o <;> simp only [bopOf, Option.some.injEq] at h <;> first | (subst h; rfl) | cases h
theorem biOf_name {x : Str} {b : Bi} (h : biOf x = some b) : b.name = x := by
  have := List.find?_some h
  exact eq_of_beq this
theorem meOf_name {x : Str} {b : Me} (h : meOf x = some b) : b.name = x := by
  have := List.find?_some h
  exact eq_of_beq this
theorem s_args {n : Nat} (ih : ∀ {e : Expr} {e' : E}, cE n Γ e = some e' → GE X e (evE Φ e')) : ∀ {es : List Expr} {r : Es}, cA (cE n Γ) es = some r → GA X es (evA Φ r)
  | [], r, h => by cases h; exact ga_nil
  | e :: es, r, h => by
    obtain ⟨e', es', h1, h2, rfl⟩ := cA_cons h
    exact ga_cons (ih h1) (s_args ih h2) (star_cons (cE_noStar h1))
theorem s_own (K : CtxOk Φ X Γ) {n : Nat} {f : Str} {p pos : Pos} {args : List Expr} {k : Nat} {r : Es} (hg : isGl Γ f = true) (hf : Γ.fns.lookup f = some k) (ha : cA (cE n Γ) args = some r) (h : GA X args (evA Φ r)) : GE X (.Call (.Name f p) args [] pos) (fOwn k (Φ f) (evA Φ r)) := by
  obtain ⟨d, fa, fd, ps, F, hr, hm, hk, hb⟩ := K.fns f k hf
  obtain ⟨g1, g2⟩ := gl_of K hg
  cases args with
  | nil => cases ha; exact ge_own0 F hr g1 hm hk hb g2
  | cons a as =>
    have ns := cA_noStar ha
    rw [List.all_cons, Bool.and_eq_true] at ns
    exact ge_own F hr g1 hm hk hb h g2 (star_cons ns.1) (star_any ns.2)
theorem s_bi (K : CtxOk Φ X Γ) {n : Nat} {f : Str} {p pos : Pos} {a : Expr} {as : List Expr} {b : Bi} {r : Es} (hg : isGl Γ f = true) (hb : biOf f = some b) (hc : Γ.blt.contains f = true) (ha : cA (cE n Γ) (a :: as) = some r) (h : GA X (a :: as) (evA Φ r)) : GE X (.Call (.Name f p) (a :: as) [] pos) (fCall b.fn (evA Φ r)) := by
  obtain ⟨g1, g2⟩ := gl_of K hg
  have hm : X.mg f = none := K.blt f (by simpa using hc)
  have ns := cA_noStar ha
  rw [List.all_cons, Bool.and_eq_true] at ns
  have e := biOf_name hb
  subst e
  have hu : X.A.units + 12 < cLine := by have := K.un; have : deep = 20 := rfl; omega
  have calm : ∀ {f : Value} {g : List W → Store → Option (W × Store)}, (X.A.handled = none → LCall X f g) → LCall X f g := fun h pins s σ H A S xs vs us w S' I => h (I.ok.hd K.calm) pins s σ H A S xs vs us w S' I
  cases b with
  | len => exact ge_bi lcall_lenX g1 hm PySem.boot_len h (by decide) g2 (star_cons ns.1) (star_any ns.2)
  | list => exact ge_ty (calm lcall_listX) g1 hm rfl h (by decide) g2 (star_cons ns.1) (star_any ns.2)
  | tuple => exact ge_ty lcall_tuple g1 hm rfl h (by decide) g2 (star_cons ns.1) (star_any ns.2)
  | abs => exact ge_bi lcall_abs g1 hm rfl h (by decide) g2 (star_cons ns.1) (star_any ns.2)
  | int => exact ge_ty lcall_int g1 hm rfl h (by decide) g2 (star_cons ns.1) (star_any ns.2)
  | all => exact ge_bi (calm lcall_all) g1 hm rfl h (by decide) g2 (star_cons ns.1) (star_any ns.2)
  | any => exact ge_bi (calm lcall_any) g1 hm rfl h (by decide) g2 (star_cons ns.1) (star_any ns.2)
  | min => exact ge_bi (calm fun hh => lcall_min hh hu) g1 hm rfl h (by decide) g2 (star_cons ns.1) (star_any ns.2)
  | sorted => exact ge_bi (calm fun hh => lcall_sorted hh hu) g1 hm rfl h (by decide) g2 (star_cons ns.1) (star_any ns.2)
theorem cls_boot {x : Str} {c : String} (h : clsOf x = some c) : bootBuiltins x = some (.type c) ∧ x ≠ "__name__" := by
  unfold clsOf at h
  split at h
  · rename_i e; cases h; rw [eq_of_beq e]; exact ⟨rfl, by decide⟩
  · split at h
    · rename_i e; cases h; rw [eq_of_beq e]; exact ⟨rfl, by decide⟩
    · split at h
      · rename_i e; cases h; rw [eq_of_beq e]; exact ⟨rfl, by decide⟩
      · split at h
        · rename_i e; cases h; rw [eq_of_beq e]; exact ⟨rfl, by decide⟩
        · split at h
          · rename_i e; cases h; rw [eq_of_beq e]; exact ⟨rfl, by decide⟩
          · split at h
            · rename_i e; cases h; rw [eq_of_beq e]; exact ⟨rfl, by decide⟩
            · cases h
theorem s_isi (K : CtxOk Φ X Γ) {n : Nat} {f : Str} {p pos : Pos} {args : List Expr} {r : E} (hg : isGl Γ f = true) (hb : (f == ("isinstance" : Str)) = true) (hc : Γ.blt.contains f = true) (ih : ∀ {e : Expr} {e' : E}, cE n Γ e = some e' → GE X e (evE Φ e')) (h : cIsi Γ (cE n Γ) args = some r) :
    GE X (.Call (.Name f p) args [] pos) (evE Φ r) ∧ ∃ a c, r = .isi c a := by
  obtain ⟨g1, g2⟩ := gl_of K hg
  have hm : X.mg f = none := K.blt f (by simpa using hc)
  have e := eq_of_beq hb
  subst e
  unfold cIsi at h
  split at h
  · rename_i a c q
    split at h
    · rename_i hcc
      rw [Bool.and_eq_true] at hcc
      obtain ⟨g3, g4⟩ := gl_of K (x := c) hcc.1
      have hm2 : X.mg c = none := K.blt c (by simpa using hcc.2)
      split at h
      · rename_i cs a' h1 h2
        cases h
        obtain ⟨b1, b2⟩ := cls_boot h1
        exact ⟨ge_isi g1 hm g3 hm2 b1 b2 g4 (ih h2) (star_cons (cE_noStar h2)), a', cs, rfl⟩
      · cases h
    · cases h
  · cases h
theorem s_pairs {n : Nat} {pos : Pos} (ih : ∀ {e : Expr} {e' : E}, cE n Γ e = some e' → GE X e (evE Φ e')) : ∀ (keys : List (Option Expr)) (values : List Expr) {r : Es}, keys.all (·.isSome) = true → keys.length = values.length → cA (cE n Γ) (inter keys values) = some r → GPs X pos keys values (evA Φ r)
  | [], [], r, _, _, h => by cases h; exact gps_nil
  | [], _ :: _, r, _, hl, _ => by cases hl
  | _ :: _, [], r, _, hl, _ => by cases hl
  | none :: _, _ :: _, r, ha, _, _ => by cases ha
  | some k :: ks, v :: vs, r, ha, hl, h => by
    simp only [inter] at h
    obtain ⟨e1, es1, h1, h2, rfl⟩ := cA_cons h
    obtain ⟨e2, es2, h3, h4, rfl⟩ := cA_cons h2
    rw [List.all_cons, Bool.and_eq_true] at ha
    exact gps_cons (ih h1) (ih h3) (s_pairs ih ks vs ha.2 (by simpa using hl) h4)
theorem recv_base {o : Expr} {name : Str} {env : Env} (h : plainRecv o = true) : attributeBase o name env (eval o env) = eval o env := by
  cases o <;> first | rfl | cases h
theorem s_me (K : CtxOk Φ X Γ) {n : Nat} {m : Str} {apos cpos : Pos} {o a : Expr} {as : List Expr} {b : Me} {o' : E} {r : Es} (hm : meOf m = some b) (hr : plainRecv o = true) (hl : (apos.endLine == cpos.line) = true) (hn : (a :: as).length < 29) (ho : GE X o (evE Φ o')) (ha : cA (cE n Γ) (a :: as) = some r) (h : GA X (a :: as) (evA Φ r)) :
    GE X (.Call (.Attribute o m apos) (a :: as) [] cpos) (fMe b.ty b.fn (evE Φ o') (evA Φ r)) := by
  have ns := cA_noStar ha
  have ns' := ns
  rw [List.all_cons, Bool.and_eq_true] at ns
  have few : ((backTo cpos (starEach (a :: as) X.env)).all (fun x => !x.1) && (backToKw cpos (keywordEach [] X.env)).all (fun x => x.1.isSome) && decide ((a :: as).length + ([] : List Keyword).length + (if ([] : List Keyword).isEmpty then 0 else 1) < 30)) = true := by
    rw [star_all ns', Bool.true_and, Bool.and_eq_true]
    exact ⟨rfl, decide_eq_true (by simp only [List.length_nil, List.isEmpty_nil, if_true]; omega)⟩
  have e := meOf_name hm
  subst e
  cases b with
  | append => exact ge_me PySem.F.plainAttrs_list PySem.F.slot_list_append PySem.F.type_list_append lmeth_append ho h (recv_base hr) few hl (star_cons ns.1) (star_any ns.2)
  | extend => exact ge_me PySem.F.plainAttrs_list PySem.F.slot_list_extend PySem.F.type_list_extend lmeth_extend ho h (recv_base hr) few hl (star_cons ns.1) (star_any ns.2)
  | pop => exact ge_me PySem.F.plainAttrs_list PySem.F.slot_list_pop PySem.F.type_list_pop lmeth_pop ho h (recv_base hr) few hl (star_cons ns.1) (star_any ns.2)
  | join => exact ge_me PySem.F.plainAttrs_str PySem.F.slot_str_join PySem.F.type_str_join lmeth_join ho h (recv_base hr) few hl (star_cons ns.1) (star_any ns.2)
  | get => exact ge_me PySem.F.plainAttrs_dict PySem.F.slot_dict_get PySem.F.type_dict_get (lmeth_dget (by have := K.un; have : deep = 20 := rfl; omega)) ho h (recv_base hr) few hl (star_cons ns.1) (star_any ns.2)
theorem cE_noSet {n : Nat} {Γ : Gam} {e : Expr} {e' : E} {op : CmpOp} (h : cE n Γ e = some e') : behindInMarks op e = false := by
  cases n with
  | zero => cases h
  | succ n => cases e <;> first | rfl | (exact no_some h)
theorem cE_plainIx {n : Nat} {Γ : Gam} {e : Expr} {e' : E} (h : cE n Γ e = some e') : PlainIx e := by
  cases n with
  | zero => cases h
  | succ n => cases e <;> first | (intro o i; rfl) | (exact no_some h)
theorem fold_ok {n : Nat} {Γ : Gam} {f : Expr → Option E} {e : Expr} {i : Ie} {env : Env} (hf : ∀ el k p, f (.Set el k p) = none) (h : cI Γ f e = some i) : ∀ x, foldedSetIterable e env x = pure x := by
  intro x
  cases e <;> first | rfl | (simp [cI, hf] at h)
theorem s_boolE {n : Nat} {op : BoolOp} {pos : Pos} (ih : ∀ {e : Expr} {e' : E}, cE n Γ e = some e' → GE X e (evE Φ e')) : ∀ {vs : List Expr} {r : E}, cB (cE n Γ) op vs = some r → GE X (.BoolOp op vs pos) (evE Φ r)
  | [], r, h => by cases h
  | [a], r, h => ge_one (ih h)
  | a :: b :: rest, r, h => by
    simp only [cB] at h
    split at h
    · rename_i a' b' h1 h2
      cases h
      cases op with
      | And => exact ge_and (ih h1) (s_boolE ih h2)
      | Or => exact ge_or (ih h1) (s_boolE ih h2)
    · cases h
theorem s_boolT {n : Nat} {op : BoolOp} {pos : Pos} (ih : ∀ {e : Expr} {e' : E}, cE n Γ e = some e' → GT X e (evT Φ e')) : ∀ {vs : List Expr} {r : E}, cB (cE n Γ) op vs = some r → GW X (.BoolOp op vs pos) (evT Φ r)
  | [], r, h => by cases h
  | [a], r, h => by
    cases op with
    | And => exact gw_and1 (ih h)
    | Or => exact gw_or1 (ih h)
  | a :: b :: rest, r, h => by
    simp only [cB] at h
    split at h
    · rename_i a' b' h1 h2
      cases h
      cases op with
      | And => exact gw_and (ih h1) (s_boolT ih h2)
      | Or => exact gw_or (ih h1) (s_boolT ih h2)
    · cases h
theorem s_part {n : Nat} (ih : ∀ {e : Expr} {e' : E}, cE n Γ e = some e' → GE X e (evE Φ e')) {o : Option Expr} {p : Ep} (h : cP (cE n Γ) o = some p) : GO X o (evP Φ p) := by
  cases o with
  | none => cases h; exact go_none
  | some e =>
    simp only [cP, Option.map_eq_some_iff] at h
    obtain ⟨e', h1, rfl⟩ := h
    exact go_some (ih h1)
theorem s_iter (K : CtxOk Φ X Γ) {n : Nat} (ih : ∀ {e : Expr} {e' : E}, cE n Γ e = some e' → GE X e (evE Φ e')) {tg e : Expr} {i : Ie} (h : cI Γ (cE n Γ) e = some i) : GI X tg e (evI Φ i) := by
  have gen : (cE n Γ e).map Ie.seq = some i → GI X tg e (evI Φ i) := fun h => by
    rw [Option.map_eq_some_iff] at h
    obtain ⟨e', h1, rfl⟩ := h
    exact gi_seqX (ih h1)
  unfold cI at h
  split at h
  · rename_i x p a pos
    split at h
    · rename_i hc
      rw [Bool.and_eq_true, Bool.and_eq_true] at hc
      obtain ⟨⟨h1, h2⟩, h3⟩ := hc
      have hx := eq_of_beq h1
      subst hx
      rw [Option.map_eq_some_iff] at h
      obtain ⟨r, hr, rfl⟩ := h
      have ns := cA_noStar hr
      rw [List.all_cons, Bool.and_eq_true] at ns
      exact gi_rng1 (gl_of K h2).1 (K.blt _ (by simpa using h3)) (s_args ih hr) (star_cons ns.1)
    · exact gen h
  · rename_i x p a b pos
    split at h
    · rename_i hc
      rw [Bool.and_eq_true, Bool.and_eq_true] at hc
      obtain ⟨⟨h1, h2⟩, h3⟩ := hc
      have hx := eq_of_beq h1
      subst hx
      rw [Option.map_eq_some_iff] at h
      obtain ⟨r, hr, rfl⟩ := h
      have ns := cA_noStar hr
      rw [List.all_cons, List.all_cons, Bool.and_eq_true, Bool.and_eq_true] at ns
      exact gi_rng2 (gl_of K h2).1 (K.blt _ (by simpa using h3)) (s_args ih hr) (by rw [star_cons ns.1, star_cons ns.2.1]; rfl) (star_cons ns.2.1)
    · exact gen h
  · exact gen h
theorem s_store (K : CtxOk Φ X Γ) {x : Str} {i : Nat} (h : storeSlot Γ x = some i) : X.N[i]? = some x ∧ Loc X.env.scope x ∧ (X.fn x = true ∨ X.env.scope.names.lookup x = some .local) := by
  unfold storeSlot at h
  split at h
  · rename_i hc
    refine ⟨by rw [K.N]; exact findIdx_get h, ?_⟩
    unfold L2.Loc
    rw [K.names]
    rw [Bool.or_eq_true, Bool.and_eq_true] at hc
    rcases hc with hc | ⟨hd, hc⟩
    · have := eq_of_beq hc
      exact ⟨.inl this, .inr this⟩
    · exact ⟨.inr (eq_of_beq hc), .inl (K.dfn hd x)⟩
  · cases h
theorem s_stores (K : CtxOk Φ X Γ) : ∀ {ts : List Expr} {is : List Nat}, cTs Γ ts = some is → (∀ x ∈ ts, ∃ y p, x = Expr.Name y p) ∧ Paired (fun (t : Expr) (i : Nat) => ∃ x p, t = Expr.Name x p ∧ X.N[i]? = some x ∧ Loc X.env.scope x ∧ (X.fn x = true ∨ X.env.scope.names.lookup x = some .local)) ts is
  | [], is, h => by cases h; exact ⟨fun x hx => by simp at hx, .nil⟩
  | t :: ts, is, h => by
    cases t with
    | Name x p =>
      simp only [cTs] at h
      split at h
      · rename_i i is' h1 h2
        cases h
        obtain ⟨a, b⟩ := s_stores K h2
        exact ⟨fun y hy => (List.mem_cons.mp hy).elim (fun e => ⟨x, p, e⟩) (a y), .cons ⟨x, p, rfl, s_store K h1⟩ b⟩
      · cases h
    | _ => cases h
theorem each_names {env : Env} : ∀ {ts : List Expr}, (∀ x ∈ ts, ∃ y p, x = Expr.Name y p) → (assignEach ts env).length = ts.length ∧ (assignEach ts env).findIdx? (·.1) = none
  | [], _ => ⟨rfl, rfl⟩
  | t :: ts, h => by
    obtain ⟨y, p, rfl⟩ := h t List.mem_cons_self
    obtain ⟨a, b⟩ := each_names (env := env) fun x hx => h x (List.mem_cons_of_mem _ hx)
    refine ⟨by show (assignEach ts env).length + 1 = ts.length + 1; rw [a], ?_⟩
    show List.findIdx? (·.1) ((false, assign (.Name y p) env) :: assignEach ts env) = none
    rw [List.findIdx?_cons, b]
    rfl
theorem s_tgt (K : CtxOk Φ X Γ) {tg : Expr} {t : Tg} (h : cT Γ tg = some t) : GG X tg (evG t) := by
  have hN : X.N.Nodup := by rw [K.N]; exact K.nd
  cases tg with
  | Name x p =>
    simp only [cT, Option.map_eq_some_iff] at h
    obtain ⟨i, h1, rfl⟩ := h
    obtain ⟨a, b, c⟩ := s_store K h1
    exact gg_name hN a b c
  | Tuple ts k p =>
    simp only [cT, Option.map_eq_some_iff] at h
    obtain ⟨is, h1, rfl⟩ := h
    obtain ⟨a, b⟩ := s_stores K h1
    exact gg_tup K.calm a b hN (each_names a).1 (each_names a).2
  | _ => cases h
end
end Mi
set_option Elab.async false
set_option linter.all false
set_option maxRecDepth 100000
namespace Mi
open PySem PySem.Spec PyProof.Rows L2
noncomputable def clFold (env : Env) : List (Str × NameKind) → List (Str × Addr) → List (Str × Addr)
  | [], cs => cs
  | (n, k) :: r, cs => clFold env r (if k == .free then (n, (env.cells.lookup n).getD 0) :: cs else cs)
theorem clos_fold {env : Env} : ∀ (names : List (Str × NameKind)) (cs : List (Str × Addr)), (∀ y ∈ names, y.2 = .free → (env.cells.lookup y.1).isSome = true) →
    (forIn names cs fun x r => match x with | (name, kind) => if (kind == NameKind.free) = true then do let a ← cellOf env name; pure (ForInStep.yield ((name, a) :: r)) else pure (ForInStep.yield r) : Sem (List (Str × Addr))) = pure (clFold env names cs)
  | [], cs, _ => by rw [List.forIn_nil]; rfl
  | (n, k) :: r, cs, h => by
    rw [List.forIn_cons]
    have hr := fun y hy => h y (List.mem_cons_of_mem _ hy)
    by_cases hk : (k == NameKind.free) = true
    · obtain ⟨c, hc⟩ := Option.isSome_iff_exists.mp (h (n, k) List.mem_cons_self (eq_of_beq hk))
      have e1 : cellOf env n = pure c := by unfold cellOf; rw [hc]
      simp only [hk, if_true, e1, pure_bind]
      rw [clos_fold r _ hr]
      simp only [clFold, hk, if_true, hc, Option.getD_some]
    · have hk' : (k == NameKind.free) = false := by simpa using hk
      simp only [hk', Bool.false_eq_true, if_false, pure_bind]
      rw [clos_fold r _ hr]
      simp only [clFold, hk', Bool.false_eq_true, if_false]
theorem closureFor_fold {scope : Scope} {env : Env} (h : ∀ y ∈ scope.names, y.2 = .free → (env.cells.lookup y.1).isSome = true) : closureFor scope env = pure (clFold env scope.names []) := by
  have := clos_fold scope.names [] h
  unfold closureFor
  simp only [this, pure_bind]
theorem clFold_sub {env : Env} : ∀ (names : List (Str × NameKind)) (cs : List (Str × Addr)), (∀ y ∈ names, y.2 = .free → (env.cells.lookup y.1).isSome = true) → (∀ x c, cs.lookup x = some c → env.cells.lookup x = some c) →
    ∀ x c, (clFold env names cs).lookup x = some c → env.cells.lookup x = some c
  | [], cs, _, h, x, c, e => h x c e
  | (n, k) :: r, cs, hn, h, x, c, e => by
    refine clFold_sub r _ (fun y hy => hn y (List.mem_cons_of_mem _ hy)) (fun x c e => ?_) x c e
    split at e
    · rename_i hk
      rw [List.lookup_cons] at e
      split at e
      · rename_i hx
        cases e
        have := eq_of_beq hx
        subst this
        obtain ⟨c, hc⟩ := Option.isSome_iff_exists.mp (hn (x, k) List.mem_cons_self (eq_of_beq hk))
        rw [hc]; rfl
      · exact h x c e
    · exact h x c e
theorem clFold_keep {env : Env} {x : Str} : ∀ (names : List (Str × NameKind)) (cs : List (Str × Addr)), (∃ c, cs.lookup x = some c) → ∃ c, (clFold env names cs).lookup x = some c
  | [], cs, h => h
  | (n, k) :: r, cs, h => by
    refine clFold_keep r _ ?_
    split
    · rw [List.lookup_cons]
      split
      · exact ⟨_, rfl⟩
      · exact h
    · exact h
theorem clFold_has {env : Env} {x : Str} : ∀ (names : List (Str × NameKind)) (cs : List (Str × Addr)), (x, NameKind.free) ∈ names → ∃ c, (clFold env names cs).lookup x = some c
  | [], cs, h => by simp at h
  | (n, k) :: r, cs, h => by
    rcases List.mem_cons.mp h with e | h
    · cases e
      refine clFold_keep r _ ?_
      simp [List.lookup_cons]
    · exact clFold_has r _ h
theorem lookup_mem {x : Str} {k : NameKind} : ∀ {l : List (Str × NameKind)}, l.lookup x = some k → (x, k) ∈ l
  | [], h => by simp at h
  | (n, j) :: r, h => by
    rw [List.lookup_cons] at h
    split at h
    · rename_i hx
      cases h
      have := eq_of_beq hx
      subst this
      exact List.mem_cons_self
    · exact List.mem_cons_of_mem _ (lookup_mem h)
theorem relabel_names {X : Cx} {Φ : Str → FF} {Γ : Gam} (K : CtxOk Φ X Γ) (scope : Scope) : (relabel scope X.env).names = relabelN scope.names Γ.sc := by
  unfold relabel relabelN Env.kindOf
  rw [K.kind, K.names]
  refine List.map_congr_left fun ⟨n, k⟩ _ => ?_
  have e : (ScopeKind.function == ScopeKind.function) = true := rfl
  simp only [e, Bool.and_true]
theorem relabel_lookup {outer : List (Str × NameKind)} {x : Str} : ∀ {names : List (Str × NameKind)}, (relabelN names outer).lookup x = (names.lookup x).map fun k => if (k == .free && outer.lookup x == some .cell) then .cell else k
  | [] => rfl
  | (n, k) :: r => by
    have ih := relabel_lookup (outer := outer) (x := x) (names := r)
    show List.lookup x ((if (k == NameKind.free && outer.lookup n == some .cell) = true then (n, NameKind.cell) else (n, k)) :: relabelN r outer) = _
    cases hx : x == n with
    | true =>
      have := eq_of_beq hx
      subst this
      simp only [List.lookup_cons, beq_self_eq_true, Option.map_some]
      split <;> simp [List.lookup_cons]
    | false =>
      simp only [List.lookup_cons, hx]
      split <;> (simp only [List.lookup_cons, hx]; exact ih)
section
variable {Φ : Str → FF} {X : Cx} {Γ : Gam}
structure ScOk (Γ : Gam) (scope : Scope) : Prop where
  kind : scope.kind = .function
  names : ∀ y ∈ scope.names, y.2 = .local → scope.names.lookup y.1 = some .local
  nocell : ∀ y ∈ scope.names, y.2 ≠ .cell
  free : ∀ y ∈ scope.names, y.2 = .free → capK (Γ.sc.lookup y.1) = true ∧ scope.names.lookup y.1 = some .free ∧ (Γ.N.findIdx? (· == y.1)).isSome = true
  nd : (compN scope.names).Nodup
theorem scOk_of {scope : Scope} (h : scOk Γ scope = true) : ScOk Γ scope := by
  unfold scOk at h
  rw [Bool.and_eq_true, Bool.and_eq_true, Bool.and_eq_true, Bool.and_eq_true] at h
  obtain ⟨⟨⟨⟨h1, h2⟩, h3⟩, h4⟩, h5⟩ := h
  refine ⟨eq_of_beq h1, fun y hy e => ?_, fun y hy e => ?_, fun y hy e => ?_, of_decide_eq_true h5⟩
  · have := List.all_eq_true.mp h2 y hy
    rw [e] at this
    simpa using this
  · have := List.all_eq_true.mp h3 y hy
    rw [e] at this
    simp at this
  · have := List.all_eq_true.mp h4 y hy
    rw [e] at this
    simp only [beq_self_eq_true, Bool.not_true, Bool.false_or, Bool.and_eq_true] at this
    exact ⟨this.1.1, eq_of_beq this.1.2, this.2⟩
theorem capK_or {o : Option NameKind} (h : capK o = true) : o = some .cell ∨ o = some .free := by
  unfold capK at h
  split at h
  · exact .inl rfl
  · exact .inr rfl
  · cases h
theorem compOk_of (K : CtxOk Φ X Γ) (ok : X.Ok) {scope : Scope} (sc : ScOk Γ scope) : CompOk X scope (clFold X.env scope.names []) (compN scope.names) (compCap Γ scope.names) := by
  have cells : ∀ y ∈ scope.names, y.2 = .free → (X.env.cells.lookup y.1).isSome = true := fun y hy e => by
    have hk := capK_or (sc.free y hy e).1
    obtain ⟨c, hc⟩ := ok.has y.1 (by unfold Env.kindOf; rw [K.names]; exact hk)
    rw [hc]; rfl
  have relab : ∀ x, ((relabel scope X.env).names.lookup x = some .cell ∨ (relabel scope X.env).names.lookup x = some .free) → (x, NameKind.free) ∈ scope.names := fun x h => by
    rw [relabel_names K, relabel_lookup] at h
    cases q : scope.names.lookup x with
    | none => rw [q] at h; rcases h with h | h <;> cases h
    | some k =>
      rw [q] at h
      have hm := lookup_mem q
      cases k with
      | free => exact hm
      | cell => exact absurd rfl (sc.nocell _ hm)
      | _ => rcases h with h | h <;> simp at h
  refine ⟨closureFor_fold cells, sc.kind, sc.names, sc.nocell, clFold_sub _ _ cells (fun x c e => by cases e), fun x h => clFold_has _ _ (relab x h), by simp [compCap], fun i j x hi hx => ?_⟩
  unfold compCap at hi
  rw [List.getElem?_map, hx] at hi
  simp only [Option.map_some, Option.some.injEq] at hi
  split at hi
  · cases hi
  · rename_i hl
    have hx2 : x ∈ compN scope.names := List.mem_of_getElem? hx
    unfold compN at hx2
    obtain ⟨⟨x', k⟩, hf, e⟩ := List.mem_map.mp hx2
    obtain ⟨hm, hk⟩ := List.mem_filter.mp hf
    have e' : x' = x := e
    subst e'
    have hkf : k = .free := by
      simp only [Bool.or_eq_true] at hk
      rcases hk with hk | hk
      · have : k = .local := eq_of_beq hk
        subst this
        have := sc.names (x', .local) hm rfl
        rw [this] at hl
        simp at hl
      · exact eq_of_beq hk
    subst hkf
    obtain ⟨f1, f2, f3⟩ := sc.free _ hm rfl
    refine ⟨by rw [K.N]; exact findIdx_get hi, by unfold Env.kindOf; rw [K.names]; exact capK_or f1, ?_⟩
    rw [relabel_names K, relabel_lookup, f2]
    simp only [Option.map_some, Option.some.injEq, beq_self_eq_true, Bool.true_and]
    split
    · exact .inl rfl
    · exact .inr rfl
theorem inner_ok (K : CtxOk Φ X Γ) {scope : Scope} (sc : ScOk Γ scope) (C : Addr) (s0 : Shared) (H0 : Hp) (ex : List Addr) : CtxOk Φ (cxB X scope (clFold X.env scope.names []) C (compN scope.names) s0 H0 ex) (inner Γ scope) where
  names := relabel_names K scope
  kind := sc.kind
  N := rfl
  nd := sc.nd
  calm := K.calm
  xe := rfl
  un := K.un
  dfn := fun h => by cases h
  blt := K.blt
  fns := K.fns
theorem tests_ok {cs : Es} {n : Nat} {ifs : List Expr} {Γ : Gam} (hl : ifs.length ≤ 1) (hc : cA (cE n Γ) ifs = some cs) {Y : Cx} (ih : ∀ {e : Expr} {e' : E}, cE n Γ e = some e' → GT Y e (evT Φ e')) (hx : Y.xe = fun _ _ => False) :
    ∀ pins s σ H Q, Inv Y pins σ H s → tT Y (evC Φ cs) σ H Q →
    wpAny (model Y.prog Y.w) Y.A (forIn ifs true fun c r => if r = true then do let ok ← isTrue c Y.env (eval c Y.env); pure (ForInStep.yield ok) else pure (ForInStep.yield r)) (TP Y pins σ Q) (fun _ _ => False) s := by
  intro pins s σ H Q I h
  match ifs, hl, hc with
  | [], _, hc =>
    cases hc
    obtain ⟨A, ρ, S, k, S', er, so, e, hq⟩ := h
    cases e
    exact wpAny_tests_nil ⟨H, I, hq _ _ ⟨rfl, A, .refl, so⟩⟩
  | [c], _, hc =>
    obtain ⟨e', es', h1, h2, rfl⟩ := cA_cons hc
    cases h2
    have := ih h1 pins s σ H Q I h
    rw [hx] at this
    exact wpAny_tests_one this
theorem sound_E : ∀ (n : Nat) {Γ : Gam} {X : Cx} {e : Expr} {e' : E}, CtxOk Φ X Γ → cE n Γ e = some e' → GE X e (evE Φ e') ∧ GT X e (evT Φ e') := by
  intro n
  induction n with
  | zero => intro Γ X e e' K h; cases h
  | succ n ih =>
    intro Γ X e e' K h
    have ihE : ∀ {e : Expr} {e' : E}, cE n Γ e = some e' → GE X e (evE Φ e') := fun q => (ih K q).1
    have ihT : ∀ {e : Expr} {e' : E}, cE n Γ e = some e' → GT X e (evT Φ e') := fun q => (ih K q).2
    have hu10 : X.A.units + 10 < cLine := by have := K.un; have : deep = 20 := rfl; omega
    cases e with
    | Constant c k p =>
      cases c <;> simp only [cE, Option.some.injEq] at h <;> first | cases h | skip
      all_goals (try subst h)
      all_goals first
        | exact ⟨ge_c pe_non (fun _ _ => .non), gt_val (ge_c pe_non (fun _ _ => .non)) fun _ => rfl⟩
        | exact ⟨ge_c pe_bl (fun _ _ => .bl), gt_val (ge_c pe_bl (fun _ _ => .bl)) fun _ => rfl⟩
        | exact ⟨ge_c pe_int (fun _ _ => .int), gt_val (ge_c pe_int (fun _ _ => .int)) fun _ => rfl⟩
        | exact ⟨ge_c pe_str (fun _ _ => .str), gt_val (ge_c pe_str (fun _ _ => .str)) fun _ => rfl⟩
    | Name x p =>
      simp only [cE, Option.map_eq_some_iff] at h
      obtain ⟨i, h1, rfl⟩ := h
      exact ⟨s_name K h1, gt_val (s_name K h1) fun _ => rfl⟩
    | BinOp a op b p =>
      simp only [cE] at h
      split at h
      · rename_i o a' b' h1 h2 h3
        cases h
        have e := bopOf_py h1
        subst e
        exact ⟨ge_op (lop_all o) (ihE h2) (ihE h3), gt_val (ge_op (lop_all o) (ihE h2) (ihE h3)) fun _ => rfl⟩
      · cases h
    | UnaryOp op a p =>
      cases op with
      | Not =>
        simp only [cE, Option.map_eq_some_iff] at h
        obtain ⟨a', h1, rfl⟩ := h
        exact ⟨ge_not (ihE h1), gt_not (ihT h1)⟩
      | USub =>
        simp only [cE, Option.map_eq_some_iff] at h
        obtain ⟨a', h1, rfl⟩ := h
        exact ⟨ge_neg (ihE h1), gt_val (ge_neg (ihE h1)) fun _ => rfl⟩
      | _ => exact no_some h
    | BoolOp op vs p =>
      simp only [cE] at h
      exact ⟨s_boolE ihE h, (s_boolT ihT h).pt⟩
    | Compare a ops cs p =>
      match ops, cs, h with
      | [op], [b], h =>
        simp only [cE] at h
        split at h
        · rename_i o a' b' h1 h2 h3
          cases h
          have e := copOf_py h1
          subst e
          exact ⟨ge_cmp K.un (ihE h2) (ihE h3) (cE_noSet h3), gt_cmp K.un (ihE h2) (ihE h3) (cE_noSet h3)⟩
        · cases h
      | [op, op'], [b, d], h =>
        simp only [cE] at h
        split at h
        · rename_i o o' a' b' d' h1 h2 h3 h4 h5
          cases h
          have e := copOf_py h1
          subst e
          have e := copOf_py h2
          subst e
          exact ⟨ge_chain K.un (ihE h3) (ihE h4) (ihE h5) (cE_noSet h5), gt_chain K.un (ihE h3) (ihE h4) (ihE h5) (cE_noSet h5)⟩
        · cases h
      | [], _, h => exact no_some h
      | [_], [], h => exact no_some h
      | [_], _ :: _ :: _, h => exact no_some h
      | [_, _], [], h => exact no_some h
      | [_, _], [_], h => exact no_some h
      | [_, _], _ :: _ :: _ :: _, h => exact no_some h
      | _ :: _ :: _ :: _, _, h => exact no_some h
    | IfExp t a b p =>
      simp only [cE] at h
      split at h
      · rename_i t' a' b' h1 h2 h3
        cases h
        exact ⟨ge_ite (ihT h1) (ihE h2) (ihE h3), gt_none⟩
      · cases h
    | Call f args kws p =>
      cases kws with
      | cons _ _ => cases f <;> first | (exact no_some h) | (cases args <;> (exact no_some h))
      | nil =>
        cases f with
        | Name x q =>
          simp only [cE] at h
          split at h
          · rename_i hg
            split at h
            · rename_i k hk
              rw [Option.map_eq_some_iff] at h
              obtain ⟨r, hr, rfl⟩ := h
              have g := s_own (pos := p) (p := q) K hg hk hr (s_args ihE hr)
              exact ⟨g, gt_val g fun _ => rfl⟩
            · split at h
              · rename_i his
                split at h
                · rename_i hc
                  obtain ⟨g, a', c', rfl⟩ := s_isi (pos := p) (p := q) K hg his hc ihE h
                  exact ⟨g, gt_val g fun _ => rfl⟩
                · cases h
              · split at h
                · rename_i bb a as hb
                  split at h
                  · rename_i hc
                    rw [Option.map_eq_some_iff] at h
                    obtain ⟨r, hr, rfl⟩ := h
                    have g := s_bi (pos := p) (p := q) K hg hb hc hr (s_args ihE hr)
                    exact ⟨g, gt_val g fun _ => rfl⟩
                  · cases h
                · cases h
          · cases h
        | Attribute o m q =>
          cases args with
          | nil => exact no_some h
          | cons a as =>
            simp only [cE] at h
            split at h
            · rename_i m' o' es h1 h2 h3
              split at h
              · rename_i hc
                rw [Bool.and_eq_true, Bool.and_eq_true, decide_eq_true_eq] at hc
                cases h
                have g := s_me K (cpos := p) (apos := q) h1 hc.1.1 hc.1.2 hc.2 (ihE h2) h3 (s_args ihE h3)
                exact ⟨g, gt_val g fun _ => rfl⟩
              · cases h
            · cases h
        | _ => exact no_some h
    | Subscript a b p =>
      have plain : (match cE n Γ a, cE n Γ b with | some a', some b' => some (E.ix a' b') | _, _ => none) = some e' → GE X (.Subscript a b p) (evE Φ e') ∧ GT X (.Subscript a b p) (evT Φ e') := fun h => by
        split at h
        · rename_i a' b' h1 h2
          cases h
          have g := ge_ix (pos := p) hu10 (ihE h1) (ihE h2) (cE_plainIx h2)
          exact ⟨g, gt_val g fun _ => rfl⟩
        · cases h
      cases b with
      | Slice lo hi st q =>
        cases st with
        | none =>
          simp only [cE] at h
          split at h
          · rename_i a' lo' hi' h1 h2 h3
            cases h
            have g := ge_sl (pos := p) (p2 := q) (ihE h1) (s_part ihE h2) (s_part ihE h3)
            exact ⟨g, gt_val g fun _ => rfl⟩
          · cases h
        | some z =>
          refine plain ?_
          simp only [cE] at h
          exact h
      | _ =>
        refine plain ?_
        simp only [cE] at h
        exact h
    | Tuple es k p =>
      simp only [cE, Option.map_eq_some_iff] at h
      obtain ⟨r, h1, rfl⟩ := h
      exact ⟨ge_tup (s_args ihE h1), gt_val (ge_tup (s_args ihE h1)) fun _ => rfl⟩
    | List es p =>
      simp only [cE, Option.map_eq_some_iff] at h
      obtain ⟨r, h1, rfl⟩ := h
      exact ⟨ge_lst (s_args ihE h1), gt_val (ge_lst (s_args ihE h1)) fun _ => rfl⟩
    | Dict keys values p =>
      simp only [cE] at h
      split at h
      · rename_i hc
        cases h
        rw [Bool.and_eq_true] at hc
        have k0 : keys = [] := List.isEmpty_iff.mp hc.1
        have v0 : values = [] := List.isEmpty_iff.mp hc.2
        subst k0 v0
        exact ⟨ge_dnew, gt_val ge_dnew fun _ => rfl⟩
      · rename_i hc0
        split at h
        · rename_i hc
          rw [Bool.and_eq_true, Bool.and_eq_true, decide_eq_true_eq, decide_eq_true_eq] at hc
          rw [Option.map_eq_some_iff] at h
          obtain ⟨r, hr, rfl⟩ := h
          have h0 : keys ≠ [] := fun z => by
            subst z
            have v0 : values = [] := List.length_eq_zero_iff.mp hc.1.2.symm
            subst v0
            exact hc0 rfl
          have g := ge_disp (pos := p) hu10 (s_pairs ihE keys values hc.1.1 hc.1.2 hr) hc.1.1 hc.1.2 h0 hc.2
          exact ⟨g, gt_val g fun _ => rfl⟩
        · cases h
    | ListComp elt gens scope p =>
      match gens, h with
      | [⟨tg, iter, ifs, asy⟩], h =>
        simp only [cE] at h
        split at h
        · rename_i hc
          rw [Bool.and_eq_true, Bool.and_eq_true, decide_eq_true_eq] at hc
          have e0 : asy = 0 := eq_of_beq hc.1
          subst e0
          replace hc := hc.2
          split at h
          · rename_i it t cs el h1 h2 h3 h4
            cases h
            have sc := scOk_of hc.1
            refine ⟨ge_comp K.calm (s_iter K ihE h1) (fun ok => ⟨_, compOk_of K ok sc, ?_⟩) (fold_ok (n := n) (fun el k p => by cases n <;> simp [cE]) h1), gt_none⟩
            refine ⟨fun C s0 H0 ex => s_tgt (inner_ok K sc C s0 H0 ex) h2, fun C s0 H0 ex pins s σ H Q I q => ?_, fun C s0 H0 ex => (ih (inner_ok K sc C s0 H0 ex) h4).1⟩
            exact tests_ok hc.2 h3 (fun z => (ih (inner_ok K sc C s0 H0 ex) z).2) rfl pins s σ H Q I q
          · cases h
        · cases h
      | [], h => exact no_some h
      | ⟨_, _, _, _⟩ :: _ :: _, h => exact no_some h
    | _ => exact no_some h
end
end Mi
set_option Elab.async false
set_option linter.all false
set_option maxRecDepth 100000
namespace Mi
open PySem PySem.Spec PyProof.Rows L2
noncomputable abbrev eDeep : Nat := 30
noncomputable def isDoc : Expr → Bool
  | .Constant (.str _) _ _ => true
  | _ => false
noncomputable def isComp : Expr → Bool
  | .ListComp _ _ _ _ => true
  | _ => false
noncomputable def isTup : Expr → Bool
  | .Tuple _ _ _ => true
  | _ => false
noncomputable def isSlice : Expr → Bool
  | .Slice _ _ _ _ => true
  | _ => false
noncomputable def cSs (f : Stmt → Option Sm) (ss : List Stmt) : Option Ss := ss.foldr (fun s acc => match f s, acc with | some s', some ss' => some (.cons s' ss') | _, _ => none) (some .nil)
noncomputable def cPar (Γ : Gam) : List Expr → Expr → Option Sm
  | [.Name x px, .Name y py], .Tuple [a, b] _ _ => match Γ.N.findIdx? (· == x), Γ.N.findIdx? (· == y), cA (cE eDeep Γ) [a, b] with
    | some i, some j, some es => if !(i == j) && (Γ.sc.lookup x == some .local) && (Γ.sc.lookup y == some .local) && (py.line == px.line) && !([a, b].all (foldedForSure 8)) && !([a, b].all (constantsAlone 8)) then some (.par i j es) else none
    | _, _, _ => none
  | _, _ => none
noncomputable def cS : Nat → Gam → Stmt → Option Sm
  | 0, _, _ => none
  | n + 1, Γ, st => match st with
    | .Assign [.Name x _] e _ => match storeSlot Γ x, cE eDeep Γ e with
      | some i, some e' => some (.set i e')
      | _, _ => none
    | .Assign [.Tuple ts _ _] e _ => if isTup e then cPar Γ ts e else if isComp e then none else match cTs Γ ts, cE eDeep Γ e with
      | some is, some e' => some (.asg is e')
      | _, _ => none
    | .Assign [.Subscript o k _] e _ => if isSlice k then none else match cE eDeep Γ o, cE eDeep Γ k, cE eDeep Γ e with
      | some o', some k', some e' => some (.put o' k' e')
      | _, _, _ => none
    | .Expr e _ => if isDoc e then some .pass else if isComp e then none else (cE eDeep Γ e).map .ex
    | .Return (some e) _ => (cE eDeep Γ e).map .ret
    | .Return none _ => some .retN
    | .Pass _ => some .pass
    | .Break _ => some .brk
    | .Continue _ => some .cont
    | .If t a b _ => match cE eDeep Γ t, cSs (cS n Γ) a, cSs (cS n Γ) b with
      | some t', some a', some b' => some (.ite t' a' b')
      | _, _, _ => none
    | .While t b [] _ => match cE eDeep Γ t, cSs (cS n Γ) b with
      | some t', some b' => some (.whl t' b')
      | _, _ => none
    | .For tg it b [] _ => match cT Γ tg, cI Γ (cE eDeep Γ) it, cSs (cS n Γ) b with
      | some t, some i, some b' => some (.loop t i b')
      | _, _, _ => none
    | _ => none
section
variable {Φ : Str → FF} {X : Cx} {Γ : Gam} {fuel : Nat}
theorem cSs_cons {f : Stmt → Option Sm} {s : Stmt} {ss : List Stmt} {r : Ss} (h : cSs f (s :: ss) = some r) : ∃ s' ss', f s = some s' ∧ cSs f ss = some ss' ∧ r = .cons s' ss' := by
  simp only [cSs, List.foldr_cons] at h
  split at h
  · rename_i e' es' h1 h2
    cases h
    exact ⟨e', es', h1, h2, rfl⟩
  · cases h
theorem s_block {n : Nat} (ih : ∀ {st : Stmt} {s' : Sm}, cS n Γ st = some s' → GS X st (evS Φ fuel s')) : ∀ {ss : List Stmt} {r : Ss}, cSs (cS n Γ) ss = some r → GSs X ss (evSs Φ fuel r)
  | [], r, h => by cases h; exact gss_nil
  | s :: ss, r, h => by
    obtain ⟨s', ss', h1, h2, rfl⟩ := cSs_cons h
    exact gss_cons (ih h1) (s_block ih h2)
theorem swaps_no {e : Expr} {t : Option Expr} {l : Nat} {env : Env} (h : isComp e = false) (n : Nat) {Γ : Gam} {e' : E} (hc : cE n Γ e = some e') : swapsWith e t l env = pure false := by
  cases n with
  | zero => cases hc
  | succ n => cases e <;> first | (exfalso; exact no_some hc) | rfl | cases h
theorem comp_parts (K : CtxOk Φ X Γ) {n : Nat} {elt : Expr} {gens : List Comprehension} {scope : Scope} {p : Pos} {e' : E} (h : cE (n + 1) Γ (.ListComp elt gens scope p) = some e') :
    ∃ tg iter ifs fi g c f cap, gens = [⟨tg, iter, ifs, 0⟩] ∧ evE Φ e' = fComp fi g c f cap ∧ GI X tg iter fi ∧ (X.Ok → ∃ cl, CompOk X scope cl (compN scope.names) cap ∧ BlockOk X scope cl (compN scope.names) tg elt ifs g c f) ∧ ∀ x, foldedSetIterable iter X.env x = pure x := by
  match gens, h with
  | [⟨tg, iter, ifs, asy⟩], h =>
    simp only [cE] at h
    split at h
    · rename_i hc
      rw [Bool.and_eq_true, Bool.and_eq_true, decide_eq_true_eq] at hc
      have e0 : asy = 0 := eq_of_beq hc.1
      subst e0
      replace hc := hc.2
      split at h
      · rename_i it t cs el h1 h2 h3 h4
        cases h
        have sc := scOk_of hc.1
        refine ⟨tg, iter, ifs, _, _, _, _, _, rfl, rfl, s_iter K (fun z => (sound_E n K z).1) h1, fun ok => ⟨_, compOk_of K ok sc, ?_⟩, fold_ok (n := n) (fun el k p => by cases n <;> simp [cE]) h1⟩
        refine ⟨fun C s0 H0 ex => s_tgt (inner_ok K sc C s0 H0 ex) h2, fun C s0 H0 ex pins s σ H Q I q => ?_, fun C s0 H0 ex => (sound_E n (inner_ok K sc C s0 H0 ex) h4).1⟩
        exact tests_ok hc.2 h3 (fun z => (sound_E n (inner_ok K sc C s0 H0 ex) z).2) rfl pins s σ H Q I q
      · cases h
    · cases h
  | [], h => exact no_some h
  | ⟨_, _, _, _⟩ :: _ :: _, h => exact no_some h
theorem s_set (K : CtxOk Φ X Γ) {x : Str} {px pos : Pos} {e : Expr} {i : Nat} {e' : E} (hi : storeSlot Γ x = some i) (he : cE eDeep Γ e = some e') : GS X (.Assign [.Name x px] e pos) (fAsg (evE Φ e') (gNm i)) := by
  obtain ⟨a, b, c⟩ := s_store K hi
  have hN : X.N.Nodup := by rw [K.N]; exact K.nd
  have plain : swapsWith e (some (.Name x px)) pos.line X.env = pure false → GS X (.Assign [.Name x px] e pos) (fAsg (evE Φ e') (gNm i)) := fun hs => gs_asg (sound_E _ K he).1 (gg_name hN a b c) hs (by cases e <;> rfl) rfl
  cases hc : isComp e with
  | false => exact plain (swaps_no hc _ he)
  | true =>
    cases e with
    | ListComp elt gens scope p =>
      cases hsw : (X.env.blockKind == .function && X.env.kindOf x == some .local && px.line == p.line && !(scope.names.any fun (n, k) => n == x && (k == .local || k == .cell))) with
      | false =>
        refine plain ?_
        show (pure (X.env.blockKind == .function && X.env.kindOf x == some .local && px.line == p.line && !(scope.names.any fun (n, k) => n == x && (k == .local || k == .cell))) : Sem Bool) = pure false
        rw [hsw]
      | true =>
        have hsw' : swapsWith (.ListComp elt gens scope p) (some (.Name x px)) pos.line X.env = pure true := by
          show (pure (X.env.blockKind == .function && X.env.kindOf x == some .local && px.line == p.line && !(scope.names.any fun (n, k) => n == x && (k == .local || k == .cell))) : Sem Bool) = pure true
          rw [hsw]
        rw [Bool.and_eq_true, Bool.and_eq_true, Bool.and_eq_true] at hsw
        have hl : X.env.scope.names.lookup x = some .local := eq_of_beq hsw.1.1.2
        obtain ⟨tg, iter, ifs, fi, g, c', f, cap, rfl, e2, gi, hck, hs⟩ := comp_parts K he
        rw [e2]
        exact gs_setcomp K.calm gi hck hs hsw' hN a hl
    | _ => cases hc
theorem swapped_par (K : CtxOk Φ X Γ) {x y : Str} {px py pt pt2 : Pos} {kt k2 : Nat} {a b : Expr} (hxy : x ≠ y) (hx : Γ.sc.lookup x = some .local) (hy : Γ.sc.lookup y = some .local) (hl : (py.line == px.line) = true) (h1 : [a, b].all (foldedForSure 8) = false) (h2 : [a, b].all (constantsAlone 8) = false) (hs : noStar a = true) (hs2 : noStar b = true) :
    swappedStores [.Tuple [.Name x px, .Name y py] kt pt] (.Tuple [a, b] k2 pt2) X.env = pure (some [x, y]) := by
  have kx : (X.env.kindOf x == some .local) = true := by unfold Env.kindOf; rw [K.names, hx]; rfl
  have ky : (X.env.kindOf y == some .local) = true := by unfold Env.kindOf; rw [K.names, hy]; rfl
  have bk : (X.env.blockKind != .function) = false := by
    unfold Env.blockKind
    rw [K.kind]
    rfl
  have hp : (px.line == px.line) = true := by simp
  have ed : ([x, y].eraseDups.length != [x, y].length) = false := by
    have : (y == x) = false := by simpa using Ne.symm hxy
    simp [List.eraseDups_cons, this]
  have kx' : X.env.kindOf x = some .local := eq_of_beq kx
  have ky' : X.env.kindOf y = some .local := eq_of_beq ky
  have hl' : py.line = px.line := eq_of_beq hl
  have bk' : X.env.blockKind = .function := by simpa using bk
  have yx : (y == x) = false := by simpa using Ne.symm hxy
  have h1' : (foldedForSure 8 a && foldedForSure 8 b) = false := by simpa using h1
  have h2' : (constantsAlone 8 a && constantsAlone 8 b) = false := by simpa using h2
  unfold swappedStores
  simp only [List.any_cons, List.any_nil, Bool.or_false, List.filterMap_cons, List.filterMap_nil, kx', ky', bk', List.head?_cons, Option.map_some, Option.getD_some, List.length_cons, List.length_nil, List.all_cons, List.all_nil, Bool.and_true, h1', h2']
  refine Eq.trans (if_neg ?_) (Eq.trans (if_neg ?_) ?_)
  · decide
  · rw [Bool.or_eq_true]
    rintro (hh | hh)
    · clear h1 h2 h1' h2'
      cases a <;> first | (cases hh; done) | (cases hs; done)
    · clear h1 h2 h1' h2'
      cases b <;> first | (cases hh; done) | (cases hs2; done)
  · simp [Expr.pos, hl', yx, List.eraseDups_cons]
theorem sound_S (fuel : Nat) (K : CtxOk Φ X Γ) : ∀ (n : Nat) {st : Stmt} {s' : Sm}, cS n Γ st = some s' → GS X st (evS Φ fuel s') := by
  have hN : X.N.Nodup := by rw [K.N]; exact K.nd
  have own : PassesOwn (model X.prog X.w) X.A X.env X.xe := by rw [K.xe]; exact PassesOwn.never
  intro n
  induction n with
  | zero => intro st s' h; cases h
  | succ n ih =>
    intro st s' h
    cases st with
    | Expr e p =>
      simp only [cS] at h
      split at h
      · rename_i hd
        cases h
        cases e with
        | Constant c k q =>
          cases c with
          | str x => exact gs_doc
          | _ => cases hd
        | _ => cases hd
      · split at h
        · cases h
        · rename_i hd hc
          rw [Option.map_eq_some_iff] at h
          obtain ⟨e', h1, rfl⟩ := h
          exact gs_ex (sound_E _ K h1).1 (swaps_no (by simpa using hc) _ h1)
    | Return o p =>
      cases o with
      | none => cases h; exact gs_retN
      | some e =>
        simp only [cS, Option.map_eq_some_iff] at h
        obtain ⟨e', h1, rfl⟩ := h
        exact gs_ret (sound_E _ K h1).1
    | Pass p => cases h; exact gs_pass
    | Break p => cases h; exact gs_break
    | Continue p => cases h; exact gs_cont
    | If t a b p =>
      simp only [cS] at h
      split at h
      · rename_i t' a' b' h1 h2 h3
        cases h
        exact gs_if (sound_E _ K h1).2 (s_block ih h2) (s_block ih h3)
      · cases h
    | While t b o p =>
      cases o with
      | cons _ _ => exact no_some h
      | nil =>
        simp only [cS] at h
        split at h
        · rename_i t' b' h1 h2
          cases h
          exact gs_while fuel own (sound_E _ K h1).2 (s_block ih h2)
        · cases h
    | For tg it b o p =>
      cases o with
      | cons _ _ => exact no_some h
      | nil =>
        simp only [cS] at h
        split at h
        · rename_i t i b' h1 h2 h3
          cases h
          exact gs_for own K.calm (s_iter K (fun z => (sound_E _ K z).1) h2) (s_tgt K h1) (s_block ih h3) (fold_ok (n := eDeep) (fun el k p => by simp [eDeep, cE]) h2)
        · cases h
    | Assign ts e p =>
      match ts, h with
      | [], h => exact no_some h
      | a :: _ :: _, h => cases a <;> exact no_some h
      | [t], h =>
        cases t with
        | Name x px =>
          simp only [cS] at h
          split at h
          · rename_i i e' h1 h2
            cases h
            exact s_set K h1 h2
          · cases h
        | Subscript o k q =>
          simp only [cS] at h
          split at h
          · cases h
          · rename_i hc
            split at h
            · rename_i o' k' e' h1 h2 h3
              cases h
              refine gs_asg (sound_E _ K h3).1 (gg_sub (by have := K.un; have : deep = 20 := rfl; omega) (sound_E _ K h1).1 (sound_E _ K h2).1 ?_) (by cases e <;> rfl) (by cases e <;> rfl) rfl
              intro v
              cases k <;> first | rfl | exact absurd rfl hc
            · cases h
        | Tuple ts' k q =>
          have par : ∀ {x y : Str} {px py : Pos} {a b : PySem.Expr} {k2 : Nat} {q2 : Pos}, (match Γ.N.findIdx? (· == x), Γ.N.findIdx? (· == y), cA (cE eDeep Γ) [a, b] with
              | some i, some j, some es => if !(i == j) && (Γ.sc.lookup x == some .local) && (Γ.sc.lookup y == some .local) && (py.line == px.line) && !([a, b].all (foldedForSure 8)) && !([a, b].all (constantsAlone 8)) then some (Sm.par i j es) else none
              | _, _, _ => none) = some s' → GS X (.Assign [.Tuple [.Name x px, .Name y py] k q] (.Tuple [a, b] k2 q2) p) (evS Φ fuel s') := fun {x y px py a b k2 q2} h => by
            split at h
            · rename_i i j es h1 h2 h3
              split at h
              · rename_i hc
                cases h
                rw [Bool.and_eq_true, Bool.and_eq_true, Bool.and_eq_true, Bool.and_eq_true, Bool.and_eq_true] at hc
                obtain ⟨⟨⟨⟨⟨c1, c2⟩, c3⟩, c4⟩, c5⟩, c6⟩ := hc
                have hij : i ≠ j := by simpa using c1
                have ns := cA_noStar h3
                rw [List.all_cons, List.all_cons, Bool.and_eq_true, Bool.and_eq_true] at ns
                have hi : X.N[i]? = some x := by rw [K.N]; exact findIdx_get h1
                have hj : X.N[j]? = some y := by rw [K.N]; exact findIdx_get h2
                refine gs_par K.calm hN hi hj hij (by rw [K.names]; exact eq_of_beq c2) (by rw [K.names]; exact eq_of_beq c3) (s_args (fun z => (sound_E _ K z).1) h3) (swapped_par K ?_ (eq_of_beq c2) (eq_of_beq c3) c4 (by rw [← Bool.not_eq_true']; exact c5) (by rw [← Bool.not_eq_true']; exact c6) ns.1 ns.2.1) rfl
                rintro rfl
                rw [h1] at h2
                cases h2
                exact hij rfl
              · cases h
            · cases h
          simp only [cS] at h
          split at h
          · unfold cPar at h
            split at h
            · exact par h
            · cases h
          · split at h
            · cases h
            · rename_i hc1 hc2
              split at h
              · rename_i is e' h1 h2
                cases h
                refine gs_asg (sound_E _ K h2).1 (s_tgt (tg := .Tuple ts' k q) (t := .tp is) K (by simp [cT, h1])) (swaps_no (t := some (.Tuple ts' k q)) (l := p.line) (env := X.env) (by simpa using hc2) _ h2) ?_ rfl
                cases e <;> first | rfl | exact absurd rfl hc1
              · cases h
        | _ => exact no_some h
    | _ => exact no_some h
end
end Mi
set_option Elab.async false
set_option linter.all false
set_option maxRecDepth 100000
namespace Mi
open PySem PySem.Spec PyProof.Rows L2
structure Df where
  ps : List Str
  N : List Str
  body : Ss
noncomputable def frame0 (N : List Str) (ws : List W) : Fm := ws.map some ++ List.replicate (N.length - ws.length) none
noncomputable def callD (defs : List (Str × Df)) (fuel : Nat) : Nat → Str → FF
  | 0, _, _, _ => none
  | d + 1, f, ws, S => match defs.lookup f with
    | some df => if ws.length = df.ps.length then match evSs (callD defs fuel d) fuel df.body (frame0 df.N ws) S with
        | some (.rt w, S') => some (w, S')
        | some (.nx _, S') => some (.non, S')
        | _ => none
      else none
    | none => none
noncomputable def gamOf (fns : List (Str × Nat)) (blt : List Str) (st : Stmt) (N : List Str) : Gam := { sc := (defScope st).names, N := N, fns := fns, blt := blt, dfn := true }
noncomputable def isDf (fns : List (Str × Nat)) (blt : List Str) (st : Stmt) (df : Df) : Prop := cSs (cS 20 (gamOf fns blt st df.N)) (defBody st) = some df.body
theorem env_start {K : PySem.W.Frag} {A : List Addr} {H : Hp} {ws : List W} {vs : List V} {N : List Str} (r : RelL K A H ws vs) : EnvRel K A H (frame0 N ws) (start N vs) := by
  refine ⟨by simp [frame0, L2.start, r.length], fun i w h => ?_⟩
  unfold frame0 at h
  unfold L2.start
  by_cases hi : i < ws.length
  · rw [List.getElem?_append_left (by simpa using hi), List.getElem?_map] at h
    rw [List.getElem?_append_left (by rw [List.length_map, ← r.length]; exact hi), List.getElem?_map]
    cases q : ws[i]? with
    | none => rw [q] at h; cases h
    | some w' =>
      rw [q] at h
      simp only [Option.map_some, Option.some.injEq] at h
      subst h
      obtain ⟨v, h1, h2⟩ := r.get q
      exact ⟨v, by rw [h1]; rfl, h2⟩
  · rw [List.getElem?_append_right (by simpa using hi)] at h
    have := List.mem_of_getElem? h
    simp at this
section
variable {P : Program} {w : World} {K : PySem.W.Frag} {mg : Str → Option Value} {base : Heap}
noncomputable def FnsOk (P : Program) (w : World) (K : PySem.W.Frag) (mg : Str → Option Value) (base : Heap) (fns : List (Str × Nat)) (defs : List (Str × Df)) (fuel d : Nat) : Prop :=
  ∀ f n, fns.lookup f = some n → ∃ fa fd ps, FnOk P w K mg base CX0 d fa fd ps (spF w K n (callD defs fuel d f)) ∧ mg f = some (.ref fa) ∧ PySem.W.keepIn K (.ref fa) = true ∧ Binds K fd ps []
theorem fn_ok {fns : List (Str × Nat)} {blt : List Str} {defs : List (Str × Df)} {fuel d : Nat} {x qual : Str} {st : Stmt} {f : Addr} {fd : FuncData} {df : Df} (F : Fun K x qual st f fd) (S : FnScope df.N df.ps (defScope st)) (hd : defs.lookup x = some df) (hc : isDf fns blt st df)
    (hb : ∀ y ∈ blt, mg y = none) (prev : FnsOk P w K mg base fns defs fuel d) : FnOk P w K mg base CX0 (d + 1) f fd df.ps (spF w K df.ps.length (callD defs fuel (d + 1) x)) := by
  refine F.ok S (fun vs H Q E h => ?_) (fun cdv A outer s H vs Q E hr h => ?_)
  · obtain ⟨A, S, ws, w', S', _, rl, hl, _⟩ := h
    rw [← rl.length]; exact hl
  · obtain ⟨A', St, ws, w', S', so, rl, hl, e, hq⟩ := h
    have K' : CtxOk (callD defs fuel d) (cxOf CX0 P w K mg base df.N qual (defScope st) f cdv A outer s H E).nox (gamOf fns blt st df.N) := by
      refine ⟨rfl, S.kind, rfl, S.nd, rfl, rfl, ?_, fun _ _ => rfl, hb, fun g n hg => ?_⟩
      · have := hr.un
        show (A.deeper _).units + 20 < cLine
        omega
      · obtain ⟨fa, fd', ps', h1, h2, h3, h4⟩ := prev g n hg
        exact ⟨d, fa, fd', ps', h1, hr, h2, h3, h4⟩
    refine ⟨tS _ (evSs (callD defs fuel d) fuel df.body), s_block (fun z => sound_S fuel K' 20 z) hc, ?_⟩
    simp only [callD, hd] at e
    rw [if_pos hl] at e
    split at e
    · rename_i w1 S1 h1
      cases e
      refine ⟨A', frame0 df.N ws, St, _, _, env_start rl, so, h1, ⟨fun σ' H' ⟨_, _, z, _⟩ => (by cases z), fun v H' ⟨w2, A2, z0, z1, z2, z3⟩ => ?_, fun σ' H' ⟨_, _, z, _⟩ => (by cases z), fun σ' H' ⟨_, _, z, _⟩ => (by cases z)⟩⟩
      cases z0
      exact hq v H' ⟨A2, z1, z2, z3⟩
    · rename_i ρ1 S1 h1
      cases e
      refine ⟨A', frame0 df.N ws, St, _, _, env_start rl, so, h1, ⟨fun σ' H' ⟨w2, A2, z0, z1, z2, z3⟩ => ?_, fun σ' H' ⟨_, _, z, _⟩ => (by cases z), fun σ' H' ⟨_, _, z, _⟩ => (by cases z), fun σ' H' ⟨_, _, z, _⟩ => (by cases z)⟩⟩
      exact hq _ H' ⟨A2, z1, z2, .non⟩
    · cases e
theorem script_ok {H : Hp} {a : Addr} {ns : List Int} (hO : Only H) (hS : SqL K H a (ns.map V.int)) : StoreOk w K [a] H [.fro (ns.map W.int)] ∧ RelL K [a] H [.ref 0] [.ref a] := by
  have rl : ∀ ns : List Int, RelL K [a] H (ns.map W.int) (ns.map V.int) := by
    intro ns
    induction ns with
    | nil => exact .nil
    | cons n ns ih => exact .cons .int ih
  have fr : FroL K H a (ns.map V.int) := by
    rcases hS with (h | ⟨o, h⟩) | h
    · rcases hO a with z | ⟨o, xs, z⟩ <;> (rw [z] at h; cases h)
    · exact .inl ⟨o, h⟩
    · exact .inr h
  refine ⟨⟨rfl, fun i j b o u e1 m1 e2 m2 _ _ => ?_, fun i o b e1 e2 => ?_⟩, .cons (.ref rfl) .nil⟩
  · cases i with
    | zero => simp at e1; subst e1; cases m1
    | succ i => simp at e1
  · cases i with
    | zero =>
      simp at e1 e2
      subst e1 e2
      exact ⟨_, fr, rl ns⟩
    | succ i => simp at e1
theorem law_sp {g : FF} {H : Hp} {a : Addr} {ns : List Int} (h : ∃ S', g [.ref 0] [.fro (ns.map W.int)] = some (.bl true, S')) (hO : Only H) (hS : SqL K H a (ns.map V.int)) : spF w K 1 g [.ref a] H (fun v _ => v = .bl true) fun _ _ _ => False := by
  obtain ⟨S', e⟩ := h
  obtain ⟨so, rl⟩ := script_ok hO hS
  exact ⟨[a], _, _, _, S', so, rl, rfl, e, fun v H' ⟨A', z1, z2, z3⟩ => by cases z3; rfl⟩
end
end Mi
set_option Elab.async false
set_option linter.all false
set_option maxRecDepth 100000
namespace Mi
open PySem PySem.Spec PyProof.Rows L2
noncomputable def Wp {α : Type} (o : Option α) (Q : α → Prop) : Prop := ∃ a, o = some a ∧ Q a
theorem wp_some {α : Type} {a : α} {Q : α → Prop} : Wp (some a) Q ↔ Q a := ⟨fun ⟨b, e, h⟩ => (by cases e; exact h), fun h => ⟨a, rfl, h⟩⟩
theorem wp_none {α : Type} {Q : α → Prop} : Wp (none : Option α) Q ↔ False := ⟨fun ⟨b, e, h⟩ => (by cases e), fun h => h.elim⟩
theorem Wp.mono {α : Type} {o : Option α} {Q Q' : α → Prop} (h : Wp o Q) (k : ∀ a, Q a → Q' a) : Wp o Q' := let ⟨a, e, q⟩ := h; ⟨a, e, k a q⟩
theorem wp_map {α β : Type} {o : Option α} {f : α → β} {Q : β → Prop} : Wp (o.map f) Q ↔ Wp o fun a => Q (f a) := by cases o <;> simp [wp_some, wp_none]
section
variable {Φ : Str → FF} {fuel : Nat} {ρ : Fm} {S : Store}
noncomputable abbrev QW := W × Store → Prop
theorem x_c {w : W} {Q : QW} : Wp (evE Φ (.c w) ρ S) Q ↔ Q (w, S) := by simp [evE, fC, wp_some, wp_none]
theorem x_v {i : Nat} {Q : QW} : Wp (evE Φ (.v i) ρ S) Q ↔ ∃ w, ρ[i]? = some (some w) ∧ Q (w, S) := by
  simp only [evE, fV]
  rcases h : ρ[i]? with _ | _ | w <;> simp [wp_some, wp_none]
theorem x_fop {g : W → W → Store → Option (W × Store)} {a b : FE} {Q : QW} : Wp (fOp g a b ρ S) Q ↔ Wp (a ρ S) fun p => Wp (b ρ p.2) fun q => Wp (g p.1 q.1 q.2) Q := by
  unfold fOp
  rcases h : a ρ S with _ | ⟨x, S1⟩
  · simp [wp_some, wp_none]
  · rcases h2 : b ρ S1 with _ | ⟨y, S2⟩ <;> simp [wp_some, wp_none, h2]
theorem x_op {o : BOp} {a b : E} {Q : QW} : Wp (evE Φ (.op o a b) ρ S) Q ↔ Wp (evE Φ a ρ S) fun p => Wp (evE Φ b ρ p.2) fun q => Wp (bop o p.1 q.1 q.2) Q := by rw [evE]; exact x_fop
theorem x_cmp {o : COp} {a b : E} {Q : QW} : Wp (evE Φ (.cmp o a b) ρ S) Q ↔ Wp (evE Φ a ρ S) fun p => Wp (evE Φ b ρ p.2) fun q => Wp (copX o p.1 q.1 q.2) Q := by rw [evE]; exact x_fop
theorem x_ix {a b : E} {Q : QW} : Wp (evE Φ (.ix a b) ρ S) Q ↔ Wp (evE Φ a ρ S) fun p => Wp (evE Φ b ρ p.2) fun q => Wp (ixX p.1 q.1 q.2) Q := by rw [evE]; exact x_fop
theorem x_neg {a : E} {Q : QW} : Wp (evE Φ (.neg a) ρ S) Q ↔ Wp (evE Φ a ρ S) fun p => ∃ i, p.1 = .int i ∧ Q (.int (-i), p.2) := by
  simp only [evE, fNeg]
  rcases h : evE Φ a ρ S with _ | ⟨x, S1⟩
  · simp [wp_some, wp_none]
  · cases x <;> simp [wp_some, wp_none]
theorem x_and {a b : E} {Q : QW} : Wp (evE Φ (.and a b) ρ S) Q ↔ Wp (evE Φ a ρ S) fun p => ∃ k, p.1 = .bl k ∧ (k = true → Wp (evE Φ b ρ p.2) Q) ∧ (k = false → Q (.bl false, p.2)) := by
  simp only [evE, fAndV]
  rcases h : evE Φ a ρ S with _ | ⟨x, S1⟩
  · simp [wp_some, wp_none]
  · cases x <;> simp [wp_some, wp_none]
    rename_i b; cases b <;> simp [wp_some, wp_none]
theorem x_or {a b : E} {Q : QW} : Wp (evE Φ (.or a b) ρ S) Q ↔ Wp (evE Φ a ρ S) fun p => ∃ k, p.1 = .bl k ∧ (k = true → Q (.bl true, p.2)) ∧ (k = false → Wp (evE Φ b ρ p.2) Q) := by
  simp only [evE, fOrV]
  rcases h : evE Φ a ρ S with _ | ⟨x, S1⟩
  · simp [wp_some, wp_none]
  · cases x <;> simp [wp_some, wp_none]
    rename_i b; cases b <;> simp [wp_some, wp_none]
theorem x_not {a : E} {Q : QW} : Wp (evE Φ (.not a) ρ S) Q ↔ Wp (evE Φ a ρ S) fun p => ∃ k, p.1 = .bl k ∧ Q (.bl (!k), p.2) := by
  simp only [evE, fNotV]
  rcases h : evE Φ a ρ S with _ | ⟨x, S1⟩
  · simp [wp_some, wp_none]
  · cases x <;> simp [wp_some, wp_none]
    rename_i k; cases k <;> simp
theorem x_ite {t a b : E} {Q : QW} : Wp (evE Φ (.ite t a b) ρ S) Q ↔ Wp (evT Φ t ρ S) fun p => (p.1 = true → Wp (evE Φ a ρ p.2) Q) ∧ (p.1 = false → Wp (evE Φ b ρ p.2) Q) := by
  simp only [evE, fIte]
  rcases h : evT Φ t ρ S with _ | ⟨x, S1⟩
  · simp [wp_some, wp_none]
  · cases x <;> simp [wp_some, wp_none]
theorem x_own {f : Str} {n : Nat} {es : Es} {Q : QW} : Wp (evE Φ (.own f n es) ρ S) Q ↔ Wp (evA Φ es ρ S) fun p => p.1.length = n ∧ Wp (Φ f p.1 p.2) Q := by
  simp only [evE, fOwn]
  rcases h : evA Φ es ρ S with _ | ⟨x, S1⟩
  · simp [wp_some, wp_none]
  · by_cases hl : x.length = n <;> simp [wp_some, wp_none, hl]
theorem x_bi {b : Bi} {es : Es} {Q : QW} : Wp (evE Φ (.bi b es) ρ S) Q ↔ Wp (evA Φ es ρ S) fun p => Wp (b.fn p.1 p.2) Q := by
  simp only [evE, fCall]
  rcases h : evA Φ es ρ S with _ | ⟨x, S1⟩ <;> simp [wp_some, wp_none]
theorem x_me {m : Me} {o : E} {es : Es} {Q : QW} : Wp (evE Φ (.me m o es) ρ S) Q ↔ Wp (evE Φ o ρ S) fun p => tyOk m.ty p.2 p.1 = true ∧ Wp (evA Φ es ρ p.2) fun q => Wp (m.fn p.1 q.1 q.2) Q := by
  simp only [evE, fMe]
  rcases h : evE Φ o ρ S with _ | ⟨x, S1⟩
  · simp [wp_some, wp_none]
  · by_cases ht : tyOk m.ty S1 x = true
    · rcases h2 : evA Φ es ρ S1 with _ | ⟨y, S2⟩ <;> simp [wp_some, wp_none, ht, h2]
    · simp [wp_some, wp_none, ht]
theorem x_sl {a : E} {lo hi : Ep} {Q : QW} : Wp (evE Φ (.sl a lo hi) ρ S) Q ↔ Wp (evE Φ a ρ S) fun p => Wp (evP Φ lo ρ p.2) fun q => Wp (evP Φ hi ρ q.2) fun r => Wp (slW p.1 q.1 r.1 r.2) Q := by
  simp only [evE, fSl]
  rcases h : evE Φ a ρ S with _ | ⟨x, S1⟩
  · simp [wp_some, wp_none]
  · rcases h2 : evP Φ lo ρ S1 with _ | ⟨y, S2⟩
    · simp [wp_some, wp_none, h2]
    · rcases h3 : evP Φ hi ρ S2 with _ | ⟨z, S3⟩ <;> simp [wp_some, wp_none, h2, h3]
theorem x_no {Q : Option Int × Store → Prop} : Wp (evP Φ .no ρ S) Q ↔ Q (none, S) := by simp [evP, fNoP, wp_some, wp_none]
theorem x_yes {a : E} {Q : Option Int × Store → Prop} : Wp (evP Φ (.yes a) ρ S) Q ↔ Wp (evE Φ a ρ S) fun p => ∃ i, p.1 = .int i ∧ Q (some i, p.2) := by
  simp only [evP, fPart]
  rcases h : evE Φ a ρ S with _ | ⟨x, S1⟩
  · simp [wp_some, wp_none]
  · cases x <;> simp [wp_some, wp_none]
theorem x_tup {es : Es} {Q : QW} : Wp (evE Φ (.tup es) ρ S) Q ↔ Wp (evA Φ es ρ S) fun p => p.1.length ≤ sizeLine ∧ Q (.tup p.1, p.2) := by
  simp only [evE, fTup, newT]
  rcases h : evA Φ es ρ S with _ | ⟨x, S1⟩
  · simp [wp_some, wp_none]
  · by_cases hl : x.length ≤ sizeLine <;> simp [wp_some, wp_none, hl]
theorem x_lst {es : Es} {Q : QW} : Wp (evE Φ (.lst es) ρ S) Q ↔ Wp (evA Φ es ρ S) fun p => p.1.length ≤ sizeLine ∧ Q (.ref p.2.length, p.2 ++ [.lst p.1]) := by
  simp only [evE, fLst, newL]
  rcases h : evA Φ es ρ S with _ | ⟨x, S1⟩
  · simp [wp_some, wp_none]
  · by_cases hl : x.length ≤ sizeLine <;> simp [wp_some, wp_none, hl]
theorem x_isi {c : String} {a : E} {Q : QW} : Wp (evE Φ (.isi c a) ρ S) Q ↔ Wp (evE Φ a ρ S) fun p => ∃ k, isW p.2 p.1 c = some k ∧ Q (.bl k, p.2) := by
  simp only [evE, fIsi]
  rcases h : evE Φ a ρ S with _ | ⟨x, S1⟩
  · simp [wp_some, wp_none]
  · cases h2 : isW S1 x c <;> simp [wp_some, wp_none, h2]
    rename_i k; cases k <;> simp
theorem x_dnew {Q : QW} : Wp (evE Φ .dnew ρ S) Q ↔ Q (.ref S.length, S ++ [.dic []]) := by simp [evE, fDNew, wp_some, wp_none]
theorem x_disp {es : Es} {Q : QW} : Wp (evE Φ (.disp es) ρ S) Q ↔ Wp (evA Φ es ρ (S ++ [.dic []])) fun p => p.2[S.length]? = some (.dic []) ∧ ∃ kvs, putAll [] p.1 = some kvs ∧ Q (.ref S.length, p.2.set S.length (.dic kvs)) := by
  have e : evE Φ (.disp es) ρ S = fDisp (evA Φ es) ρ S := by rw [evE]
  rw [e]
  unfold fDisp
  cases evA Φ es ρ (S ++ [.dic []]) with
  | none => simp [wp_none]
  | some p =>
    obtain ⟨x, S1⟩ := p
    simp only [wp_some]
    cases h2 : S1[S.length]? with
    | none => simp [wp_none]
    | some o =>
      cases o with
      | lst _ => simp [wp_none]
      | fro _ => simp [wp_none]
      | frd _ => simp [wp_none]
      | dic kvs =>
        cases kvs with
        | nil => cases h3 : putAll [] x <;> simp [wp_some, wp_none]
        | cons a b => simp [wp_none]
theorem x_nil {Q : List W × Store → Prop} : Wp (evA Φ .nil ρ S) Q ↔ Q ([], S) := by simp [evA, fNil, wp_some, wp_none]
theorem x_cons {e : E} {es : Es} {Q : List W × Store → Prop} : Wp (evA Φ (.cons e es) ρ S) Q ↔ Wp (evE Φ e ρ S) fun p => Wp (evA Φ es ρ p.2) fun q => Q (p.1 :: q.1, q.2) := by
  simp only [evA, fCons]
  rcases h : evE Φ e ρ S with _ | ⟨x, S1⟩
  · simp [wp_some, wp_none]
  · rcases h2 : evA Φ es ρ S1 with _ | ⟨y, S2⟩ <;> simp [wp_some, wp_none, h2]
noncomputable abbrev QB := Bool × Store → Prop
theorem x_tst {f : FE} {Q : QB} : Wp (fTst f ρ S) Q ↔ Wp (f ρ S) fun p => ∃ k, p.1 = .bl k ∧ Q (k, p.2) := by
  unfold fTst
  rcases h : f ρ S with _ | ⟨x, S1⟩
  · simp [wp_some, wp_none]
  · cases x <;> simp [wp_some, wp_none]
    rename_i k; cases k <;> simp
theorem x_tru {f : FE} {Q : QB} : Wp (fTru f ρ S) Q ↔ Wp (f ρ S) fun p => ∃ k, truW p.2 p.1 = some k ∧ Q (k, p.2) := by
  unfold fTru
  rcases h : f ρ S with _ | ⟨x, S1⟩
  · simp [wp_some, wp_none]
  · cases h2 : truW S1 x <;> simp [wp_some, wp_none, h2]
    rename_i k; cases k <;> simp
theorem t_cmp {o : COp} {a b : E} {Q : QB} : Wp (evT Φ (.cmp o a b) ρ S) Q ↔ Wp (evE Φ (.cmp o a b) ρ S) fun p => ∃ k, p.1 = .bl k ∧ Q (k, p.2) := by rw [evT, evE]; exact x_tst
theorem t_and {a b : E} {Q : QB} : Wp (evT Φ (.and a b) ρ S) Q ↔ Wp (evT Φ a ρ S) fun p => (p.1 = true → Wp (evT Φ b ρ p.2) Q) ∧ (p.1 = false → Q (false, p.2)) := by
  simp only [evT, fAnd]
  rcases h : evT Φ a ρ S with _ | ⟨x, S1⟩
  · simp [wp_some, wp_none]
  · cases x <;> simp [wp_some, wp_none]
theorem t_or {a b : E} {Q : QB} : Wp (evT Φ (.or a b) ρ S) Q ↔ Wp (evT Φ a ρ S) fun p => (p.1 = true → Q (true, p.2)) ∧ (p.1 = false → Wp (evT Φ b ρ p.2) Q) := by
  simp only [evT, fOr]
  rcases h : evT Φ a ρ S with _ | ⟨x, S1⟩
  · simp [wp_some, wp_none]
  · cases x <;> simp [wp_some, wp_none]
theorem t_not {a : E} {Q : QB} : Wp (evT Φ (.not a) ρ S) Q ↔ Wp (evT Φ a ρ S) fun p => Q (!p.1, p.2) := by
  simp only [evT, fNot]
  rcases h : evT Φ a ρ S with _ | ⟨x, S1⟩ <;> simp [wp_some, wp_none]
theorem t_v {i : Nat} {Q : QB} : Wp (evT Φ (.v i) ρ S) Q ↔ Wp (evE Φ (.v i) ρ S) fun p => ∃ k, truW p.2 p.1 = some k ∧ Q (k, p.2) := by rw [evT, evE]; exact x_tru
theorem t_own {f : Str} {n : Nat} {es : Es} {Q : QB} : Wp (evT Φ (.own f n es) ρ S) Q ↔ Wp (evE Φ (.own f n es) ρ S) fun p => ∃ k, truW p.2 p.1 = some k ∧ Q (k, p.2) := by rw [evT, evE]; exact x_tru
theorem t_bi {b : Bi} {es : Es} {Q : QB} : Wp (evT Φ (.bi b es) ρ S) Q ↔ Wp (evE Φ (.bi b es) ρ S) fun p => ∃ k, truW p.2 p.1 = some k ∧ Q (k, p.2) := by rw [evT, evE]; exact x_tru
theorem t_isi {c : String} {a : E} {Q : QB} : Wp (evT Φ (.isi c a) ρ S) Q ↔ Wp (evE Φ (.isi c a) ρ S) fun p => ∃ k, truW p.2 p.1 = some k ∧ Q (k, p.2) := by rw [evT, evE]; exact x_tru
noncomputable abbrev QO := Out × Store → Prop
theorem s_nil {Q : QO} : Wp (evSs Φ fuel .nil ρ S) Q ↔ Q (.nx ρ, S) := by simp [evSs, wp_some, wp_none]
theorem s_cons {s : Sm} {ss : Ss} {Q : QO} : Wp (evSs Φ fuel (.cons s ss) ρ S) Q ↔ Wp (evS Φ fuel s ρ S) fun p => (∀ ρ', p.1 = .nx ρ' → Wp (evSs Φ fuel ss ρ' p.2) Q) ∧ ((∀ ρ', p.1 ≠ .nx ρ') → Q p) := by
  simp only [evSs, fSeq]
  rcases h : evS Φ fuel s ρ S with _ | ⟨o, S1⟩
  · simp [wp_some, wp_none]
  · cases o <;> simp [wp_some, wp_none]
theorem x_asg {f : FE} {g : FG} {Q : QO} : Wp (fAsg f g ρ S) Q ↔ Wp (f ρ S) fun p => Wp (g p.1 ρ p.2) fun q => Q (.nx q.1, q.2) := by
  unfold fAsg
  rcases h : f ρ S with _ | ⟨x, S1⟩
  · simp [wp_some, wp_none]
  · rcases h2 : g x ρ S1 with _ | ⟨y, S2⟩ <;> simp [wp_some, wp_none, h2]
theorem s_setR {i : Nat} {e : E} {Q : QO} : Wp (evS Φ fuel (.set i e) ρ S) Q ↔ Wp (evE Φ e ρ S) fun p => Q (.nx (ρ.set i (some p.1)), p.2) := by
  rw [evS, x_asg]; simp [gNm, wp_some, wp_none]
theorem s_asgR {is : List Nat} {e : E} {Q : QO} : Wp (evS Φ fuel (.asg is e) ρ S) Q ↔ Wp (evE Φ e ρ S) fun p => ∃ ws ρ', p.1 = .tup ws ∧ setAll is ws ρ = some ρ' ∧ Q (.nx ρ', p.2) := by
  rw [evS, x_asg]
  constructor
  · refine fun h => h.mono fun p hp => ?_
    obtain ⟨w, S1⟩ := p
    obtain ⟨q, h1, h2⟩ := hp
    cases w with
    | tup ws =>
      simp only [gTp, Option.map_eq_some_iff] at h1
      obtain ⟨ρ', h3, rfl⟩ := h1
      exact ⟨ws, ρ', rfl, h3, h2⟩
    | _ => cases h1
  · refine fun h => h.mono fun p hp => ?_
    obtain ⟨w, S1⟩ := p
    obtain ⟨ws, ρ', h0, h1, h2⟩ := hp
    subst h0
    exact ⟨(ρ', S1), by simp [gTp, h1], h2⟩
theorem s_parR {i j : Nat} {es : Es} {Q : QO} : Wp (evS Φ fuel (.par i j es) ρ S) Q ↔ Wp (evA Φ es ρ S) fun p => ∃ x y, p.1 = [x, y] ∧ Q (.nx ((ρ.set i (some x)).set j (some y)), p.2) := by
  simp only [evS, fPar]
  rcases h : evA Φ es ρ S with _ | ⟨x, S1⟩
  · simp [wp_none]
  · match x with
    | [] => simp [wp_some, wp_none]
    | [_] => simp [wp_some, wp_none]
    | [a, b] =>
      simp only [wp_some]
      exact ⟨fun h => ⟨a, b, rfl, h⟩, fun ⟨x, y, e, h⟩ => by cases e; exact h⟩
    | _ :: _ :: _ :: _ => simp [wp_some, wp_none]
theorem s_putR {o k e : E} {Q : QO} : Wp (evS Φ fuel (.put o k e) ρ S) Q ↔ Wp (evE Φ e ρ S) fun p => Wp (evE Φ o ρ p.2) fun q => Wp (evE Φ k ρ q.2) fun r => ∃ S', setX q.1 r.1 p.1 r.2 = some S' ∧ Q (.nx ρ, S') := by
  rw [evS, x_asg]
  rcases h : evE Φ e ρ S with _ | ⟨x, S1⟩
  · simp [wp_some, wp_none]
  · simp only [wp_some]
    unfold gSet
    rcases h2 : evE Φ o ρ S1 with _ | ⟨y, S2⟩
    · simp [wp_some, wp_none]
    · rcases h3 : evE Φ k ρ S2 with _ | ⟨z, S3⟩
      · simp [wp_some, wp_none, h3]
      · cases h4 : setX y z x S3 <;> simp [wp_some, wp_none, h3, h4]
theorem s_exR {e : E} {Q : QO} : Wp (evS Φ fuel (.ex e) ρ S) Q ↔ Wp (evE Φ e ρ S) fun p => Q (.nx ρ, p.2) := by
  simp only [evS, fExS]
  rcases h : evE Φ e ρ S with _ | ⟨x, S1⟩ <;> simp [wp_some, wp_none]
theorem s_retR {e : E} {Q : QO} : Wp (evS Φ fuel (.ret e) ρ S) Q ↔ Wp (evE Φ e ρ S) fun p => Q (.rt p.1, p.2) := by
  simp only [evS, fRet]
  rcases h : evE Φ e ρ S with _ | ⟨x, S1⟩ <;> simp [wp_some, wp_none]
theorem s_iteR {t : E} {a b : Ss} {Q : QO} : Wp (evS Φ fuel (.ite t a b) ρ S) Q ↔ Wp (evT Φ t ρ S) fun p => (p.1 = true → Wp (evSs Φ fuel a ρ p.2) Q) ∧ (p.1 = false → Wp (evSs Φ fuel b ρ p.2) Q) := by
  simp only [evS, fIfS]
  rcases h : evT Φ t ρ S with _ | ⟨x, S1⟩
  · simp [wp_some, wp_none]
  · cases x <;> simp [wp_some, wp_none]
end
end Mi
set_option Elab.async false
set_option linter.all false
set_option maxRecDepth 100000
namespace Mi
open PySem PySem.Spec PyProof.Rows L2
section
variable {Φ : Str → FF} {fuel : Nat} {ρ : Fm} {S : Store}
noncomputable def AfterB (I : Fm → Store → Prop) (Q : QO) (o : Out × Store) : Prop := match o.1 with
  | .nx ρ' => I ρ' o.2
  | .ct ρ' => I ρ' o.2
  | .bk ρ' => Q (.nx ρ', o.2)
  | .rt w => Q (.rt w, o.2)
theorem loop_rule {mi : MI} {g : FG} {b : FS} {xs : List W} {Q : QO} (I : Nat → Fm → Store → Prop) (hat : ∀ i ρ S, I i ρ S → mi.at S i = some xs[i]?)
    (hstep : ∀ i w ρ S, xs[i]? = some w → I i ρ S → Wp (g w ρ S) fun q => Wp (b q.1 q.2) (AfterB (I (i + 1)) Q)) (hend : ∀ ρ S, I xs.length ρ S → Q (.nx ρ, S)) : ∀ (n i : Nat) (ρ : Fm) (S : Store), i + n = xs.length → I i ρ S → Wp (fLoop mi g b n i ρ S) Q
  | 0, i, ρ, S, hl, hI => by
    have e : mi.at S i = some none := by rw [hat i ρ S hI, List.getElem?_eq_none (by omega)]
    simp only [fLoop, e]
    have hi : i = xs.length := by omega
    exact wp_some.mpr (hend ρ S (hi ▸ hI))
  | n + 1, i, ρ, S, hl, hI => by
    have hi : i < xs.length := by omega
    have e : mi.at S i = some (some xs[i]) := by rw [hat i ρ S hI, List.getElem?_eq_getElem hi]
    obtain ⟨⟨ρ1, S1⟩, h1, ⟨o, S2⟩, h2, h3⟩ := hstep i xs[i] ρ S (List.getElem?_eq_getElem hi) hI
    simp only [fLoop, e, h1, h2]
    cases o with
    | nx ρ2 => exact loop_rule I hat hstep hend n (i + 1) ρ2 S2 (by omega) h3
    | ct ρ2 => exact loop_rule I hat hstep hend n (i + 1) ρ2 S2 (by omega) h3
    | bk ρ2 => exact wp_some.mpr h3
    | rt w => exact wp_some.mpr h3
theorem x_for {fi : FI} {g : FG} {b : FS} {Q : QO} : Wp (fFor fi g b ρ S) Q ↔ Wp (fi ρ S) fun p => ∃ n, p.1.len p.2 = some n ∧ Wp (fLoop p.1 g b n 0 ρ p.2) Q := by
  unfold fFor
  rcases h : fi ρ S with _ | ⟨mi, S1⟩
  · simp [wp_none]
  · cases h2 : mi.len S1 <;> simp [wp_some, wp_none, h2]
theorem for_its {tg : Tg} {it : Ie} {b : Ss} {Q : QO} (xs : List W) (I : Nat → Fm → Store → Prop) (hi : Wp (evI Φ it ρ S) fun p => p.1 = .its xs ∧ I 0 ρ p.2)
    (hstep : ∀ i w ρ S, xs[i]? = some w → I i ρ S → Wp (evG tg w ρ S) fun q => Wp (evSs Φ fuel b q.1 q.2) (AfterB (I (i + 1)) Q)) (hend : ∀ ρ S, I xs.length ρ S → Q (.nx ρ, S)) : Wp (evS Φ fuel (.loop tg it b) ρ S) Q := by
  rw [evS, x_for]
  refine hi.mono fun p ⟨h1, h2⟩ => ?_
  refine ⟨xs.length, by rw [h1]; rfl, ?_⟩
  rw [h1]
  exact loop_rule I (fun i ρ S _ => rfl) hstep hend _ 0 ρ p.2 (by omega) h2
theorem collect_rule {mi : MI} {g : FG} {c : FT} {f : FE} {xs : List W} {Q : List W × Store → Prop} (I : Nat → List W → Fm → Store → Prop) (hat : ∀ i ys ρ S, I i ys ρ S → mi.at S i = some xs[i]?)
    (hstep : ∀ i w ys ρ S, xs[i]? = some w → I i ys ρ S → Wp (g w ρ S) fun q => Wp (c q.1 q.2) fun k => (k.1 = true → Wp (f q.1 k.2) fun y => I (i + 1) (ys ++ [y.1]) q.1 y.2) ∧ (k.1 = false → I (i + 1) ys q.1 k.2))
    (hend : ∀ ys ρ S, I xs.length ys ρ S → Q (ys, S)) : ∀ (n i : Nat) (ys : List W) (ρ : Fm) (S : Store), i + n = xs.length → I i ys ρ S → Wp (fCollect mi g c f n i ρ S) fun p => Q (ys ++ p.1, p.2)
  | 0, i, ys, ρ, S, hl, hI => by
    have e : mi.at S i = some none := by rw [hat i ys ρ S hI, List.getElem?_eq_none (by omega)]
    simp only [fCollect, e]
    refine wp_some.mpr ?_
    have : i = xs.length := by omega
    simpa using hend ys ρ S (this ▸ hI)
  | n + 1, i, ys, ρ, S, hl, hI => by
    have hi : i < xs.length := by omega
    have e : mi.at S i = some (some xs[i]) := by rw [hat i ys ρ S hI, List.getElem?_eq_getElem hi]
    obtain ⟨⟨ρ1, S1⟩, h1, ⟨k, S2⟩, h2, h3, h4⟩ := hstep i xs[i] ys ρ S (List.getElem?_eq_getElem hi) hI
    simp only [fCollect, e, h1, h2]
    cases k with
    | true =>
      obtain ⟨⟨y, S3⟩, h5, h6⟩ := h3 rfl
      simp only [h5]
      obtain ⟨⟨zs, S4⟩, h7, h8⟩ := collect_rule I hat hstep hend n (i + 1) (ys ++ [y]) ρ1 S3 (by omega) h6
      simp only [h7]
      exact wp_some.mpr (by simpa using h8)
    | false => exact collect_rule I hat hstep hend n (i + 1) ys ρ1 S2 (by omega) (h4 rfl)
theorem x_comp {elt : E} {tg : Tg} {it : Ie} {cs : Es} {cap : List (Option Nat)} {Q : QW} : Wp (evE Φ (.comp elt tg it cs cap) ρ S) Q ↔ Wp (evI Φ it ρ S) fun p => ∃ n, p.1.len p.2 = some n ∧ Wp (fCollect p.1 (evG tg) (evC Φ cs) (evE Φ elt) n 0 (capF cap ρ) p.2) fun q => q.1.length ≤ sizeLine ∧ Q (.ref q.2.length, q.2 ++ [.lst q.1]) := by
  simp only [evE, fComp, newL]
  rcases h : evI Φ it ρ S with _ | ⟨mi, S1⟩
  · simp [wp_none]
  · rcases h2 : mi.len S1 with _ | n
    · simp [wp_some, wp_none, h2]
    · rcases h3 : fCollect mi (evG tg) (evC Φ cs) (evE Φ elt) n 0 (capF cap ρ) S1 with _ | ⟨ys, S2⟩
      · simp [wp_some, wp_none, h2, h3]
      · by_cases hl : ys.length ≤ sizeLine <;> simp [wp_some, wp_none, h2, h3, hl]
theorem comp_its {elt : E} {tg : Tg} {it : Ie} {cs : Es} {cap : List (Option Nat)} {Q : QW} (xs : List W) (I : Nat → List W → Fm → Store → Prop) (hi : Wp (evI Φ it ρ S) fun p => p.1 = .its xs ∧ I 0 [] (capF cap ρ) p.2)
    (hstep : ∀ i w ys ρ S, xs[i]? = some w → I i ys ρ S → Wp (evG tg w ρ S) fun q => Wp (evC Φ cs q.1 q.2) fun k => (k.1 = true → Wp (evE Φ elt q.1 k.2) fun y => I (i + 1) (ys ++ [y.1]) q.1 y.2) ∧ (k.1 = false → I (i + 1) ys q.1 k.2))
    (hend : ∀ ys ρ S, I xs.length ys ρ S → ys.length ≤ sizeLine ∧ Q (.ref S.length, S ++ [.lst ys])) : Wp (evE Φ (.comp elt tg it cs cap) ρ S) Q := by
  rw [x_comp]
  refine hi.mono fun p ⟨h1, h2⟩ => ?_
  refine ⟨xs.length, by rw [h1]; rfl, ?_⟩
  rw [h1]
  refine (collect_rule (Q := fun q => q.1.length ≤ sizeLine ∧ Q (.ref q.2.length, q.2 ++ [.lst q.1])) I (fun i ys ρ S _ => rfl) hstep hend xs.length 0 [] _ p.2 (by omega) h2).mono fun q hq => by simpa using hq
theorem comp_live {elt : E} {tg : Tg} {it : Ie} {cs : Es} {cap : List (Option Nat)} {Q : QW} (r : Nat) (xs : List W) (I : Nat → List W → Fm → Store → Prop) (hl : ∀ i ys ρ S, I i ys ρ S → rdL S r = some xs) (hi : Wp (evI Φ it ρ S) fun p => p.1 = .live r ∧ I 0 [] (capF cap ρ) p.2)
    (hstep : ∀ i w ys ρ S, xs[i]? = some w → I i ys ρ S → Wp (evG tg w ρ S) fun q => Wp (evC Φ cs q.1 q.2) fun k => (k.1 = true → Wp (evE Φ elt q.1 k.2) fun y => I (i + 1) (ys ++ [y.1]) q.1 y.2) ∧ (k.1 = false → I (i + 1) ys q.1 k.2))
    (hend : ∀ ys ρ S, I xs.length ys ρ S → ys.length ≤ sizeLine ∧ Q (.ref S.length, S ++ [.lst ys])) : Wp (evE Φ (.comp elt tg it cs cap) ρ S) Q := by
  rw [x_comp]
  refine hi.mono fun p ⟨h1, h2⟩ => ?_
  refine ⟨xs.length, by rw [h1]; simp [MI.len, hl 0 [] _ p.2 h2], ?_⟩
  rw [h1]
  refine (collect_rule (Q := fun q => q.1.length ≤ sizeLine ∧ Q (.ref q.2.length, q.2 ++ [.lst q.1])) I (fun i ys ρ S h => by simp [MI.at, hl i ys ρ S h]) hstep hend xs.length 0 [] _ p.2 (by omega) h2).mono fun q hq => by simpa using hq
theorem c_nil {Q : QB} : Wp (evC Φ .nil ρ S) Q ↔ Q (true, S) := by simp [evC, fTrue, wp_some]
theorem c_one {e : E} {Q : QB} : Wp (evC Φ (.cons e .nil) ρ S) Q ↔ Wp (evT Φ e ρ S) Q := by rw [evC]
theorem g_nm {i : Nat} {w : W} {Q : Fm × Store → Prop} : Wp (evG (.nm i) w ρ S) Q ↔ Q (ρ.set i (some w), S) := by simp [evG, gNm, wp_some]
theorem g_tp {is : List Nat} {ws : List W} {Q : Fm × Store → Prop} : Wp (evG (.tp is) (.tup ws) ρ S) Q ↔ ∃ ρ', setAll is ws ρ = some ρ' ∧ Q (ρ', S) := by
  simp only [evG, gTp]
  cases setAll is ws ρ <;> simp [wp_some, wp_none]
noncomputable abbrev QI := MI × Store → Prop
theorem i_rng {es : Es} {Q : QI} (h : Wp (evA Φ es ρ S) fun p => ∃ j, p.1 = [.int j] ∧ -(2 ^ 62) ≤ j ∧ j < 2 ^ 62 ∧ Q (.its (rngW 0 j.toNat), p.2)) : Wp (evI Φ (.rng es) ρ S) Q := by
  obtain ⟨⟨ws, S1⟩, h1, j, h2, h3, h4, h5⟩ := h
  simp only at h2 h5
  subst h2
  simp only [evI, iRng, h1]
  rw [if_pos ⟨h3, h4⟩]
  exact wp_some.mpr h5
theorem i_rng2 {es : Es} {Q : QI} (h : Wp (evA Φ es ρ S) fun p => ∃ i j, p.1 = [.int i, .int j] ∧ -(2 ^ 62) ≤ i ∧ i < 2 ^ 62 ∧ -(2 ^ 62) ≤ j ∧ j < 2 ^ 62 ∧ Q (.its (rngW i (j - i).toNat), p.2)) : Wp (evI Φ (.rng2 es) ρ S) Q := by
  obtain ⟨⟨ws, S1⟩, h1, i, j, h2, h3, h4, h5, h6, h7⟩ := h
  simp only at h2 h7
  subst h2
  simp only [evI, iRng2, h1]
  rw [if_pos ⟨h3, h4, h5, h6⟩]
  exact wp_some.mpr h7
theorem i_seqT {e : E} {Q : QI} (h : Wp (evE Φ e ρ S) fun p => ∃ ws, p.1 = .tup ws ∧ Q (.its ws, p.2)) : Wp (evI Φ (.seq e) ρ S) Q := by
  obtain ⟨⟨w, S1⟩, h1, ws, h2, h3⟩ := h
  simp only at h2 h3
  subst h2
  simp only [evI, iSeqX, h1]
  exact wp_some.mpr h3
theorem i_seqL {e : E} {Q : QI} (h : Wp (evE Φ e ρ S) fun p => ∃ r xs, p.1 = .ref r ∧ rdL p.2 r = some xs ∧ Q (.live r, p.2)) : Wp (evI Φ (.seq e) ρ S) Q := by
  obtain ⟨⟨w, S1⟩, h1, r, xs, h2, h3, h4⟩ := h
  simp only at h2 h3 h4
  subst h2
  simp only [evI, iSeqX, h1, h3]
  exact wp_some.mpr h4
theorem i_seqD {e : E} {Q : QI} (h : Wp (evE Φ e ρ S) fun p => ∃ r kvs, p.1 = .ref r ∧ rdL p.2 r = none ∧ rdD p.2 r = some kvs ∧ Q (.its (kvs.map fun p => p.1.w), p.2.set r (.frd kvs))) : Wp (evI Φ (.seq e) ρ S) Q := by
  obtain ⟨⟨w, S1⟩, h1, r, kvs, h2, h3, h4, h5⟩ := h
  simp only at h2 h3 h4 h5
  subst h2
  simp only [evI, iSeqX, h1, h3, h4]
  exact wp_some.mpr h5
theorem whl_rule {c : FT} {b : FS} {Q : QO} (I : Nat → Fm → Store → Prop) (hstep : ∀ m ρ S, I m ρ S → Wp (c ρ S) fun k => (k.1 = true → ∃ m', m = m' + 1 ∧ Wp (b ρ k.2) (AfterB (I m') Q)) ∧ (k.1 = false → Q (.nx ρ, k.2))) :
    ∀ (n m : Nat) (ρ : Fm) (S : Store), m < n → I m ρ S → Wp (fWhl c b n ρ S) Q
  | 0, m, ρ, S, h, _ => by omega
  | n + 1, m, ρ, S, h, hI => by
    obtain ⟨⟨k, S1⟩, h1, h2, h3⟩ := hstep m ρ S hI
    simp only [fWhl, h1]
    cases k with
    | false => exact wp_some.mpr (h3 rfl)
    | true =>
      obtain ⟨m', rfl, ⟨o, S2⟩, h5, h6⟩ := h2 rfl
      simp only [h5]
      cases o with
      | nx ρ2 => exact whl_rule I hstep n m' ρ2 S2 (by omega) h6
      | ct ρ2 => exact whl_rule I hstep n m' ρ2 S2 (by omega) h6
      | bk ρ2 => exact wp_some.mpr h6
      | rt w => exact wp_some.mpr h6
theorem call_rule {defs : List (Str × Df)} {d : Nat} {f : Str} {ws : List W} {df : Df} {Q : QW} (h : defs.lookup f = some df) (hl : ws.length = df.ps.length)
    (hb : Wp (evSs (callD defs fuel d) fuel df.body (frame0 df.N ws) S) fun p => match p.1 with | .rt w => Q (w, p.2) | .nx _ => Q (.non, p.2) | _ => False) : Wp (callD defs fuel (d + 1) f ws S) Q := by
  obtain ⟨⟨o, S1⟩, h1, h2⟩ := hb
  simp only [callD, h, if_pos hl, h1]
  cases o with
  | rt w => exact wp_some.mpr h2
  | nx ρ => exact wp_some.mpr h2
  | bk _ => exact h2.elim
  | ct _ => exact h2.elim
end
end Mi
set_option Elab.async false
set_option linter.all false
set_option maxRecDepth 100000
namespace Mi
open PySem PySem.Spec PyProof.Rows L2
section
variable {S : Store} {Q : QW}
theorem o_add {a b : Int} : bop .add (.int a) (.int b) S = some (.int (a + b), S) := rfl
theorem o_sub {a b : Int} : bop .sub (.int a) (.int b) S = some (.int (a - b), S) := rfl
theorem onI_pos {c : Int → Int → Bool} {f : Int → Int → Int} {i j : Int} (h : c i j = true) : onI c f (.int i) (.int j) S = some (.int (f i j), S) := by
  unfold onI
  dsimp only
  rw [if_pos h]
theorem o_mul {a b : Int} (h : -(2 ^ 64) < b) (h2 : b < 2 ^ 64) : bop .mul (.int a) (.int b) S = some (.int (a * b), S) := onI_pos (c := cmul) (f := (· * ·)) (by
  unfold cmul
  simp only [Bool.or_eq_true, Bool.and_eq_true, decide_eq_true_eq]
  exact .inr ⟨h, h2⟩)
theorem o_mod {a b : Int} (h : 0 < b) : bop .mod (.int a) (.int b) S = some (.int (a % b), S) := onI_pos (c := fun _ j => decide (0 < j)) (f := (· % ·)) (decide_eq_true h)
theorem o_fdiv {a b : Int} (h : 0 < b) (h2 : b < 1073741824) : bop .fdiv (.int a) (.int b) S = some (.int (a / b), S) := onI_pos (c := fun _ j => cdiv j) (f := (· / ·)) (by
  unfold cdiv
  simp only [Bool.and_eq_true, decide_eq_true_eq]
  exact ⟨h, h2⟩)
theorem o_1018 : bop .pow (.int 10) (.int 18) S = some (.int 1000000000000000000, S) := rfl
theorem o_strs {x y : Str} (h : x.length + y.length ≤ sizeLine) : bop .add (.str x) (.str y) S = some (.str (x ++ y), S) := by simp only [bop, addW]; rw [if_pos h]
theorem o_tups {xs ys : List W} (h : (xs ++ ys).length ≤ sizeLine) : bop .add (.tup xs) (.tup ys) S = some (.tup (xs ++ ys), S) := by simp only [bop, addW, newT]; rw [if_pos h]
theorem o_lsts {i j : Nat} {xs ys : List W} (h1 : S[i]? = some (.lst xs)) (h2 : S[j]? = some (.lst ys)) (h : (xs ++ ys).length ≤ sizeLine) : bop .add (.ref i) (.ref j) S = some (.ref S.length, S ++ [.lst (xs ++ ys)]) := by
  simp only [bop, addW, rdM, h1, h2, newL]; rw [if_pos h]
theorem k_eq {a b : Int} : copX .eq (.int a) (.int b) S = some (.bl (a == b), S) := rfl
theorem k_ne {a b : Int} : copX .ne (.int a) (.int b) S = some (.bl (!(a == b)), S) := rfl
theorem k_lt {a b : Int} : copX .lt (.int a) (.int b) S = some (.bl (decide (a < b)), S) := rfl
theorem k_gt {a b : Int} : copX .gt (.int a) (.int b) S = some (.bl (decide (a > b)), S) := rfl
theorem k_ge {a b : Int} : copX .ge (.int a) (.int b) S = some (.bl (decide (a ≥ b)), S) := rfl
theorem k_nes {a b : Str} : copX .ne (.str a) (.str b) S = some (.bl (!(a == b)), S) := rfl
theorem rdL_lst {r : Nat} {xs : List W} (h : S[r]? = some (.lst xs)) : rdL S r = some xs := by simp [rdL, h]
theorem rdL_fro {r : Nat} {xs : List W} (h : S[r]? = some (.fro xs)) : rdL S r = some xs := by simp [rdL, h]
theorem rdM_lst {r : Nat} {xs : List W} (h : S[r]? = some (.lst xs)) : rdM S r = some xs := by simp [rdM, h]
theorem rdD_lst {r : Nat} {xs : List W} (h : S[r]? = some (.lst xs)) : rdD S r = none := by simp [rdD, h]
theorem rdD_dic {r : Nat} {kvs : List (T × W)} (h : S[r]? = some (.dic kvs)) : rdD S r = some kvs := by simp [rdD, h]
theorem rdL_dic {r : Nat} {kvs : List (T × W)} (h : S[r]? = some (.dic kvs)) : rdL S r = none := by simp [rdL, h]
theorem rdD_frd {r : Nat} {kvs : List (T × W)} (h : S[r]? = some (.frd kvs)) : rdD S r = some kvs := by simp [rdD, h]
theorem atI_nat {α : Type} {xs : List α} {j : Nat} {w : α} (h : xs[j]? = some w) : atI xs (j : Int) = some w := by
  have hl := (List.getElem?_eq_some_iff.mp h).1
  unfold atI ixN
  rw [if_pos (Int.natCast_nonneg j), if_pos (by exact_mod_cast hl)]
  simpa using h
theorem atI_int {α : Type} {xs : List α} {i : Int} {w : α} (h0 : 0 ≤ i) (h : xs[i.toNat]? = some w) : atI xs i = some w := by
  have := atI_nat h
  rwa [Int.toNat_of_nonneg h0] at this
theorem i_lst {r : Nat} {xs : List W} {i : Int} {w : W} (h : S[r]? = some (.lst xs)) (h0 : 0 ≤ i) (hw : xs[i.toNat]? = some w) : ixX (.ref r) (.int i) S = some (w, S) := by
  show ixW (.ref r) (.int i) S = _
  simp [ixW, rdL_lst h, atI_int h0 hw]
theorem i_tup {xs : List W} {i : Int} {w : W} (h0 : 0 ≤ i) (hw : xs[i.toNat]? = some w) : ixX (.tup xs) (.int i) S = some (w, S) := by
  show ixW (.tup xs) (.int i) S = _
  simp [ixW, atI_int h0 hw]
theorem i_str {x : Str} {i : Int} {c : Nat} (hz : x.length ≤ sizeLine) (h0 : 0 ≤ i) (hw : x.cps.toList[i.toNat]? = some c) : ixX (.str x) (.int i) S = some (.str ⟨#[c]⟩, S) := by
  show ixW (.str x) (.int i) S = _
  simp [ixW, hz, atI_int h0 hw]
theorem p_lst {r : Nat} {xs : List W} {i : Int} {w : W} (h : S[r]? = some (.lst xs)) (h0 : 0 ≤ i) (hi : i.toNat < xs.length) : setX (.ref r) (.int i) w S = some (S.set r (.lst (xs.set i.toNat w))) := by
  show setW (.ref r) (.int i) w S = _
  have : ixN xs.length i = some i.toNat := by
    unfold ixN
    rw [if_pos h0, if_pos (by omega)]
  simp [setW, rdM_lst h, this]
theorem l_lst {r : Nat} {xs : List W} (h : S[r]? = some (.lst xs)) : lenX [.ref r] S = some (.int xs.length, S) := by
  simp [lenX, rdD_lst h, lenW, rdL_lst h]
theorem l_tup {xs : List W} : lenX [.tup xs] S = some (.int xs.length, S) := rfl
theorem a_lst {r : Nat} {xs : List W} {y : W} (h : S[r]? = some (.lst xs)) (hl : xs.length < sizeLine) : appendW (.ref r) [y] S = some (.non, S.set r (.lst (xs ++ [y]))) := by
  simp [appendW, rdM_lst h, hl]
theorem t_lst {r : Nat} {xs : List W} (h : S[r]? = some (.lst xs)) : tupleW [.ref r] S = some (.tup xs, S) := by
  simp [tupleW, rdL_lst h]
theorem ty_lst {r : Nat} {xs : List W} (h : S[r]? = some (.lst xs)) : tyOk "list" S (.ref r) = true := by simp [tyOk, rdL_lst h]
theorem at_set {r : Nat} {o o' : O} (h : S[r]? = some o) : (S.set r o')[r]? = some o' := by
  rw [List.getElem?_set, if_pos rfl, if_pos (List.getElem?_eq_some_iff.mp h).1]
theorem at_ne {r j : Nat} {o' : O} (h : r ≠ j) : (S.set r o')[j]? = S[j]? := by rw [List.getElem?_set, if_neg h]
theorem at_end {o : O} : (S ++ [o])[S.length]? = some o := by simp
theorem at_old {j : Nat} {o u : O} (h : S[j]? = some o) : (S ++ [u])[j]? = some o := by rw [List.getElem?_append_left (List.getElem?_eq_some_iff.mp h).1]; exact h
theorem at_lt {j : Nat} {o : O} (h : S[j]? = some o) : j < S.length := (List.getElem?_eq_some_iff.mp h).1
structure Kp (r : Nat) (S S' : Store) : Prop where
  get : ∀ j o, j ≠ r → S[j]? = some o → S'[j]? = some o
  len : S.length ≤ S'.length
theorem Kp.refl {r : Nat} {S : Store} : Kp r S S := ⟨fun _ _ _ h => h, Nat.le_refl _⟩
theorem Kp.trans {r : Nat} {S S' S'' : Store} (a : Kp r S S') (b : Kp r S' S'') : Kp r S S'' := ⟨fun j o n h => b.get j o n (a.get j o n h), Nat.le_trans a.len b.len⟩
theorem Kp.set {r : Nat} {S : Store} {o : O} : Kp r S (S.set r o) := ⟨fun j u n h => by rw [at_ne (Ne.symm n)]; exact h, by simp⟩
theorem Kp.push {r : Nat} {S : Store} {o : O} : Kp r S (S ++ [o]) := ⟨fun j u n h => at_old h, by simp⟩
theorem Kp.late {r t : Nat} {S0 S : Store} {o : O} (a : Kp r S0 S) (h : S0.length ≤ t) : Kp r S0 (S.set t o) :=
  ⟨fun j u n e => by
    have := at_lt e
    rw [at_ne (by omega)]; exact a.get j u n e, by simpa using a.len⟩
end
end Mi
set_option Elab.async false
set_option linter.all false
set_option maxRecDepth 100000
namespace Mi
open PySem PySem.Spec PyProof.Rows L2
theorem u_bi : (Bi.fn .len = lenX ∧ Bi.fn .list = listX ∧ Bi.fn .tuple = tupleW) ∧ (Bi.fn .abs = absW ∧ Bi.fn .int = intW ∧ Bi.fn .all = allW) ∧ (Bi.fn .any = anyW ∧ Bi.fn .min = minW ∧ Bi.fn .sorted = sortedW) := ⟨⟨rfl, rfl, rfl⟩, ⟨rfl, rfl, rfl⟩, rfl, rfl, rfl⟩
theorem u_me : (Me.fn .append = appendW ∧ Me.fn .extend = extendW ∧ Me.fn .pop = popW) ∧ Me.fn .join = joinW ∧ Me.fn .get = dgetW := ⟨⟨rfl, rfl, rfl⟩, rfl, rfl⟩
theorem u_ty : (Me.ty .append = "list" ∧ Me.ty .extend = "list" ∧ Me.ty .pop = "list") ∧ Me.ty .join = "str" ∧ Me.ty .get = "dict" := ⟨⟨rfl, rfl, rfl⟩, rfl, rfl⟩
theorem u_f0 {N : List Str} {ws : List W} : frame0 N ws = ws.map some ++ List.replicate (N.length - ws.length) none := rfl
noncomputable def xE := (And.intro (And.intro (And.intro (And.intro (And.intro (And.intro @x_c @x_v) (And.intro @x_op @x_cmp)) (And.intro (And.intro @x_ix @x_neg) (And.intro @x_and @x_or))) (And.intro (And.intro (And.intro @x_not @x_ite) (And.intro @x_own @x_bi)) (And.intro (And.intro @x_me @x_sl) (And.intro @x_no @x_yes)))) (And.intro (And.intro (And.intro (And.intro @x_tup @x_lst) (And.intro @x_isi @x_dnew)) (And.intro (And.intro @x_nil @x_cons) (And.intro @t_cmp @t_and))) (And.intro (And.intro (And.intro @t_or @t_not) (And.intro @t_v @t_own)) (And.intro (And.intro @t_bi @t_isi) (And.intro @wp_some @List.getElem?_cons_zero.{0}))))) (And.intro (And.intro (And.intro (And.intro (And.intro @List.getElem?_cons_succ.{0} @List.set_cons_zero.{0}) (And.intro @List.set_cons_succ.{0} @Option.some.injEq.{0})) (And.intro (And.intro @exists_eq_left'.{1} @W.bl.injEq) (And.intro @W.int.injEq @W.str.injEq))) (And.intro (And.intro (And.intro @W.tup.injEq @List.map_cons.{0,0}) (And.intro @List.map_nil.{0,0} @List.cons_append.{0})) (And.intro (And.intro @List.nil_append.{0} @List.length_cons.{0}) (And.intro @List.length_nil.{0} @List.replicate_succ.{0})))) (And.intro (And.intro (And.intro (And.intro @List.replicate_zero.{0} @Out.nx.injEq) (And.intro @forall_eq'.{1} @ne_eq.{1})) (And.intro (And.intro @not_false_eq_true @implies_true.{1}) (And.intro @forall_const.{0} @not_true_eq_false))) (And.intro (And.intro (And.intro @forall_false @false_implies) (And.intro @and_true @true_and)) (And.intro (And.intro u_bi u_me) (And.intro u_ty @u_f0))))))
noncomputable def sE := (And.intro (And.intro (And.intro @s_nil @s_cons) (And.intro @s_setR @s_asgR)) (And.intro (And.intro @s_parR @s_putR) (And.intro @s_exR (And.intro @s_retR @s_iteR))))
end Mi
set_option Elab.async false
set_option linter.all false
set_option maxRecDepth 100000
namespace Mi
open PySem PySem.Spec PyProof.Rows L2
section
variable (Φ : Str → FF)
end
section
variable {Φ : Str → FF}
end
end Mi
set_option Elab.async false
set_option linter.all false
set_option maxRecDepth 100000
namespace Mi
open PySem
noncomputable def d_way : Df := ⟨["rule", "world", "i", "j"], ["rule", "world", "i", "j"],
  (.cons (.ite (.cmp .gt (.v 2) (.v 3)) (.cons (.ret (.ix (.ix (.ix (.v 1) (.v 2)) (.c (.int 1))) (.v 3)))
  .nil) .nil)
  (.cons (.ret (.ix (.ix (.ix (.v 0) (.c (.int 1))) (.ix (.ix (.ix (.v 1) (.v 3)) (.c (.int 1))) (.v 2))) (.c (.int 1))))
  .nil))⟩
noncomputable def d_back : Df := ⟨["rule", "way"], ["rule", "way"],
  (.cons (.ret (.ix (.ix (.ix (.v 0) (.c (.int 1))) (.v 1)) (.c (.int 1))))
  .nil)⟩
noncomputable def d__law_flow : Df := ⟨["_law_script"], ["_law_script"],
  (.cons (.ret (.lst (.cons (.bi .list (.cons (.v 0) .nil)) (.cons (.c (.int 0)) (.cons (.c (.int 0)) (.cons (.c (.int 1)) (.cons (.c (.int 0)) .nil)))))))
  .nil)⟩
noncomputable def d__law_pick : Df := ⟨["_law_flow_here", "_law_many"], ["_law_flow_here", "_law_many", "_law_cell", "_law_digit"],
  (.cons (.ite (.and (.cmp .eq (.ix (.v 0) (.c (.int 2))) (.c (.int 0))) (.cmp .lt (.ix (.v 0) (.c (.int 1))) (.bi .len (.cons (.ix (.v 0) (.c (.int 0))) .nil)))) (.cons (.set 2 (.ix (.ix (.v 0) (.c (.int 0))) (.ix (.v 0) (.c (.int 1)))))
  (.cons (.put (.v 0) (.c (.int 1)) (.op .add (.ix (.v 0) (.c (.int 1))) (.c (.int 1))))
  (.cons (.ite (.cmp .ge (.v 2) (.op .pow (.c (.int 10)) (.c (.int 18)))) (.cons (.put (.v 0) (.c (.int 2)) (.v 2))
  .nil) (.cons (.put (.v 0) (.c (.int 3)) (.op .mod (.op .add (.op .add (.op .mul (.ix (.v 0) (.c (.int 3))) (.c (.int 40013))) (.op .mod (.v 2) (.c (.int 1000003)))) (.c (.int 1))) (.c (.int 2147483647))))
  .nil))
  .nil))) .nil)
  (.cons (.ite (.cmp .gt (.ix (.v 0) (.c (.int 2))) (.c (.int 0))) (.cons (.set 3 (.op .mod (.ix (.v 0) (.c (.int 2))) (.v 1)))
  (.cons (.put (.v 0) (.c (.int 2)) (.op .fdiv (.ix (.v 0) (.c (.int 2))) (.v 1)))
  (.cons (.ret (.v 3))
  .nil))) .nil)
  (.cons (.put (.v 0) (.c (.int 4)) (.op .add (.ix (.v 0) (.c (.int 4))) (.c (.int 1))))
  (.cons (.put (.v 0) (.c (.int 3)) (.op .mod (.op .add (.op .add (.op .mul (.ix (.v 0) (.c (.int 3))) (.c (.int 48271))) (.c (.int 12820163))) (.ix (.v 0) (.c (.int 4)))) (.c (.int 2147483647))))
  (.cons (.ret (.op .mod (.op .fdiv (.op .mod (.op .mul (.op .add (.op .mod (.ix (.v 0) (.c (.int 3))) (.c (.int 65521))) (.c (.int 1))) (.op .add (.op .fdiv (.ix (.v 0) (.c (.int 3))) (.c (.int 65521))) (.c (.int 7919)))) (.c (.int 1000003))) (.c (.int 7))) (.v 1)))
  .nil)))))⟩
noncomputable def d__law_letters : Df := ⟨["_law_flow_here", "_law_many"], ["_law_flow_here", "_law_many"],
  (.cons (.ret (.me .join (.c (.str "")) (.cons (.comp (.ix (.c (.str "abcdefghijklmnopqrstuvwxyz")) (.own "_law_pick" 2 (.cons (.v 2) (.cons (.c (.int 26)) .nil)))) (.nm 1) (.rng (.cons (.v 1) .nil)) .nil [none, none, some 0]) .nil)))
  .nil)⟩
noncomputable def d__law_name : Df := ⟨["_law_flow_here", "_law_stem"], ["_law_flow_here", "_law_stem", "_law_near"],
  (.cons (.ite (.cmp .ne (.v 1) (.c (.str ""))) (.cons (.ret (.op .add (.v 1) (.own "_law_letters" 2 (.cons (.v 0) (.cons (.op .add (.c (.int 1)) (.own "_law_pick" 2 (.cons (.v 0) (.cons (.c (.int 2)) .nil)))) .nil)))))
  .nil) .nil)
  (.cons (.ite (.cmp .eq (.own "_law_pick" 2 (.cons (.v 0) (.cons (.c (.int 6)) .nil))) (.c (.int 0))) (.cons (.set 2 (.lst (.cons (.c (.str "markss")) (.cons (.c (.str "mark")) (.cons (.c (.str "way")) (.cons (.c (.str "wayss")) (.cons (.c (.str "bars")) (.cons (.c (.str "ba")) (.cons (.c (.str "somex")) .nil)))))))))
  (.cons (.set 2 (.op .add (.v 2) (.lst (.cons (.c (.str "eachx")) (.cons (.c (.str "note")) (.cons (.c (.str "no")) (.cons (.c (.str "ands")) (.cons (.c (.str "ors")) (.cons (.c (.str "o")) (.cons (.c (.str "iss")) .nil))))))))))
  (.cons (.ret (.ix (.v 2) (.own "_law_pick" 2 (.cons (.v 0) (.cons (.c (.int 14)) .nil)))))
  .nil))) .nil)
  (.cons (.ret (.own "_law_letters" 2 (.cons (.v 0) (.cons (.op .add (.c (.int 1)) (.own "_law_pick" 2 (.cons (.v 0) (.cons (.c (.int 8)) .nil)))) .nil))))
  .nil)))⟩
noncomputable def d__law_names : Df := ⟨["_law_flow_here", "_law_many"], ["_law_flow_here", "_law_many", "_law_stem", "_law_names_here", "_law_k", "_law_name_here", "_law_spare"],
  (.cons (.set 2 (.c (.str "")))
  (.cons (.ite (.cmp .eq (.own "_law_pick" 2 (.cons (.v 0) (.cons (.c (.int 3)) .nil))) (.c (.int 0))) (.cons (.set 2 (.own "_law_letters" 2 (.cons (.v 0) (.cons (.op .add (.c (.int 1)) (.own "_law_pick" 2 (.cons (.v 0) (.cons (.c (.int 6)) .nil)))) .nil))))
  .nil) .nil)
  (.cons (.set 3 (.lst (.cons (.c (.str "marks")) (.cons (.c (.str "ways")) (.cons (.c (.str "bar")) (.cons (.c (.str "some")) (.cons (.c (.str "each")) (.cons (.c (.str "not")) (.cons (.c (.str "and")) (.cons (.c (.str "or")) (.cons (.c (.str "is")) .nil)))))))))))
  (.cons (.loop (.nm 4) (.rng (.cons (.v 1) .nil)) (.cons (.set 5 (.own "_law_name" 2 (.cons (.v 0) (.cons (.v 2) .nil))))
  (.cons (.set 6 (.c (.int 0)))
  (.cons (.whl (.cmp .isin (.v 5) (.v 3)) (.cons (.set 5 (.op .mul (.ix (.c (.str "abcdefghijklmnopqrstuvwxyz")) (.op .mod (.v 6) (.c (.int 26)))) (.op .add (.c (.int 1)) (.op .fdiv (.v 6) (.c (.int 26))))))
  (.cons (.set 6 (.op .add (.v 6) (.c (.int 1))))
  .nil)))
  (.cons (.ex (.me .append (.v 3) (.cons (.v 5) .nil)))
  .nil)))))
  (.cons (.ret (.bi .tuple (.cons (.sl (.v 3) (.yes (.c (.int 9))) .no) .nil)))
  .nil)))))⟩
noncomputable def d__law_between : Df := ⟨["_law_rule_here", "_law_world", "_law_i", "_law_j"], ["_law_rule_here", "_law_world", "_law_i", "_law_j"],
  (.cons (.ite (.cmp .lt (.v 3) (.v 2)) (.cons (.ret (.ix (.ix (.ix (.v 1) (.v 2)) (.c (.int 1))) (.v 3)))
  .nil) .nil)
  (.cons (.ret (.ix (.ix (.ix (.v 0) (.c (.int 1))) (.ix (.ix (.ix (.v 1) (.v 3)) (.c (.int 1))) (.v 2))) (.c (.int 1))))
  .nil))⟩
noncomputable def d__law_part : Df := ⟨["_law_rule_here", "_law_world", "_law_points"], ["_law_rule_here", "_law_world", "_law_points", "_law_told", "_law_k", "_law_i"],
  (.cons (.set 3 (.lst .nil))
  (.cons (.loop (.nm 4) (.rng (.cons (.bi .len (.cons (.v 2) .nil)) .nil)) (.cons (.set 5 (.ix (.v 2) (.v 4)))
  (.cons (.ex (.me .append (.v 3) (.cons (.tup (.cons (.ix (.ix (.v 1) (.v 5)) (.c (.int 0))) (.cons (.bi .tuple (.cons (.comp (.own "_law_between" 4 (.cons (.v 3) (.cons (.v 4) (.cons (.v 2) (.cons (.v 1) .nil))))) (.nm 1) (.seq (.sl (.v 2) .no (.yes (.v 4)))) .nil [none, none, some 5, some 0, some 1]) .nil)) .nil))) .nil)))
  .nil)))
  (.cons (.ret (.bi .tuple (.cons (.v 3) .nil)))
  .nil)))⟩
noncomputable def d__law_turns : Df := ⟨[], [],
  (.cons (.ret (.lst (.cons (.tup (.cons (.c (.int 0)) (.cons (.c (.int 1)) (.cons (.c (.int 2)) .nil)))) (.cons (.tup (.cons (.c (.int 0)) (.cons (.c (.int 2)) (.cons (.c (.int 1)) .nil)))) (.cons (.tup (.cons (.c (.int 1)) (.cons (.c (.int 0)) (.cons (.c (.int 2)) .nil)))) (.cons (.tup (.cons (.c (.int 1)) (.cons (.c (.int 2)) (.cons (.c (.int 0)) .nil)))) (.cons (.tup (.cons (.c (.int 2)) (.cons (.c (.int 0)) (.cons (.c (.int 1)) .nil)))) (.cons (.tup (.cons (.c (.int 2)) (.cons (.c (.int 1)) (.cons (.c (.int 0)) .nil)))) .nil))))))))
  .nil)⟩
noncomputable def d__law_figure : Df := ⟨["_law_rule_here", "_law_three"], ["_law_rule_here", "_law_three"],
  (.cons (.ret (.bi .min (.cons (.comp (.own "_law_part" 3 (.cons (.v 2) (.cons (.v 3) (.cons (.v 1) .nil)))) (.nm 1) (.seq (.own "_law_turns" 0 .nil)) .nil [none, none, some 0, some 1]) .nil)))
  .nil)⟩
noncomputable def d__law_backs : Df := ⟨["_law_flow_here", "_law_many"], ["_law_flow_here", "_law_many", "_law_menu"],
  (.cons (.set 2 (.ix (.lst (.cons (.lst (.cons (.tup (.cons (.c (.int 0)) .nil)) .nil)) (.cons (.lst (.cons (.tup (.cons (.c (.int 0)) (.cons (.c (.int 1)) .nil))) (.cons (.tup (.cons (.c (.int 1)) (.cons (.c (.int 0)) .nil))) .nil))) (.cons (.lst (.cons (.tup (.cons (.c (.int 0)) (.cons (.c (.int 1)) (.cons (.c (.int 2)) .nil)))) (.cons (.tup (.cons (.c (.int 1)) (.cons (.c (.int 0)) (.cons (.c (.int 2)) .nil)))) (.cons (.tup (.cons (.c (.int 0)) (.cons (.c (.int 2)) (.cons (.c (.int 1)) .nil)))) .nil)))) .nil)))) (.op .sub (.v 1) (.c (.int 1)))))
  (.cons (.ret (.ix (.v 2) (.own "_law_pick" 2 (.cons (.v 0) (.cons (.bi .len (.cons (.v 2) .nil)) .nil)))))
  .nil))⟩
noncomputable def d__law_rule_of : Df := ⟨["_law_flow_here", "_law_marks", "_law_backs_here", "_law_barred"], ["_law_flow_here", "_law_marks", "_law_backs_here", "_law_barred", "_law_names_here", "_law_ways"],
  (.cons (.set 4 (.own "_law_names" 2 (.cons (.v 0) (.cons (.op .add (.v 1) (.bi .len (.cons (.v 2) .nil))) .nil))))
  (.cons (.set 5 (.bi .tuple (.cons (.comp (.tup (.cons (.ix (.v 4) (.op .add (.v 3) (.v 1))) (.cons (.ix (.v 2) (.v 1)) .nil))) (.nm 1) (.rng (.cons (.bi .len (.cons (.v 2) .nil)) .nil)) .nil [none, none, some 2, some 1, some 4]) .nil)))
  (.cons (.ret (.tup (.cons (.sl (.v 4) .no (.yes (.v 1))) (.cons (.v 5) (.cons (.bi .tuple (.cons (.bi .sorted (.cons (.v 3) .nil)) .nil)) .nil)))))
  .nil)))⟩
noncomputable def d__law_free_three : Df := ⟨["_law_flow_here", "_law_marks", "_law_ways"], ["_law_flow_here", "_law_marks", "_law_ways", "_law_told", "_law_k"],
  (.cons (.set 3 (.lst .nil))
  (.cons (.loop (.nm 4) (.rng (.cons (.c (.int 3)) .nil)) (.cons (.ex (.me .append (.v 3) (.cons (.tup (.cons (.own "_law_pick" 2 (.cons (.v 0) (.cons (.v 1) .nil))) (.cons (.bi .tuple (.cons (.comp (.own "_law_pick" 2 (.cons (.v 2) (.cons (.v 3) .nil))) (.nm 1) (.rng (.cons (.v 4) .nil)) .nil [none, none, some 0, some 2]) .nil)) .nil))) .nil)))
  .nil))
  (.cons (.ret (.bi .tuple (.cons (.v 3) .nil)))
  .nil)))⟩
noncomputable def d__law_sizes : Df := ⟨["_law_flow_here"], ["_law_flow_here", "_law_menu"],
  (.cons (.set 1 (.lst (.cons (.tup (.cons (.c (.int 1)) (.cons (.c (.int 1)) .nil))) (.cons (.tup (.cons (.c (.int 2)) (.cons (.c (.int 1)) .nil))) (.cons (.tup (.cons (.c (.int 3)) (.cons (.c (.int 1)) .nil))) (.cons (.tup (.cons (.c (.int 1)) (.cons (.c (.int 2)) .nil))) (.cons (.tup (.cons (.c (.int 1)) (.cons (.c (.int 2)) .nil))) (.cons (.tup (.cons (.c (.int 2)) (.cons (.c (.int 2)) .nil))) (.cons (.tup (.cons (.c (.int 2)) (.cons (.c (.int 2)) .nil))) (.cons (.tup (.cons (.c (.int 3)) (.cons (.c (.int 2)) .nil))) (.cons (.tup (.cons (.c (.int 1)) (.cons (.c (.int 3)) .nil))) (.cons (.tup (.cons (.c (.int 1)) (.cons (.c (.int 3)) .nil))) (.cons (.tup (.cons (.c (.int 2)) (.cons (.c (.int 3)) .nil))) .nil)))))))))))))
  (.cons (.ret (.ix (.v 1) (.own "_law_pick" 2 (.cons (.v 0) (.cons (.c (.int 11)) .nil)))))
  .nil))⟩
noncomputable def d__law_any_rule : Df := ⟨["_law_flow_here"], ["_law_flow_here", "_law_marks", "_law_ways", "_law_rule_here", "_law_barred", "_law_k"],
  (.cons (.asg [1, 2] (.own "_law_sizes" 1 (.cons (.v 0) .nil)))
  (.cons (.set 3 (.own "_law_rule_of" 4 (.cons (.v 0) (.cons (.v 1) (.cons (.own "_law_backs" 2 (.cons (.v 0) (.cons (.v 2) .nil))) (.cons (.tup .nil) .nil))))))
  (.cons (.set 4 .dnew)
  (.cons (.loop (.nm 5) (.rng (.cons (.own "_law_pick" 2 (.cons (.v 0) (.cons (.c (.int 9)) .nil))) .nil)) (.cons (.put (.v 4) (.own "_law_figure" 2 (.cons (.v 3) (.cons (.own "_law_free_three" 3 (.cons (.v 0) (.cons (.v 1) (.cons (.v 2) .nil)))) .nil))) (.c (.bl true)))
  .nil))
  (.cons (.ret (.tup (.cons (.ix (.v 3) (.c (.int 0))) (.cons (.ix (.v 3) (.c (.int 1))) (.cons (.bi .tuple (.cons (.bi .sorted (.cons (.v 4) .nil)) .nil)) .nil)))))
  .nil)))))⟩
noncomputable def d__law_laying_kind : Df := ⟨["_law_flow_here"], ["_law_flow_here", "_law_menu"],
  (.cons (.set 1 (.lst (.cons (.tup (.cons (.tup (.cons (.c (.int 1)) (.cons (.c (.int 0)) .nil))) (.cons (.disp (.cons (.tup (.cons (.c (.int 0)) (.cons (.c (.int 0)) .nil))) (.cons (.lst (.cons (.c (.int 0)) .nil)) .nil))) (.cons (.c (.int 3)) .nil)))) (.cons (.tup (.cons (.tup (.cons (.c (.int 0)) (.cons (.c (.int 2)) (.cons (.c (.int 1)) .nil)))) (.cons (.disp (.cons (.tup (.cons (.c (.int 1)) (.cons (.c (.int 1)) .nil))) (.cons (.lst (.cons (.c (.int 1)) .nil)) .nil))) (.cons (.c (.int 2)) .nil)))) (.cons (.tup (.cons (.tup (.cons (.c (.int 0)) (.cons (.c (.int 1)) .nil))) (.cons (.disp (.cons (.tup (.cons (.c (.int 1)) (.cons (.c (.int 1)) .nil))) (.cons (.lst (.cons (.c (.int 1)) .nil)) .nil))) (.cons (.c (.int 3)) .nil)))) .nil)))))
  (.cons (.ex (.me .append (.v 1) (.cons (.tup (.cons (.tup (.cons (.c (.int 0)) (.cons (.c (.int 1)) .nil))) (.cons (.disp (.cons (.tup (.cons (.c (.int 1)) (.cons (.c (.int 1)) .nil))) (.cons (.lst (.cons (.c (.int 1)) .nil)) (.cons (.tup (.cons (.c (.int 0)) (.cons (.c (.int 0)) .nil))) (.cons (.lst (.cons (.c (.int 1)) .nil)) .nil))))) (.cons (.c (.int 3)) .nil)))) .nil)))
  (.cons (.ex (.me .append (.v 1) (.cons (.tup (.cons (.tup (.cons (.c (.int 0)) (.cons (.c (.int 1)) .nil))) (.cons (.disp (.cons (.tup (.cons (.c (.int 1)) (.cons (.c (.int 1)) .nil))) (.cons (.lst .nil) .nil))) (.cons (.c (.int 1)) .nil)))) .nil)))
  (.cons (.ex (.me .append (.v 1) (.cons (.tup (.cons (.tup (.cons (.c (.int 0)) (.cons (.c (.int 2)) (.cons (.c (.int 1)) .nil)))) (.cons (.disp (.cons (.tup (.cons (.c (.int 0)) (.cons (.c (.int 0)) .nil))) (.cons (.lst (.cons (.c (.int 0)) .nil)) (.cons (.tup (.cons (.c (.int 0)) (.cons (.c (.int 1)) .nil))) (.cons (.lst (.cons (.c (.int 1)) .nil)) (.cons (.tup (.cons (.c (.int 1)) (.cons (.c (.int 0)) .nil))) (.cons (.lst (.cons (.c (.int 1)) .nil)) (.cons (.tup (.cons (.c (.int 1)) (.cons (.c (.int 1)) .nil))) (.cons (.lst (.cons (.c (.int 1)) .nil)) .nil))))))))) (.cons (.c (.int 2)) .nil)))) .nil)))
  (.cons (.ex (.me .append (.v 1) (.cons (.tup (.cons (.tup (.cons (.c (.int 1)) (.cons (.c (.int 0)) .nil))) (.cons .dnew (.cons (.c (.int 3)) .nil)))) .nil)))
  (.cons (.ex (.me .append (.v 1) (.cons (.tup (.cons (.tup (.cons (.c (.int 0)) (.cons (.c (.int 1)) (.cons (.c (.int 2)) .nil)))) (.cons (.disp (.cons (.tup (.cons (.c (.int 2)) (.cons (.c (.int 2)) .nil))) (.cons (.lst (.cons (.c (.int 2)) .nil)) (.cons (.tup (.cons (.c (.int 1)) (.cons (.c (.int 2)) .nil))) (.cons (.lst (.cons (.c (.int 1)) .nil)) (.cons (.tup (.cons (.c (.int 2)) (.cons (.c (.int 1)) .nil))) (.cons (.lst (.cons (.c (.int 1)) .nil)) (.cons (.tup (.cons (.c (.int 1)) (.cons (.c (.int 1)) .nil))) (.cons (.lst (.cons (.c (.int 1)) (.cons (.c (.int 2)) .nil))) .nil))))))))) (.cons (.c (.int 2)) .nil)))) .nil)))
  (.cons (.ex (.me .append (.v 1) (.cons (.tup (.cons (.tup (.cons (.c (.int 0)) (.cons (.c (.int 1)) (.cons (.c (.int 2)) .nil)))) (.cons (.disp (.cons (.tup (.cons (.c (.int 0)) (.cons (.c (.int 0)) .nil))) (.cons (.lst (.cons (.c (.int 0)) (.cons (.c (.int 1)) .nil))) .nil))) (.cons (.c (.int 2)) .nil)))) .nil)))
  (.cons (.ret (.ix (.v 1) (.own "_law_pick" 2 (.cons (.v 0) (.cons (.c (.int 9)) .nil)))))
  .nil))))))))⟩
noncomputable def d__law_breaks : Df := ⟨["_law_backs_here", "_law_must", "_law_to_one", "_law_to_two", "_law_between_here"], ["_law_backs_here", "_law_must", "_law_to_one", "_law_to_two", "_law_between_here", "_law_to", "_law_pair", "_law_x", "_law_y", "_law_z"],
  (.cons (.set 5 (.disp (.cons (.tup (.cons (.c (.int 1)) (.cons (.c (.int 0)) .nil))) (.cons (.v 2) (.cons (.tup (.cons (.c (.int 2)) (.cons (.c (.int 0)) .nil))) (.cons (.v 3) (.cons (.tup (.cons (.c (.int 2)) (.cons (.c (.int 1)) .nil))) (.cons (.v 4) .nil))))))))
  (.cons (.loop (.nm 6) (.seq (.bi .list (.cons (.v 5) .nil))) (.cons (.put (.v 5) (.tup (.cons (.ix (.v 6) (.c (.int 1))) (.cons (.ix (.v 6) (.c (.int 0))) .nil))) (.ix (.v 0) (.ix (.v 5) (.v 6))))
  .nil))
  (.cons (.loop (.tp [7, 8, 9]) (.seq (.own "_law_turns" 0 .nil)) (.cons (.ite (.cmp .notin (.ix (.v 5) (.tup (.cons (.v 7) (.cons (.v 9) .nil)))) (.me .get (.v 1) (.cons (.tup (.cons (.ix (.v 5) (.tup (.cons (.v 7) (.cons (.v 8) .nil)))) (.cons (.ix (.v 5) (.tup (.cons (.v 8) (.cons (.v 9) .nil)))) .nil))) (.cons (.lst (.cons (.ix (.v 5) (.tup (.cons (.v 7) (.cons (.v 9) .nil)))) .nil)) .nil)))) (.cons (.ret (.c (.bl true)))
  .nil) .nil)
  .nil))
  (.cons (.ret (.c (.bl false)))
  .nil))))⟩
noncomputable def d__law_numbered : Df := ⟨["_law_flow_here", "_law_backs_here", "_law_must"], ["_law_flow_here", "_law_backs_here", "_law_must", "_law_many", "_law_menu", "_law_some", "_law_numbers", "_law_told", "_law_k", "_law_other", "_law_u", "_law_v"],
  (.cons (.set 3 (.bi .len (.cons (.v 1) .nil)))
  (.cons (.set 4 (.lst (.cons (.lst (.cons (.tup (.cons (.c (.int 0)) .nil)) .nil)) (.cons (.lst (.cons (.tup (.cons (.c (.int 0)) (.cons (.c (.int 1)) .nil))) (.cons (.tup (.cons (.c (.int 1)) (.cons (.c (.int 0)) .nil))) .nil))) .nil))))
  (.cons (.ex (.me .append (.v 4) (.cons (.lst (.cons (.tup (.cons (.c (.int 0)) (.cons (.c (.int 1)) (.cons (.c (.int 2)) .nil)))) (.cons (.tup (.cons (.c (.int 0)) (.cons (.c (.int 2)) (.cons (.c (.int 1)) .nil)))) (.cons (.tup (.cons (.c (.int 2)) (.cons (.c (.int 0)) (.cons (.c (.int 1)) .nil)))) (.cons (.tup (.cons (.c (.int 2)) (.cons (.c (.int 1)) (.cons (.c (.int 0)) .nil)))) .nil))))) .nil)))
  (.cons (.set 5 (.ix (.v 4) (.op .sub (.v 3) (.c (.int 1)))))
  (.cons (.ite (.cmp .eq (.v 1) (.tup (.cons (.c (.int 0)) (.cons (.c (.int 1)) (.cons (.c (.int 2)) .nil))))) (.cons (.set 5 (.own "_law_turns" 0 .nil))
  .nil) .nil)
  (.cons (.set 6 (.ix (.v 5) (.own "_law_pick" 2 (.cons (.v 0) (.cons (.bi .len (.cons (.v 5) .nil)) .nil)))))
  (.cons (.set 7 (.op .mul (.lst (.cons (.c (.int 0)) .nil)) (.v 3)))
  (.cons (.loop (.nm 8) (.rng (.cons (.v 3) .nil)) (.cons (.put (.v 7) (.ix (.v 6) (.v 8)) (.ix (.v 6) (.ix (.v 1) (.v 8))))
  .nil))
  (.cons (.set 9 .dnew)
  (.cons (.loop (.tp [10, 11]) (.seq (.v 2)) (.cons (.put (.v 9) (.tup (.cons (.ix (.v 6) (.v 10)) (.cons (.ix (.v 6) (.v 11)) .nil))) (.comp (.ix (.v 2) (.v 1)) (.nm 1) (.seq (.ix (.v 2) (.tup (.cons (.v 10) (.cons (.v 11) .nil))))) .nil [none, none, some 6]))
  .nil))
  (.cons (.ret (.tup (.cons (.bi .tuple (.cons (.v 7) .nil)) (.cons (.v 9) .nil))))
  .nil)))))))))))⟩
noncomputable def d__law_laying_rule : Df := ⟨["_law_flow_here"], ["_law_flow_here", "_law_form", "_law_backs_here", "_law_must", "_law_most", "_law_marks", "_law_rule_here", "_law_barred", "_law_many", "_law_at", "_law_one", "_law_two", "_law_between_here", "_law_some", "_law_first"],
  (.cons (.set 1 (.own "_law_pick" 2 (.cons (.v 0) (.cons (.c (.int 7)) .nil))))
  (.cons (.ite (.cmp .eq (.v 1) (.c (.int 0))) (.cons (.ret (.own "_law_free_rule" 1 (.cons (.v 0) .nil)))
  .nil) .nil)
  (.cons (.ite (.cmp .eq (.v 1) (.c (.int 1))) (.cons (.ret (.own "_law_one_way_rule" 1 (.cons (.v 0) .nil)))
  .nil) .nil)
  (.cons (.asg [2, 3, 4] (.own "_law_laying_kind" 1 (.cons (.v 0) .nil)))
  (.cons (.set 5 (.op .add (.c (.int 1)) (.own "_law_pick" 2 (.cons (.v 0) (.cons (.v 4) .nil)))))
  (.cons (.asg [2, 3] (.own "_law_numbered" 3 (.cons (.v 0) (.cons (.v 2) (.cons (.v 3) .nil)))))
  (.cons (.set 6 (.own "_law_rule_of" 4 (.cons (.v 0) (.cons (.v 5) (.cons (.v 2) (.cons (.tup .nil) .nil))))))
  (.cons (.set 7 .dnew)
  (.cons (.set 8 (.bi .len (.cons (.v 2) .nil)))
  (.cons (.loop (.nm 9) (.rng (.cons (.op .mul (.op .mul (.v 8) (.v 8)) (.v 8)) .nil)) (.cons (.par 10 11 (.cons (.op .mod (.v 9) (.v 8)) (.cons (.op .mod (.op .fdiv (.v 9) (.v 8)) (.v 8)) .nil)))
  (.cons (.set 12 (.op .fdiv (.op .fdiv (.v 9) (.v 8)) (.v 8)))
  (.cons (.ite (.own "_law_breaks" 5 (.cons (.v 2) (.cons (.v 3) (.cons (.v 10) (.cons (.v 11) (.cons (.v 12) .nil)))))) (.cons (.loop (.nm 13) (.seq (.own "_law_rising" 1 (.cons (.v 5) .nil))) (.cons (.set 14 (.tup (.cons (.tup (.cons (.ix (.v 13) (.c (.int 0))) (.cons (.tup .nil) .nil))) (.cons (.tup (.cons (.ix (.v 13) (.c (.int 1))) (.cons (.tup (.cons (.v 10) .nil)) .nil))) .nil))))
  (.cons (.put (.v 7) (.own "_law_figure" 2 (.cons (.v 6) (.cons (.op .add (.v 14) (.tup (.cons (.tup (.cons (.ix (.v 13) (.c (.int 2))) (.cons (.tup (.cons (.v 11) (.cons (.v 12) .nil))) .nil))) .nil))) .nil))) (.c (.bl true)))
  .nil)))
  .nil) .nil)
  .nil))))
  (.cons (.ret (.tup (.cons (.ix (.v 6) (.c (.int 0))) (.cons (.ix (.v 6) (.c (.int 1))) (.cons (.bi .tuple (.cons (.bi .sorted (.cons (.v 7) .nil)) .nil)) .nil)))))
  .nil)))))))))))⟩
noncomputable def d__law_rising : Df := ⟨["_law_marks"], ["_law_marks", "_law_told", "_law_i", "_law_j"],
  (.cons (.set 1 (.lst .nil))
  (.cons (.loop (.nm 2) (.rng (.cons (.v 0) .nil)) (.cons (.loop (.nm 3) (.rng2 (.cons (.v 2) (.cons (.v 0) .nil))) (.cons (.set 1 (.op .add (.v 1) (.comp (.tup (.cons (.v 2) (.cons (.v 3) (.cons (.v 1) .nil)))) (.nm 1) (.rng2 (.cons (.v 3) (.cons (.v 0) .nil))) .nil [none, none, some 2, some 3])))
  .nil))
  .nil))
  (.cons (.ret (.v 1))
  .nil)))⟩
noncomputable def d__law_free_rule : Df := ⟨["_law_flow_here"], ["_law_flow_here", "_law_marks", "_law_ways", "_law_rule_here", "_law_k", "_law_own", "_law_free", "_law_barred", "_law_three"],
  (.cons (.asg [1, 2] (.own "_law_sizes" 1 (.cons (.v 0) .nil)))
  (.cons (.set 3 (.own "_law_rule_of" 4 (.cons (.v 0) (.cons (.v 1) (.cons (.own "_law_backs" 2 (.cons (.v 0) (.cons (.v 2) .nil))) (.cons (.tup .nil) .nil))))))
  (.cons (.set 5 (.comp (.v 1) (.nm 1) (.rng (.cons (.v 2) .nil)) (.cons (.cmp .eq (.ix (.ix (.ix (.v 2) (.c (.int 1))) (.v 1)) (.c (.int 1))) (.v 1)) .nil) [none, none, some 3]))
  (.cons (.ite (.or (.cmp .eq (.v 5) (.lst .nil)) (.cmp .eq (.v 2) (.c (.int 1)))) (.cons (.ret (.v 3))
  .nil) .nil)
  (.cons (.set 6 (.ix (.v 5) (.own "_law_pick" 2 (.cons (.v 0) (.cons (.bi .len (.cons (.v 5) .nil)) .nil)))))
  (.cons (.set 7 .dnew)
  (.cons (.loop (.nm 4) (.rng (.cons (.own "_law_pick" 2 (.cons (.v 0) (.cons (.c (.int 9)) .nil))) .nil)) (.cons (.set 8 (.own "_law_free_three" 3 (.cons (.v 0) (.cons (.v 1) (.cons (.v 2) .nil)))))
  (.cons (.ite (.and (.cmp .ne (.ix (.ix (.ix (.v 8) (.c (.int 1))) (.c (.int 1))) (.c (.int 0))) (.v 6)) (.cmp .notin (.v 6) (.ix (.ix (.v 8) (.c (.int 2))) (.c (.int 1))))) (.cons (.put (.v 7) (.own "_law_figure" 2 (.cons (.v 3) (.cons (.v 8) .nil))) (.c (.bl true)))
  .nil) .nil)
  .nil)))
  (.cons (.ret (.tup (.cons (.ix (.v 3) (.c (.int 0))) (.cons (.ix (.v 3) (.c (.int 1))) (.cons (.bi .tuple (.cons (.bi .sorted (.cons (.v 7) .nil)) .nil)) .nil)))))
  .nil))))))))⟩
noncomputable def d__law_one_way_rule : Df := ⟨["_law_flow_here"], ["_law_flow_here", "_law_marks", "_law_barred"],
  (.cons (.set 1 (.op .add (.c (.int 1)) (.own "_law_pick" 2 (.cons (.v 0) (.cons (.c (.int 3)) .nil)))))
  (.cons (.set 2 (.comp (.tup (.cons (.tup (.cons (.v 1) (.cons (.tup .nil) .nil))) (.cons (.tup (.cons (.v 1) (.cons (.tup (.cons (.c (.int 0)) .nil)) .nil))) (.cons (.tup (.cons (.v 1) (.cons (.tup (.cons (.c (.int 0)) (.cons (.c (.int 0)) .nil))) .nil))) .nil)))) (.nm 1) (.rng (.cons (.v 1) .nil)) (.cons (.cmp .eq (.own "_law_pick" 2 (.cons (.v 2) (.cons (.c (.int 2)) .nil))) (.c (.int 0))) .nil) [none, none, some 0]))
  (.cons (.ret (.own "_law_rule_of" 4 (.cons (.v 0) (.cons (.v 1) (.cons (.tup (.cons (.c (.int 0)) .nil)) (.cons (.v 2) .nil))))))
  .nil)))⟩
noncomputable def d__law_unlaying_rule : Df := ⟨["_law_flow_here"], ["_law_flow_here", "_law_form", "_law_rule_here", "_law_barred", "_law_some", "_law_one", "_law_two", "_law_between_here", "_law_first", "_law_marks"],
  (.cons (.set 1 (.own "_law_pick" 2 (.cons (.v 0) (.cons (.c (.int 3)) .nil))))
  (.cons (.ite (.cmp .eq (.v 1) (.c (.int 0))) (.cons (.ret (.own "_law_rule_of" 4 (.cons (.v 0) (.cons (.c (.int 1)) (.cons (.tup (.cons (.c (.int 0)) (.cons (.c (.int 1)) .nil))) (.cons (.comp (.tup (.cons (.tup (.cons (.c (.int 0)) (.cons (.tup .nil) .nil))) (.cons (.tup (.cons (.c (.int 0)) (.cons (.tup (.cons (.v 1) .nil)) .nil))) (.cons (.tup (.cons (.c (.int 0)) (.cons (.tup (.cons (.v 1) (.cons (.v 1) .nil))) .nil))) .nil)))) (.nm 1) (.rng (.cons (.c (.int 2)) .nil)) .nil [none, none]) .nil))))))
  .nil) .nil)
  (.cons (.ite (.cmp .eq (.v 1) (.c (.int 1))) (.cons (.set 2 (.own "_law_rule_of" 4 (.cons (.v 0) (.cons (.c (.int 2)) (.cons (.tup (.cons (.c (.int 0)) (.cons (.c (.int 1)) .nil))) (.cons (.tup .nil) .nil))))))
  (.cons (.set 3 .dnew)
  (.cons (.loop (.nm 4) (.seq (.own "_law_rising" 1 (.cons (.c (.int 2)) .nil))) (.cons (.loop (.tp [5, 6, 7]) (.seq (.lst (.cons (.tup (.cons (.c (.int 1)) (.cons (.c (.int 1)) (.cons (.c (.int 0)) .nil)))) (.cons (.tup (.cons (.c (.int 1)) (.cons (.c (.int 1)) (.cons (.c (.int 1)) .nil)))) (.cons (.tup (.cons (.c (.int 1)) (.cons (.c (.int 0)) (.cons (.c (.int 1)) .nil)))) (.cons (.tup (.cons (.c (.int 0)) (.cons (.c (.int 1)) (.cons (.c (.int 1)) .nil)))) .nil)))))) (.cons (.set 8 (.tup (.cons (.tup (.cons (.ix (.v 4) (.c (.int 0))) (.cons (.tup .nil) .nil))) (.cons (.tup (.cons (.ix (.v 4) (.c (.int 1))) (.cons (.tup (.cons (.v 5) .nil)) .nil))) .nil))))
  (.cons (.put (.v 3) (.own "_law_figure" 2 (.cons (.v 2) (.cons (.op .add (.v 8) (.tup (.cons (.tup (.cons (.ix (.v 4) (.c (.int 2))) (.cons (.tup (.cons (.v 6) (.cons (.v 7) .nil))) .nil))) .nil))) .nil))) (.c (.bl true)))
  .nil)))
  .nil))
  (.cons (.ret (.tup (.cons (.ix (.v 2) (.c (.int 0))) (.cons (.ix (.v 2) (.c (.int 1))) (.cons (.bi .tuple (.cons (.bi .sorted (.cons (.v 3) .nil)) .nil)) .nil)))))
  .nil)))) .nil)
  (.cons (.set 9 (.op .add (.c (.int 2)) (.own "_law_pick" 2 (.cons (.v 0) (.cons (.c (.int 2)) .nil)))))
  (.cons (.set 3 (.comp (.tup (.cons (.tup (.cons (.c (.int 0)) (.cons (.tup .nil) .nil))) (.cons (.tup (.cons (.v 1) (.cons (.tup (.cons (.c (.int 0)) .nil)) .nil))) (.cons (.tup (.cons (.op .sub (.v 2) (.c (.int 1))) (.cons (.tup (.cons (.c (.int 0)) (.cons (.c (.int 0)) .nil))) .nil))) .nil)))) (.nm 1) (.rng (.cons (.v 9) .nil)) .nil [none, none, some 9]))
  (.cons (.ret (.own "_law_rule_of" 4 (.cons (.v 0) (.cons (.v 9) (.cons (.tup (.cons (.c (.int 0)) .nil)) (.cons (.sl (.v 3) .no (.yes (.op .add (.c (.int 1)) (.own "_law_pick" 2 (.cons (.v 0) (.cons (.v 9) .nil)))))) .nil))))))
  .nil))))))⟩
noncomputable def d__law_any_world : Df := ⟨["_law_flow_here", "_law_rule_here", "_law_many"], ["_law_flow_here", "_law_rule_here", "_law_many", "_law_told", "_law_k", "_law_mark"],
  (.cons (.set 3 (.lst .nil))
  (.cons (.loop (.nm 4) (.rng (.cons (.v 2) .nil)) (.cons (.set 5 (.own "_law_pick" 2 (.cons (.v 0) (.cons (.bi .len (.cons (.ix (.v 1) (.c (.int 0))) .nil)) .nil))))
  (.cons (.ex (.me .append (.v 3) (.cons (.tup (.cons (.v 5) (.cons (.bi .tuple (.cons (.comp (.own "_law_pick" 2 (.cons (.v 2) (.cons (.bi .len (.cons (.ix (.v 3) (.c (.int 1))) .nil)) .nil))) (.nm 1) (.rng (.cons (.v 4) .nil)) .nil [none, none, some 0, some 1]) .nil)) .nil))) .nil)))
  .nil)))
  (.cons (.ret (.bi .tuple (.cons (.v 3) .nil)))
  .nil)))⟩
noncomputable def d__law_alike : Df := ⟨["_law_found", "_law_due"], ["_law_found", "_law_due"],
  (.cons (.ite (.cmp .is (.v 1) (.c .non)) (.cons (.ret (.cmp .is (.v 0) (.c .non)))
  .nil) .nil)
  (.cons (.ite (.or (.isi "bool" (.v 1)) (.isi "bool" (.v 0))) (.cons (.ret (.and (.isi "bool" (.v 1)) (.and (.isi "bool" (.v 0)) (.cmp .eq (.v 0) (.v 1)))))
  .nil) .nil)
  (.cons (.ite (.isi "int" (.v 1)) (.cons (.ret (.and (.isi "int" (.v 0)) (.cmp .eq (.v 0) (.v 1))))
  .nil) .nil)
  (.cons (.ite (.isi "str" (.v 1)) (.cons (.ret (.and (.isi "str" (.v 0)) (.cmp .eq (.v 0) (.v 1))))
  .nil) .nil)
  (.cons (.ite (.or (.cmp .ne (.isi "tuple" (.v 1)) (.isi "tuple" (.v 0))) (.cmp .ne (.isi "list" (.v 1)) (.isi "list" (.v 0)))) (.cons (.ret (.c (.bl false)))
  .nil) .nil)
  (.cons (.ret (.and (.cmp .eq (.bi .len (.cons (.v 0) .nil)) (.bi .len (.cons (.v 1) .nil))) (.bi .all (.cons (.comp (.own "_law_alike" 2 (.cons (.ix (.v 3) (.v 1)) (.cons (.ix (.v 2) (.v 1)) .nil))) (.nm 1) (.rng (.cons (.bi .len (.cons (.v 1) .nil)) .nil)) .nil [none, none, some 1, some 0]) .nil))))
  .nil))))))⟩
noncomputable def d__law_rule : Df := ⟨["_law_flow_here"], ["_law_flow_here", "_law_form"],
  (.cons (.set 1 (.own "_law_pick" 2 (.cons (.v 0) (.cons (.c (.int 4)) .nil))))
  (.cons (.ite (.cmp .eq (.v 1) (.c (.int 0))) (.cons (.ret (.own "_law_laying_rule" 1 (.cons (.v 0) .nil)))
  .nil) .nil)
  (.cons (.ite (.cmp .eq (.v 1) (.c (.int 1))) (.cons (.ret (.own "_law_unlaying_rule" 1 (.cons (.v 0) .nil)))
  .nil) .nil)
  (.cons (.ret (.own "_law_any_rule" 1 (.cons (.v 0) .nil)))
  .nil))))⟩
noncomputable def d__law_holds : Df := ⟨["_law_rule_here", "_law_world", "_law_i", "_law_j"], ["_law_rule_here", "_law_world", "_law_i", "_law_j", "_law_due", "_law_there"],
  (.cons (.set 4 (.own "_law_between" 4 (.cons (.v 0) (.cons (.v 1) (.cons (.v 2) (.cons (.v 3) .nil))))))
  (.cons (.set 5 (.ix (.ix (.ix (.v 0) (.c (.int 1))) (.v 4)) (.c (.int 1))))
  (.cons (.ite (.or (.not (.own "_law_alike" 2 (.cons (.own "way" 4 (.cons (.v 0) (.cons (.v 1) (.cons (.v 2) (.cons (.v 3) .nil))))) (.cons (.v 4) .nil)))) (.not (.own "_law_alike" 2 (.cons (.own "way" 4 (.cons (.v 0) (.cons (.v 1) (.cons (.v 3) (.cons (.v 2) .nil))))) (.cons (.v 5) .nil))))) (.cons (.ret (.c (.bl false)))
  .nil) .nil)
  (.cons (.ret (.and (.own "_law_alike" 2 (.cons (.own "back" 2 (.cons (.v 0) (.cons (.v 4) .nil))) (.cons (.v 5) .nil))) (.own "_law_alike" 2 (.cons (.own "back" 2 (.cons (.v 0) (.cons (.v 5) .nil))) (.cons (.v 4) .nil)))))
  .nil))))⟩
noncomputable def d_law : Df := ⟨["_law_script"], ["_law_script", "_law_flow_here", "_law_both", "_law_k", "_law_rule_here", "_law_many", "_law_asked", "_law_world", "_law_i", "_law_j"],
  (.cons (.set 1 (.own "_law_flow" 1 (.cons (.v 0) .nil)))
  (.cons (.set 2 (.lst .nil))
  (.cons (.loop (.nm 3) (.rng (.cons (.c (.int 2)) .nil)) (.cons (.set 4 (.own "_law_rule" 1 (.cons (.v 1) .nil)))
  (.cons (.set 5 (.op .add (.c (.int 2)) (.own "_law_pick" 2 (.cons (.v 1) (.cons (.c (.int 8)) .nil)))))
  (.cons (.ite (.cmp .eq (.own "_law_pick" 2 (.cons (.v 1) (.cons (.c (.int 8)) .nil))) (.c (.int 0))) (.cons (.set 5 (.op .add (.c (.int 2)) (.own "_law_pick" 2 (.cons (.v 1) (.cons (.c (.int 29)) .nil)))))
  .nil) .nil)
  (.cons (.ex (.me .append (.v 2) (.cons (.tup (.cons (.v 4) (.cons (.own "_law_any_world" 3 (.cons (.v 1) (.cons (.v 4) (.cons (.v 5) .nil)))) .nil))) .nil)))
  .nil)))))
  (.cons (.set 6 (.lst .nil))
  (.cons (.loop (.nm 3) (.rng (.cons (.c (.int 8)) .nil)) (.cons (.asg [4, 7] (.ix (.v 2) (.own "_law_pick" 2 (.cons (.v 1) (.cons (.c (.int 2)) .nil)))))
  (.cons (.set 8 (.own "_law_pick" 2 (.cons (.v 1) (.cons (.bi .len (.cons (.v 7) .nil)) .nil))))
  (.cons (.set 9 (.op .mod (.op .add (.op .add (.v 8) (.c (.int 1))) (.own "_law_pick" 2 (.cons (.v 1) (.cons (.op .sub (.bi .len (.cons (.v 7) .nil)) (.c (.int 1))) .nil)))) (.bi .len (.cons (.v 7) .nil))))
  (.cons (.ex (.me .append (.v 6) (.cons (.tup (.cons (.v 4) (.cons (.v 7) (.cons (.v 8) (.cons (.v 9) .nil))))) .nil)))
  .nil)))))
  (.cons (.loop (.tp [4, 7, 8, 9]) (.seq (.op .add (.v 6) (.sl (.v 6) .no (.yes (.c (.int 1)))))) (.cons (.ite (.not (.own "_law_holds" 4 (.cons (.v 4) (.cons (.v 7) (.cons (.v 8) (.cons (.v 9) .nil)))))) (.cons (.ret (.c (.bl false)))
  .nil) .nil)
  .nil))
  (.cons (.ret (.c (.bl true)))
  .nil)))))))⟩
end Mi
set_option Elab.async false
set_option linter.all false
set_option maxRecDepth 100000
namespace Mi
open PySem PySem.Spec PyProof.Rows L2
structure FlA (S : Store) (r q : Nat) (ns : List Int) (i c x n : Int) : Prop where
  at_r : S[r]? = some (.lst [.ref q, .int i, .int c, .int x, .int n])
  at_q : S[q]? = some (.lst (ns.map W.int))
  lt : q < r
  i0 : 0 ≤ i
  c0 : 0 ≤ c
  x0 : 0 ≤ x
  x1 : x < 2147483647
theorem FlA.ne {S : Store} {r q : Nat} {ns : List Int} {i c x n : Int} (h : FlA S r q ns i c x n) : q ≠ r := Nat.ne_of_lt h.lt
noncomputable def Fl (S : Store) (r : Nat) : Prop := ∃ (q : Nat) (ns : List Int) (i c x n : Int), FlA S r q ns i c x n
theorem FlA.put {S : Store} {r q : Nat} {ns : List Int} {i c x n i' c' x' n' : Int} (h : FlA S r q ns i c x n) (h1 : 0 ≤ i') (h2 : 0 ≤ c') (h3 : 0 ≤ x') (h4 : x' < 2147483647) : FlA (S.set r (.lst [.ref q, .int i', .int c', .int x', .int n'])) r q ns i' c' x' n' :=
  ⟨at_set h.at_r, by rw [at_ne (Ne.symm h.ne)]; exact h.at_q, h.lt, h1, h2, h3, h4⟩
theorem Fl.keep {S S' : Store} {r : Nat} (h : Fl S r) (h1 : S'[r]? = S[r]?) (k : Kp r S S') : Fl S' r :=
  let ⟨q, ns, i, c, x, n, f⟩ := h; ⟨q, ns, i, c, x, n, by rw [h1]; exact f.at_r, k.get _ _ f.ne f.at_q, f.lt, f.i0, f.c0, f.x0, f.x1⟩
theorem Fl.push {S : Store} {r : Nat} {o : O} (h : Fl S r) : Fl (S ++ [o]) r := h.keep (by
  obtain ⟨q, ns, i, c, x, n, f⟩ := h
  rw [at_old f.at_r, f.at_r]) .push
theorem Fl.lt {S : Store} {r : Nat} (h : Fl S r) : r < S.length := let ⟨_, _, _, _, _, _, f⟩ := h; at_lt f.at_r
theorem Fl.own {S : Store} {r t : Nat} {o : O} (h : Fl S r) (ht : r < t) : Fl (S.set t o) r := by
  obtain ⟨q, ns, i, c, x, n, f⟩ := h
  have := f.lt
  exact ⟨q, ns, i, c, x, n, by rw [at_ne (by omega)]; exact f.at_r, by rw [at_ne (by omega)]; exact f.at_q, f.lt, f.i0, f.c0, f.x0, f.x1⟩
section
variable {defs : List (Str × Df)} {fuel d : Nat} {S : Store} {r : Nat}
theorem pick_ok (hd : defs.lookup ("_law_pick" : Str) = some d__law_pick) {m : Int} (hf : Fl S r) (h0 : 0 < m) (h1 : m < 1073741824) :
    Wp (callD defs fuel (d + 1) "_law_pick" [.ref r, .int m] S) fun p => ∃ v, p.1 = .int v ∧ 0 ≤ v ∧ v < m ∧ Fl p.2 r ∧ Kp r S p.2 := by
  obtain ⟨q, ns, i, c, x, n, f⟩ := hf
  refine call_rule hd rfl ?_
  unfold d__law_pick
  rw [s_cons]
  have z0 : (0 : Int) ≤ 0 := by decide
  have z1 : (0 : Int) ≤ 1 := by decide
  have z2 : (0 : Int) ≤ 2 := by decide
  have z3 : (0 : Int) ≤ 3 := by decide
  have z4 : (0 : Int) ≤ 4 := by decide
  have l1 : Int.toNat 1 < 5 := by decide
  have l2 : Int.toNat 2 < 5 := by decide
  have l3 : Int.toNat 3 < 5 := by decide
  have l4 : Int.toNat 4 < 5 := by decide
  refine Wp.mono (Q := fun p => ∃ S' i' c' x' n', (∃ w2, p = (.nx [some (.ref r), some (.int m), w2, none], S')) ∧ FlA S' r q ns i' c' x' n' ∧ Kp r S S') ?_ ?_
  · simp only [xE, sE, Nat.reduceAdd, Nat.reduceSub, reduceCtorEq]
    simp only [i_lst f.at_r z2 rfl, wp_some, k_eq, W.bl.injEq, exists_eq_left']
    refine ⟨fun hc => ?_, fun _ => ⟨S, i, c, x, n, ⟨_, rfl⟩, f, .refl⟩⟩
    simp only [i_lst f.at_r z1 rfl, i_lst f.at_r z0 rfl, l_lst f.at_q, wp_some, k_lt, W.bl.injEq, exists_eq_left']
    refine ⟨fun hl => ?_, fun _ => ⟨S, i, c, x, n, ⟨_, rfl⟩, f, .refl⟩⟩
    have hl' : i.toNat < ns.length := by
      have := of_decide_eq_true hl
      rw [List.length_map] at this
      have := f.i0
      omega
    have hcell : (ns.map W.int)[i.toNat]? = some (.int ns[i.toNat]) := by simp [hl']
    have f1 : FlA (S.set r (.lst [.ref q, .int (i + 1), .int c, .int x, .int n])) r q ns (i + 1) c x n := f.put (by have := f.i0; omega) f.c0 f.x0 f.x1
    simp only [i_lst f.at_r z1 rfl, i_lst f.at_r z0 rfl, i_lst f.at_q f.i0 hcell, o_add, wp_some, p_lst f.at_r z1 l1, Option.some.injEq, exists_eq_left', o_1018, k_ge, W.bl.injEq]
    simp only [List.set_cons_zero, List.set_cons_succ, show Int.toNat 1 = 1 from rfl]
    refine ⟨fun hg => ?_, fun hg => ?_⟩
    · simp only [p_lst f1.at_r z2 l2, Option.some.injEq, exists_eq_left']
      simp only [List.set_cons_zero, List.set_cons_succ, show Int.toNat 2 = 2 from rfl]
      refine ⟨_, i + 1, ns[i.toNat], x, n, ⟨_, rfl⟩, f1.put f1.i0 (by have := of_decide_eq_true hg; omega) f.x0 f.x1, Kp.set.trans .set⟩
    · simp only [i_lst f1.at_r z3 rfl, wp_some, o_mul (show -(2 ^ 64 : Int) < 40013 by decide) (show (40013 : Int) < 2 ^ 64 by decide), o_mod (show (0 : Int) < 1000003 by decide), o_add, o_mod (show (0 : Int) < 2147483647 by decide), p_lst f1.at_r z3 l3, Option.some.injEq, exists_eq_left']
      simp only [List.set_cons_zero, List.set_cons_succ, show Int.toNat 3 = 3 from rfl]
      refine ⟨_, i + 1, c, _, n, ⟨_, rfl⟩, f1.put f1.i0 f.c0 (Int.emod_nonneg _ (by decide)) (Int.emod_lt_of_pos _ (by decide)), Kp.set.trans .set⟩
  · rintro _ ⟨S1, i1, c1, x1, n1, ⟨w2, rfl⟩, f1, kp⟩
    simp only [xE, sE, Nat.reduceAdd, Nat.reduceSub, reduceCtorEq]
    simp only [i_lst f1.at_r z2 rfl, wp_some, k_gt, W.bl.injEq, exists_eq_left']
    refine ⟨fun hg => ?_, fun hg => ?_⟩
    · simp only [i_lst f1.at_r z2 rfl, wp_some, o_mod h0, o_fdiv h0 h1, p_lst f1.at_r z2 l2, Option.some.injEq, exists_eq_left', W.int.injEq]
      simp only [List.set_cons_zero, List.set_cons_succ, show Int.toNat 2 = 2 from rfl]
      exact ⟨Int.emod_nonneg _ (by omega), Int.emod_lt_of_pos _ h0, ⟨q, ns, i1, c1 / m, x1, n1, f1.put f1.i0 (Int.ediv_nonneg f1.c0 (by omega)) f1.x0 f1.x1⟩, kp.trans .set⟩
    · have f2 : FlA (S1.set r (.lst [.ref q, .int i1, .int c1, .int x1, .int (n1 + 1)])) r q ns i1 c1 x1 (n1 + 1) := f1.put f1.i0 f1.c0 f1.x0 f1.x1
      simp only [i_lst f1.at_r z4 rfl, wp_some, o_add, p_lst f1.at_r z4 l4, Option.some.injEq, exists_eq_left']
      simp only [List.set_cons_zero, List.set_cons_succ, show Int.toNat 4 = 4 from rfl]
      simp only [i_lst f2.at_r z3 rfl, i_lst f2.at_r z4 rfl, wp_some, o_mul (show -(2 ^ 64 : Int) < 48271 by decide) (show (48271 : Int) < 2 ^ 64 by decide), o_add, o_mod (show (0 : Int) < 2147483647 by decide), p_lst f2.at_r z3 l3, Option.some.injEq, exists_eq_left']
      simp only [List.set_cons_zero, List.set_cons_succ, show Int.toNat 3 = 3 from rfl]
      have f3 : FlA ((S1.set r (.lst [.ref q, .int i1, .int c1, .int x1, .int (n1 + 1)])).set r (.lst [.ref q, .int i1, .int c1, .int ((x1 * 48271 + 12820163 + (n1 + 1)) % 2147483647), .int (n1 + 1)])) r q ns i1 c1 ((x1 * 48271 + 12820163 + (n1 + 1)) % 2147483647) (n1 + 1) := f2.put f1.i0 f1.c0 (Int.emod_nonneg _ (by decide)) (Int.emod_lt_of_pos _ (by decide))
      have hb : (x1 * 48271 + 12820163 + (n1 + 1)) % 2147483647 / 65521 + 7919 < 2 ^ 64 := by
        have := f3.x1
        have := Int.ediv_le_self 65521 f3.x0
        omega
      have hb2 : -(2 ^ 64) < (x1 * 48271 + 12820163 + (n1 + 1)) % 2147483647 / 65521 + 7919 := by
        have := Int.ediv_nonneg f3.x0 (show (0 : Int) ≤ 65521 by decide)
        omega
      simp only [i_lst f3.at_r z3 rfl, wp_some, o_mod (show (0 : Int) < 65521 by decide), o_add, o_fdiv (show (0 : Int) < 65521 by decide) (by decide), o_mul hb2 hb, o_mod (show (0 : Int) < 1000003 by decide), o_fdiv (show (0 : Int) < 7 by decide) (by decide), o_mod h0, W.int.injEq, exists_eq_left']
      exact ⟨Int.emod_nonneg _ (by omega), Int.emod_lt_of_pos _ h0, ⟨q, ns, _, _, _, _, f3⟩, kp.trans (Kp.set.trans .set)⟩
end
end Mi
set_option Elab.async false
set_option linter.all false
set_option maxRecDepth 100000
namespace Mi
open PySem PySem.Spec PyProof.Rows L2
theorem abc_at : ∀ k : Fin 26, ("abcdefghijklmnopqrstuvwxyz" : Str).cps.toList[k.val]? = some (97 + k.val) := by decide
theorem abc_len : ("abcdefghijklmnopqrstuvwxyz" : Str).length ≤ sizeLine := by decide
theorem strs_chars : ∀ cs : List Nat, strsOf (cs.map fun c => W.str ⟨#[c]⟩) = some (cs.map fun c => (⟨#[c]⟩ : Str))
  | [] => rfl
  | c :: cs => by simp [strsOf, strs_chars cs]
theorem sum_chars : ∀ cs : List Nat, ((cs.map fun c => (⟨#[c]⟩ : Str)).map (·.length)).sum = cs.length
  | [] => rfl
  | c :: cs => by
    have := sum_chars cs
    simp only [List.map_cons, List.sum_cons, List.length_cons]
    rw [this]
    show 1 + cs.length = _
    omega
theorem join_chars : ∀ cs : List Nat, (Str.join "" (cs.map fun c => (⟨#[c]⟩ : Str))).cps.toList = cs
  | [] => rfl
  | [c] => rfl
  | c :: d :: cs => by
    have ih := join_chars (d :: cs)
    show (((⟨#[c]⟩ : Str) ++ ("" : Str) ++ Str.join "" ((d :: cs).map fun c => (⟨#[c]⟩ : Str))).cps).toList = _
    have e : ∀ a b : Str, (a ++ b).cps = a.cps ++ b.cps := fun _ _ => rfl
    rw [e, e, Array.toList_append, ih, Array.toList_append]
    rfl
section
variable {defs : List (Str × Df)} {fuel d : Nat} {S : Store} {r : Nat}
theorem letters_ok (hd : defs.lookup ("_law_letters" : Str) = some d__law_letters) (hp : defs.lookup ("_law_pick" : Str) = some d__law_pick) {m : Int} (hf : Fl S r) (h0 : 0 ≤ m) (h1 : m ≤ 1000) :
    Wp (callD defs fuel (d + 2) "_law_letters" [.ref r, .int m] S) fun p => ∃ y : Str, p.1 = .str y ∧ y.cps.toList.length = m.toNat ∧ (∀ c ∈ y.cps.toList, 97 ≤ c ∧ c ≤ 122) ∧ Fl p.2 r ∧ Kp r S p.2 := by
  refine call_rule hd rfl ?_
  unfold d__law_letters
  simp only [xE, sE, Nat.reduceAdd, Nat.reduceSub, reduceCtorEq]
  refine ⟨rfl, ?_⟩
  refine comp_its (rngW 0 m.toNat) (fun i ys ρ S' => (∃ a, ρ = [none, a, some (.ref r)]) ∧ Fl S' r ∧ Kp r S S' ∧ ∃ cs : List Nat, ys = cs.map (fun c => W.str ⟨#[c]⟩) ∧ cs.length = i ∧ ∀ c ∈ cs, 97 ≤ c ∧ c ≤ 122) ?_ ?_ ?_
  · refine i_rng ?_
    simp only [xE, sE, Nat.reduceAdd, Nat.reduceSub, reduceCtorEq]
    exact ⟨m, rfl, by omega, by omega, rfl, ⟨none, rfl⟩, hf, .refl, [], rfl, rfl, fun _ h => nomatch h⟩
  · rintro i w ys ρ S1 hw ⟨⟨a, rfl⟩, f1, k1, cs, rfl, hl, hcs⟩
    rw [g_nm]
    simp only [c_nil, xE, sE, Nat.reduceAdd, Nat.reduceSub, reduceCtorEq]
    refine (pick_ok hp f1 (show (0 : Int) < 26 by decide) (by decide)).mono ?_
    rintro ⟨w1, S2⟩ ⟨v, h1, h2, h3, f2, k2⟩
    simp only at h1 f2 k2
    subst h1
    have hv : v.toNat < 26 := by omega
    rw [i_str abc_len h2 (abc_at ⟨v.toNat, hv⟩), wp_some]
    refine ⟨⟨_, rfl⟩, f2, k1.trans k2, cs ++ [97 + v.toNat], by simp, by simp [hl], fun c hc => ?_⟩
    rcases List.mem_append.mp hc with h | h
    · exact hcs c h
    · rw [List.mem_singleton.mp h]; omega
  · rintro ys ρ S1 ⟨_, f1, k1, cs, rfl, hl, hcs⟩
    have hlen : (rngW 0 m.toNat).length = m.toNat := by simp [rngW]
    rw [hlen] at hl
    refine ⟨by rw [List.length_map, hl, sizeLine_eq]; omega, ?_⟩
    have hz : ((cs.map fun c => (⟨#[c]⟩ : Str)).map (·.length)).sum + (cs.map fun c => (⟨#[c]⟩ : Str)).length * ("" : Str).length ≤ 16777216 := by
      rw [sum_chars, show ("" : Str).length = 0 from rfl, Nat.mul_zero]
      omega
    have e : joinW (.str "") [.ref S1.length] (S1 ++ [.lst (cs.map fun c => W.str ⟨#[c]⟩)]) = some (.str (Txt.join "" (cs.map fun c => (⟨#[c]⟩ : Str))), S1 ++ [.lst (cs.map fun c => W.str ⟨#[c]⟩)]) := by
      simp only [joinW, seqOf, rdL_lst at_end, strs_chars]
      rw [if_pos hz]
    rw [e, wp_some]
    have ej : (Txt.join "" (cs.map fun c => (⟨#[c]⟩ : Str))).cps.toList = cs := by
      show (Builtin.Str.glued "" _).cps.toList = _
      rw [StrLaws.glued_eq_join]
      exact join_chars cs
    exact ⟨_, rfl, by rw [ej, hl], by rw [ej]; exact hcs, f1.push, k1.trans .push⟩
end
end Mi
set_option Elab.async false
set_option linter.all false
set_option maxRecDepth 100000
namespace Mi
open PySem PySem.Spec PyProof.Rows L2
noncomputable def Small (y : Str) : Prop := ∀ c ∈ y.cps.toList, 97 ≤ c ∧ c ≤ 122
noncomputable def Name (y : Str) : Prop := 1 ≤ y.cps.toList.length ∧ y.cps.toList.length ≤ 8 ∧ Small y
theorem len_cps (y : Str) : y.length = y.cps.toList.length := by simp [Str.length]
theorem cps_append (a b : Str) : (a ++ b).cps.toList = a.cps.toList ++ b.cps.toList := by
  show (a.cps ++ b.cps).toList = _
  rw [Array.toList_append]
noncomputable def nearA : List Str := ["markss", "mark", "way", "wayss", "bars", "ba", "somex"]
noncomputable def nearB : List Str := ["eachx", "note", "no", "ands", "ors", "o", "iss"]
theorem near_ok : ∀ k : Fin 14, ∃ y, (nearA ++ nearB)[k.val]? = some y ∧ (1 ≤ y.cps.toList.length ∧ y.cps.toList.length ≤ 8 ∧ (y.cps.toList.all fun c => decide (97 ≤ c ∧ c ≤ 122)) = true) := by
  intro k
  refine ⟨(nearA ++ nearB)[k.val]'(by have := k.2; simpa [nearA, nearB] using this), by simp, ?_⟩
  revert k
  decide
section
variable {defs : List (Str × Df)} {fuel d : Nat} {S : Store} {r : Nat}
theorem name_ok (hd : defs.lookup ("_law_name" : Str) = some d__law_name) (hl : defs.lookup ("_law_letters" : Str) = some d__law_letters) (hp : defs.lookup ("_law_pick" : Str) = some d__law_pick) {y : Str} (hf : Fl S r) (h0 : y.cps.toList.length ≤ 6) (h1 : Small y) :
    Wp (callD defs fuel (d + 3) "_law_name" [.ref r, .str y] S) fun p => ∃ z : Str, p.1 = .str z ∧ Name z ∧ Fl p.2 r ∧ Kp r S p.2 := by
  refine call_rule hd rfl ?_
  unfold d__law_name
  simp only [xE, sE, Nat.reduceAdd, Nat.reduceSub, reduceCtorEq]
  simp only [k_nes, wp_some, W.bl.injEq, exists_eq_left']
  refine ⟨fun hne => ?_, fun he => ?_⟩
  · refine (pick_ok (d := d + 1) hp hf (show (0 : Int) < 2 by decide) (by decide)).mono ?_
    rintro ⟨w1, S1⟩ ⟨v, h2, h3, h4, f1, k1⟩
    simp only at h2 f1 k1
    subst h2
    simp only [o_add, wp_some]
    refine (letters_ok (d := d) hl hp f1 (show 0 ≤ 1 + v by omega) (by omega)).mono ?_
    rintro ⟨w2, S2⟩ ⟨z, h5, h6, h7, f2, k2⟩
    simp only at h5 f2 k2
    subst h5
    have hz : y.length + z.length ≤ sizeLine := by rw [len_cps, len_cps, h6, sizeLine_eq]; omega
    simp only [o_strs hz, wp_some]
    refine ⟨_, rfl, ⟨?_, ?_, ?_⟩, f2, k1.trans k2⟩
    · rw [cps_append, List.length_append, h6]; omega
    · rw [cps_append, List.length_append, h6]; omega
    · intro c hc
      rw [cps_append] at hc
      rcases List.mem_append.mp hc with h | h
      · exact h1 c h
      · exact h7 c h
  · refine (pick_ok (d := d + 1) hp hf (show (0 : Int) < 6 by decide) (by decide)).mono ?_
    rintro ⟨w1, S1⟩ ⟨v, h2, h3, h4, f1, k1⟩
    simp only at h2 f1 k1
    subst h2
    simp only [k_eq, wp_some, W.bl.injEq, exists_eq_left']
    refine ⟨fun _ => ?_, fun _ => ?_⟩
    · refine ⟨by rw [sizeLine_eq]; decide, by rw [sizeLine_eq]; decide, ?_⟩
      have e1 : ((S1 ++ [.lst [.str "markss", .str "mark", .str "way", .str "wayss", .str "bars", .str "ba", .str "somex"]]) ++ [.lst [.str "eachx", .str "note", .str "no", .str "ands", .str "ors", .str "o", .str "iss"]])[S1.length]? = some (.lst (nearA.map W.str)) := at_old at_end
      have e2 : ((S1 ++ [.lst [.str "markss", .str "mark", .str "way", .str "wayss", .str "bars", .str "ba", .str "somex"]]) ++ [.lst [.str "eachx", .str "note", .str "no", .str "ands", .str "ors", .str "o", .str "iss"]])[(S1 ++ [O.lst [.str "markss", .str "mark", .str "way", .str "wayss", .str "bars", .str "ba", .str "somex"]]).length]? = some (.lst (nearB.map W.str)) := at_end
      rw [o_lsts e1 e2 (by simp [nearA, nearB, sizeLine_eq]), wp_some]
      refine (pick_ok (d := d + 1) hp f1.push.push.push (show (0 : Int) < 14 by decide) (by decide)).mono ?_
      rintro ⟨w2, S2⟩ ⟨u, h5, h6, h7, f2, k2⟩
      simp only at h5 f2 k2
      subst h5
      have hu : u.toNat < 14 := by omega
      obtain ⟨z, q1, q2, q3, q4⟩ := near_ok ⟨u.toNat, hu⟩
      have e3 : S2[((S1 ++ [O.lst [.str "markss", .str "mark", .str "way", .str "wayss", .str "bars", .str "ba", .str "somex"]]) ++ [O.lst [.str "eachx", .str "note", .str "no", .str "ands", .str "ors", .str "o", .str "iss"]]).length]? = some (.lst (nearA.map W.str ++ nearB.map W.str)) := k2.get _ _ (by have := f1.lt; simp; omega) at_end
      have e4 : (nearA.map W.str ++ nearB.map W.str)[u.toNat]? = some (.str z) := by
        rw [← List.map_append, List.getElem?_map, q1]; rfl
      rw [i_lst e3 h6 e4, wp_some]
      refine ⟨z, rfl, ⟨q2, q3, fun c hc => ?_⟩, f2, (k1.trans (Kp.push.trans (Kp.push.trans .push))).trans k2⟩
      have := List.all_eq_true.mp q4 c hc
      simpa using this
    · refine (pick_ok (d := d + 1) hp f1 (show (0 : Int) < 8 by decide) (by decide)).mono ?_
      rintro ⟨w2, S2⟩ ⟨u, h5, h6, h7, f2, k2⟩
      simp only at h5 f2 k2
      subst h5
      simp only [o_add, wp_some]
      refine (letters_ok (d := d) hl hp f2 (show 0 ≤ 1 + u by omega) (by omega)).mono ?_
      rintro ⟨w3, S3⟩ ⟨z, h8, h9, h10, f3, k3⟩
      simp only at h8 f3 k3
      subst h8
      exact ⟨z, rfl, ⟨by omega, by omega, h10⟩, f3, k1.trans (k2.trans k3)⟩
end
end Mi
set_option Elab.async false
set_option linter.all false
set_option maxRecDepth 100000
namespace Mi
open PySem PySem.Spec PyProof.Rows L2
theorem pigeon {α : Type} [DecidableEq α] : ∀ (l m : List α), l.Nodup → (∀ x ∈ l, x ∈ m) → l.length ≤ m.length
  | [], _, _, _ => Nat.zero_le _
  | x :: l, m, hn, hs => by
    rw [List.nodup_cons] at hn
    have hx : x ∈ m := hs x (.head _)
    have h1 := pigeon l (m.erase x) hn.2 fun y hy => (List.mem_erase_of_ne (fun (e : y = x) => hn.1 (by rw [← e]; exact hy))).mpr (hs y (.tail _ hy))
    rw [List.length_erase_of_mem hx] at h1
    have := List.length_pos_of_mem hx
    rw [List.length_cons]; omega
noncomputable def cand (k : Nat) : Str := ⟨#[97 + k]⟩
theorem cand_inj {a b : Nat} (h : cand a = cand b) : a = b := by
  have : (cand a).cps.toList = (cand b).cps.toList := by rw [h]
  simp [cand] at this
  exact this
theorem cands_nodup (s : Nat) : ((List.range s).map cand).Nodup := by
  unfold List.Nodup
  rw [List.pairwise_map]
  exact (List.nodup_range (n := s)).imp fun h e => h (cand_inj e)
theorem cand_name {k : Nat} (h : k < 26) : Name (cand k) := ⟨by simp [cand], by simp [cand], fun c hc => by simp [cand] at hc; omega⟩
noncomputable def takenL : List Str := ["marks", "ways", "bar", "some", "each", "not", "and", "or", "is"]
theorem str_flat (zs : List Str) : (zs.map W.str).all flatW = true := by
  rw [List.all_eq_true]
  intro x hx
  obtain ⟨z, _, rfl⟩ := List.mem_map.mp hx
  rfl
theorem any_str (zs : List Str) (y : Str) : ((zs.map W.str).any fun z => eqF z (.str y)) = decide (y ∈ zs) := by
  induction zs with
  | nil => rfl
  | cons z zs ih =>
    rw [List.map_cons, List.any_cons, ih]
    show ((z == y) || _) = _
    by_cases h : z = y
    · subst h; simp
    · have : (z == y) = false := by simpa using h
      rw [this, Bool.false_or]
      have h2 : (y ∈ z :: zs) = (y ∈ zs) := by simp [Ne.symm h]
      simp only [h2]
theorem k_in_strs {S : Store} {t : Nat} {zs : List Str} {y : Str} (h : S[t]? = some (.lst (zs.map W.str))) : copX .isin (.str y) (.ref t) S = some (.bl (decide (y ∈ zs)), S) := by
  simp only [copX, rdD_lst h, copE, cop, inW, seqOf, rdL_lst h]
  rw [if_pos (by rw [str_flat]; rfl), any_str]
  rfl
theorem o_mulc {S : Store} {k : Nat} : bop .mul (.str ⟨#[k]⟩) (.int 1) S = some (.str ⟨#[k]⟩, S) := by
  simp only [bop, mulW]
  rw [if_pos ⟨by decide, by decide, by show 1 * 1 ≤ sizeLine; rw [sizeLine_eq]; decide⟩]
  rfl
theorem w_whl {Φ : Str → FF} {fuel : Nat} {ρ : Fm} {S : Store} {t : E} {b : Ss} {Q : QO} : Wp (evS Φ fuel (.whl t b) ρ S) Q ↔ Wp (fWhl (evT Φ t) (evSs Φ fuel b) fuel ρ S) Q := by rw [evS]
section
variable {defs : List (Str × Df)} {fuel d : Nat} {S : Store} {r : Nat}
theorem names_ok (hfu : 20 < fuel) (hd : defs.lookup ("_law_names" : Str) = some d__law_names) (hn : defs.lookup ("_law_name" : Str) = some d__law_name) (hl : defs.lookup ("_law_letters" : Str) = some d__law_letters) (hp : defs.lookup ("_law_pick" : Str) = some d__law_pick) {m : Int} (hf : Fl S r) (h0 : 0 ≤ m) (h1 : m ≤ 6) :
    Wp (callD defs fuel (d + 4) "_law_names" [.ref r, .int m] S) fun p => ∃ ys : List Str, p.1 = .tup (ys.map W.str) ∧ ys.length = m.toNat ∧ (∀ y ∈ ys, Name y) ∧ (takenL ++ ys).Nodup ∧ Fl p.2 r ∧ Kp r S p.2 := by
  refine call_rule hd rfl ?_
  unfold d__law_names
  rw [s_cons]
  simp only [xE, sE, Nat.reduceAdd, Nat.reduceSub, reduceCtorEq]
  refine (pick_ok (d := d + 2) hp hf (show (0 : Int) < 3 by decide) (by decide)).mono ?_
  rintro ⟨w1, S1⟩ ⟨v, h2, h3, h4, f1, k1⟩
  simp only at h2 f1 k1
  subst h2
  simp only [k_eq, wp_some, W.bl.injEq, exists_eq_left']
  have rest : ∀ (z : Str) (S2 : Store), z.cps.toList.length ≤ 6 → Small z → Fl S2 r → Kp r S S2 → Wp (evS (callD defs fuel (d + 3)) fuel (.loop (.nm 4) (.rng (.cons (.v 1) .nil)) (.cons (.set 5 (.own "_law_name" 2 (.cons (.v 0) (.cons (.v 2) .nil))))
      (.cons (.set 6 (.c (.int 0))) (.cons (.whl (.cmp .isin (.v 5) (.v 3)) (.cons (.set 5 (.op .mul (.ix (.c (.str "abcdefghijklmnopqrstuvwxyz")) (.op .mod (.v 6) (.c (.int 26)))) (.op .add (.c (.int 1)) (.op .fdiv (.v 6) (.c (.int 26))))))
      (.cons (.set 6 (.op .add (.v 6) (.c (.int 1)))) .nil))) (.cons (.ex (.me .append (.v 3) (.cons (.v 5) .nil))) .nil))))) [some (.ref r), some (.int m), some (.str z), some (.ref S2.length), none, none, none] (S2 ++ [.lst (takenL.map W.str)]))
      fun p => ∃ ρ', p.1 = .nx ρ' ∧ ρ'[3]? = some (some (.ref S2.length)) ∧ ∃ ys : List Str, p.2[S2.length]? = some (.lst ((takenL ++ ys).map W.str)) ∧ ys.length = m.toNat ∧ (∀ y ∈ ys, Name y) ∧ (takenL ++ ys).Nodup ∧ Fl p.2 r ∧ Kp r S p.2 := by
    intro z S2 hz1 hz2 f2 k2
    have hrt : r < S2.length := f2.lt
    have hSt : S.length ≤ S2.length := k2.len
    refine for_its (rngW 0 m.toNat) (fun i ρ S' => ∃ a4 a5 a6 ys, ρ = [some (.ref r), some (.int m), some (.str z), some (.ref S2.length), a4, a5, a6] ∧ S'[S2.length]? = some (.lst ((takenL ++ ys).map W.str)) ∧ ys.length = i ∧ (∀ y ∈ ys, Name y) ∧ (takenL ++ ys).Nodup ∧ Fl S' r ∧ Kp r S S') ?_ ?_ ?_
    · refine i_rng ?_
      simp only [xE, sE, Nat.reduceAdd, Nat.reduceSub, reduceCtorEq]
      exact ⟨m, rfl, by omega, by omega, rfl, none, none, none, [], rfl, by rw [List.append_nil]; exact at_end, rfl, fun _ h => (nomatch h), by rw [List.append_nil]; decide, f2.push, k2.trans .push⟩
    · rintro i w ρ S3 hw ⟨a4, a5, a6, ys, rfl, e3, hy1, hy2, hy3, f3, k3⟩
      have hi : i < 6 := by
        have := (List.getElem?_eq_some_iff.mp hw).1
        simp [rngW] at this
        omega
      rw [g_nm]
      simp only [xE, sE, Nat.reduceAdd, Nat.reduceSub, reduceCtorEq]
      refine (name_ok (d := d) hn hl hp f3 hz1 hz2).mono ?_
      rintro ⟨w4, S4⟩ ⟨y, h5, h6, f4, k4⟩
      simp only at h5 f4 k4
      subst h5
      have e4 : S4[S2.length]? = some (.lst ((takenL ++ ys).map W.str)) := k4.get _ _ (by omega) e3
      rw [w_whl]
      refine whl_rule (fun mm ρ S' => ∃ (s : Nat) (y : Str), ρ = [some (.ref r), some (.int m), some (.str z), some (.ref S2.length), some w, some (.str y), some (.int s)] ∧ S' = S4 ∧ mm + s = 18 ∧ s ≤ 16 ∧ Name y ∧ (0 < s → y = cand (s - 1)) ∧ ∀ k, k + 1 < s → cand k ∈ takenL ++ ys) ?_ fuel 18 _ _ (by omega) ⟨0, y, rfl, rfl, rfl, by omega, h6, fun h => absurd h (by omega), fun k h => absurd h (by omega)⟩
      rintro mm ρ S' ⟨s, y', rfl, rfl, hm, hs, hy', hc1, hc2⟩
      simp only [xE, sE, Nat.reduceAdd, Nat.reduceSub, reduceCtorEq]
      simp only [k_in_strs e4, wp_some, W.bl.injEq, exists_eq_left']
      refine ⟨fun hin => ?_, fun hout => ?_⟩
      · have hin' : y' ∈ takenL ++ ys := of_decide_eq_true hin
        have all : ∀ k, k < s → cand k ∈ takenL ++ ys := fun k hk => by
          by_cases h : k + 1 < s
          · exact hc2 k h
          · have e : k = s - 1 := by omega
            rw [e, ← hc1 (by omega)]; exact hin'
        have hs15 : s ≤ 15 := by
          have h7 := pigeon ((List.range s).map cand) (takenL ++ ys) (cands_nodup s) fun x hx => by
            obtain ⟨k, hk, rfl⟩ := List.mem_map.mp hx
            exact all k (List.mem_range.mp hk)
          rw [List.length_map, List.length_range, List.length_append, hy1] at h7
          have : takenL.length = 9 := rfl
          omega
        refine ⟨mm - 1, by omega, ?_⟩
        have em : ((s : Int) % 26) = s := Int.emod_eq_of_lt (by omega) (by omega)
        have ed : ((s : Int) / 26) = 0 := Int.ediv_eq_zero_of_lt (by omega) (by omega)
        have ea := abc_at ⟨s, by omega⟩
        simp only [o_mod (show (0 : Int) < 26 by decide), o_fdiv (show (0 : Int) < 26 by decide) (by decide), wp_some, em, ed, o_add]
        rw [i_str abc_len (by omega) (by rw [Int.toNat_natCast]; exact ea), wp_some]
        simp only [o_mulc, Int.add_zero, wp_some]
        exact ⟨s + 1, cand s, by simp [cand], rfl, by omega, by omega, cand_name (by omega), fun _ => rfl, fun k hk => all k (by omega)⟩
      · have hnot : y' ∉ takenL ++ ys := of_decide_eq_false hout
        have hl' : ((takenL ++ ys).map W.str).length < sizeLine := by
          rw [List.length_map, List.length_append, hy1, sizeLine_eq]
          have : takenL.length = 9 := rfl
          omega
        simp only [ty_lst e4, a_lst e4 hl', wp_some, AfterB, true_and]
        refine ⟨_, _, _, ys ++ [y'], rfl, ?_, by simp [hy1], fun x hx => ?_, ?_, f4.own hrt, (k3.trans k4).late hSt⟩
        · rw [at_set e4]; simp
        · rcases List.mem_append.mp hx with h | h
          · exact hy2 x h
          · rw [List.mem_singleton.mp h]; exact hy'
        · rw [← List.append_assoc, List.nodup_append]
          refine ⟨hy3, by simp, fun a ha b hb e => ?_⟩
          rw [List.mem_singleton.mp hb] at e
          exact hnot (e ▸ ha)
    · rintro ρ S3 ⟨a4, a5, a6, ys, rfl, e3, hy1, hy2, hy3, f3, k3⟩
      have hlen : (rngW 0 m.toNat).length = m.toNat := by simp [rngW]
      exact ⟨_, rfl, rfl, ys, e3, by rw [hy1, hlen], hy2, hy3, f3, k3⟩
  have fin : ∀ (t : Nat) (ρ : Fm) (S3 : Store), ρ[3]? = some (some (.ref t)) → (∃ ys : List Str, S3[t]? = some (.lst ((takenL ++ ys).map W.str)) ∧ ys.length = m.toNat ∧ (∀ y ∈ ys, Name y) ∧ (takenL ++ ys).Nodup ∧ Fl S3 r ∧ Kp r S S3) →
      Wp (evSs (callD defs fuel (d + 3)) fuel (.cons (.ret (.bi .tuple (.cons (.sl (.v 3) (.yes (.c (.int 9))) .no) .nil))) .nil) ρ S3) fun p => match p.1 with | .rt w => ∃ ys : List Str, w = .tup (ys.map W.str) ∧ ys.length = m.toNat ∧ (∀ y ∈ ys, Name y) ∧ (takenL ++ ys).Nodup ∧ Fl p.2 r ∧ Kp r S p.2 | .nx _ => False | _ => False := by
    rintro t ρ S3 hρ ⟨ys, e3, hy1, hy2, hy3, f3, k3⟩
    simp only [xE, sE, Nat.reduceAdd, Nat.reduceSub, reduceCtorEq, hρ]
    have ec : cutW ((takenL ++ ys).map W.str) (some 9) none = ys.map W.str := by
      unfold cutW
      rw [List.map_append]
      have l9 : (takenL.map W.str).length = 9 := rfl
      have e9 : HT.sIx (takenL.map W.str ++ ys.map W.str).length 0 (some 9) = 9 := by
        refine (HT.sIx_nat _ 0 9).trans ?_
        rw [List.length_append, l9]
        omega
      rw [e9, HT.sIx_none, List.length_append, l9, show 9 + (ys.map W.str).length - 9 = (ys.map W.str).length by omega]
      rw [List.drop_left' l9, List.take_length]
    have hs : slW (.ref t) (some 9) none S3 = some (.ref S3.length, S3 ++ [.lst (ys.map W.str)]) := by
      simp only [slW, rdL_lst e3, ec]
    rw [hs, wp_some]
    simp only [t_lst at_end, wp_some]
    exact ⟨ys, rfl, hy1, hy2, hy3, f3.push, k3.trans .push⟩
  have s9 : 9 ≤ sizeLine := by rw [sizeLine_eq]; decide
  refine ⟨fun _ => ?_, fun _ => ?_⟩
  · refine (pick_ok (d := d + 2) hp f1 (show (0 : Int) < 6 by decide) (by decide)).mono ?_
    rintro ⟨w2, S2⟩ ⟨u, h5, h6, h7, f2, k2⟩
    simp only at h5 f2 k2
    subst h5
    simp only [o_add, wp_some]
    refine (letters_ok (d := d + 1) hl hp f2 (show 0 ≤ 1 + u by omega) (by omega)).mono ?_
    rintro ⟨w3, S3⟩ ⟨z, h8, h9, h10, f3, k3⟩
    simp only at h8 f3 k3
    subst h8
    refine ⟨s9, ?_⟩
    refine (rest z S3 (by omega) h10 f3 (k1.trans (k2.trans k3))).mono ?_
    rintro ⟨o, S4⟩ ⟨ρ', h, hρ, hys⟩
    simp only at h
    subst h
    refine ⟨fun ρ'' e => ?_, fun h => absurd rfl (h _)⟩
    cases e
    have := fin _ ρ' S4 hρ hys
    simp only [xE, sE, Nat.reduceAdd, Nat.reduceSub, reduceCtorEq, hρ] at this ⊢
    exact this
  · refine ⟨s9, ?_⟩
    refine (rest "" S1 (by decide) (fun c hc => nomatch hc) f1 k1).mono ?_
    rintro ⟨o, S4⟩ ⟨ρ', h, hρ, hys⟩
    simp only at h
    subst h
    refine ⟨fun ρ'' e => ?_, fun h => absurd rfl (h _)⟩
    cases e
    have := fin _ ρ' S4 hρ hys
    simp only [xE, sE, Nat.reduceAdd, Nat.reduceSub, reduceCtorEq, hρ] at this ⊢
    exact this
end
end Mi
set_option Elab.async false
set_option linter.all false
set_option maxRecDepth 100000
namespace Mi
open PySem PySem.Spec PyProof.Rows L2
noncomputable abbrev Pt := Int × List Int
noncomputable abbrev Wd := List Pt
noncomputable def ptW (p : Pt) : W := .tup [.int p.1, .tup (p.2.map W.int)]
noncomputable def wdW (u : Wd) : W := .tup (u.map ptW)
noncomputable def ptT (p : Pt) : T := .tup [.int p.1, .tup (p.2.map T.int)]
noncomputable def wdT (u : Wd) : T := .tup (u.map ptT)
theorem ws_ints : ∀ xs : List Int, T.ws (xs.map T.int) = xs.map W.int
  | [] => rfl
  | x :: xs => by simp [T.ws, T.w, ws_ints xs]
theorem ptT_w (p : Pt) : (ptT p).w = ptW p := by simp [ptT, ptW, T.w, T.ws, ws_ints]
theorem ws_pts : ∀ u : Wd, T.ws (u.map ptT) = u.map ptW
  | [] => rfl
  | p :: u => by simp [T.ws, ptT_w, ws_pts u]
theorem wdT_w (u : Wd) : (wdT u).w = wdW u := by simp [wdT, wdW, T.w, ws_pts]
theorem wdW_t (u : Wd) : W.t (wdW u) = some (wdT u) := by rw [← wdT_w]; exact T.w_t _
theorem ws_wds : ∀ us : List Wd, T.ws (us.map wdT) = us.map wdW
  | [] => rfl
  | u :: us => by simp [T.ws, wdT_w, ws_wds us]
theorem wds_t (us : List Wd) : W.ts (us.map wdW) = some (us.map wdT) := by rw [← ws_wds]; exact T.ws_ts _
theorem depth_ints : ∀ xs : List Int, T.depths (xs.map T.int) = 0
  | [] => rfl
  | x :: xs => by simp [T.depths, T.depth, depth_ints xs]
theorem depth_pt (p : Pt) : (ptT p).depth = 2 := by simp [ptT, T.depth, T.depths, depth_ints]
theorem depth_pts : ∀ u : Wd, T.depths (u.map ptT) ≤ 2
  | [] => by simp [T.depths]
  | p :: u => by
    have := depth_pts u
    simp only [List.map_cons, T.depths, depth_pt]; omega
theorem depth_wd (u : Wd) : (wdT u).depth ≤ 3 := by
  have := depth_pts u
  simp only [wdT, T.depth]; omega
theorem depth_wds : ∀ us : List Wd, T.depths (us.map wdT) ≤ 3
  | [] => by simp [T.depths]
  | u :: us => by
    have := depth_wds us
    have := depth_wd u
    simp only [List.map_cons, T.depths]; omega
theorem key_wd (u : Wd) : keyW (wdW u) = some (wdT u) := by
  unfold keyW
  rw [wdW_t]
  show (if (wdT u).isTup = true ∧ (wdT u).depth ≤ keyLim then _ else _) = _
  rw [if_pos ⟨rfl, by have := depth_wd u; unfold keyLim; omega⟩]
mutual
noncomputable def simT : T → T → Bool
  | .int _, .int _ => true
  | .str _, .str _ => true
  | .tup xs, .tup ys => simTs xs ys
  | _, _ => false
noncomputable def simTs : List T → List T → Bool
  | [], _ => true
  | _, [] => true
  | x :: xs, y :: ys => simT x y && simTs xs ys
end
mutual
theorem lt_sim : ∀ x y : T, simT x y = true → (ltT x y).isSome = true
  | .int _, .int _, _ => rfl
  | .str _, .str _, _ => rfl
  | .tup xs, .tup ys, h => by
    simp only [simT] at h
    simp only [ltT]
    exact lts_sim xs ys h
  | .int _, .str _, h | .int _, .tup _, h | .str _, .int _, h | .str _, .tup _, h | .tup _, .int _, h | .tup _, .str _, h => by simp [simT] at h
theorem lts_sim : ∀ xs ys : List T, simTs xs ys = true → (ltTs xs ys).isSome = true
  | [], [], _ => rfl
  | [], _ :: _, _ => rfl
  | _ :: _, [], _ => rfl
  | x :: xs, y :: ys, h => by
    simp only [simTs, Bool.and_eq_true] at h
    simp only [ltTs]
    split
    · exact lts_sim xs ys h.2
    · exact lt_sim x y h.1
end
theorem sim_ints : ∀ xs ys : List Int, simTs (xs.map T.int) (ys.map T.int) = true
  | [], _ => by simp [simTs]
  | _ :: _, [] => by simp [simTs]
  | x :: xs, y :: ys => by simp [simTs, simT, sim_ints xs ys]
theorem sim_pt (p q : Pt) : simT (ptT p) (ptT q) = true := by simp [ptT, simT, simTs, sim_ints]
theorem sim_pts : ∀ u v : Wd, simTs (u.map ptT) (v.map ptT) = true
  | [], _ => by simp [simTs]
  | _ :: _, [] => by simp [simTs]
  | p :: u, q :: v => by simp [simTs, sim_pt, sim_pts u v]
theorem sim_wd (u v : Wd) : simT (wdT u) (wdT v) = true := by simp [wdT, simT, sim_pts]
theorem allLt_wds (us : List Wd) : allLt (us.map wdT) = true := by
  unfold allLt
  rw [List.all_eq_true]
  intro x hx
  obtain ⟨u, _, rfl⟩ := List.mem_map.mp hx
  rw [List.all_eq_true]
  intro y hy
  obtain ⟨v, _, rfl⟩ := List.mem_map.mp hy
  exact lt_sim _ _ (sim_wd u v)
theorem sk_wds (us : List Wd) (h : ∀ u ∈ us, u ≠ []) : (skT (us.map wdT)).isSome = true := by
  unfold skT
  split
  · rfl
  · split
    · rfl
    · split
      · rfl
      · split
        · rfl
        · split
          · rfl
          · rename_i h5
            exfalso
            apply h5
            rw [List.all_eq_true]
            intro x hx
            obtain ⟨u, hu, rfl⟩ := List.mem_map.mp hx
            cases u with
            | nil => exact absurd rfl (h [] hu)
            | cons p u => rfl
noncomputable def btwF (bs : List Int) (u : Wd) (i j : Nat) : Int := if j < i then ((u.getD i (0, [])).2).getD j 0 else bs.getD (((u.getD j (0, [])).2).getD i 0).toNat 0
noncomputable def partF (bs : List Int) (u : Wd) (ps : List Nat) : Wd := (List.range ps.length).map fun k => ((u.getD (ps.getD k 0) (0, [])).1, (ps.take k).map fun j => btwF bs u (ps.getD k 0) j)
noncomputable def turnsL : List (List Nat) := [[0, 1, 2], [0, 2, 1], [1, 0, 2], [1, 2, 0], [2, 0, 1], [2, 1, 0]]
noncomputable def figF (bs : List Int) (u : Wd) : Wd := (turnsL.map (partF bs u)).getD (minI ((turnsL.map (partF bs u)).map wdT)) []
noncomputable def wayW (n : Str) (b : Int) : W := .tup [.str n, .int b]
structure GoodW (a n : Nat) (u : Wd) : Prop where
  mark : ∀ (k : Nat) (p : Pt), u[k]? = some p → 0 ≤ p.1 ∧ p.1 < a
  len : ∀ (k : Nat) (p : Pt), u[k]? = some p → p.2.length = k
  way : ∀ (k : Nat) (p : Pt), u[k]? = some p → ∀ w ∈ p.2, 0 ≤ w ∧ w < n
noncomputable def GoodB (bs : List Int) : Prop := bs = [0] ∨ bs = [0, 1] ∨ bs = [1, 0] ∨ bs = [0, 1, 2] ∨ bs = [1, 0, 2] ∨ bs = [0, 2, 1]
theorem GoodB.rng {bs : List Int} (h : GoodB bs) : ∀ k : Nat, k < bs.length → ∃ b : Int, bs[k]? = some b ∧ 0 ≤ b ∧ b < bs.length := by
  rcases h with rfl | rfl | rfl | rfl | rfl | rfl <;> intro k hk
  · match k, hk with
    | 0, _ => exact ⟨0, rfl, by decide, by decide⟩
  · match k, hk with
    | 0, _ => exact ⟨0, rfl, by decide, by decide⟩
    | 1, _ => exact ⟨1, rfl, by decide, by decide⟩
  · match k, hk with
    | 0, _ => exact ⟨1, rfl, by decide, by decide⟩
    | 1, _ => exact ⟨0, rfl, by decide, by decide⟩
  · match k, hk with
    | 0, _ => exact ⟨0, rfl, by decide, by decide⟩
    | 1, _ => exact ⟨1, rfl, by decide, by decide⟩
    | 2, _ => exact ⟨2, rfl, by decide, by decide⟩
  · match k, hk with
    | 0, _ => exact ⟨1, rfl, by decide, by decide⟩
    | 1, _ => exact ⟨0, rfl, by decide, by decide⟩
    | 2, _ => exact ⟨2, rfl, by decide, by decide⟩
  · match k, hk with
    | 0, _ => exact ⟨0, rfl, by decide, by decide⟩
    | 1, _ => exact ⟨2, rfl, by decide, by decide⟩
    | 2, _ => exact ⟨1, rfl, by decide, by decide⟩
structure Ka (S S' : Store) : Prop where
  get : ∀ (j : Nat) (o : O), S[j]? = some o → S'[j]? = some o
  len : S.length ≤ S'.length
theorem Ka.refl {S : Store} : Ka S S := ⟨fun _ _ h => h, Nat.le_refl _⟩
theorem Ka.trans {S S' S'' : Store} (a : Ka S S') (b : Ka S' S'') : Ka S S'' := ⟨fun j o h => b.get j o (a.get j o h), Nat.le_trans a.len b.len⟩
theorem Ka.push {S : Store} {o : O} : Ka S (S ++ [o]) := ⟨fun j u h => at_old h, by simp⟩
theorem Ka.late {t : Nat} {S0 S : Store} {o : O} (a : Ka S0 S) (h : S0.length ≤ t) : Ka S0 (S.set t o) :=
  ⟨fun j u e => by
    have := at_lt e
    rw [at_ne (by omega)]; exact a.get j u e, by simpa using a.len⟩
theorem Ka.kp {S S' : Store} (a : Ka S S') (r : Nat) : Kp r S S' := ⟨fun j o _ h => a.get j o h, a.len⟩
theorem Fl.ka {S S' : Store} {r : Nat} (h : Fl S r) (k : Ka S S') : Fl S' r :=
  let ⟨q, ns, i, c, x, n, f⟩ := h; ⟨q, ns, i, c, x, n, k.get _ _ f.at_r, k.get _ _ f.at_q, f.lt, f.i0, f.c0, f.x0, f.x1⟩
section
variable {defs : List (Str × Df)} {fuel d : Nat} {S : Store} {r : Nat}
theorem getD_some {α : Type} {xs : List α} {i : Nat} {x d : α} (h : xs[i]? = some x) : xs.getD i d = x := by simp [h]
theorem way_at {ns : List Str} {bs : List Int} {k : Nat} {n : Str} {b : Int} (h1 : ns[k]? = some n) (h2 : bs[k]? = some b) : (List.zipWith wayW ns bs)[k]? = some (wayW n b) := by
  rw [List.getElem?_zipWith, h1, h2]
theorem between_ok (hd : defs.lookup ("_law_between" : Str) = some d__law_between) {m0 b0 : W} {ns : List Str} {bs : List Int} {a : Nat} {u : Wd} {i j : Nat} (hb : GoodB bs) (hl : ns.length = bs.length) (hu : GoodW a bs.length u) (hi : i < u.length) (hj : j < u.length) (hij : i ≠ j) :
    Wp (callD defs fuel (d + 1) "_law_between" [.tup [m0, .tup (List.zipWith wayW ns bs), b0], wdW u, .int i, .int j] S) fun p => p = (.int (btwF bs u i j), S) := by
  refine call_rule hd rfl ?_
  unfold d__law_between
  simp only [xE, sE, Nat.reduceAdd, Nat.reduceSub, reduceCtorEq]
  simp only [k_lt, wp_some, W.bl.injEq, exists_eq_left', wdW]
  have hpi : u[i]? = some u[i] := List.getElem?_eq_getElem hi
  have hpj : u[j]? = some u[j] := List.getElem?_eq_getElem hj
  refine ⟨fun h => ?_, fun h => ?_⟩
  · have hji : j < i := by have := of_decide_eq_true h; omega
    have hw : j < u[i].2.length := by rw [hu.len i _ hpi]; exact hji
    rw [i_tup (by omega) (w := ptW u[i]) (by simp [hi]), wp_some]
    simp only [ptW]
    rw [i_tup (by decide) (w := .tup (u[i].2.map W.int)) rfl, wp_some]
    simp only []
    rw [i_tup (by omega) (w := .int u[i].2[j]) (by simp [hw]), wp_some]
    simp [btwF, hji, hi, hw]
  · have hij' : i < j := by have := of_decide_eq_false h; omega
    have hw : i < u[j].2.length := by rw [hu.len j _ hpj]; exact hij'
    obtain ⟨g1, g2⟩ := hu.way j _ hpj u[j].2[i] (List.getElem_mem hw)
    obtain ⟨b, hb1, hb2, hb3⟩ := hb.rng u[j].2[i].toNat (by omega)
    have hn : (u[j].2[i].toNat) < ns.length := by omega
    rw [i_tup (by decide) (w := .tup (List.zipWith wayW ns bs)) rfl, wp_some]
    simp only []
    rw [i_tup (by omega) (w := ptW u[j]) (by simp [hj]), wp_some]
    simp only [ptW]
    rw [i_tup (by decide) (w := .tup (u[j].2.map W.int)) rfl, wp_some]
    simp only []
    rw [i_tup (by omega) (w := .int u[j].2[i]) (by simp [hw]), wp_some]
    simp only []
    rw [i_tup g1 (w := wayW ns[u[j].2[i].toNat] b) (way_at (List.getElem?_eq_getElem hn) hb1), wp_some]
    simp only [wayW]
    rw [i_tup (by decide) (w := .int b) rfl, wp_some]
    have hji : ¬ j < i := by omega
    simp [btwF, hji, hj, hw, hb1]
end
end Mi
set_option Elab.async false
set_option linter.all false
set_option maxRecDepth 100000
namespace Mi
open PySem PySem.Spec PyProof.Rows L2
theorem cut_take {xs : List W} {k : Nat} : cutW xs none (some (k : Int)) = xs.take k := by
  unfold cutW
  rw [HT.sIx_none, HT.sIx_nat, List.drop_zero, Nat.sub_zero]
  by_cases h : k ≤ xs.length
  · rw [Nat.min_eq_left h]
  · rw [Nat.min_eq_right (by omega), List.take_length, List.take_of_length_le (by omega)]
theorem rng_at {n i : Nat} {w : W} (h : (rngW 0 n)[i]? = some w) : i < n ∧ w = .int i := by
  rw [rngW_get] at h
  split at h
  · cases h
    exact ⟨by assumption, by simp⟩
  · cases h
theorem rng_len {lo : Int} {n : Nat} : (rngW lo n).length = n := by simp [rngW]
noncomputable def natsW (ps : List Nat) : List W := ps.map fun (p : Nat) => W.int (p : Int)
theorem nats_at {ps : List Nat} {k p : Nat} (h : ps[k]? = some p) : (natsW ps)[k]? = some (.int p) := by simp [natsW, h]
theorem small_le {n : Nat} (h : n ≤ 1000) : n ≤ sizeLine := by rw [sizeLine_eq]; omega
section
variable {defs : List (Str × Df)} {fuel d : Nat} {S : Store} {r : Nat}
theorem part_ok (hd : defs.lookup ("_law_part" : Str) = some d__law_part) (hbt : defs.lookup ("_law_between" : Str) = some d__law_between) {m0 b0 : W} {ns : List Str} {bs : List Int} {a : Nat} {u : Wd} {ps : List Nat} (hb : GoodB bs) (hl : ns.length = bs.length) (hu : GoodW a bs.length u) (hps : ∀ p ∈ ps, p < u.length) (hnd : ps.Nodup) (hsz : ps.length ≤ 1000) :
    Wp (callD defs fuel (d + 2) "_law_part" [.tup [m0, .tup (List.zipWith wayW ns bs), b0], wdW u, .tup (natsW ps)] S) fun p => p.1 = wdW (partF bs u ps) ∧ Ka S p.2 := by
  refine call_rule hd rfl ?_
  unfold d__law_part
  rw [s_cons]
  simp only [x_lst, x_nil, s_setR, wp_some, List.length_nil]
  refine ⟨Nat.zero_le _, fun ρ' hρ => ?_, fun h => absurd rfl (h _)⟩
  cases hρ
  have eF : (frame0 ["_law_rule_here", "_law_world", "_law_points", "_law_told", "_law_k", "_law_i"] [.tup [m0, .tup (List.zipWith wayW ns bs), b0], wdW u, .tup (natsW ps)]).set 3 (some (.ref S.length)) = [some (.tup [m0, .tup (List.zipWith wayW ns bs), b0]), some (wdW u), some (.tup (natsW ps)), some (.ref S.length), none, none] := rfl
  rw [eF, s_cons]
  have plen : (partF bs u ps).length = ps.length := by simp [partF]
  refine for_its (rngW 0 ps.length) (fun k ρ S' => ∃ a4 a5, ρ = [some (.tup [m0, .tup (List.zipWith wayW ns bs), b0]), some (wdW u), some (.tup (natsW ps)), some (.ref S.length), a4, a5] ∧ S'[S.length]? = some (.lst (((partF bs u ps).take k).map ptW)) ∧ Ka S S') ?_ ?_ ?_
  · refine i_rng ?_
    simp only [xE, sE, Nat.reduceAdd, Nat.reduceSub, reduceCtorEq]
    simp only [l_tup, wp_some]
    refine ⟨_, rfl, ?_, ?_, ?_, none, none, rfl, at_end, .push⟩
    · omega
    · simp only [natsW, List.length_map]; omega
    · simp [natsW]
  · rintro k w ρ S1 hw ⟨a4, a5, rfl, e1, k1⟩
    obtain ⟨hk, rfl⟩ := rng_at hw
    have hp : ps[k]? = some ps[k] := List.getElem?_eq_getElem hk
    have hpu : ps[k] < u.length := hps _ (List.getElem_mem hk)
    rw [g_nm]
    simp only [xE, sE, Nat.reduceAdd, Nat.reduceSub, reduceCtorEq]
    rw [i_tup (by omega) (w := .int ps[k]) (by rw [Int.toNat_natCast]; exact nats_at hp), wp_some]
    refine ⟨ty_lst e1, ?_⟩
    simp only [wdW]
    rw [i_tup (by omega) (w := ptW u[ps[k]]) (by simp [hpu]), wp_some]
    simp only [ptW]
    rw [i_tup (by decide) (w := .int u[ps[k]].1) rfl, wp_some]
    refine comp_its (natsW (ps.take k)) (fun j ys ρ2 S2 => (∃ a1, ρ2 = [none, a1, some (.int ps[k]), some (.tup [m0, .tup (List.zipWith wayW ns bs), b0]), some (.tup (u.map ptW))]) ∧ ys = ((ps.take k).take j).map (fun q => W.int (btwF bs u ps[k] q)) ∧ Ka S1 S2) ?_ ?_ ?_
    · refine i_seqT ?_
      simp only [xE, sE, Nat.reduceAdd, Nat.reduceSub, reduceCtorEq]
      simp only [slW, wp_some, cut_take]
      exact ⟨_, rfl, by simp [natsW, List.map_take], ⟨none, rfl⟩, by simp, .refl⟩
    · rintro j w ys ρ2 S2 hw2 ⟨⟨a1, rfl⟩, rfl, k2⟩
      have hjl : j < (ps.take k).length := by
        have := (List.getElem?_eq_some_iff.mp hw2).1
        simpa [natsW] using this
      have hq : (ps.take k)[j]? = some (ps.take k)[j] := List.getElem?_eq_getElem hjl
      have hwq : w = .int ((ps.take k)[j] : Nat) := by
        have := nats_at hq
        rw [hw2] at this
        exact Option.some.inj this
      subst hwq
      have hjk : j < k := by
        rw [List.length_take] at hjl
        omega
      have eq : (ps.take k)[j] = ps[j]'(by omega) := by simp
      have hqu : (ps.take k)[j] < u.length := by rw [eq]; exact hps _ (List.getElem_mem _)
      have hne : ps[k] ≠ (ps.take k)[j] := by
        rw [eq]
        intro h
        have := (List.getElem_inj hnd).mp h
        omega
      rw [g_nm]
      simp only [c_nil, xE, sE, Nat.reduceAdd, Nat.reduceSub, reduceCtorEq]
      refine (between_ok (d := d) hbt hb hl hu hpu hqu hne).mono ?_
      rintro _ rfl
      refine ⟨⟨_, rfl⟩, ?_, k2⟩
      rw [List.take_add_one, hq]
      simp
    · rintro ys ρ2 S2 ⟨_, rfl, k2⟩
      have hlen : (natsW (ps.take k)).length = (ps.take k).length := by simp [natsW]
      rw [hlen, List.take_length]
      have hle : ((ps.take k).map fun q => W.int (btwF bs u ps[k] q)).length ≤ 1000 := by
        rw [List.length_map, List.length_take]; omega
      refine ⟨small_le hle, ?_⟩
      simp only [t_lst at_end, wp_some]
      refine ⟨small_le (by decide), ?_⟩
      have e2 : (S2 ++ [O.lst ((ps.take k).map fun q => W.int (btwF bs u ps[k] q))])[S.length]? = some (.lst (((partF bs u ps).take k).map ptW)) := at_old (k2.get _ _ e1)
      have hl2 : (((partF bs u ps).take k).map ptW).length < sizeLine := by
        rw [List.length_map, List.length_take, sizeLine_eq]; omega
      simp only [a_lst e2 hl2, wp_some, AfterB]
      refine ⟨_, _, rfl, ?_, ((k1.trans k2).trans .push).late (Nat.le_refl _)⟩
      rw [at_set e2]
      have ep : (partF bs u ps)[k]? = some (u[ps[k]].1, (ps.take k).map fun q => btwF bs u ps[k] q) := by
        simp [partF, hk, hpu]
      rw [List.take_add_one, ep]
      simp [ptW, Function.comp_def]
  · rintro ρ S1 ⟨a4, a5, rfl, e1, k1⟩
    rw [rng_len] at e1
    have ef : ((partF bs u ps).take ps.length) = partF bs u ps := by rw [← plen]; exact List.take_length
    rw [ef] at e1
    refine ⟨fun ρ' hρ => ?_, fun h => absurd rfl (h _)⟩
    cases hρ
    simp only [xE, sE, Nat.reduceAdd, Nat.reduceSub, reduceCtorEq]
    simp only [t_lst e1, wp_some]
    exact ⟨rfl, k1⟩
theorem turns_ok (hd : defs.lookup ("_law_turns" : Str) = some d__law_turns) : Wp (callD defs fuel (d + 1) "_law_turns" [] S) fun p => p = (.ref S.length, S ++ [.lst (turnsL.map fun t => W.tup (natsW t))]) := by
  refine call_rule hd rfl ?_
  unfold d__law_turns
  simp only [xE, sE, Nat.reduceAdd, Nat.reduceSub, reduceCtorEq]
  refine ⟨small_le (by decide), small_le (by decide), small_le (by decide), small_le (by decide), small_le (by decide), small_le (by decide), small_le (by decide), rfl⟩
theorem figure_ok (hd : defs.lookup ("_law_figure" : Str) = some d__law_figure) (hpt : defs.lookup ("_law_part" : Str) = some d__law_part) (htn : defs.lookup ("_law_turns" : Str) = some d__law_turns) (hbt : defs.lookup ("_law_between" : Str) = some d__law_between) {m0 b0 : W} {ns : List Str} {bs : List Int} {a : Nat} {u : Wd} (hb : GoodB bs) (hl : ns.length = bs.length) (hu : GoodW a bs.length u) (h3 : u.length = 3) :
    Wp (callD defs fuel (d + 3) "_law_figure" [.tup [m0, .tup (List.zipWith wayW ns bs), b0], wdW u] S) fun p => p.1 = wdW (figF bs u) ∧ Ka S p.2 := by
  refine call_rule hd rfl ?_
  unfold d__law_figure
  simp only [s_cons, s_retR, x_bi, x_cons, x_nil, s_nil]
  refine comp_live S.length (turnsL.map fun t => W.tup (natsW t)) (fun i ys ρ2 S2 => (∃ a1, ρ2 = [none, a1, some (.tup [m0, .tup (List.zipWith wayW ns bs), b0]), some (wdW u)]) ∧ ys = ((turnsL.take i).map fun t => wdW (partF bs u t)) ∧ Ka (S ++ [.lst (turnsL.map fun t => W.tup (natsW t))]) S2) ?_ ?_ ?_ ?_
  · rintro i ys ρ2 S2 ⟨_, _, k2⟩
    exact rdL_lst (k2.get _ _ at_end)
  · refine i_seqL ?_
    simp only [xE, sE, Nat.reduceAdd, Nat.reduceSub, reduceCtorEq]
    refine (turns_ok (d := d + 1) htn).mono ?_
    rintro _ rfl
    exact ⟨_, _, rfl, rdL_lst at_end, rfl, ⟨none, rfl⟩, by simp, .refl⟩
  · rintro i w ys ρ2 S2 hw ⟨⟨a1, rfl⟩, rfl, k2⟩
    rw [List.getElem?_map, Option.map_eq_some_iff] at hw
    obtain ⟨t, ht, rfl⟩ := hw
    have hmem : t ∈ turnsL := List.mem_of_getElem? ht
    have ht3 : (∀ p ∈ t, p < 3) ∧ t.Nodup ∧ t.length ≤ 1000 := by
      have : ∀ t ∈ turnsL, (∀ p ∈ t, p < 3) ∧ t.Nodup ∧ t.length ≤ 1000 := by decide
      exact this t hmem
    rw [g_nm]
    simp only [c_nil, xE, sE, Nat.reduceAdd, Nat.reduceSub, reduceCtorEq]
    refine (part_ok (d := d) hpt hbt hb hl hu (fun p hp => by rw [h3]; exact ht3.1 p hp) ht3.2.1 ht3.2.2).mono ?_
    rintro ⟨w1, S3⟩ ⟨h1, h2⟩
    simp only at h1 h2
    subst h1
    refine ⟨⟨_, rfl⟩, ?_, k2.trans h2⟩
    rw [List.take_add_one, ht]
    simp
  · rintro ys ρ2 S2 ⟨_, rfl, k2⟩
    have e : ((turnsL.take (turnsL.map fun t => W.tup (natsW t)).length).map fun t => wdW (partF bs u t)) = (turnsL.map (partF bs u)).map wdW := by
      rw [List.length_map, List.take_length, List.map_map]; rfl
    rw [e]
    refine ⟨small_le (by rw [List.length_map, List.length_map]; decide), ?_⟩
    have hm : minW [.ref S2.length] (S2 ++ [.lst ((turnsL.map (partF bs u)).map wdW)]) = some (wdW (figF bs u), S2 ++ [.lst ((turnsL.map (partF bs u)).map wdW)]) := by
      simp only [minW, rdL_lst at_end, wds_t]
      rw [if_pos ⟨by have := depth_wds (turnsL.map (partF bs u)); unfold sortLim; omega, allLt_wds _⟩]
      have hlt : minI ((turnsL.map (partF bs u)).map wdT) < (turnsL.map (partF bs u)).length := by
        unfold minI
        have : ∀ (bt : Nat → Nat → Bool) (n : Nat), argBest bt n ≤ n := by
          intro bt n
          induction n with
          | zero => simp [argBest]
          | succ n ih => simp only [argBest]; split <;> omega
        have h6 := this (ltK ((turnsL.map (partF bs u)).map wdT)) (((turnsL.map (partF bs u)).map wdT).length - 1)
        have h7 : (turnsL.map (partF bs u)).length = 6 := by rw [List.length_map]; rfl
        have h8 : ((turnsL.map (partF bs u)).map wdT).length = 6 := by rw [List.length_map, h7]
        rw [h7]
        omega
      rw [List.getElem?_map, List.getElem?_eq_getElem hlt]
      simp only [Option.map_some, Option.some.injEq, Prod.mk.injEq, and_true]
      unfold figF
      rw [getD_some (List.getElem?_eq_getElem hlt)]
    simp only [Bi.fn, hm, wp_some]
    refine ⟨fun ρ' h => (by cases h), fun _ => ⟨by first | rfl | trivial, (Ka.push.trans k2).trans .push⟩⟩
end
end Mi
set_option Elab.async false
set_option linter.all false
set_option maxRecDepth 100000
namespace Mi
open PySem PySem.Spec PyProof.Rows L2
noncomputable def intsW (xs : List Int) : List W := xs.map W.int
section
variable {defs : List (Str × Df)} {fuel d : Nat} {S : Store} {r : Nat}
theorem backs_ok (hd : defs.lookup ("_law_backs" : Str) = some d__law_backs) (hp : defs.lookup ("_law_pick" : Str) = some d__law_pick) {m : Int} (hf : Fl S r) (h0 : 1 ≤ m) (h1 : m ≤ 3) :
    Wp (callD defs fuel (d + 2) "_law_backs" [.ref r, .int m] S) fun p => ∃ bs : List Int, p.1 = .tup (intsW bs) ∧ GoodB bs ∧ (bs.length : Int) = m ∧ Fl p.2 r ∧ Kp r S p.2 := by
  refine call_rule hd rfl ?_
  unfold d__law_backs
  simp only [xE, sE, Nat.reduceAdd, Nat.reduceSub, reduceCtorEq]
  refine ⟨small_le (by decide), small_le (by decide), small_le (by decide), small_le (by decide), small_le (by decide), small_le (by decide), small_le (by decide), small_le (by decide), small_le (by decide), small_le (by decide), ?_⟩
  simp only [o_sub, wp_some]
  have go : ∀ (t : Nat) (S2 : Store) (cs : List (List Int)), S2[t]? = some (.lst (cs.map fun c => W.tup (intsW c))) → (∀ c ∈ cs, GoodB c ∧ (c.length : Int) = m) → 0 < cs.length → cs.length ≤ 3 → Ka S S2 → Wp (lenX [.ref t] S2) fun q => Wp (callD defs fuel (d + 1) "_law_pick" [.ref r, q.1] q.2) fun q => Wp (ixX (.ref t) q.1 q.2) fun p => ∃ bs : List Int, p.1 = .tup (intsW bs) ∧ GoodB bs ∧ (bs.length : Int) = m ∧ Fl p.2 r ∧ Kp r S p.2 := by
    intro t S2 cs e hc hl1 hl2 k2
    rw [l_lst e, wp_some]
    refine (pick_ok (d := d) hp (hf.ka k2) (m := ((cs.map fun c => W.tup (intsW c)).length : Int)) (by rw [List.length_map]; omega) (by rw [List.length_map]; omega)).mono ?_
    rintro ⟨w, S3⟩ ⟨v, q1, q2, q3, f3, k3⟩
    simp only at q1 f3 k3
    subst q1
    rw [List.length_map] at q3
    have hv : v.toNat < cs.length := by omega
    by_cases htr : t = r
    · obtain ⟨qq, ns, i, c, x, n, f⟩ := hf.ka k2
      subst htr
      rw [f.at_r] at e
      cases cs with
      | nil => simp at hl1
      | cons c cs => simp [intsW] at e
    · rw [i_lst (k3.get _ _ htr e) q2 (w := .tup (intsW cs[v.toNat])) (by simp [hv]), wp_some]
      exact ⟨_, rfl, (hc _ (List.getElem_mem hv)).1, (hc _ (List.getElem_mem hv)).2, f3, (k2.kp r).trans k3⟩
  generalize hS1 : S ++ [O.lst [W.tup [W.int 0]]] = S1
  generalize hS2 : S1 ++ [O.lst [W.tup [W.int 0, W.int 1], W.tup [W.int 1, W.int 0]]] = S2
  generalize hS3 : S2 ++ [O.lst [W.tup [W.int 0, W.int 1, W.int 2], W.tup [W.int 1, W.int 0, W.int 2], W.tup [W.int 0, W.int 2, W.int 1]]] = S3
  have kS : Ka S (S3 ++ [O.lst [W.ref S.length, W.ref S1.length, W.ref S2.length]]) := by
    subst hS3 hS2 hS1
    exact ((Ka.push.trans .push).trans .push).trans .push
  have a1 : (S3 ++ [O.lst [W.ref S.length, W.ref S1.length, W.ref S2.length]])[S.length]? = some (.lst ([[0]].map fun c => W.tup (intsW c))) := by
    subst hS3 hS2 hS1
    exact at_old (at_old (at_old at_end))
  have a2 : (S3 ++ [O.lst [W.ref S.length, W.ref S1.length, W.ref S2.length]])[S1.length]? = some (.lst ([[0, 1], [1, 0]].map fun c => W.tup (intsW c))) := by
    subst hS3 hS2
    exact at_old (at_old at_end)
  have a3 : (S3 ++ [O.lst [W.ref S.length, W.ref S1.length, W.ref S2.length]])[S2.length]? = some (.lst ([[0, 1, 2], [1, 0, 2], [0, 2, 1]].map fun c => W.tup (intsW c))) := by
    subst hS3
    exact at_old at_end
  have hm : m = 1 ∨ m = 2 ∨ m = 3 := by omega
  rcases hm with rfl | rfl | rfl
  · rw [i_lst at_end (by decide) (w := .ref S.length) rfl, wp_some]
    exact go _ _ [[0]] a1 (fun c hc => by rw [List.mem_singleton.mp hc]; exact ⟨.inl rfl, rfl⟩) (by decide) (by decide) kS
  · rw [i_lst at_end (by decide) (w := .ref S1.length) rfl, wp_some]
    refine go _ _ [[0, 1], [1, 0]] a2 (fun c hc => ?_) (by decide) (by decide) kS
    simp only [List.mem_cons, List.not_mem_nil, or_false] at hc
    rcases hc with rfl | rfl
    · exact ⟨.inr (.inl rfl), rfl⟩
    · exact ⟨.inr (.inr (.inl rfl)), rfl⟩
  · rw [i_lst at_end (by decide) (w := .ref S2.length) rfl, wp_some]
    refine go _ _ [[0, 1, 2], [1, 0, 2], [0, 2, 1]] a3 (fun c hc => ?_) (by decide) (by decide) kS
    simp only [List.mem_cons, List.not_mem_nil, or_false] at hc
    rcases hc with rfl | rfl | rfl
    · exact ⟨.inr (.inr (.inr (.inl rfl))), rfl⟩
    · exact ⟨.inr (.inr (.inr (.inr (.inl rfl)))), rfl⟩
    · exact ⟨.inr (.inr (.inr (.inr (.inr rfl)))), rfl⟩
noncomputable def sizesL : List (Int × Int) := [(1, 1), (2, 1), (3, 1), (1, 2), (1, 2), (2, 2), (2, 2), (3, 2), (1, 3), (1, 3), (2, 3)]
theorem sizes_ok (hd : defs.lookup ("_law_sizes" : Str) = some d__law_sizes) (hp : defs.lookup ("_law_pick" : Str) = some d__law_pick) (hf : Fl S r) :
    Wp (callD defs fuel (d + 2) "_law_sizes" [.ref r] S) fun p => ∃ a n : Int, (a, n) ∈ sizesL ∧ p.1 = .tup [.int a, .int n] ∧ Fl p.2 r ∧ Kp r S p.2 := by
  refine call_rule hd rfl ?_
  unfold d__law_sizes
  simp only [xE, sE, Nat.reduceAdd, Nat.reduceSub, reduceCtorEq]
  refine ⟨small_le (by decide), small_le (by decide), small_le (by decide), small_le (by decide), small_le (by decide), small_le (by decide), small_le (by decide), small_le (by decide), small_le (by decide), small_le (by decide), small_le (by decide), small_le (by decide), ?_⟩
  refine (pick_ok (d := d) hp hf.push (show (0 : Int) < 11 by decide) (by decide)).mono ?_
  rintro ⟨w, S3⟩ ⟨v, q1, q2, q3, f3, k3⟩
  simp only at q1 f3 k3
  subst q1
  have hv : v.toNat < sizesL.length := by show _ < 11; omega
  have hlt := hf.lt
  have e : S3[S.length]? = some (.lst (sizesL.map fun p => W.tup [.int p.1, .int p.2])) := k3.get _ _ (by omega) at_end
  rw [i_lst e q2 (w := .tup [.int sizesL[v.toNat].1, .int sizesL[v.toNat].2]) (by simp [hv]), wp_some]
  exact ⟨_, _, List.getElem_mem hv, rfl, f3, (Ka.push.kp r).trans k3⟩
end
end Mi
set_option Elab.async false
set_option linter.all false
set_option maxRecDepth 100000
namespace Mi
open PySem PySem.Spec PyProof.Rows L2
noncomputable def sortF (us : List Wd) : List Wd := outK (ltK (us.map wdT)) [] us
theorem outK_map {α β : Type} {lt : Nat → Nat → Bool} {d : α} {d' : β} {f : α → β} {us : List α} : outK lt d' (us.map f) = (outK lt d us).map f := by
  unfold outK
  rw [List.length_map]
  split
  · rfl
  · rw [List.map_map]
    refine List.map_congr_left fun i hi => ?_
    have hl : i < us.length := runK_lt (by omega) i hi
    simp [hl]
theorem sorted_wds {S : Store} {x : W} {us : List Wd} (h : itemsW S x = some (us.map wdW)) (h64 : us.length < 64) (hne : ∀ u ∈ us, u ≠ []) : sortedW [x] S = some (.ref S.length, S ++ [.lst ((sortF us).map wdW)]) := by
  have ok : okSort (us.map wdT) = true := by
    unfold okSort
    simp only [Bool.and_eq_true, Bool.or_eq_true, decide_eq_true_eq, List.length_map]
    exact ⟨⟨h64, by have := depth_wds us; unfold sortLim; omega⟩, .inr ⟨sk_wds us hne, allLt_wds us⟩⟩
  simp only [sortedW, h, wds_t]
  rw [if_pos ok, outK_map (d := [])]
  rfl
noncomputable def ruleW (ms ns : List Str) (bs : List Int) (us : List Wd) : W := .tup [.tup (ms.map W.str), .tup (List.zipWith wayW ns bs), .tup (us.map wdW)]
structure GoodN (ms ns : List Str) : Prop where
  name : ∀ y ∈ ms ++ ns, Name y
  nd : (takenL ++ (ms ++ ns)).Nodup
section
variable {defs : List (Str × Df)} {fuel d : Nat} {S : Store} {r : Nat}
theorem rule_of_ok (hfu : 20 < fuel) (hd : defs.lookup ("_law_rule_of" : Str) = some d__law_rule_of) (hns : defs.lookup ("_law_names" : Str) = some d__law_names) (hn : defs.lookup ("_law_name" : Str) = some d__law_name) (hl : defs.lookup ("_law_letters" : Str) = some d__law_letters) (hp : defs.lookup ("_law_pick" : Str) = some d__law_pick)
    {a : Nat} {bs : List Int} {x : W} {us : List Wd} (hf : Fl S r) (ha : a ≤ 3) (hb : bs.length ≤ 3) (hx : x = .tup (us.map wdW) ∨ ∃ t, x = .ref t ∧ t ≠ r ∧ S[t]? = some (.lst (us.map wdW))) (h64 : us.length < 64) (hne : ∀ u ∈ us, u ≠ []) :
    Wp (callD defs fuel (d + 5) "_law_rule_of" [.ref r, .int a, .tup (intsW bs), x] S) fun p => ∃ ms ns : List Str, p.1 = ruleW ms ns bs (sortF us) ∧ ms.length = a ∧ ns.length = bs.length ∧ GoodN ms ns ∧ Fl p.2 r ∧ Kp r S p.2 := by
  refine call_rule hd rfl ?_
  unfold d__law_rule_of
  rw [s_cons]
  simp only [xE, sE, Nat.reduceAdd, Nat.reduceSub, reduceCtorEq]
  simp only [l_tup, wp_some, o_add]
  have hbl : (intsW bs).length = bs.length := by simp [intsW]
  rw [hbl]
  refine (names_ok (d := d) hfu hns hn hl hp hf (m := (a : Int) + (bs.length : Int)) (by omega) (by omega)).mono ?_
  rintro ⟨w1, S1⟩ ⟨ys, q1, q2, q3, q4, f1, k1⟩
  simp only at q1 f1 k1
  subst q1
  have hyl : ys.length = a + bs.length := by omega
  refine comp_its (rngW 0 bs.length) (fun k zs ρ2 S2 => (∃ a1, ρ2 = [none, a1, some (.tup (intsW bs)), some (.int a), some (.tup (ys.map W.str))]) ∧ zs = ((List.zipWith wayW (ys.drop a) bs).take k) ∧ Ka S1 S2) ?_ ?_ ?_
  · refine i_rng ?_
    simp only [xE, sE, Nat.reduceAdd, Nat.reduceSub, reduceCtorEq]
    simp only [l_tup, wp_some, hbl]
    exact ⟨_, rfl, by omega, by omega, by simp, ⟨none, rfl⟩, by simp, .refl⟩
  · rintro k w zs ρ2 S2 hw ⟨⟨a1, rfl⟩, rfl, k2⟩
    obtain ⟨hk, rfl⟩ := rng_at hw
    rw [g_nm]
    simp only [c_nil, xE, sE, Nat.reduceAdd, Nat.reduceSub, reduceCtorEq]
    simp only [o_add, wp_some]
    have h1 : a + k < ys.length := by omega
    rw [i_tup (by omega) (w := .str ys[a + k]) (by
      have : ((a : Int) + (k : Int)).toNat = a + k := by omega
      rw [this]; simp [h1]), wp_some]
    simp only []
    rw [i_tup (by omega) (w := .int bs[k]) (by simp [intsW, hk]), wp_some]
    refine ⟨small_le (by decide), ⟨_, rfl⟩, ?_, k2⟩
    have ez : (List.zipWith wayW (ys.drop a) bs)[k]? = some (wayW ys[a + k] bs[k]) := way_at (by rw [List.getElem?_drop]; exact List.getElem?_eq_getElem h1) (List.getElem?_eq_getElem hk)
    rw [List.take_add_one, ez]
    rfl
  · rintro zs ρ2 S2 ⟨_, rfl, k2⟩
    have hzl : (List.zipWith wayW (ys.drop a) bs).length = bs.length := by
      rw [List.length_zipWith, List.length_drop]; omega
    have ez : (List.zipWith wayW (ys.drop a) bs).take (rngW 0 bs.length).length = List.zipWith wayW (ys.drop a) bs := by
      rw [rng_len, ← hzl, List.take_length]
    rw [ez]
    refine ⟨small_le (by omega), ?_⟩
    simp only [t_lst at_end, wp_some, slW, cut_take]
    have f2 : Fl (S2 ++ [O.lst (List.zipWith wayW (ys.drop a) bs)]) r := (f1.ka k2).push
    have hit : itemsW (S2 ++ [O.lst (List.zipWith wayW (ys.drop a) bs)]) x = some (us.map wdW) := by
      rcases hx with rfl | ⟨t, rfl, htr, ht⟩
      · rfl
      · simp only [itemsW, rdL_lst (at_old (k2.get _ _ (k1.get _ _ htr ht)))]
    rw [sorted_wds hit h64 hne, wp_some]
    simp only [t_lst at_end, wp_some]
    refine ⟨small_le (by decide), ys.take a, ys.drop a, ?_, ?_, ?_, ⟨?_, ?_⟩, f2.push, (k1.trans (k2.kp r)).trans ((Ka.push.trans .push).kp r)⟩
    · simp [ruleW, List.map_take]
    · rw [List.length_take]; omega
    · rw [List.length_drop]; omega
    · rw [List.take_append_drop]; exact q3
    · rw [List.take_append_drop]; exact q4
theorem free_three_ok (hd : defs.lookup ("_law_free_three" : Str) = some d__law_free_three) (hp : defs.lookup ("_law_pick" : Str) = some d__law_pick) {a n : Nat} (hf : Fl S r) (ha : 0 < a) (ha3 : a ≤ 3) (hn : 0 < n) (hn3 : n ≤ 3) :
    Wp (callD defs fuel (d + 2) "_law_free_three" [.ref r, .int a, .int n] S) fun p => ∃ u : Wd, p.1 = wdW u ∧ u.length = 3 ∧ GoodW a n u ∧ Fl p.2 r ∧ Kp r S p.2 := by
  refine call_rule hd rfl ?_
  unfold d__law_free_three
  rw [s_cons]
  simp only [x_lst, x_nil, s_setR, wp_some, List.length_nil]
  refine ⟨Nat.zero_le _, fun ρ' hρ => ?_, fun h => absurd rfl (h _)⟩
  cases hρ
  have eF : (frame0 ["_law_flow_here", "_law_marks", "_law_ways", "_law_told", "_law_k"] [.ref r, .int a, .int n]).set 3 (some (.ref S.length)) = [some (.ref r), some (.int a), some (.int n), some (.ref S.length), none] := rfl
  rw [eF, s_cons]
  have hrt := hf.lt
  refine for_its (rngW 0 3) (fun k ρ S' => ∃ a4 u, ρ = [some (.ref r), some (.int a), some (.int n), some (.ref S.length), a4] ∧ S'[S.length]? = some (.lst (u.map ptW)) ∧ u.length = k ∧ GoodW a n u ∧ Fl S' r ∧ Kp r S S') ?_ ?_ ?_
  · refine i_rng ?_
    simp only [xE, sE, Nat.reduceAdd, Nat.reduceSub, reduceCtorEq]
    exact ⟨_, rfl, by decide, by decide, rfl, none, [], rfl, at_end, rfl, ⟨fun k p h => by simp at h, fun k p h => by simp at h, fun k p h => by simp at h⟩, hf.push, .push⟩
  · rintro k w ρ S1 hw ⟨a4, u, rfl, e1, hul, hu, f1, k1⟩
    obtain ⟨hk, rfl⟩ := rng_at hw
    rw [g_nm]
    simp only [xE, sE, Nat.reduceAdd, Nat.reduceSub, reduceCtorEq]
    refine ⟨ty_lst e1, ?_⟩
    refine (pick_ok (d := d) hp f1 (m := (a : Int)) (by omega) (by omega)).mono ?_
    rintro ⟨w1, S2⟩ ⟨v, q1, q2, q3, f2, k2⟩
    simp only at q1 f2 k2
    subst q1
    have e2 := k2.get _ _ (by omega) e1
    refine comp_its (rngW 0 k) (fun j ys ρ2 S3 => (∃ a1, ρ2 = [none, a1, some (.ref r), some (.int n)]) ∧ (∃ vs : List Int, ys = intsW vs ∧ vs.length = j ∧ ∀ w ∈ vs, 0 ≤ w ∧ w < n) ∧ Fl S3 r ∧ Kp r S2 S3) ?_ ?_ ?_
    · refine i_rng ?_
      simp only [xE, sE, Nat.reduceAdd, Nat.reduceSub, reduceCtorEq]
      exact ⟨_, rfl, by omega, by omega, by simp, ⟨none, rfl⟩, ⟨[], rfl, rfl, fun _ h => nomatch h⟩, f2, .refl⟩
    · rintro j w ys ρ2 S3 hw2 ⟨⟨a1, rfl⟩, ⟨vs, rfl, hvl, hv⟩, f3, k3⟩
      rw [g_nm]
      simp only [c_nil, xE, sE, Nat.reduceAdd, Nat.reduceSub, reduceCtorEq]
      refine (pick_ok (d := d) hp f3 (m := (n : Int)) (by omega) (by omega)).mono ?_
      rintro ⟨w4, S4⟩ ⟨v4, p1, p2, p3, f4, k4⟩
      simp only at p1 f4 k4
      subst p1
      refine ⟨⟨_, rfl⟩, ⟨vs ++ [v4], by simp [intsW], by simp [hvl], fun w hw => ?_⟩, f4, k3.trans k4⟩
      rcases List.mem_append.mp hw with h | h
      · exact hv w h
      · rw [List.mem_singleton.mp h]; exact ⟨p2, p3⟩
    · rintro ys ρ2 S3 ⟨_, ⟨vs, rfl, hvl, hv⟩, f3, k3⟩
      rw [rng_len] at hvl
      refine ⟨small_le (by simp [intsW]; omega), ?_⟩
      simp only [t_lst at_end, wp_some]
      refine ⟨small_le (by decide), ?_⟩
      have e3 : (S3 ++ [O.lst (intsW vs)])[S.length]? = some (.lst (u.map ptW)) := at_old (k3.get _ _ (by omega) e2)
      simp only [a_lst e3 (by rw [List.length_map, sizeLine_eq]; omega), wp_some, AfterB]
      refine ⟨_, u ++ [(v, vs)], rfl, by rw [at_set e3]; simp [ptW, intsW], by simp [hul], ?_, f3.push.own hrt, (((k1.trans k2).trans k3).trans .push).late (Nat.le_refl _)⟩
      have cas : ∀ (i : Nat) (p : Pt), (u ++ [(v, vs)])[i]? = some p → u[i]? = some p ∨ (i = k ∧ p = (v, vs)) := fun i p h => by
        by_cases hi : i < u.length
        · rw [List.getElem?_append_left hi] at h; exact .inl h
        · rw [List.getElem?_append_right (by omega)] at h
          have h0 : i - u.length = 0 := by
            have := (List.getElem?_eq_some_iff.mp h).1
            simp at this
            omega
          rw [h0] at h
          simp at h
          exact .inr ⟨by omega, h.symm⟩
      refine ⟨fun i p h => ?_, fun i p h => ?_, fun i p h => ?_⟩
      · rcases cas i p h with h | ⟨rfl, rfl⟩
        · exact hu.mark i p h
        · exact ⟨q2, q3⟩
      · rcases cas i p h with h | ⟨rfl, rfl⟩
        · exact hu.len i p h
        · exact hvl
      · rcases cas i p h with h | ⟨rfl, rfl⟩
        · exact hu.way i p h
        · exact hv
  · rintro ρ S1 ⟨a4, u, rfl, e1, hul, hu, f1, k1⟩
    rw [rng_len] at hul
    refine ⟨fun ρ' hρ => ?_, fun h => absurd rfl (h _)⟩
    cases hρ
    simp only [xE, sE, Nat.reduceAdd, Nat.reduceSub, reduceCtorEq]
    simp only [t_lst e1, wp_some]
    exact ⟨u, rfl, hul, hu, f1, k1⟩
end
end Mi
set_option Elab.async false
set_option linter.all false
set_option maxRecDepth 100000
namespace Mi
open PySem PySem.Spec PyProof.Rows L2
noncomputable def upTo (n : Nat) : List Int := (List.range n).map fun (k : Nat) => (k : Int)
noncomputable def allW3 (a n : Nat) : List Wd := (upTo a).flatMap fun m0 => (upTo a).flatMap fun m1 => (upTo a).flatMap fun m2 => (upTo n).flatMap fun w1 => (upTo n).flatMap fun w2 => (upTo n).map fun w3 => [(m0, []), (m1, [w1]), (m2, [w2, w3])]
noncomputable def figsL (a : Nat) (bs : List Int) : List Wd := ((allW3 a bs.length).map (figF bs)).eraseDups
theorem mem_upTo {n : Nat} {x : Int} (h0 : 0 ≤ x) (h1 : x < n) : x ∈ upTo n := List.mem_map.mpr ⟨x.toNat, List.mem_range.mpr (by omega), by omega⟩
theorem mem_allW3 {a n : Nat} {u : Wd} (h : GoodW a n u) (h3 : u.length = 3) : u ∈ allW3 a n := by
  match u, h3 with
  | [(m0, w0), (m1, w1), (m2, w2)], _ =>
    have l0 := h.len 0 _ rfl
    have l1 := h.len 1 _ rfl
    have l2 := h.len 2 _ rfl
    simp only at l0 l1 l2
    match w0, l0 with
    | [], _ =>
      match w1, l1 with
      | [x], _ =>
        match w2, l2 with
        | [y, z], _ =>
          have a0 := h.mark 0 _ rfl
          have a1 := h.mark 1 _ rfl
          have a2 := h.mark 2 _ rfl
          have b1 := h.way 1 _ rfl x (by simp)
          have b2 := h.way 2 _ rfl y (by simp)
          have b3 := h.way 2 _ rfl z (by simp)
          unfold allW3
          simp only [List.mem_flatMap, List.mem_map]
          exact ⟨m0, mem_upTo a0.1 a0.2, m1, mem_upTo a1.1 a1.2, m2, mem_upTo a2.1 a2.2, x, mem_upTo b1.1 b1.2, y, mem_upTo b2.1 b2.2, z, mem_upTo b3.1 b3.2, rfl⟩
theorem fig_mem {a : Nat} {bs : List Int} {u : Wd} (h : GoodW a bs.length u) (h3 : u.length = 3) : figF bs u ∈ figsL a bs := by
  unfold figsL
  rw [List.mem_eraseDups]
  exact List.mem_map.mpr ⟨u, mem_allW3 h h3, rfl⟩
structure SizeOk (a : Nat) (bs : List Int) : Prop where
  pos : 0 < a
  good : GoodB bs
  most : a * bs.length ≤ 6
  a3 : a ≤ 3
theorem SizeOk.n3 {a : Nat} {bs : List Int} (h : SizeOk a bs) : 0 < bs.length ∧ bs.length ≤ 3 := by
  rcases h.good with rfl | rfl | rfl | rfl | rfl | rfl <;> decide
theorem f11 : (figsL 1 [0]).length < 64 ∧ (figsL 2 [0]).length < 64 ∧ (figsL 3 [0]).length < 64 := by decide +kernel
theorem f12 : (figsL 1 [0, 1]).length < 64 ∧ (figsL 2 [0, 1]).length < 64 ∧ (figsL 1 [1, 0]).length < 64 ∧ (figsL 2 [1, 0]).length < 64 := by decide +kernel
theorem f13 : (figsL 1 [0, 1, 2]).length < 64 ∧ (figsL 1 [1, 0, 2]).length < 64 ∧ (figsL 1 [0, 2, 1]).length < 64 := by decide +kernel
theorem f32a : (figsL 3 [0, 1]).length < 64 := by decide +kernel
theorem f32b : (figsL 3 [1, 0]).length < 64 := by decide +kernel
theorem f23a : (figsL 2 [0, 1, 2]).length < 64 := by decide +kernel
theorem f23b : (figsL 2 [1, 0, 2]).length < 64 := by decide +kernel
theorem f23c : (figsL 2 [0, 2, 1]).length < 64 := by decide +kernel
theorem figs_lt {a : Nat} {bs : List Int} (h : SizeOk a bs) : (figsL a bs).length < 64 := by
  obtain ⟨h0, hb, hm, h3⟩ := h
  have ha : a = 1 ∨ a = 2 ∨ a = 3 := by omega
  rcases hb with rfl | rfl | rfl | rfl | rfl | rfl <;> rcases ha with rfl | rfl | rfl
  · exact f11.1
  · exact f11.2.1
  · exact f11.2.2
  · exact f12.1
  · exact f12.2.1
  · exact f32a
  · exact f12.2.2.1
  · exact f12.2.2.2
  · exact f32b
  · exact f13.1
  · exact f23a
  · simp at hm
  · exact f13.2.1
  · exact f23b
  · simp at hm
  · exact f13.2.2
  · exact f23c
  · simp at hm
theorem argBest_le (bt : Nat → Nat → Bool) : ∀ n : Nat, argBest bt n ≤ n
  | 0 => by simp [argBest]
  | n + 1 => by
    have := argBest_le bt n
    simp only [argBest]; split <;> omega
theorem figF_mem (bs : List Int) (u : Wd) : ∃ t ∈ turnsL, figF bs u = partF bs u t := by
  have h7 : (turnsL.map (partF bs u)).length = 6 := by rw [List.length_map]; rfl
  have h8 : ((turnsL.map (partF bs u)).map wdT).length = 6 := by rw [List.length_map, h7]
  have hlt : minI ((turnsL.map (partF bs u)).map wdT) < (turnsL.map (partF bs u)).length := by
    unfold minI
    have h6 := argBest_le (ltK ((turnsL.map (partF bs u)).map wdT)) (((turnsL.map (partF bs u)).map wdT).length - 1)
    rw [h7]; omega
  unfold figF
  rw [getD_some (List.getElem?_eq_getElem hlt)]
  obtain ⟨t, ht, e⟩ := List.mem_map.mp (List.getElem_mem hlt)
  exact ⟨t, ht, e.symm⟩
theorem figF_ne (bs : List Int) (u : Wd) : figF bs u ≠ [] := by
  obtain ⟨t, ht, e⟩ := figF_mem bs u
  rw [e]
  have : ∀ t ∈ turnsL, t ≠ [] := by decide
  have h := this t ht
  intro z
  have hl : (partF bs u t).length = t.length := by simp [partF]
  rw [z] at hl
  exact h (List.length_eq_zero_iff.mp hl.symm)
theorem ints_inj : ∀ {xs ys : List Int}, xs.map T.int = ys.map T.int → xs = ys
  | [], [], _ => rfl
  | [], _ :: _, h => by cases h
  | _ :: _, [], h => by cases h
  | x :: xs, y :: ys, h => by
    rw [List.map_cons, List.map_cons] at h
    injection h with h1 h2
    injection h1 with h1
    rw [h1, ints_inj h2]
theorem ptT_inj {p q : Pt} (h : ptT p = ptT q) : p = q := by
  unfold ptT at h
  injection h with h
  injection h with h1 h2
  injection h1 with h1
  injection h2 with h2 _
  injection h2 with h2
  exact Prod.ext h1 (ints_inj h2)
theorem wdT_inj {u v : Wd} (h : wdT u = wdT v) : u = v := by
  unfold wdT at h
  injection h with h
  have inj : ∀ {u v : Wd}, u.map ptT = v.map ptT → u = v := by
    intro u
    induction u with
    | nil => intro v h; cases v with
      | nil => rfl
      | cons _ _ => cases h
    | cons p u ih => intro v h; cases v with
      | nil => cases h
      | cons q v =>
        rw [List.map_cons, List.map_cons] at h
        injection h with h1 h2
        rw [ptT_inj h1, ih h2]
  exact inj h
theorem putT_keys {kvs : List (T × W)} {k : T} {v : W} : (putT kvs k v).map (·.1) = if k ∈ kvs.map (·.1) then kvs.map (·.1) else kvs.map (·.1) ++ [k] := by
  have hany : (kvs.any fun p => decide (p.1 = k)) = decide (k ∈ kvs.map (·.1)) := by
    induction kvs with
    | nil => rfl
    | cons p kvs ih =>
      rw [List.any_cons, ih, List.map_cons]
      by_cases e : p.1 = k
      · subst e; simp
      · rw [decide_eq_false e, Bool.false_or]
        have : (k ∈ p.1 :: kvs.map (·.1)) = (k ∈ kvs.map (·.1)) := by simp [Ne.symm e]
        simp only [this]
  unfold putT
  rw [hany]
  by_cases h : k ∈ kvs.map (·.1)
  · rw [if_pos h, if_pos (decide_eq_true h), List.map_map]
    refine List.map_congr_left fun p _ => ?_
    show (if p.1 = k then (p.1, v) else p).1 = p.1
    split <;> rfl
  · rw [if_neg h, if_neg (by simpa using h), List.map_append]
    rfl
structure FigD (L : List Wd) (kvs : List (T × W)) (fs : List Wd) : Prop where
  keys : kvs.map (·.1) = fs.map wdT
  nd : fs.Nodup
  mem : ∀ f ∈ fs, f ∈ L
theorem FigD.nil {L : List Wd} : FigD L [] [] := ⟨rfl, List.nodup_nil, fun _ h => nomatch h⟩
theorem FigD.len {L : List Wd} {kvs : List (T × W)} {fs : List Wd} (h : FigD L kvs fs) : kvs.length = fs.length ∧ fs.length ≤ L.length := by
  have := congrArg List.length h.keys
  rw [List.length_map, List.length_map] at this
  exact ⟨this, pigeon fs L h.nd h.mem⟩
theorem FigD.put {L : List Wd} {kvs : List (T × W)} {fs : List Wd} {f : Wd} {v : W} (h : FigD L kvs fs) (hf : f ∈ L) : ∃ fs', FigD L (putT kvs (wdT f) v) fs' := by
  by_cases hm : f ∈ fs
  · refine ⟨fs, ?_, h.nd, h.mem⟩
    rw [putT_keys, if_pos (by rw [h.keys]; exact List.mem_map.mpr ⟨f, hm, rfl⟩), h.keys]
  · refine ⟨fs ++ [f], ?_, ?_, fun g hg => ?_⟩
    · rw [putT_keys, if_neg, h.keys, List.map_append]
      · rfl
      · rw [h.keys]
        intro z
        obtain ⟨g, hg, e⟩ := List.mem_map.mp z
        exact hm (wdT_inj e ▸ hg)
    · rw [List.nodup_append]
      refine ⟨h.nd, by simp, fun a ha b hb e => ?_⟩
      rw [List.mem_singleton.mp hb] at e
      exact hm (e ▸ ha)
    · rcases List.mem_append.mp hg with h' | h'
      · exact h.mem g h'
      · rw [List.mem_singleton.mp h']; exact hf
theorem FigD.items {S : Store} {t : Nat} {L : List Wd} {kvs : List (T × W)} {fs : List Wd} (h : FigD L kvs fs) (e : S[t]? = some (.dic kvs)) : itemsW S (.ref t) = some (fs.map wdW) := by
  simp only [itemsW, rdL_dic e, rdD_dic e, Option.map_some]
  congr 1
  have : (kvs.map (·.1)).map T.w = (fs.map wdT).map T.w := by rw [h.keys]
  rw [List.map_map, List.map_map] at this
  calc kvs.map (fun p => p.1.w) = kvs.map (T.w ∘ fun x => x.1) := rfl
    _ = fs.map (T.w ∘ wdT) := this
    _ = fs.map wdW := by
      refine List.map_congr_left fun f _ => ?_
      exact wdT_w f
theorem figsL_ne {a : Nat} {bs : List Int} {f : Wd} (h : f ∈ figsL a bs) : f ≠ [] := by
  unfold figsL at h
  rw [List.mem_eraseDups] at h
  obtain ⟨u, _, rfl⟩ := List.mem_map.mp h
  exact figF_ne bs u
theorem p_dic {S : Store} {t : Nat} {kvs : List (T × W)} {u : Wd} {v : W} (h : S[t]? = some (.dic kvs)) (hl : kvs.length < sizeLine) : setX (.ref t) (wdW u) v S = some (S.set t (.dic (putT kvs (wdT u) v))) := by
  have hk := key_wd u
  unfold wdW at hk ⊢
  simp only [setX, rdDm, h, hk]
  rw [if_pos hl]
end Mi
set_option Elab.async false
set_option linter.all false
set_option maxRecDepth 100000
namespace Mi
open PySem PySem.Spec PyProof.Rows L2
structure Gen (defs : List (Str × Df)) : Prop where
  pick : defs.lookup ("_law_pick" : Str) = some d__law_pick
  letters : defs.lookup ("_law_letters" : Str) = some d__law_letters
  name : defs.lookup ("_law_name" : Str) = some d__law_name
  names : defs.lookup ("_law_names" : Str) = some d__law_names
  between : defs.lookup ("_law_between" : Str) = some d__law_between
  part : defs.lookup ("_law_part" : Str) = some d__law_part
  turns : defs.lookup ("_law_turns" : Str) = some d__law_turns
  figure : defs.lookup ("_law_figure" : Str) = some d__law_figure
  backs : defs.lookup ("_law_backs" : Str) = some d__law_backs
  rule_of : defs.lookup ("_law_rule_of" : Str) = some d__law_rule_of
  free_three : defs.lookup ("_law_free_three" : Str) = some d__law_free_three
  sizes : defs.lookup ("_law_sizes" : Str) = some d__law_sizes
  any_rule : defs.lookup ("_law_any_rule" : Str) = some d__law_any_rule
  laying_kind : defs.lookup ("_law_laying_kind" : Str) = some d__law_laying_kind
  breaks : defs.lookup ("_law_breaks" : Str) = some d__law_breaks
  numbered : defs.lookup ("_law_numbered" : Str) = some d__law_numbered
  laying_rule : defs.lookup ("_law_laying_rule" : Str) = some d__law_laying_rule
  rising : defs.lookup ("_law_rising" : Str) = some d__law_rising
  free_rule : defs.lookup ("_law_free_rule" : Str) = some d__law_free_rule
  one_way_rule : defs.lookup ("_law_one_way_rule" : Str) = some d__law_one_way_rule
  unlaying_rule : defs.lookup ("_law_unlaying_rule" : Str) = some d__law_unlaying_rule
structure RuleAt (a : Nat) (bs : List Int) (ms ns : List Str) (gs : List Wd) : Prop where
  size : SizeOk a bs
  ml : ms.length = a
  nl : ns.length = bs.length
  nm : GoodN ms ns
  nd : gs.Nodup
  mem : ∀ g ∈ gs, g ∈ figsL a bs
noncomputable def IsRule (w : W) : Prop := ∃ a bs ms ns gs, w = ruleW ms ns bs (sortF gs) ∧ RuleAt a bs ms ns gs
theorem sortF_nil : sortF [] = [] := rfl
theorem size_of {a n : Int} (h : (a, n) ∈ sizesL) : 1 ≤ a ∧ a ≤ 3 ∧ 1 ≤ n ∧ n ≤ 3 ∧ a * n ≤ 6 := by
  have : ∀ p ∈ sizesL, 1 ≤ p.1 ∧ p.1 ≤ 3 ∧ 1 ≤ p.2 ∧ p.2 ≤ 3 ∧ p.1 * p.2 ≤ 6 := by decide
  exact this _ h
section
variable {Φ : Str → FF} {fuel : Nat} {ρ : Fm} {S : Store} {ss : Ss} {Q : QO}
theorem st {s : Sm} (h : Wp (evS Φ fuel s ρ S) fun p => ∃ ρ', p.1 = .nx ρ' ∧ Wp (evSs Φ fuel ss ρ' p.2) Q) : Wp (evSs Φ fuel (.cons s ss) ρ S) Q := by
  rw [s_cons]
  refine h.mono fun p ⟨ρ', h1, h2⟩ => ⟨fun ρ'' e => ?_, fun e => absurd h1 (e _)⟩
  rw [h1] at e
  cases e
  exact h2
theorem st_set {i : Nat} {e : E} (h : Wp (evE Φ e ρ S) fun p => Wp (evSs Φ fuel ss (ρ.set i (some p.1)) p.2) Q) : Wp (evSs Φ fuel (.cons (.set i e) ss) ρ S) Q := st (s_setR.mpr (h.mono fun p hp => ⟨_, rfl, hp⟩))
theorem st_ret {e : E} (h : Wp (evE Φ e ρ S) fun p => Q (.rt p.1, p.2)) : Wp (evSs Φ fuel (.cons (.ret e) ss) ρ S) Q := by
  rw [s_cons, s_retR]
  exact h.mono fun p hp => ⟨fun ρ' e => (by cases e), fun _ => hp⟩
theorem st_asg {is : List Nat} {e : E} (h : Wp (evE Φ e ρ S) fun p => ∃ ws ρ', p.1 = .tup ws ∧ setAll is ws ρ = some ρ' ∧ Wp (evSs Φ fuel ss ρ' p.2) Q) : Wp (evSs Φ fuel (.cons (.asg is e) ss) ρ S) Q :=
  st (s_asgR.mpr (h.mono fun p ⟨ws, ρ', h1, h2, h3⟩ => ⟨ws, ρ', h1, h2, ρ', rfl, h3⟩))
theorem st_par {i j : Nat} {es : Es} (h : Wp (evA Φ es ρ S) fun p => ∃ x y, p.1 = [x, y] ∧ Wp (evSs Φ fuel ss ((ρ.set i (some x)).set j (some y)) p.2) Q) : Wp (evSs Φ fuel (.cons (.par i j es) ss) ρ S) Q :=
  st (s_parR.mpr (h.mono fun p ⟨x, y, h1, h2⟩ => ⟨x, y, h1, _, rfl, h2⟩))
theorem st_put {o k e : E} (h : Wp (evE Φ e ρ S) fun p => Wp (evE Φ o ρ p.2) fun q => Wp (evE Φ k ρ q.2) fun r => ∃ S', setX q.1 r.1 p.1 r.2 = some S' ∧ Wp (evSs Φ fuel ss ρ S') Q) : Wp (evSs Φ fuel (.cons (.put o k e) ss) ρ S) Q :=
  st (s_putR.mpr (h.mono fun p hp => hp.mono fun q hq => hq.mono fun r ⟨S', h1, h2⟩ => ⟨S', h1, _, rfl, h2⟩))
theorem st_ex {e : E} (h : Wp (evE Φ e ρ S) fun p => Wp (evSs Φ fuel ss ρ p.2) Q) : Wp (evSs Φ fuel (.cons (.ex e) ss) ρ S) Q := st (s_exR.mpr (h.mono fun p hp => ⟨_, rfl, hp⟩))
theorem st_ite {t : E} {a b : Ss} (h : Wp (evT Φ t ρ S) fun p => (p.1 = true → Wp (evSs Φ fuel a ρ p.2) fun o => (∀ ρ', o.1 = .nx ρ' → Wp (evSs Φ fuel ss ρ' o.2) Q) ∧ ((∀ ρ', o.1 ≠ .nx ρ') → Q o)) ∧ (p.1 = false → Wp (evSs Φ fuel b ρ p.2) fun o => (∀ ρ', o.1 = .nx ρ' → Wp (evSs Φ fuel ss ρ' o.2) Q) ∧ ((∀ ρ', o.1 ≠ .nx ρ') → Q o))) : Wp (evSs Φ fuel (.cons (.ite t a b) ss) ρ S) Q := by
  rw [s_cons, s_iteR]; exact h
noncomputable def After (Φ : Str → FF) (fuel : Nat) (ss : Ss) (Q : QO) (o : Out × Store) : Prop := (∀ ρ', o.1 = .nx ρ' → Wp (evSs Φ fuel ss ρ' o.2) Q) ∧ ((∀ ρ', o.1 ≠ .nx ρ') → Q o)
theorem After.nx (h : Wp (evSs Φ fuel ss ρ S) Q) : After Φ fuel ss Q (.nx ρ, S) := ⟨fun ρ' e => (by cases e; exact h), fun e => absurd rfl (e _)⟩
theorem After.rt {w : W} (h : Q (.rt w, S)) : After Φ fuel ss Q (.rt w, S) := ⟨fun ρ' e => (by cases e), fun _ => h⟩
theorem st_nil (h : Q (.nx ρ, S)) : Wp (evSs Φ fuel .nil ρ S) Q := s_nil.mpr h
theorem st_if {t : E} {a b : Ss} (h : Wp (evT Φ t ρ S) fun p => (p.1 = true → Wp (evSs Φ fuel a ρ p.2) (After Φ fuel ss Q)) ∧ (p.1 = false → Wp (evSs Φ fuel b ρ p.2) (After Φ fuel ss Q))) : Wp (evSs Φ fuel (.cons (.ite t a b) ss) ρ S) Q := st_ite h
end
theorem for_any {Φ : Str → FF} {fuel : Nat} {ρ : Fm} {S : Store} {tg : Tg} {it : Ie} {b : Ss} {Q : QO} (hi : Wp (evI Φ it ρ S) fun p => ∃ (xs : List W) (I : Nat → Fm → Store → Prop), p.1 = .its xs ∧ I 0 ρ p.2 ∧
    (∀ i w ρ S, xs[i]? = some w → I i ρ S → Wp (evG tg w ρ S) fun q => Wp (evSs Φ fuel b q.1 q.2) (AfterB (I (i + 1)) Q)) ∧ (∀ ρ S, I xs.length ρ S → Q (.nx ρ, S))) : Wp (evS Φ fuel (.loop tg it b) ρ S) Q := by
  rw [evS, x_for]
  refine hi.mono fun p ⟨xs, I, h1, h2, h3, h4⟩ => ?_
  refine ⟨xs.length, by rw [h1]; rfl, ?_⟩
  rw [h1]
  exact loop_rule I (fun i ρ S _ => rfl) h3 h4 _ 0 ρ p.2 (by omega) h2
section
variable {defs : List (Str × Df)} {fuel d : Nat} {S : Store} {r : Nat} {ρ : Fm}
theorem fin_ok {Φ : Str → FF} {i t q : Nat} {a : Nat} {bs : List Int} {ms ns : List Str} {fs0 : List Wd} {kvs : List (T × W)} {fs : List Wd} (h1 : ρ[i]? = some (some (ruleW ms ns bs fs0))) (h2 : ρ[t]? = some (some (.ref q))) (h3 : S[q]? = some (.dic kvs)) (h4 : FigD (figsL a bs) kvs fs) (hs : SizeOk a bs) (hml : ms.length = a) (hnl : ns.length = bs.length) (hnm : GoodN ms ns) :
    Wp (evE Φ (.tup (.cons (.ix (.v i) (.c (.int 0))) (.cons (.ix (.v i) (.c (.int 1))) (.cons (.bi .tuple (.cons (.bi .sorted (.cons (.v t) .nil)) .nil)) .nil)))) ρ S) fun p => IsRule p.1 ∧ Ka S p.2 := by
  simp only [xE, sE, Nat.reduceAdd, Nat.reduceSub, reduceCtorEq, h1, h2, ruleW]
  rw [i_tup (by decide) (w := .tup (ms.map W.str)) rfl, wp_some]
  simp only []
  rw [i_tup (by decide) (w := .tup (List.zipWith wayW ns bs)) rfl, wp_some]
  simp only []
  have hl := h4.len
  rw [sorted_wds (h4.items h3) (by have := figs_lt hs; omega) (fun f hf => figsL_ne (h4.mem f hf)), wp_some]
  simp only [t_lst at_end, wp_some]
  exact ⟨small_le (by decide), ⟨a, bs, ms, ns, fs, rfl, hs, hml, hnl, hnm, h4.nd, h4.mem⟩, .push⟩
theorem any_rule_ok (hfu : 20 < fuel) (G : Gen defs) (hf : Fl S r) : Wp (callD defs fuel (d + 6) "_law_any_rule" [.ref r] S) fun p => IsRule p.1 ∧ Fl p.2 r ∧ Kp r S p.2 := by
  refine call_rule G.any_rule rfl ?_
  unfold d__law_any_rule
  refine st_asg ?_
  simp only [xE, Nat.reduceAdd, Nat.reduceSub, reduceCtorEq]
  refine (sizes_ok (d := d + 3) G.sizes G.pick hf).mono ?_
  rintro ⟨w1, S1⟩ ⟨a, n, hs, q1, f1, k1⟩
  simp only at q1 f1 k1
  subst q1
  obtain ⟨a1, a3, n1, n3, hm⟩ := size_of hs
  refine ⟨_, _, rfl, rfl, st_set ?_⟩
  simp only [xE, Nat.reduceAdd, Nat.reduceSub, reduceCtorEq]
  refine (backs_ok (d := d + 3) G.backs G.pick f1 n1 n3).mono ?_
  rintro ⟨w2, S2⟩ ⟨bs, q2, hb, hbl, f2, k2⟩
  simp only at q2 f2 k2
  subst q2
  obtain ⟨a', rfl⟩ : ∃ a' : Nat, a = a' := ⟨a.toNat, by omega⟩
  obtain ⟨n', rfl⟩ : ∃ n' : Nat, n = n' := ⟨n.toNat, by omega⟩
  have hnn : n' = bs.length := by omega
  have hsz : SizeOk a' bs := ⟨by omega, hb, by
    have : ((a' * bs.length : Nat) : Int) ≤ 6 := by rw [Int.natCast_mul, hbl]; exact hm
    exact_mod_cast this, by omega⟩
  refine ⟨Nat.zero_le _, ?_⟩
  refine (rule_of_ok (d := d) hfu G.rule_of G.names G.name G.letters G.pick f2 (by omega) (by omega) (us := []) (.inl rfl) (by decide) (fun _ h => nomatch h)).mono ?_
  rintro ⟨w3, S3⟩ ⟨ms, ns, q3, hml, hnl, hnm, f3, k3⟩
  simp only [sortF_nil] at q3 f3 k3
  subst q3
  have hrt := f3.lt
  have kk : Kp r S S3 := k1.trans (k2.trans k3)
  refine st_set ?_
  simp only [xE, Nat.reduceAdd, Nat.reduceSub, reduceCtorEq]
  refine st (for_any (i_rng ?_))
  simp only [xE, Nat.reduceAdd, Nat.reduceSub, reduceCtorEq]
  refine (pick_ok (d := d + 4) G.pick f3.push (show (0 : Int) < 9 by decide) (by decide)).mono ?_
  rintro ⟨w4, S4⟩ ⟨v, q4, v0, v9, f4, k4⟩
  simp only at q4 f4 k4
  subst q4
  refine ⟨v, rfl, by omega, by omega, rngW 0 v.toNat, (fun k ρ S' => (∃ a5, ρ = [some (.ref r), some (.int a'), some (.int n'), some (ruleW ms ns bs []), some (.ref S3.length), a5]) ∧ (∃ kvs fs, S'[S3.length]? = some (.dic kvs) ∧ FigD (figsL a' bs) kvs fs) ∧ Fl S' r ∧ Kp r S S'), rfl, ⟨⟨none, rfl⟩, ⟨[], [], k4.get _ _ (by omega) at_end, .nil⟩, f4, (kk.trans .push).trans k4⟩, ?_, ?_⟩
  · rintro k w ρ S5 hw ⟨⟨a5, rfl⟩, ⟨kvs, fs, e5, hd⟩, f5, k5⟩
    rw [g_nm]
    refine st_put ?_
    simp only [xE, Nat.reduceAdd, Nat.reduceSub, reduceCtorEq]
    refine (free_three_ok (d := d + 3) G.free_three G.pick f5 (a := a') (n := n') (by omega) (by omega) (by omega) (by omega)).mono ?_
    rintro ⟨w6, S6⟩ ⟨u, q6, hu3, hu, f6, k6⟩
    simp only at q6 f6 k6
    subst q6
    rw [hnn] at hu
    refine (figure_ok (d := d + 2) G.figure G.part G.turns G.between (m0 := .tup (ms.map W.str)) (b0 := .tup []) hb hnl hu hu3).mono ?_
    rintro ⟨w7, S7⟩ ⟨q7, k7⟩
    simp only at q7 k7
    subst q7
    have e7 : S7[S3.length]? = some (.dic kvs) := k7.get _ _ (k6.get _ _ (by omega) e5)
    have hl := hd.len
    obtain ⟨fs', hd'⟩ := hd.put (v := .bl true) (fig_mem hu hu3)
    exact ⟨_, p_dic e7 (by rw [sizeLine_eq]; have := figs_lt hsz; omega), st_nil ⟨⟨_, rfl⟩, ⟨_, fs', at_set e7, hd'⟩, (f6.ka k7).own hrt, ((k5.trans k6).trans (k7.kp r)).late kk.len⟩⟩
  · rintro ρ S5 ⟨⟨a5, rfl⟩, ⟨kvs, fs, e5, hd⟩, f5, k5⟩
    refine st_ret ?_
    refine (fin_ok (i := 3) (t := 4) rfl rfl e5 hd hsz hml hnl hnm).mono ?_
    rintro ⟨w6, S6⟩ ⟨h1, h2⟩
    exact ⟨h1, f5.ka h2, k5.trans (h2.kp r)⟩
end
end Mi
set_option Elab.async false
set_option linter.all false
set_option maxRecDepth 100000
namespace Mi
open PySem PySem.Spec PyProof.Rows L2
noncomputable def triW (t : Int × Int × Int) : W := .tup [.int t.1, .int t.2.1, .int t.2.2]
noncomputable def TriOk (a : Nat) (t : Int × Int × Int) : Prop := (0 ≤ t.1 ∧ t.1 < a) ∧ (0 ≤ t.2.1 ∧ t.2.1 < a) ∧ (0 ≤ t.2.2 ∧ t.2.2 < a)
theorem rng2_at {lo : Int} {n i : Nat} {w : W} (h : (rngW lo n)[i]? = some w) : i < n ∧ w = .int (lo + i) := by
  rw [rngW_get] at h
  split at h
  · cases h
    exact ⟨by assumption, rfl⟩
  · cases h
noncomputable def owd (k : Int) : Wd := [(k, []), (k, [0]), (k, [0, 0])]
theorem owd1 : ∀ k ∈ upTo 1, owd k ∈ figsL 1 [0] := by decide +kernel
theorem owd2 : ∀ k ∈ upTo 2, owd k ∈ figsL 2 [0] := by decide +kernel
theorem owd3 : ∀ k ∈ upTo 3, owd k ∈ figsL 3 [0] := by decide +kernel
theorem owd_mem {a : Nat} {k : Int} (h0 : 1 ≤ a) (h3 : a ≤ 3) (hk : 0 ≤ k) (hk2 : k < a) : owd k ∈ figsL a [0] := by
  have ha : a = 1 ∨ a = 2 ∨ a = 3 := by omega
  rcases ha with rfl | rfl | rfl
  · exact owd1 k (mem_upTo hk hk2)
  · exact owd2 k (mem_upTo hk hk2)
  · exact owd3 k (mem_upTo hk hk2)
theorem owd_inj {a b : Int} (h : owd a = owd b) : a = b := by
  unfold owd at h
  injection h with h1 h2
  injection h1
theorem one_way_good : GoodB [0] := .inl rfl
section
variable {defs : List (Str × Df)} {fuel d : Nat} {S : Store} {r : Nat} {ρ : Fm}
theorem rising_ok (hd : defs.lookup ("_law_rising" : Str) = some d__law_rising) {a : Nat} (ha : a ≤ 3) :
    Wp (callD defs fuel (d + 1) "_law_rising" [.int a] S) fun p => ∃ (q : Nat) (ts : List (Int × Int × Int)), p.1 = .ref q ∧ p.2[q]? = some (.lst (ts.map triW)) ∧ (∀ t ∈ ts, TriOk a t) ∧ S.length ≤ q ∧ Ka S p.2 := by
  refine call_rule hd rfl ?_
  unfold d__law_rising
  refine st_set ?_
  simp only [xE, Nat.reduceAdd, Nat.reduceSub, reduceCtorEq]
  refine ⟨Nat.zero_le _, st (for_its (rngW 0 a) (fun i ρ S' => ∃ (q : Nat) (ts : List (Int × Int × Int)) (a2 a3 : Option W), ρ = [some (.int a), some (.ref q), a2, a3] ∧ S'[q]? = some (.lst (ts.map triW)) ∧ (∀ t ∈ ts, TriOk a t) ∧ S.length ≤ q ∧ ts.length ≤ 9 * i ∧ Ka S S') (i_rng ?_) ?_ ?_)⟩
  · simp only [xE, Nat.reduceAdd, Nat.reduceSub, reduceCtorEq]
    exact ⟨_, rfl, by omega, by omega, by simp, _, [], none, none, rfl, at_end, fun _ h => (nomatch h), Nat.le_refl _, Nat.zero_le _, .push⟩
  · rintro i w ρ S1 hw ⟨q, ts, a2, a3, rfl, e1, ht, hq, hl, k1⟩
    obtain ⟨hi, rfl⟩ := rng_at hw
    rw [g_nm]
    simp only [xE, Nat.reduceAdd, Nat.reduceSub, reduceCtorEq]
    refine st (for_its (rngW i (a - i)) (fun j ρ S' => ∃ (q : Nat) (ts : List (Int × Int × Int)) (a3 : Option W), ρ = [some (.int a), some (.ref q), some (.int i), a3] ∧ S'[q]? = some (.lst (ts.map triW)) ∧ (∀ t ∈ ts, TriOk a t) ∧ S.length ≤ q ∧ ts.length ≤ 9 * i + 3 * j ∧ Ka S S') (i_rng2 ?_) ?_ ?_)
    · simp only [xE, Nat.reduceAdd, Nat.reduceSub, reduceCtorEq]
      exact ⟨_, _, rfl, by omega, by omega, by omega, by omega, by congr 2; omega, q, ts, a3, rfl, e1, ht, hq, hl, k1⟩
    · rintro j w ρ S2 hw2 ⟨q2, ts2, a3', rfl, e2, ht2, hq2, hl2, k2⟩
      obtain ⟨hj, rfl⟩ := rng2_at hw2
      rw [g_nm]
      refine st_set ?_
      simp only [xE, Nat.reduceAdd, Nat.reduceSub, reduceCtorEq]
      refine comp_its (rngW ((i : Int) + j) (a - (i + j))) (fun k zs ρ2 S3 => (∃ a1, ρ2 = [none, a1, some (.int i), some (.int ((i : Int) + j))]) ∧ (∃ us : List (Int × Int × Int), zs = us.map triW ∧ us.length = k ∧ ∀ t ∈ us, TriOk a t) ∧ S3 = S2) (i_rng2 ?_) ?_ ?_
      · simp only [xE, Nat.reduceAdd, Nat.reduceSub, reduceCtorEq]
        exact ⟨_, _, rfl, by omega, by omega, by omega, by omega, by congr 2; omega, ⟨none, rfl⟩, [], rfl, rfl, fun _ h => (nomatch h)⟩
      · rintro k w zs ρ2 S3 hw3 ⟨⟨a1, rfl⟩, ⟨us, rfl, hul, hu⟩, rfl⟩
        obtain ⟨hk, rfl⟩ := rng2_at hw3
        rw [g_nm]
        simp only [c_nil, xE, Nat.reduceAdd, Nat.reduceSub, reduceCtorEq]
        refine ⟨small_le (by decide), ⟨_, rfl⟩, us ++ [((i : Int), (i : Int) + j, (i : Int) + j + k)], by simp [triW], by simp [hul], fun t ht => ?_⟩
        rcases List.mem_append.mp ht with h | h
        · exact hu t h
        · rw [List.mem_singleton.mp h]
          exact ⟨⟨by omega, by omega⟩, ⟨by simp only; omega, by simp only; omega⟩, ⟨by simp only; omega, by simp only; omega⟩⟩
      · rintro zs ρ2 S3 ⟨_, ⟨us, rfl, hul, hu⟩, rfl⟩
        rw [rng_len] at hul
        refine ⟨small_le (by rw [List.length_map]; omega), ?_⟩
        rw [o_lsts (at_old e2) at_end (small_le (by rw [List.length_append, List.length_map, List.length_map]; omega)), wp_some]
        refine st_nil ⟨_, ts2 ++ us, _, rfl, by rw [List.map_append]; exact at_end, fun t ht => ?_, ?_, ?_, (k2.trans .push).trans .push⟩
        · rcases List.mem_append.mp ht with h | h
          · exact ht2 t h
          · exact hu t h
        · have := k2.len; simp; omega
        · rw [List.length_append]; omega
    · rintro ρ S2 ⟨q2, ts2, a3', rfl, e2, ht2, hq2, hl2, k2⟩
      rw [rng_len] at hl2
      exact ⟨_, rfl, st_nil ⟨q2, ts2, _, _, rfl, e2, ht2, hq2, by omega, k2⟩⟩
  · rintro ρ S1 ⟨q, ts, a2, a3, rfl, e1, ht, hq, hl, k1⟩
    refine ⟨_, rfl, st_ret ?_⟩
    simp only [xE, Nat.reduceAdd, Nat.reduceSub, reduceCtorEq]
    exact ⟨q, ts, rfl, e1, ht, hq, k1⟩
theorem one_way_ok (hfu : 20 < fuel) (G : Gen defs) (hf : Fl S r) : Wp (callD defs fuel (d + 6) "_law_one_way_rule" [.ref r] S) fun p => IsRule p.1 ∧ Fl p.2 r ∧ Kp r S p.2 := by
  refine call_rule G.one_way_rule rfl ?_
  unfold d__law_one_way_rule
  refine st_set ?_
  simp only [xE, Nat.reduceAdd, Nat.reduceSub, reduceCtorEq]
  refine (pick_ok (d := d + 4) G.pick hf (show (0 : Int) < 3 by decide) (by decide)).mono ?_
  rintro ⟨w1, S1⟩ ⟨v, q1, v0, v3, f1, k1⟩
  simp only at q1 f1 k1
  subst q1
  simp only [o_add, wp_some]
  obtain ⟨a, ea⟩ : ∃ a : Nat, 1 + v = a := ⟨(1 + v).toNat, by omega⟩
  rw [ea]
  refine st_set ?_
  refine comp_its (rngW 0 a) (fun k zs ρ2 S2 => (∃ a1, ρ2 = [none, a1, some (.ref r)]) ∧ (∃ ks : List Int, zs = (ks.map owd).map wdW ∧ ks.Pairwise (· ≠ ·) ∧ ks.length ≤ k ∧ ∀ x ∈ ks, 0 ≤ x ∧ x < k) ∧ Fl S2 r ∧ Kp r S1 S2) (i_rng ?_) ?_ ?_
  · simp only [xE, Nat.reduceAdd, Nat.reduceSub, reduceCtorEq]
    exact ⟨_, rfl, by omega, by omega, by simp, ⟨none, rfl⟩, ⟨[], rfl, .nil, Nat.le_refl _, fun _ h => (nomatch h)⟩, f1, .refl⟩
  · rintro k w zs ρ2 S2 hw ⟨⟨a1, rfl⟩, ⟨ks, rfl, hkp, hkl, hks⟩, f2, k2⟩
    obtain ⟨hk, rfl⟩ := rng_at hw
    rw [g_nm]
    simp only [c_one, xE, Nat.reduceAdd, Nat.reduceSub, reduceCtorEq]
    refine (pick_ok (d := d + 4) G.pick f2 (show (0 : Int) < 2 by decide) (by decide)).mono ?_
    rintro ⟨w3, S3⟩ ⟨v3, q3, _, _, f3, k3⟩
    simp only at q3 f3 k3
    subst q3
    simp only [k_eq, wp_some, W.bl.injEq, exists_eq_left']
    refine ⟨fun _ => ?_, fun _ => ⟨⟨_, rfl⟩, ⟨ks, rfl, hkp, by omega, fun x hx => ⟨(hks x hx).1, by have := (hks x hx).2; omega⟩⟩, f3, k2.trans k3⟩⟩
    refine ⟨Nat.zero_le _, small_le (by decide), small_le (by decide), small_le (by decide), small_le (by decide), small_le (by decide), small_le (by decide), ⟨_, rfl⟩, ⟨ks ++ [(k : Int)], by simp [owd, wdW, ptW], ?_, by simp; omega, fun x hx => ?_⟩, f3, k2.trans k3⟩
    · rw [List.pairwise_append]
      refine ⟨hkp, by simp, fun x hx y hy e => ?_⟩
      have := (hks x hx).2
      rw [List.mem_singleton.mp hy] at e
      omega
    · rcases List.mem_append.mp hx with h | h
      · exact ⟨(hks x h).1, by have := (hks x h).2; omega⟩
      · rw [List.mem_singleton.mp h]; omega
  · rintro zs ρ2 S2 ⟨_, ⟨ks, rfl, hkp, hkl, hks⟩, f2, k2⟩
    rw [rng_len] at hkl hks
    refine ⟨small_le (by rw [List.length_map, List.length_map]; omega), st_ret ?_⟩
    simp only [xE, Nat.reduceAdd, Nat.reduceSub, reduceCtorEq]
    refine ⟨small_le (by decide), ?_⟩
    have hlt := f2.lt
    refine (rule_of_ok (d := d) hfu G.rule_of G.names G.name G.letters G.pick f2.push (a := a) (bs := [0]) (by omega) (by decide) (us := ks.map owd) (.inr ⟨_, rfl, by omega, at_end⟩) (by rw [List.length_map]; omega) (fun u hu => by obtain ⟨x, _, rfl⟩ := List.mem_map.mp hu; exact List.cons_ne_nil _ _)).mono ?_
    rintro ⟨w3, S3⟩ ⟨ms, ns, q3, hml, hnl, hnm, f3, k3⟩
    simp only at q3 f3 k3
    subst q3
    refine ⟨⟨a, [0], ms, ns, ks.map owd, rfl, ⟨⟨by omega, one_way_good, by simp; omega, by omega⟩, hml, hnl, hnm, ?_, fun g hg => ?_⟩⟩, f3, k1.trans (k2.trans (Kp.push.trans k3))⟩
    · unfold List.Nodup
      rw [List.pairwise_map]
      exact hkp.imp fun h e => h (owd_inj e)
    · obtain ⟨x, hx, rfl⟩ := List.mem_map.mp hg
      exact owd_mem (by omega) (by omega) (hks x hx).1 (hks x hx).2
end
end Mi
set_option Elab.async false
set_option linter.all false
set_option maxRecDepth 100000
namespace Mi
open PySem PySem.Spec PyProof.Rows L2
theorem k_eqL {S : Store} {i j : Nat} {xs : List W} (h1 : S[i]? = some (.lst xs)) (h2 : S[j]? = some (.lst [])) : copX .eq (.ref i) (.ref j) S = some (.bl xs.isEmpty, S) := by
  show (eqW S (19 + 1) (.ref i) (.ref j)).map _ = _
  simp only [eqW, rdM_lst h1, rdM_lst h2]
  cases xs with
  | nil => rfl
  | cons x xs => rfl
theorem k_notin {S : Store} {f : Int} {ws : List Int} : ∃ b, copX .notin (.int f) (.tup (intsW ws)) S = some (.bl b, S) := by
  have hf : (flatW (.int f) && (intsW ws).all flatW) = true := by
    simp only [flatW, Bool.true_and, List.all_eq_true]
    intro x hx
    obtain ⟨z, _, rfl⟩ := List.mem_map.mp hx
    rfl
  refine ⟨!(intsW ws).any fun z => eqF z (.int f), ?_⟩
  show copE .notin (.int f) (.tup (intsW ws)) S = _
  simp only [copE, cop, inW, seqOf, hf, if_true, Option.map_some]
section
variable {defs : List (Str × Df)} {fuel d : Nat} {S : Store} {r : Nat} {ρ : Fm}
theorem free_rule_ok (hfu : 20 < fuel) (G : Gen defs) (hf : Fl S r) : Wp (callD defs fuel (d + 6) "_law_free_rule" [.ref r] S) fun p => IsRule p.1 ∧ Fl p.2 r ∧ Kp r S p.2 := by
  refine call_rule G.free_rule rfl ?_
  unfold d__law_free_rule
  refine st_asg ?_
  simp only [xE, Nat.reduceAdd, Nat.reduceSub, reduceCtorEq]
  refine (sizes_ok (d := d + 3) G.sizes G.pick hf).mono ?_
  rintro ⟨w1, S1⟩ ⟨a, n, hs, q1, f1, k1⟩
  simp only at q1 f1 k1
  subst q1
  obtain ⟨a1, a3, n1, n3, hm⟩ := size_of hs
  refine ⟨_, _, rfl, rfl, st_set ?_⟩
  simp only [xE, Nat.reduceAdd, Nat.reduceSub, reduceCtorEq]
  refine (backs_ok (d := d + 3) G.backs G.pick f1 n1 n3).mono ?_
  rintro ⟨w2, S2⟩ ⟨bs, q2, hb, hbl, f2, k2⟩
  simp only at q2 f2 k2
  subst q2
  obtain ⟨a', rfl⟩ : ∃ a' : Nat, a = a' := ⟨a.toNat, by omega⟩
  obtain ⟨n', rfl⟩ : ∃ n' : Nat, n = n' := ⟨n.toNat, by omega⟩
  have hnn : n' = bs.length := by omega
  have hsz : SizeOk a' bs := ⟨by omega, hb, by
    have : ((a' * bs.length : Nat) : Int) ≤ 6 := by rw [Int.natCast_mul, hbl]; exact hm
    exact_mod_cast this, by omega⟩
  refine ⟨Nat.zero_le _, ?_⟩
  refine (rule_of_ok (d := d) hfu G.rule_of G.names G.name G.letters G.pick f2 (by omega) (by omega) (us := []) (.inl rfl) (by decide) (fun _ h => nomatch h)).mono ?_
  rintro ⟨w3, S3⟩ ⟨ms, ns, q3, hml, hnl, hnm, f3, k3⟩
  simp only [sortF_nil] at q3 f3 k3
  subst q3
  have hrt := f3.lt
  have kk : Kp r S S3 := k1.trans (k2.trans k3)
  have base : IsRule (ruleW ms ns bs []) := ⟨a', bs, ms, ns, [], rfl, hsz, hml, hnl, hnm, List.nodup_nil, fun _ h => nomatch h⟩
  refine st_set ?_
  refine comp_its (rngW 0 n') (fun k zs ρ2 S4 => (∃ x1, ρ2 = [none, x1, some (ruleW ms ns bs [])]) ∧ (∃ ks : List Int, zs = intsW ks ∧ ks.length ≤ k ∧ ∀ x ∈ ks, 0 ≤ x ∧ x < n') ∧ Ka S3 S4) (i_rng ?_) ?_ ?_
  · simp only [xE, Nat.reduceAdd, Nat.reduceSub, reduceCtorEq]
    exact ⟨_, rfl, by omega, by omega, by simp, ⟨none, rfl⟩, ⟨[], rfl, Nat.le_refl _, fun _ h => (nomatch h)⟩, .refl⟩
  · rintro k w zs ρ2 S4 hw ⟨⟨x1, rfl⟩, ⟨ks, rfl, hkl, hks⟩, k4⟩
    obtain ⟨hk, rfl⟩ := rng_at hw
    rw [g_nm]
    simp only [c_one, xE, Nat.reduceAdd, Nat.reduceSub, reduceCtorEq, ruleW]
    obtain ⟨b, hb1, hb2, hb3⟩ := hb.rng k (by omega)
    rw [i_tup (by decide) (w := .tup (List.zipWith wayW ns bs)) rfl, wp_some]
    simp only []
    rw [i_tup (by omega) (w := wayW (ns[k]'(by omega)) b) (by rw [Int.toNat_natCast]; exact way_at (List.getElem?_eq_getElem (by omega)) hb1), wp_some]
    simp only [wayW]
    rw [i_tup (by decide) (w := .int b) rfl, wp_some]
    simp only [k_eq, wp_some, W.bl.injEq, exists_eq_left']
    refine ⟨fun _ => ⟨⟨_, rfl⟩, ⟨ks ++ [(k : Int)], by simp [intsW], by simp; omega, fun x hx => ?_⟩, k4⟩, fun _ => ⟨⟨_, rfl⟩, ⟨ks, rfl, by omega, hks⟩, k4⟩⟩
    rcases List.mem_append.mp hx with h | h
    · exact hks x h
    · rw [List.mem_singleton.mp h]; omega
  · rintro zs ρ2 S4 ⟨_, ⟨ks, rfl, hkl, hks⟩, k4⟩
    rw [rng_len] at hkl
    refine ⟨small_le (by simp [intsW]; omega), st_if ?_⟩
    have f4 : Fl (S4 ++ [O.lst (intsW ks)]) r := (f3.ka k4).push
    have kk4 : Kp r S (S4 ++ [O.lst (intsW ks)]) := kk.trans ((k4.trans .push).kp r)
    simp only [xE, Nat.reduceAdd, Nat.reduceSub, reduceCtorEq]
    refine ⟨Nat.zero_le _, ?_⟩
    rw [k_eqL (at_old at_end) at_end, wp_some]
    simp only [W.bl.injEq, exists_eq_left']
    have kk5 : Kp r S ((S4 ++ [O.lst (intsW ks)]) ++ [O.lst []]) := kk4.trans .push
    refine ⟨fun _ => st_ret ?_, fun hne => ?_⟩
    · simp only [xE, Nat.reduceAdd, Nat.reduceSub, reduceCtorEq]
      exact After.rt ⟨base, f4.push, kk5⟩
    · simp only [k_eq, wp_some, W.bl.injEq, exists_eq_left']
      refine ⟨fun _ => st_ret ?_, fun _ => st_nil (After.nx (st_set ?_))⟩
      · simp only [xE, Nat.reduceAdd, Nat.reduceSub, reduceCtorEq]
        exact After.rt ⟨base, f4.push, kk5⟩
      · simp only [xE, Nat.reduceAdd, Nat.reduceSub, reduceCtorEq]
        rw [l_lst (at_old at_end), wp_some]
        have hpos : 0 < ks.length := by
          cases ks with
          | nil => simp [intsW] at hne
          | cons x xs => simp
        have hil : (intsW ks).length = ks.length := by simp [intsW]
        refine (pick_ok (d := d + 4) G.pick f4.push (m := ((intsW ks).length : Int)) (by omega) (by omega)).mono ?_
        rintro ⟨w6, S6⟩ ⟨v, q6, v0, v1, f6, k6⟩
        simp only at q6 f6 k6
        subst q6
        have hlt4 : r < S4.length := (f3.ka k4).lt
        rw [i_lst (k6.get _ _ (by omega) (at_old at_end)) v0 (w := .int (ks[v.toNat]'(by omega))) (by simp [intsW, show v.toNat < ks.length by omega]), wp_some]
        refine st_set ?_
        simp only [xE, Nat.reduceAdd, Nat.reduceSub, reduceCtorEq]
        refine st (for_any (i_rng ?_))
        simp only [xE, Nat.reduceAdd, Nat.reduceSub, reduceCtorEq]
        refine (pick_ok (d := d + 4) G.pick f6.push (show (0 : Int) < 9 by decide) (by decide)).mono ?_
        rintro ⟨w7, S7⟩ ⟨v7, q7, v70, v79, f7, k7⟩
        simp only at q7 f7 k7
        subst q7
        have hlt6 : r < S6.length := f6.lt
        have kk6 : Kp r S S6 := kk5.trans k6
        generalize ks[v.toNat]'(by omega) = fr
        refine ⟨v7, rfl, by omega, by omega, rngW 0 v7.toNat, (fun k ρ S' => (∃ x4 x8, ρ = [some (.ref r), some (.int a'), some (.int n'), some (ruleW ms ns bs []), x4, some (.ref S4.length), some (.int fr), some (.ref S6.length), x8]) ∧ (∃ kvs fs, S'[S6.length]? = some (.dic kvs) ∧ FigD (figsL a' bs) kvs fs) ∧ Fl S' r ∧ Kp r S S'), rfl, ⟨⟨none, none, rfl⟩, ⟨[], [], k7.get _ _ (by omega) at_end, .nil⟩, f7, (kk6.trans .push).trans k7⟩, ?_, ?_⟩
        · rintro k w ρ S8 hw ⟨⟨x4, x8, rfl⟩, ⟨kvs, fs, e8, hd⟩, f8, k8⟩
          rw [g_nm]
          refine st_set ?_
          simp only [xE, Nat.reduceAdd, Nat.reduceSub, reduceCtorEq]
          refine (free_three_ok (d := d + 3) G.free_three G.pick f8 (a := a') (n := n') (by omega) (by omega) (by omega) (by omega)).mono ?_
          rintro ⟨w9, S9⟩ ⟨u, q9, hu3, hu, f9, k9⟩
          simp only at q9 f9 k9
          subst q9
          rw [hnn] at hu
          have e9 : S9[S6.length]? = some (.dic kvs) := k9.get _ _ (by omega) e8
          have skip : ∀ x4, (∃ x4' x8', [some (.ref r), some (.int a'), some (.int n'), some (ruleW ms ns bs []), x4, some (.ref S4.length), some (.int fr), some (.ref S6.length), some (wdW u)] = [some (.ref r), some (.int a'), some (.int n'), some (ruleW ms ns bs []), x4', some (.ref S4.length), some (.int fr), some (.ref S6.length), x8']) ∧ (∃ kvs fs, S9[S6.length]? = some (.dic kvs) ∧ FigD (figsL a' bs) kvs fs) ∧ Fl S9 r ∧ Kp r S S9 := fun x4 => ⟨⟨_, _, rfl⟩, ⟨kvs, fs, e9, hd⟩, f9, k8.trans k9⟩
          match u, hu3 with
          | [(m0, w0), (m1, w1), (m2, w2)], hu3 =>
            have l1 := hu.len 1 _ rfl
            simp only at l1
            match w1, l1 with
            | [y], _ =>
              refine st_if ?_
              simp only [xE, Nat.reduceAdd, Nat.reduceSub, reduceCtorEq, wdW]
              rw [i_tup (by decide) (w := ptW (m1, [y])) rfl, wp_some]
              simp only [ptW]
              rw [i_tup (by decide) (w := .tup [.int y]) rfl, wp_some]
              simp only []
              rw [i_tup (by decide) (w := .int y) rfl, wp_some]
              simp only [k_ne, wp_some, W.bl.injEq, exists_eq_left']
              refine ⟨fun _ => ?_, fun _ => st_nil (After.nx (st_nil (skip _)))⟩
              rw [i_tup (by decide) (w := ptW (m2, w2)) rfl, wp_some]
              simp only [ptW]
              rw [i_tup (by decide) (w := .tup (intsW w2)) rfl, wp_some]
              simp only []
              obtain ⟨b, hb'⟩ := k_notin (S := S9) (f := fr) (ws := w2)
              rw [hb', wp_some]
              simp only [W.bl.injEq, exists_eq_left']
              refine ⟨fun _ => st_put ?_, fun _ => st_nil (After.nx (st_nil (skip _)))⟩
              simp only [xE, Nat.reduceAdd, Nat.reduceSub, reduceCtorEq]
              refine (figure_ok (d := d + 2) G.figure G.part G.turns G.between (m0 := .tup (ms.map W.str)) (b0 := .tup []) hb hnl hu hu3).mono ?_
              rintro ⟨w10, S10⟩ ⟨q10, k10⟩
              simp only at q10 k10
              subst q10
              have e10 : S10[S6.length]? = some (.dic kvs) := k10.get _ _ e9
              have hl := hd.len
              obtain ⟨fs', hd'⟩ := hd.put (v := .bl true) (fig_mem hu hu3)
              refine ⟨_, p_dic e10 (by rw [sizeLine_eq]; have := figs_lt hsz; omega), st_nil (After.nx (st_nil ?_))⟩
              exact ⟨⟨_, _, rfl⟩, ⟨_, fs', at_set e10, hd'⟩, (f9.ka k10).own hlt6, ((k8.trans k9).trans (k10.kp r)).late kk6.len⟩
        · rintro ρ S8 ⟨⟨x4, x8, rfl⟩, ⟨kvs, fs, e8, hd⟩, f8, k8⟩
          refine st_ret ?_
          refine (fin_ok (i := 3) (t := 7) rfl rfl e8 hd hsz hml hnl hnm).mono ?_
          rintro ⟨w9, S9⟩ ⟨h1, h2⟩
          exact ⟨h1, f8.ka h2, k8.trans (h2.kp r)⟩
end
end Mi
set_option Elab.async false
set_option linter.all false
set_option maxRecDepth 100000
namespace Mi
open PySem PySem.Spec PyProof.Rows L2
theorem for_anyL {Φ : Str → FF} {fuel : Nat} {ρ : Fm} {S : Store} {tg : Tg} {it : Ie} {b : Ss} {Q : QO} (hi : Wp (evI Φ it ρ S) fun p => ∃ (t : Nat) (xs : List W) (I : Nat → Fm → Store → Prop), p.1 = .live t ∧ (∀ i ρ S, I i ρ S → rdL S t = some xs) ∧ I 0 ρ p.2 ∧
    (∀ i w ρ S, xs[i]? = some w → I i ρ S → Wp (evG tg w ρ S) fun q => Wp (evSs Φ fuel b q.1 q.2) (AfterB (I (i + 1)) Q)) ∧ (∀ ρ S, I xs.length ρ S → Q (.nx ρ, S))) : Wp (evS Φ fuel (.loop tg it b) ρ S) Q := by
  rw [evS, x_for]
  refine hi.mono fun p ⟨t, xs, I, h1, hl, h2, h3, h4⟩ => ?_
  refine ⟨xs.length, by rw [h1]; simp [MI.len, hl 0 ρ p.2 h2], ?_⟩
  rw [h1]
  exact loop_rule I (fun i ρ S h => by simp [MI.at, hl i ρ S h]) h3 h4 _ 0 ρ p.2 (by omega) h2
noncomputable def uw0 (k : Int) : Wd := [(0, []), (0, [k]), (0, [k, k])]
theorem uw0_mem : ∀ g ∈ [uw0 0, uw0 1], g ∈ figsL 1 [0, 1] := by decide +kernel
noncomputable def uw2 (a k : Int) : Wd := [(0, []), (k, [0]), (a - 1, [0, 0])]
theorem uw2_mem2 : ∀ k ∈ upTo 2, uw2 2 k ∈ figsL 2 [0] := by decide +kernel
theorem uw2_mem3 : ∀ k ∈ upTo 3, uw2 3 k ∈ figsL 3 [0] := by decide +kernel
theorem uw2_inj {a x y : Int} (h : uw2 a x = uw2 a y) : x = y := by
  unfold uw2 at h
  injection h with _ h
  injection h with h _
  injection h
theorem good3 {a n : Nat} {m0 m1 m2 x y z : Int} (h0 : 0 ≤ m0 ∧ m0 < a) (h1 : 0 ≤ m1 ∧ m1 < a) (h2 : 0 ≤ m2 ∧ m2 < a) (hx : 0 ≤ x ∧ x < n) (hy : 0 ≤ y ∧ y < n) (hz : 0 ≤ z ∧ z < n) : GoodW a n [(m0, []), (m1, [x]), (m2, [y, z])] := by
  refine ⟨fun k p h => ?_, fun k p h => ?_, fun k p h => ?_⟩ <;> match k, h with
  | 0, h => cases h; first | exact h0 | rfl | (intro w hw; cases hw)
  | 1, h => cases h; first | exact h1 | rfl | (intro w hw; rw [List.mem_singleton.mp hw]; exact hx)
  | 2, h => cases h; first | exact h2 | rfl | (intro w hw; rcases List.mem_cons.mp hw with e | hw <;> first | exact e ▸ hy | (rw [List.mem_singleton.mp hw]; exact hz))
  | n + 3, h => simp at h
section
variable {defs : List (Str × Df)} {fuel d : Nat} {S : Store} {r : Nat} {ρ : Fm}
theorem unlaying_ok (hfu : 20 < fuel) (G : Gen defs) (hf : Fl S r) : Wp (callD defs fuel (d + 6) "_law_unlaying_rule" [.ref r] S) fun p => IsRule p.1 ∧ Fl p.2 r ∧ Kp r S p.2 := by
  refine call_rule G.unlaying_rule rfl ?_
  unfold d__law_unlaying_rule
  refine st_set ?_
  simp only [xE, Nat.reduceAdd, Nat.reduceSub, reduceCtorEq]
  refine (pick_ok (d := d + 4) G.pick hf (show (0 : Int) < 3 by decide) (by decide)).mono ?_
  rintro ⟨w1, S1⟩ ⟨v, q1, v0, v3, f1, k1⟩
  simp only at q1 f1 k1
  subst q1
  refine st_if ?_
  simp only [xE, Nat.reduceAdd, Nat.reduceSub, reduceCtorEq]
  simp only [k_eq, wp_some, W.bl.injEq, exists_eq_left']
  refine ⟨fun _ => st_ret ?_, fun _ => st_nil (After.nx (st_if ?_))⟩
  ·
    simp only [xE, Nat.reduceAdd, Nat.reduceSub, reduceCtorEq]
    refine ⟨small_le (by decide), ?_⟩
    refine comp_its (rngW 0 2) (fun k zs ρ2 S2 => (∃ a1, ρ2 = [none, a1]) ∧ zs = ([uw0 0, uw0 1].take k).map wdW ∧ S2 = S1) (i_rng ?_) ?_ ?_
    · simp only [xE, Nat.reduceAdd, Nat.reduceSub, reduceCtorEq]
      exact ⟨_, rfl, by decide, by decide, rfl, ⟨none, rfl⟩, rfl⟩
    · rintro k w zs ρ2 S2 hw ⟨⟨a1, rfl⟩, rfl, rfl⟩
      obtain ⟨hk, rfl⟩ := rng_at hw
      rw [g_nm]
      simp only [c_nil, xE, Nat.reduceAdd, Nat.reduceSub, reduceCtorEq]
      refine ⟨Nat.zero_le _, small_le (by decide), small_le (by decide), small_le (by decide), small_le (by decide), small_le (by decide), small_le (by decide), ⟨_, rfl⟩, ?_⟩
      have hk2 : k = 0 ∨ k = 1 := by omega
      rcases hk2 with rfl | rfl <;> rfl
    · rintro zs ρ2 S2 ⟨_, rfl, rfl⟩
      refine ⟨small_le (by decide), ?_⟩
      have hlt := f1.lt
      refine (rule_of_ok (d := d) hfu G.rule_of G.names G.name G.letters G.pick f1.push (a := 1) (bs := [0, 1]) (by decide) (by decide) (us := [uw0 0, uw0 1]) (.inr ⟨_, rfl, by omega, at_end⟩) (by decide) (by decide)).mono ?_
      rintro ⟨w3, S3⟩ ⟨ms, ns, q3, hml, hnl, hnm, f3, k3⟩
      simp only at q3 f3 k3
      subst q3
      exact After.rt ⟨⟨1, [0, 1], ms, ns, _, rfl, ⟨⟨by decide, .inr (.inl rfl), by decide, by decide⟩, hml, hnl, hnm, by decide, uw0_mem⟩⟩, f3, k1.trans (Kp.push.trans k3)⟩
  · simp only [xE, Nat.reduceAdd, Nat.reduceSub, reduceCtorEq]
    simp only [k_eq, wp_some, W.bl.injEq, exists_eq_left']
    refine ⟨fun _ => st_set ?_, fun _ => st_nil (After.nx (st_set ?_))⟩
    ·
      simp only [xE, Nat.reduceAdd, Nat.reduceSub, reduceCtorEq]
      refine ⟨small_le (by decide), Nat.zero_le _, ?_⟩
      refine (rule_of_ok (d := d) hfu G.rule_of G.names G.name G.letters G.pick f1 (a := 2) (bs := [0, 1]) (by decide) (by decide) (us := []) (.inl rfl) (by decide) (fun _ h => nomatch h)).mono ?_
      rintro ⟨w3, S3⟩ ⟨ms, ns, q3, hml, hnl, hnm, f3, k3⟩
      simp only [sortF_nil] at q3 f3 k3
      subst q3
      have hsz : SizeOk 2 [0, 1] := ⟨by decide, .inr (.inl rfl), by decide, by decide⟩
      have hrt := f3.lt
      have kk : Kp r S S3 := k1.trans k3
      refine st_set ?_
      simp only [xE, Nat.reduceAdd, Nat.reduceSub, reduceCtorEq]
      refine st (for_anyL (i_seqL ?_))
      simp only [xE, Nat.reduceAdd, Nat.reduceSub, reduceCtorEq]
      refine (rising_ok (d := d + 4) G.rising (a := 2) (by decide)).mono ?_
      rintro ⟨w4, S4⟩ ⟨q, ts, q4, e4, ht, hq, k4⟩
      simp only at q4 e4 k4
      subst q4
      have hq' : S3.length < q := by simp only [List.length_append, List.length_cons, List.length_nil] at hq; omega
      refine ⟨q, _, rfl, rdL_lst e4, q, ts.map triW, (fun k ρ S' => (∃ x4 x5 x6 x7 x8 x9, ρ = [some (.ref r), some (.int v), some (ruleW ms ns [0, 1] []), some (.ref S3.length), x4, x5, x6, x7, x8, x9]) ∧ (∃ kvs fs, S'[S3.length]? = some (.dic kvs) ∧ FigD (figsL 2 [0, 1]) kvs fs) ∧ S'[q]? = some (.lst (ts.map triW)) ∧ Fl S' r ∧ Kp r S S'), rfl, ?_, ?_, ?_, ?_⟩
      · rintro i ρ S' ⟨_, _, h, _⟩
        exact rdL_lst h
      · exact ⟨⟨_, _, _, _, _, _, rfl⟩, ⟨[], [], k4.get _ _ at_end, .nil⟩, e4, f3.push.ka k4, (kk.trans .push).trans (k4.kp r)⟩
      · rintro i w ρ S5 hw ⟨⟨x4, x5, x6, x7, x8, x9, rfl⟩, ⟨kvs, fs, e5, hd⟩, hq5, f5, k5⟩
        rw [List.getElem?_map, Option.map_eq_some_iff] at hw
        obtain ⟨t, htt, rfl⟩ := hw
        obtain ⟨t1, t2, t3⟩ := ht t (List.mem_of_getElem? htt)
        rw [g_nm]
        refine st (for_anyL (i_seqL ?_))
        simp only [xE, Nat.reduceAdd, Nat.reduceSub, reduceCtorEq]
        refine ⟨small_le (by decide), small_le (by decide), small_le (by decide), small_le (by decide), small_le (by decide), ?_⟩
        have hlt5 := f5.lt
        refine ⟨_, _, rfl, rdL_lst at_end, S5.length, [(1, 1, 0), (1, 1, 1), (1, 0, 1), (0, 1, 1)].map triW, (fun k ρ S' => (∃ x5 x6 x7 x8 x9, ρ = [some (.ref r), some (.int v), some (ruleW ms ns [0, 1] []), some (.ref S3.length), some (triW t), x5, x6, x7, x8, x9]) ∧ (∃ kvs fs, S'[S3.length]? = some (.dic kvs) ∧ FigD (figsL 2 [0, 1]) kvs fs) ∧ S'[q]? = some (.lst (ts.map triW)) ∧ S'[S5.length]? = some (.lst ([(1, 1, 0), (1, 1, 1), (1, 0, 1), (0, 1, 1)].map triW)) ∧ Fl S' r ∧ Kp r S S'), rfl, ?_, ?_, ?_, ?_⟩
        · rintro i ρ S' ⟨_, _, _, h, _⟩
          exact rdL_lst h
        · exact ⟨⟨_, _, _, _, _, rfl⟩, ⟨kvs, fs, at_old e5, hd⟩, at_old hq5, at_end, f5.push, k5.trans .push⟩
        · rintro i w ρ S6 hw ⟨⟨x5, x6, x7, x8, x9, rfl⟩, ⟨kvs, fs, e6, hd⟩, hq6, hl6, f6, k6⟩
          rw [List.getElem?_map, Option.map_eq_some_iff] at hw
          obtain ⟨⟨y1, y2, y3⟩, hy, rfl⟩ := hw
          have hy' : (0 ≤ y1 ∧ y1 < 2) ∧ (0 ≤ y2 ∧ y2 < 2) ∧ (0 ≤ y3 ∧ y3 < 2) := by
            have : ∀ p ∈ ([(1, 1, 0), (1, 1, 1), (1, 0, 1), (0, 1, 1)] : List (Int × Int × Int)), (0 ≤ p.1 ∧ p.1 < 2) ∧ (0 ≤ p.2.1 ∧ p.2.1 < 2) ∧ (0 ≤ p.2.2 ∧ p.2.2 < 2) := by decide
            exact this _ (List.mem_of_getElem? hy)
          unfold triW
          rw [g_tp]
          refine ⟨_, rfl, st_set ?_⟩
          simp only [xE, Nat.reduceAdd, Nat.reduceSub, reduceCtorEq]
          rw [i_tup (by decide) (w := .int t.1) rfl, wp_some]
          simp only []
          refine ⟨Nat.zero_le _, small_le (by decide), ?_⟩
          rw [i_tup (by decide) (w := .int t.2.1) rfl, wp_some]
          simp only []
          refine ⟨small_le (by decide), small_le (by decide), small_le (by decide), st_put ?_⟩
          simp only [xE, Nat.reduceAdd, Nat.reduceSub, reduceCtorEq]
          rw [i_tup (by decide) (w := .int t.2.2) rfl, wp_some]
          simp only []
          refine ⟨small_le (by decide), small_le (by decide), small_le (by decide), ?_⟩
          rw [o_tups (small_le (by simp)), wp_some]
          have hu : GoodW 2 2 [(t.1, []), (t.2.1, [y1]), (t.2.2, [y2, y3])] := good3 t1 t2 t3 hy'.1 hy'.2.1 hy'.2.2
          refine (figure_ok (d := d + 2) G.figure G.part G.turns G.between (m0 := .tup (ms.map W.str)) (b0 := .tup []) (bs := [0, 1]) (.inr (.inl rfl)) hnl (a := 2) (u := [(t.1, []), (t.2.1, [y1]), (t.2.2, [y2, y3])]) hu rfl).mono ?_
          rintro ⟨w7, S7⟩ ⟨q7, k7⟩
          simp only at q7 k7
          subst q7
          have e7 : S7[S3.length]? = some (.dic kvs) := k7.get _ _ e6
          have hl := hd.len
          obtain ⟨fs', hd'⟩ := hd.put (v := .bl true) (fig_mem (bs := [0, 1]) hu rfl)
          have h53 : S3.length < S5.length := at_lt e5
          refine ⟨_, p_dic e7 (by rw [sizeLine_eq]; have := figs_lt hsz; omega), st_nil ?_⟩
          exact ⟨⟨_, _, _, _, _, rfl⟩, ⟨_, fs', at_set e7, hd'⟩, by rw [at_ne (by omega)]; exact k7.get _ _ hq6, by rw [at_ne (by omega)]; exact k7.get _ _ hl6, (f6.ka k7).own hrt, (k6.trans (k7.kp r)).late kk.len⟩
        · rintro ρ S6 ⟨⟨x5, x6, x7, x8, x9, rfl⟩, hdd, hq6, hl6, f6, k6⟩
          exact st_nil ⟨⟨_, _, _, _, _, _, rfl⟩, hdd, hq6, f6, k6⟩
      · rintro ρ S5 ⟨⟨x4, x5, x6, x7, x8, x9, rfl⟩, ⟨kvs, fs, e5, hd⟩, hq5, f5, k5⟩
        refine st_ret ?_
        refine (fin_ok (i := 2) (t := 3) rfl rfl e5 hd hsz hml hnl hnm).mono ?_
        rintro ⟨w9, S9⟩ ⟨h1, h2⟩
        exact After.rt ⟨h1, f5.ka h2, k5.trans (h2.kp r)⟩
    ·
      simp only [xE, Nat.reduceAdd, Nat.reduceSub, reduceCtorEq]
      refine (pick_ok (d := d + 4) G.pick f1 (show (0 : Int) < 2 by decide) (by decide)).mono ?_
      rintro ⟨w2, S2⟩ ⟨v2, q2, v20, v22, f2, k2⟩
      simp only at q2 f2 k2
      subst q2
      simp only [o_add, wp_some]
      obtain ⟨a, ea⟩ : ∃ a : Nat, 2 + v2 = a := ⟨(2 + v2).toNat, by omega⟩
      rw [ea]
      have ha : a = 2 ∨ a = 3 := by omega
      refine st_set ?_
      refine comp_its (rngW 0 a) (fun k zs ρ2 S3 => (∃ a1, ρ2 = [none, a1, some (.int a)]) ∧ zs = ((upTo k).map (uw2 a)).map wdW ∧ S3 = S2) (i_rng ?_) ?_ ?_
      · simp only [xE, Nat.reduceAdd, Nat.reduceSub, reduceCtorEq]
        exact ⟨_, rfl, by omega, by omega, by simp, ⟨none, rfl⟩, rfl⟩
      · rintro k w zs ρ2 S3 hw ⟨⟨a1, rfl⟩, rfl, rfl⟩
        obtain ⟨hk, rfl⟩ := rng_at hw
        rw [g_nm]
        simp only [c_nil, xE, Nat.reduceAdd, Nat.reduceSub, reduceCtorEq]
        refine ⟨Nat.zero_le _, small_le (by decide), small_le (by decide), small_le (by decide), ?_⟩
        simp only [o_sub, wp_some]
        refine ⟨small_le (by decide), small_le (by decide), small_le (by decide), ⟨_, rfl⟩, ?_⟩
        simp [upTo, List.range_succ, uw2, wdW, ptW]
      · rintro zs ρ2 S3 ⟨_, rfl, rfl⟩
        rw [rng_len]
        have hul : (upTo a).length = a := by simp [upTo]
        refine ⟨small_le (by rw [List.length_map, List.length_map, hul]; omega), st_ret ?_⟩
        simp only [xE, Nat.reduceAdd, Nat.reduceSub, reduceCtorEq]
        refine ⟨small_le (by decide), ?_⟩
        refine (pick_ok (d := d + 4) G.pick f2.push (m := (a : Int)) (by omega) (by omega)).mono ?_
        rintro ⟨w4, S4⟩ ⟨v4, q4, v40, v4a, f4, k4⟩
        simp only at q4 f4 k4
        subst q4
        simp only [o_add, wp_some, W.int.injEq, exists_eq_left']
        obtain ⟨mm, em⟩ : ∃ mm : Nat, 1 + v4 = mm := ⟨(1 + v4).toNat, by omega⟩
        rw [em]
        have hlt2 := f2.lt
        have e4 : S4[S3.length]? = some (.lst (((upTo a).map (uw2 a)).map wdW)) := k4.get _ _ (by omega) at_end
        have hsl : slW (.ref S3.length) none (some (mm : Int)) S4 = some (.ref S4.length, S4 ++ [.lst ((((upTo a).map (uw2 a)).take mm).map wdW)]) := by
          simp only [slW, rdL_lst e4, cut_take, List.map_take]
        rw [hsl, wp_some]
        have hlt4 := f4.lt
        have hmem : ∀ g ∈ ((upTo a).map (uw2 a)).take mm, g ∈ figsL a [0] := fun g hg => by
          obtain ⟨x, hx, rfl⟩ := List.mem_map.mp (List.mem_of_mem_take hg)
          rcases ha with rfl | rfl
          · exact uw2_mem2 x hx
          · exact uw2_mem3 x hx
        refine (rule_of_ok (d := d) hfu G.rule_of G.names G.name G.letters G.pick f4.push (a := a) (bs := [0]) (by omega) (by decide) (us := ((upTo a).map (uw2 a)).take mm) (.inr ⟨_, rfl, by omega, at_end⟩) (by rw [List.length_take, List.length_map, hul]; omega) (fun u hu => figsL_ne (hmem u hu))).mono ?_
        rintro ⟨w5, S5⟩ ⟨ms, ns, q5, hml, hnl, hnm, f5, k5⟩
        simp only at q5 f5 k5
        subst q5
        refine ⟨⟨a, [0], ms, ns, _, rfl, ⟨⟨by omega, one_way_good, by simp; omega, by omega⟩, hml, hnl, hnm, ?_, hmem⟩⟩, f5, k1.trans (k2.trans (Kp.push.trans (k4.trans (Kp.push.trans k5))))⟩
        refine List.Nodup.sublist (List.take_sublist _ _) ?_
        unfold List.Nodup upTo
        rw [List.pairwise_map, List.pairwise_map]
        exact (List.nodup_range (n := a)).imp fun h e => h (by have := uw2_inj e; omega)
end
end Mi
set_option Elab.async false
set_option linter.all false
set_option maxRecDepth 100000
namespace Mi
open PySem PySem.Spec PyProof.Rows L2
noncomputable def pairT (u v : Int) : T := .tup [.int u, .int v]
noncomputable def pairW (u v : Int) : W := .tup [.int u, .int v]
theorem key_pair {u v : Int} : keyW (pairW u v) = some (pairT u v) := rfl
theorem mem_putT {kvs : List (T × W)} {k : T} {v : W} {p : T × W} (h : p ∈ putT kvs k v) : p ∈ kvs ∨ p = (k, v) := by
  unfold putT at h
  split at h
  · obtain ⟨q, hq, rfl⟩ := List.mem_map.mp h
    split
    · rename_i e; exact .inr (by rw [e])
    · exact .inl hq
  · rcases List.mem_append.mp h with h | h
    · exact .inl h
    · exact .inr (List.mem_singleton.mp h)
theorem getT_mem {kvs : List (T × W)} {k : T} {v : W} (h : getT kvs k = some v) : (k, v) ∈ kvs := by
  unfold getT at h
  rw [Option.map_eq_some_iff] at h
  obtain ⟨p, h1, rfl⟩ := h
  have := List.find?_some h1
  rw [← of_decide_eq_true this]
  exact List.mem_of_find?_eq_some h1
theorem getT_of {kvs : List (T × W)} {p : T × W} (h : p ∈ kvs) : ∃ v, getT kvs p.1 = some v := by
  unfold getT
  cases e : kvs.find? fun q => decide (q.1 = p.1) with
  | some q => exact ⟨q.2, rfl⟩
  | none => exact absurd (List.find?_eq_none.mp e p h) (by simp)
noncomputable def MustE (S : Store) (n b : Nat) (kvs : List (T × W)) : Prop := ∀ p ∈ kvs, ∃ (u v : Int) (l : Nat) (ws : List Int), p = (pairT u v, W.ref l) ∧ (0 ≤ u ∧ u < n) ∧ (0 ≤ v ∧ v < n) ∧ b ≤ l ∧ S[l]? = some (.lst (intsW ws)) ∧ ws.length ≤ 3 ∧ ∀ w ∈ ws, 0 ≤ w ∧ w < (n : Int)
theorem MustE.mono {S S' : Store} {n b : Nat} {kvs : List (T × W)} (h : MustE S n b kvs) (k : ∀ (l : Nat) (ws : List Int), b ≤ l → S[l]? = some (.lst (intsW ws)) → S'[l]? = some (.lst (intsW ws))) : MustE S' n b kvs := fun p hp =>
  let ⟨u, v, l, ws, h1, h2, h3, h4, h5, h6⟩ := h p hp
  ⟨u, v, l, ws, h1, h2, h3, h4, k l ws h4 h5, h6⟩
theorem MustE.ka {S S' : Store} {n b : Nat} {kvs : List (T × W)} (h : MustE S n b kvs) (k : Ka S S') : MustE S' n b kvs := h.mono fun l ws _ e => k.get _ _ e
theorem MustE.kp {S S' : Store} {n b r : Nat} {kvs : List (T × W)} (h : MustE S n b kvs) (hr : r < b) (k : Kp r S S') : MustE S' n b kvs := h.mono fun l ws hl e => k.get _ _ (by omega) e
theorem MustE.set {S : Store} {n b t : Nat} {kvs k : List (T × W)} {o : O} (h : MustE S n b kvs) (ht : S[t]? = some (.dic k)) : MustE (S.set t o) n b kvs := h.mono fun l ws hl e => by
  rw [at_ne (by rintro rfl; rw [ht] at e; cases e)]; exact e
theorem MustE.put {S : Store} {n b : Nat} {kvs : List (T × W)} {u v : Int} {l : Nat} {ws : List Int} (h : MustE S n b kvs) (h2 : 0 ≤ u ∧ u < n) (h3 : 0 ≤ v ∧ v < n) (h4 : b ≤ l) (h5 : S[l]? = some (.lst (intsW ws))) (h6 : ws.length ≤ 3) (h7 : ∀ w ∈ ws, 0 ≤ w ∧ w < (n : Int)) : MustE S n b (putT kvs (pairT u v) (.ref l)) := fun p hp => by
  rcases mem_putT hp with hp | rfl
  · exact h p hp
  · exact ⟨u, v, l, ws, rfl, h2, h3, h4, h5, h6, h7⟩
noncomputable abbrev Ent := Int × Int × List Int
noncomputable def litEs (ws : List Int) : Es := ws.foldr (fun w es => .cons (.c (.int w)) es) .nil
noncomputable def entEs : List Ent → Es
  | [] => .nil
  | e :: L => .cons (.tup (.cons (.c (.int e.1)) (.cons (.c (.int e.2.1)) .nil))) (.cons (.lst (litEs e.2.2)) (entEs L))
noncomputable def entW : List Ent → Nat → List W
  | [], _ => []
  | e :: L, s => pairW e.1 e.2.1 :: .ref s :: entW L (s + 1)
noncomputable def entO (L : List Ent) : Store := L.map fun e => O.lst (intsW e.2.2)
noncomputable def okEnt (n : Nat) (e : Ent) : Bool := decide ((0 ≤ e.1 ∧ e.1 < n) ∧ (0 ≤ e.2.1 ∧ e.2.1 < n) ∧ e.2.2.length ≤ 3) && e.2.2.all fun w => decide (0 ≤ w ∧ w < (n : Int))
section
variable {Φ : Str → FF} {ρ : Fm} {S : Store}
theorem lit_ok {ws : List Int} {Q : List W × Store → Prop} : Wp (evA Φ (litEs ws) ρ S) Q ↔ Q (intsW ws, S) := by
  induction ws generalizing Q with
  | nil => exact x_nil
  | cons w ws ih =>
    show Wp (evA Φ (.cons (.c (.int w)) (litEs ws)) ρ S) Q ↔ _
    rw [x_cons, x_c, ih]
    rfl
theorem ent_ok {L : List Ent} (h : ∀ e ∈ L, e.2.2.length ≤ 3) {Q : List W × Store → Prop} : Wp (evA Φ (entEs L) ρ S) Q ↔ Q (entW L S.length, S ++ entO L) := by
  induction L generalizing Q S with
  | nil => show Wp (evA Φ .nil ρ S) Q ↔ _; rw [x_nil]; simp [entW, entO]
  | cons e L ih =>
    show Wp (evA Φ (.cons (.tup (.cons (.c (.int e.1)) (.cons (.c (.int e.2.1)) .nil))) (.cons (.lst (litEs e.2.2)) (entEs L))) ρ S) Q ↔ _
    have hl : (intsW e.2.2).length ≤ sizeLine := small_le (by have := h e (by simp); simp [intsW]; omega)
    have hl2 : 2 ≤ sizeLine := small_le (by decide)
    simp only [x_cons, x_tup, x_c, x_nil, x_lst, lit_ok]
    simp only [ih (fun e he => h e (by simp [he])), hl, List.length_cons, List.length_nil, Nat.zero_add, Nat.reduceAdd, hl2, true_and]
    simp [entW, entO, pairW]
end
theorem putAll_ok {S : Store} {n b : Nat} : ∀ (L : List Ent) (s : Nat) (kvs : List (T × W)), MustE S n b kvs → b ≤ s → (∀ e ∈ L, okEnt n e = true) → (∀ i e, L[i]? = some e → S[s + i]? = some (.lst (intsW e.2.2))) → ∃ kvs', putAll kvs (entW L s) = some kvs' ∧ MustE S n b kvs' ∧ kvs'.length ≤ kvs.length + L.length
  | [], s, kvs, hm, hb, hL, hS => ⟨kvs, by simp [entW, putAll], hm, by simp⟩
  | e :: L, s, kvs, hm, hb, hL, hS => by
    have h1 := hL e (by simp)
    unfold okEnt at h1
    rw [Bool.and_eq_true, List.all_eq_true] at h1
    obtain ⟨h2, h3, h4⟩ := of_decide_eq_true h1.1
    obtain ⟨kvs', k1, k2, k3⟩ := putAll_ok L (s + 1) (putT kvs (pairT e.1 e.2.1) (.ref s)) (hm.put h2 h3 hb (by have := hS 0 e rfl; simpa using this) h4 (fun w hw => of_decide_eq_true (h1.2 w hw))) (by omega) (fun x hx => hL x (by simp [hx])) (fun i x hx => by have := hS (i + 1) x (by simpa using hx); rw [show s + 1 + i = s + (i + 1) by omega]; exact this)
    refine ⟨kvs', ?_, k2, ?_⟩
    · simp only [entW, putAll, key_pair]; exact k1
    · have := length_putT kvs (pairT e.1 e.2.1) (.ref s)
      rw [List.length_cons]; omega
noncomputable def KB : List (List Int) := [[1, 0], [0, 2, 1], [0, 1], [0, 1, 2]]
noncomputable def KindOk (S : Store) (b : Nat) (w : W) : Prop := ∃ (bs : List Int) (q : Nat) (kvs : List (T × W)) (most : Int), w = .tup [.tup (intsW bs), .ref q, .int most] ∧ bs ∈ KB ∧ 1 ≤ most ∧ most ≤ 3 ∧ most * bs.length ≤ 6 ∧ S[q]? = some (.dic kvs) ∧ b ≤ q ∧ kvs.length ≤ 4 ∧ MustE S bs.length b kvs
theorem KindOk.mono {S S' : Store} {b : Nat} {w : W} (h : KindOk S b w) (k1 : ∀ (l : Nat) (ws : List Int), b ≤ l → S[l]? = some (.lst (intsW ws)) → S'[l]? = some (.lst (intsW ws))) (k2 : ∀ (l : Nat) (kvs : List (T × W)), b ≤ l → S[l]? = some (.dic kvs) → S'[l]? = some (.dic kvs)) : KindOk S' b w :=
  let ⟨bs, q, kvs, most, h1, h2, h3, h4, h5, h6, h7, h8, h9⟩ := h
  ⟨bs, q, kvs, most, h1, h2, h3, h4, h5, k2 _ _ h7 h6, h7, h8, h9.mono k1⟩
theorem KindOk.ka {S S' : Store} {b : Nat} {w : W} (h : KindOk S b w) (k : Ka S S') : KindOk S' b w := h.mono (fun l ws _ e => k.get _ _ e) (fun l ws _ e => k.get _ _ e)
noncomputable def kindE (bs : List Int) (L : List Ent) (most : Int) : E := .tup (.cons (.tup (litEs bs)) (.cons (.disp (entEs L)) (.cons (.c (.int most)) .nil)))
section
variable {Φ : Str → FF} {ρ : Fm} {S : Store}
theorem kindE_ok (bs : List Int) (L : List Ent) (most : Int) {b : Nat} (hb : b ≤ S.length) (h1 : bs ∈ KB) (h2 : 1 ≤ most ∧ most ≤ 3 ∧ most * bs.length ≤ 6) (hL : ∀ e ∈ L, okEnt bs.length e = true) (h4 : L.length ≤ 4) :
    Wp (evE Φ (kindE bs L most) ρ S) fun p => KindOk p.2 b p.1 ∧ Ka S p.2 := by
  have hl : (intsW bs).length ≤ sizeLine := small_le (by
    have : ∀ x ∈ KB, x.length ≤ 3 := by decide
    have := this bs h1; simp [intsW]; omega)
  unfold kindE
  have hL3 : ∀ e ∈ L, e.2.2.length ≤ 3 := fun e he => by
    have := hL e he
    unfold okEnt at this
    rw [Bool.and_eq_true] at this
    exact (of_decide_eq_true this.1).2.2
  simp only [x_tup, x_cons, lit_ok, x_nil, x_c, x_disp, ent_ok hL3]
  obtain ⟨kvs, k1, k2, k3⟩ := putAll_ok (S := S ++ [O.dic []] ++ entO L) (n := bs.length) (b := b) L (S.length + 1) [] (fun _ h => nomatch h) (by omega) hL (fun i e he => by
    rw [List.getElem?_append_right (by simp), show S.length + 1 + i - (S ++ [O.dic []]).length = i by simp]
    simp [entO, he])
  have hat : (S ++ [O.dic []] ++ entO L)[S.length]? = some (.dic []) := by
    rw [List.getElem?_append_left (by simp)]; exact at_end
  refine ⟨hl, hat, kvs, ?_, small_le (by simp), ⟨bs, S.length, kvs, most, rfl, h1, h2.1, h2.2.1, h2.2.2, at_set hat, hb, ?_, k2.set hat⟩, ?_⟩
  · simpa using k1
  · simp only [List.length_nil] at k3; omega
  · refine ⟨fun j o h => ?_, by simp⟩
    have := at_lt h
    rw [at_ne (by omega), List.getElem?_append_left (by simp; omega)]
    exact at_old h
structure Menu (S0 S : Store) (r t m : Nat) : Prop where
  at_t : ∃ xs : List W, S[t]? = some (.lst xs) ∧ xs.length = m ∧ ∀ x ∈ xs, KindOk S S0.length x
  pos : 0 < m
  few : m ≤ 9
  fl : Fl S r
  kp : Kp r S0 S
  lt : S0.length ≤ t
  rlt : r < S0.length
theorem menu_put {S0 S S' : Store} {r t m : Nat} {w : W} (h : Menu S0 S r t m) (hw : KindOk S' S0.length w) (k : Ka S S') (hm : m < 9) : ∃ xs, S'[t]? = some (.lst xs) ∧ xs.length < sizeLine ∧ Menu S0 (S'.set t (.lst (xs ++ [w]))) r t (m + 1) := by
  obtain ⟨⟨xs, h1, h2, h3⟩, hp, hf, fl, kp, lt, rlt⟩ := h
  have e : S'[t]? = some (.lst xs) := k.get _ _ h1
  have stay : ∀ x, KindOk S' S0.length x → KindOk (S'.set t (.lst (xs ++ [w]))) S0.length x := fun x hx => hx.mono (fun l ws hl el => by
    by_cases hlt : t = l
    · exfalso
      subst hlt
      rw [e] at el
      injection el with el
      injection el with el
      match xs, h2, h3 with
      | [], h2, _ => simp at h2; omega
      | x :: xs, _, h3 =>
        obtain ⟨bs, q, kvs, most, hx, _⟩ := h3 x (by simp)
        subst hx
        match ws with
        | [] => simp [intsW] at el
        | w :: ws => simp [intsW] at el
    · rw [at_ne hlt]; exact el) (fun l kvs hl el => by
    rw [at_ne (by rintro rfl; rw [e] at el; cases el)]; exact el)
  refine ⟨xs, e, (by rw [sizeLine_eq]; omega), ⟨xs ++ [w], at_set e, by simp; omega, fun x hx => ?_⟩, by omega, by omega, (fl.ka k).own (by omega), (kp.trans (k.kp r)).late lt, lt, rlt⟩
  rcases List.mem_append.mp hx with hx | hx
  · exact stay x ((h3 x hx).ka k)
  · rw [List.mem_singleton.mp hx]; exact stay w hw
theorem app_kind (bs : List Int) (L : List Ent) (most : Int) {S0 : Store} {r t m : Nat} {x0 : Option W} (h : Menu S0 S r t m) (hm : m < 9) (h1 : bs ∈ KB) (h2 : 1 ≤ most ∧ most ≤ 3 ∧ most * bs.length ≤ 6) (hL : ∀ e ∈ L, okEnt bs.length e = true) (h4 : L.length ≤ 4) :
    Wp (evE Φ (.me .append (.v 1) (.cons (kindE bs L most) .nil)) [x0, some (.ref t)] S) fun p => Menu S0 p.2 r t (m + 1) := by
  simp only [x_me, x_v, x_cons, x_nil, List.getElem?_cons_zero, List.getElem?_cons_succ, Option.some.injEq, exists_eq_left', Me.ty, Me.fn]
  obtain ⟨xs, e1, e2, e3⟩ := h.at_t
  refine ⟨ty_lst e1, ?_⟩
  refine (kindE_ok bs L most (Nat.le_trans h.lt (Nat.le_of_lt (at_lt e1))) h1 h2 hL h4).mono ?_
  rintro ⟨w, S'⟩ ⟨k1, k2⟩
  obtain ⟨xs', f1, f2, f3⟩ := menu_put h k1 k2 hm
  rw [a_lst f1 f2, wp_some]
  exact f3
theorem laying_kind_ok {defs : List (Str × Df)} {fuel d : Nat} {r : Nat} (G : Gen defs) (hf : Fl S r) : Wp (callD defs fuel (d + 2) "_law_laying_kind" [.ref r] S) fun p => KindOk p.2 S.length p.1 ∧ Fl p.2 r ∧ Kp r S p.2 := by
  refine call_rule G.laying_kind rfl ?_
  unfold d__law_laying_kind
  have hrt := hf.lt
  refine st_set ?_
  refine x_lst.mpr (x_cons.mpr ((kindE_ok [1, 0] [(0, 0, [0])] 3 (b := S.length) (Nat.le_refl _) (by decide) (by decide) (by decide) (by decide)).mono ?_))
  rintro ⟨w1, S1⟩ ⟨k1, a1⟩
  refine x_cons.mpr ((kindE_ok [0, 2, 1] [(1, 1, [1])] 2 (b := S.length) a1.len (by decide) (by decide) (by decide) (by decide)).mono ?_)
  rintro ⟨w2, S2⟩ ⟨k2, a2⟩
  have a12 := a1.trans a2
  refine x_cons.mpr ((kindE_ok [0, 1] [(1, 1, [1])] 3 (b := S.length) a12.len (by decide) (by decide) (by decide) (by decide)).mono ?_)
  rintro ⟨w3, S3⟩ ⟨k3, a3⟩
  have a13 := a12.trans a3
  refine x_nil.mpr ⟨small_le (by show 3 ≤ 1000; decide), ?_⟩
  simp only [frame0, List.map_cons, List.map_nil, List.cons_append, List.nil_append, List.length_cons, List.length_nil, Nat.reduceAdd, Nat.reduceSub, List.replicate_succ, List.replicate_zero, List.set_cons_zero, List.set_cons_succ]
  have m3 : Menu S (S3 ++ [O.lst [w1, w2, w3]]) r S3.length 3 := by
    refine ⟨⟨[w1, w2, w3], at_end, rfl, fun x hx => ?_⟩, by decide, by decide, (hf.ka a13).push, (a13.trans .push).kp r, a13.len, hrt⟩
    rcases List.mem_cons.mp hx with rfl | hx
    · exact (k1.ka (a2.trans a3)).ka .push
    · rcases List.mem_cons.mp hx with rfl | hx
      · exact (k2.ka a3).ka .push
      · rw [List.mem_singleton.mp hx]
        exact k3.ka .push
  refine st_ex ((app_kind [0, 1] [(1, 1, [1]), (0, 0, [1])] 3 m3 (by decide) (by decide) (by decide) (by decide) (by decide)).mono ?_)
  rintro ⟨_, S4⟩ m4
  refine st_ex ((app_kind [0, 1] [(1, 1, [])] 1 m4 (by decide) (by decide) (by decide) (by decide) (by decide)).mono ?_)
  rintro ⟨_, S5⟩ m5
  refine st_ex ((app_kind [0, 2, 1] [(0, 0, [0]), (0, 1, [1]), (1, 0, [1]), (1, 1, [1])] 2 m5 (by decide) (by decide) (by decide) (by decide) (by decide)).mono ?_)
  rintro ⟨_, S6⟩ m6
  refine st_ex ?_
  simp only [x_me, x_v, x_cons, x_nil, x_tup, x_c, x_dnew, List.getElem?_cons_zero, List.getElem?_cons_succ, Option.some.injEq, exists_eq_left', Me.ty, Me.fn]
  obtain ⟨xs, e1, e2, e3⟩ := m6.at_t
  refine ⟨ty_lst e1, small_le (by show 2 ≤ 1000; decide), small_le (by show 3 ≤ 1000; decide), ?_⟩
  obtain ⟨xs', f1, f2, m7⟩ := menu_put (S' := S6 ++ [O.dic []]) (w := .tup [.tup (intsW [1, 0]), .ref S6.length, .int 3]) m6 ⟨[1, 0], S6.length, [], 3, rfl, by decide, by decide, by decide, by decide, at_end, m6.kp.len, by decide, fun _ h => (nomatch h)⟩ .push (by decide)
  have f3 : appendW (.ref S3.length) [.tup [.tup [.int 1, .int 0], .ref S6.length, .int 3]] (S6 ++ [O.dic []]) = some (.non, _) := a_lst f1 f2
  rw [f3, wp_some]
  refine st_ex ((app_kind [0, 1, 2] [(2, 2, [2]), (1, 2, [1]), (2, 1, [1]), (1, 1, [1, 2])] 2 m7 (by decide) (by decide) (by decide) (by decide) (by decide)).mono ?_)
  rintro ⟨_, S8⟩ m8
  refine st_ex ((app_kind [0, 1, 2] [(0, 0, [0, 1])] 2 m8 (by decide) (by decide) (by decide) (by decide) (by decide)).mono ?_)
  rintro ⟨_, S9⟩ m9
  refine st_ret ?_
  simp only [xE, Nat.reduceAdd, Nat.reduceSub, reduceCtorEq]
  refine (pick_ok (d := d) G.pick m9.fl (show (0 : Int) < 9 by decide) (by decide)).mono ?_
  rintro ⟨w10, S10⟩ ⟨v, q, v0, v9, f10, k10⟩
  simp only at q f10 k10
  subst q
  obtain ⟨xs, g1, g2, g3⟩ := m9.at_t
  have hlt := m9.lt
  have hv : v.toNat < xs.length := by omega
  rw [i_lst (k10.get _ _ (by omega) g1) v0 (w := xs[v.toNat]) (List.getElem?_eq_getElem hv), wp_some]
  exact ⟨(g3 _ (List.getElem_mem hv)).mono (fun l ws hl e => k10.get _ _ (by omega) e) (fun l ws hl e => k10.get _ _ (by omega) e), f10, m9.kp.trans k10⟩
end
end Mi
set_option Elab.async false
set_option linter.all false
set_option maxRecDepth 100000
namespace Mi
open PySem PySem.Spec PyProof.Rows L2
noncomputable def numsL (bs : List Int) : List (List Int) := if bs = [0, 1, 2] then [[0, 1, 2], [0, 2, 1], [1, 0, 2], [1, 2, 0], [2, 0, 1], [2, 1, 0]] else if bs.length = 2 then [[0, 1], [1, 0]] else [[0, 1, 2], [0, 2, 1], [2, 0, 1], [2, 1, 0]]
noncomputable def toldK (bs nm : List Int) : Nat → List Int
  | 0 => List.replicate bs.length 0
  | k + 1 => (toldK bs nm k).set (nm.getD k 0).toNat (nm.getD (bs.getD k 0).toNat 0)
theorem toldK_len (bs nm : List Int) : ∀ k, (toldK bs nm k).length = bs.length
  | 0 => by simp [toldK]
  | k + 1 => by simp [toldK, toldK_len bs nm k]
theorem nums_ok : ∀ bs ∈ KB, ∀ nm ∈ numsL bs, nm.length = bs.length ∧ (∀ x ∈ nm, 0 ≤ x ∧ x < (bs.length : Int)) ∧ (∀ x ∈ bs, 0 ≤ x ∧ x < (bs.length : Int)) ∧ GoodB (toldK bs nm bs.length) := by
  unfold GoodB
  decide +kernel
theorem KB_len : ∀ bs ∈ KB, (bs.length = 2 ∨ bs.length = 3) ∧ 0 < (numsL bs).length ∧ (numsL bs).length < 10 := by decide
section
variable {defs : List (Str × Df)} {fuel d : Nat} {S : Store} {r : Nat}
theorem numbered_head (G : Gen defs) {rest : Ss} {Q : QO} {bs : List Int} {x0 x2 : Option W} (hb : bs ∈ KB)
    (hk : ∀ (m s : Nat) (S' : Store), Ka S S' → S'[s]? = some (.lst ((numsL bs).map fun nm => W.tup (intsW nm))) → S.length ≤ s → Wp (evSs (callD defs fuel (d + 1)) fuel rest [x0, some (.tup (intsW bs)), x2, some (.int bs.length), some (.ref m), some (.ref s), none, none, none, none, none, none] S') Q) :
    Wp (evSs (callD defs fuel (d + 1)) fuel (.cons (.set 3 (.bi .len (.cons (.v 1) .nil)))
  (.cons (.set 4 (.lst (.cons (.lst (.cons (.tup (.cons (.c (.int 0)) .nil)) .nil)) (.cons (.lst (.cons (.tup (.cons (.c (.int 0)) (.cons (.c (.int 1)) .nil))) (.cons (.tup (.cons (.c (.int 1)) (.cons (.c (.int 0)) .nil))) .nil))) .nil))))
  (.cons (.ex (.me .append (.v 4) (.cons (.lst (.cons (.tup (.cons (.c (.int 0)) (.cons (.c (.int 1)) (.cons (.c (.int 2)) .nil)))) (.cons (.tup (.cons (.c (.int 0)) (.cons (.c (.int 2)) (.cons (.c (.int 1)) .nil)))) (.cons (.tup (.cons (.c (.int 2)) (.cons (.c (.int 0)) (.cons (.c (.int 1)) .nil)))) (.cons (.tup (.cons (.c (.int 2)) (.cons (.c (.int 1)) (.cons (.c (.int 0)) .nil)))) .nil))))) .nil)))
  (.cons (.set 5 (.ix (.v 4) (.op .sub (.v 3) (.c (.int 1)))))
  (.cons (.ite (.cmp .eq (.v 1) (.tup (.cons (.c (.int 0)) (.cons (.c (.int 1)) (.cons (.c (.int 2)) .nil))))) (.cons (.set 5 (.own "_law_turns" 0 .nil))
  .nil) .nil) rest))))) [x0, some (.tup (intsW bs)), x2, none, none, none, none, none, none, none, none, none] S) Q := by
  refine st_set ?_
  simp only [xE, Nat.reduceAdd, Nat.reduceSub, reduceCtorEq]
  rw [l_tup, wp_some]
  simp only [show (intsW bs).length = bs.length by simp [intsW]]
  refine st_set ?_
  simp only [xE, Nat.reduceAdd, Nat.reduceSub, reduceCtorEq]
  refine ⟨small_le (by decide), small_le (by decide), small_le (by decide), small_le (by decide), small_le (by decide), small_le (by decide), st_ex ?_⟩
  simp only [xE, Nat.reduceAdd, Nat.reduceSub, reduceCtorEq]
  have hm : (((S ++ [O.lst [.tup [.int 0]]]) ++ [O.lst [.tup [.int 0, .int 1], .tup [.int 1, .int 0]]]) ++ [O.lst [.ref S.length, .ref (S ++ [O.lst [.tup [.int 0]]]).length]])[((S ++ [O.lst [.tup [.int 0]]]) ++ [O.lst [.tup [.int 0, .int 1], .tup [.int 1, .int 0]]]).length]? = some (.lst [.ref S.length, .ref (S ++ [O.lst [.tup [.int 0]]]).length]) := at_end
  refine ⟨ty_lst hm, small_le (by decide), small_le (by decide), small_le (by decide), small_le (by decide), small_le (by decide), ?_⟩
  rw [a_lst (at_old hm) (by rw [sizeLine_eq]; show 2 < 16777216; decide), wp_some]
  generalize hS1 : S ++ [O.lst [.tup [.int 0]]] = S1 at *
  generalize hS2 : S1 ++ [O.lst [.tup [.int 0, .int 1], .tup [.int 1, .int 0]]] = S2 at *
  generalize hS3 : S2 ++ [O.lst [.ref S.length, .ref S1.length]] = S3 at *
  have l1 : S1.length = S.length + 1 := by rw [← hS1]; simp
  have l2 : S2.length = S1.length + 1 := by rw [← hS2]; simp
  have l3 : S3.length = S2.length + 1 := by rw [← hS3]; simp
  have kS2 : Ka S S2 := by rw [← hS2, ← hS1]; exact Ka.push.trans .push
  generalize hS5 : (S3 ++ [O.lst [.tup [.int 0, .int 1, .int 2], .tup [.int 0, .int 2, .int 1], .tup [.int 2, .int 0, .int 1], .tup [.int 2, .int 1, .int 0]]]).set S2.length (.lst ([.ref S.length, .ref S1.length] ++ [.ref S3.length])) = S5
  have k5 : Ka S S5 := by
    rw [← hS5, ← hS3]
    exact Ka.late (kS2.trans (Ka.push.trans .push)) (by omega)
  have m5 : S5[S2.length]? = some (.lst [.ref S.length, .ref S1.length, .ref S3.length]) := by
    rw [← hS5]; exact at_set (at_old hm)
  have p5 : S5[S1.length]? = some (.lst [.tup [.int 0, .int 1], .tup [.int 1, .int 0]]) := by
    rw [← hS5, at_ne (by omega), ← hS3, ← hS2]
    exact at_old (at_old at_end)
  have t5 : S5[S3.length]? = some (.lst [.tup [.int 0, .int 1, .int 2], .tup [.int 0, .int 2, .int 1], .tup [.int 2, .int 0, .int 1], .tup [.int 2, .int 1, .int 0]]) := by
    rw [← hS5, at_ne (by omega)]
    exact at_end
  refine st_set ?_
  simp only [xE, Nat.reduceAdd, Nat.reduceSub, reduceCtorEq]
  simp only [o_sub, wp_some]
  have hb' : bs = [1, 0] ∨ bs = [0, 2, 1] ∨ bs = [0, 1] ∨ bs = [0, 1, 2] := by simpa [KB] using hb
  have small3 : 3 ≤ sizeLine := small_le (by decide)
  rcases hb' with rfl | rfl | rfl | rfl
  · rw [i_lst m5 (by decide) (w := .ref S1.length) rfl, wp_some]
    refine st_if ?_
    simp only [xE, Nat.reduceAdd, Nat.reduceSub, reduceCtorEq]
    refine ⟨small3, ?_⟩
    rw [show copX .eq (.tup (intsW [1, 0])) (.tup [.int 0, .int 1, .int 2]) S5 = some (.bl false, S5) from rfl, wp_some]
    simp only [W.bl.injEq, exists_eq_left']
    exact ⟨fun h => (nomatch h), fun _ => st_nil (After.nx (hk _ _ _ k5 p5 (by omega)))⟩
  · rw [i_lst m5 (by decide) (w := .ref S3.length) rfl, wp_some]
    refine st_if ?_
    simp only [xE, Nat.reduceAdd, Nat.reduceSub, reduceCtorEq]
    refine ⟨small3, ?_⟩
    rw [show copX .eq (.tup (intsW [0, 2, 1])) (.tup [.int 0, .int 1, .int 2]) S5 = some (.bl false, S5) from rfl, wp_some]
    simp only [W.bl.injEq, exists_eq_left']
    exact ⟨fun h => (nomatch h), fun _ => st_nil (After.nx (hk _ _ _ k5 t5 (by omega)))⟩
  · rw [i_lst m5 (by decide) (w := .ref S1.length) rfl, wp_some]
    refine st_if ?_
    simp only [xE, Nat.reduceAdd, Nat.reduceSub, reduceCtorEq]
    refine ⟨small3, ?_⟩
    rw [show copX .eq (.tup (intsW [0, 1])) (.tup [.int 0, .int 1, .int 2]) S5 = some (.bl false, S5) from rfl, wp_some]
    simp only [W.bl.injEq, exists_eq_left']
    exact ⟨fun h => (nomatch h), fun _ => st_nil (After.nx (hk _ _ _ k5 p5 (by omega)))⟩
  · rw [i_lst m5 (by decide) (w := .ref S3.length) rfl, wp_some]
    refine st_if ?_
    simp only [xE, Nat.reduceAdd, Nat.reduceSub, reduceCtorEq]
    refine ⟨small3, ?_⟩
    rw [show copX .eq (.tup (intsW [0, 1, 2])) (.tup [.int 0, .int 1, .int 2]) S5 = some (.bl true, S5) from rfl, wp_some]
    simp only [W.bl.injEq, exists_eq_left']
    refine ⟨fun _ => st_set ?_, fun h => (nomatch h)⟩
    simp only [xE, Nat.reduceAdd, Nat.reduceSub, reduceCtorEq]
    refine (turns_ok (d := d) G.turns).mono ?_
    rintro ⟨w, S'⟩ e
    injection e with e1 e2
    subst e1; subst e2
    exact st_nil (After.nx (hk _ _ _ (k5.trans .push) at_end k5.len))
theorem o_rep {i n : Nat} {x : W} (h : S[i]? = some (.lst [x])) (hn : n ≤ 1000) : bop .mul (.ref i) (.int (n : Int)) S = some (.ref S.length, S ++ [.lst (List.replicate n x)]) := by
  have : n ≤ sizeLine := small_le hn
  simp only [bop, mulW, rdM_lst h]
  rw [if_pos ⟨by omega, by omega, by simpa using this⟩]
  unfold newL
  simp [this]
theorem i_dic {q : Nat} {kvs : List (T × W)} {u v : Int} {w : W} (h : rdD S q = some kvs) (hg : getT kvs (pairT u v) = some w) : ixX (.ref q) (.tup [.int u, .int v]) S = some (w, S) := by
  have hk : keyW (.tup [.int u, .int v]) = some (pairT u v) := key_pair
  simp only [ixX, h, hk, hg, Option.map_some]
theorem p_dicP {q : Nat} {kvs : List (T × W)} {u v : Int} {w : W} (h : S[q]? = some (.dic kvs)) (hl : kvs.length < sizeLine) : setX (.ref q) (.tup [.int u, .int v]) w S = some (S.set q (.dic (putT kvs (pairT u v) w))) := by
  have hk : keyW (.tup [.int u, .int v]) = some (pairT u v) := key_pair
  simp only [setX, rdDm, h, hk]
  rw [if_pos hl]
theorem numbered_ok (G : Gen defs) {S0 : Store} {bs : List Int} {q : Nat} {kvs : List (T × W)} (hb : bs ∈ KB) (hf : Fl S r) (hr : r < S0.length) (kp : Kp r S0 S) (hq : S[q]? = some (.dic kvs)) (hq0 : S0.length ≤ q) (h4 : kvs.length ≤ 4) (hm : MustE S bs.length S0.length kvs) :
    Wp (callD defs fuel (d + 2) "_law_numbered" [.ref r, .tup (intsW bs), .ref q] S) fun p => ∃ (bs' : List Int) (q' : Nat) (kvs' : List (T × W)), p.1 = .tup [.tup (intsW bs'), .ref q'] ∧ GoodB bs' ∧ bs'.length = bs.length ∧ p.2[q']? = some (.dic kvs') ∧ S0.length ≤ q' ∧ kvs'.length ≤ 4 ∧ MustE p.2 bs.length S0.length kvs' ∧ Fl p.2 r ∧ Kp r S0 p.2 := by
  refine call_rule G.numbered rfl ?_
  unfold d__law_numbered
  refine numbered_head (d := d) G hb ?_
  intro m s S1 k1 e1 hs
  have hrt := hf.lt
  obtain ⟨hb1, hb2, hb3⟩ := KB_len bs hb
  refine st_set ?_
  simp only [xE, Nat.reduceAdd, Nat.reduceSub, reduceCtorEq]
  rw [l_lst e1, wp_some]
  simp only [List.length_map]
  refine (pick_ok (d := d) G.pick (hf.ka k1) (m := ((numsL bs).length : Int)) (by omega) (by omega)).mono ?_
  rintro ⟨w2, S2⟩ ⟨v, q2, v0, v1, f2, k2⟩
  simp only at q2 f2 k2
  subst q2
  have hv : v.toNat < (numsL bs).length := by omega
  generalize hnm : (numsL bs)[v.toNat] = nm
  have hnmm : nm ∈ numsL bs := hnm ▸ List.getElem_mem hv
  obtain ⟨n1, n2, n3, n4⟩ := nums_ok bs hb nm hnmm
  rw [i_lst (k2.get _ _ (by omega) e1) v0 (w := .tup (intsW nm)) (by simp [hv, hnm]), wp_some]
  refine st_set ?_
  simp only [xE, Nat.reduceAdd, Nat.reduceSub, reduceCtorEq]
  refine ⟨small_le (by decide), ?_⟩
  rw [o_rep at_end (by omega), wp_some]
  generalize hS4 : S2 ++ [O.lst [.int 0]] = S4
  have k24 : Ka S2 S4 := hS4 ▸ .push
  have f4 : Fl S4 r := f2.ka k24
  have kp4 : Kp r S0 S4 := (kp.trans (k1.kp r)).trans (k2.trans (k24.kp r))
  have q4 : S4[q]? = some (.dic kvs) := k24.get _ _ (k2.get _ _ (by omega) (k1.get _ _ hq))
  have m4 : MustE S4 bs.length S0.length kvs := ((hm.ka k1).kp hr k2).ka k24
  refine st (for_any (i_rng ?_))
  simp only [xE, Nat.reduceAdd, Nat.reduceSub, reduceCtorEq]
  refine ⟨bs.length, rfl, by omega, by omega, rngW 0 bs.length, (fun k ρ S' => (∃ x8, ρ = [some (.ref r), some (.tup (intsW bs)), some (.ref q), some (.int bs.length), some (.ref m), some (.ref s), some (.tup (intsW nm)), some (.ref S4.length), x8, none, none, none]) ∧ S'[S4.length]? = some (.lst (intsW (toldK bs nm k))) ∧ Ka S4 S'), by simp, ⟨⟨_, rfl⟩, ?_, .push⟩, ?_, ?_⟩
  · rw [at_end]; simp [toldK, intsW]
  · rintro k w ρ S5 hw ⟨⟨x8, rfl⟩, e5, k5⟩
    obtain ⟨hk, rfl⟩ := rng_at hw
    rw [g_nm]
    refine st_put ?_
    simp only [xE, Nat.reduceAdd, Nat.reduceSub, reduceCtorEq]
    obtain ⟨c1, c2⟩ := n3 bs[k] (List.getElem_mem hk)
    have hk1 : k < nm.length := by omega
    have hk2 : (bs[k]).toNat < nm.length := by omega
    obtain ⟨d1, d2⟩ := n2 nm[k] (List.getElem_mem hk1)
    rw [i_tup (by omega) (w := .int bs[k]) (by simp [intsW, hk]), wp_some]
    simp only []
    rw [i_tup c1 (w := .int nm[(bs[k]).toNat]) (by simp [intsW, hk2]), wp_some]
    simp only []
    rw [i_tup (by omega) (w := .int nm[k]) (by simp [intsW, hk1]), wp_some]
    refine ⟨_, p_lst e5 d1 (by simp [intsW, toldK_len]; omega), st_nil ⟨⟨_, rfl⟩, ?_, k5.late (Nat.le_refl _)⟩⟩
    rw [at_set e5]
    simp [toldK, intsW, List.map_set, hk, hk1, hk2]
  · rintro ρ S5 ⟨⟨x8, rfl⟩, e5, k5⟩
    rw [rng_len] at e5
    refine st_set ?_
    simp only [xE, Nat.reduceAdd, Nat.reduceSub, reduceCtorEq]
    have f5 : Fl S5 r := f4.ka k5
    have q5 : S5[q]? = some (.dic kvs) := k5.get _ _ q4
    have m5 : MustE S5 bs.length S0.length kvs := m4.ka k5
    have kp5 : Kp r S0 S5 := kp4.trans (k5.kp r)
    have hq5 := at_lt q5
    have ht5 := at_lt e5
    have hqt : q ≠ S4.length := by rintro rfl; rw [e5] at q5; cases q5
    have hn9 : (bs.length : Int) ≤ 3 := by omega
    refine st (for_any (i_seqD ?_))
    simp only [xE, Nat.reduceAdd, Nat.reduceSub, reduceCtorEq]
    refine ⟨q, kvs, rfl, rdL_dic (at_old q5), rdD_dic (at_old q5), kvs.map (fun p => p.1.w), (fun k ρ S' => (∃ x10 x11, ρ = [some (.ref r), some (.tup (intsW bs)), some (.ref q), some (.int bs.length), some (.ref m), some (.ref s), some (.tup (intsW nm)), some (.ref S4.length), x8, some (.ref S5.length), x10, x11]) ∧ S'[q]? = some (.frd kvs) ∧ MustE S' bs.length S0.length kvs ∧ S'[S4.length]? = some (.lst (intsW (toldK bs nm bs.length))) ∧ (∃ kvs', S'[S5.length]? = some (.dic kvs') ∧ kvs'.length ≤ k ∧ MustE S' bs.length S0.length kvs') ∧ Fl S' r ∧ Kp r S0 S'), rfl, ⟨⟨_, _, rfl⟩, at_set (at_old q5), (m5.ka .push).set (at_old q5), ?_, ⟨[], ?_, Nat.le_refl _, fun _ h => (nomatch h)⟩, f5.push.own (by omega), (kp5.trans .push).late hq0⟩, ?_, ?_⟩
    · rw [at_ne hqt]; exact at_old e5
    · rw [at_ne (by omega)]; exact at_end
    · rintro k w ρ S6 hw ⟨⟨x10, x11, rfl⟩, q6, m6, t6, ⟨kvs', o6, l6, mm6⟩, f6, kp6⟩
      rw [List.getElem?_map, Option.map_eq_some_iff] at hw
      obtain ⟨p, hp, rfl⟩ := hw
      have hpm := List.mem_of_getElem? hp
      obtain ⟨u, v', l, ws, rfl, hu, hv', hl, hws, hl3, hw3⟩ := m6 p hpm
      obtain ⟨g, hg⟩ := getT_of hpm
      obtain ⟨u2, v2, l2, ws2, he2, _, _, hl2, hws2, hl32, hw32⟩ := m6 _ (getT_mem hg)
      injection he2 with _ he2
      subst he2
      rw [show (pairT u v', W.ref l).1.w = .tup [.int u, .int v'] from rfl, g_tp]
      refine ⟨_, rfl, st_put ?_⟩
      refine comp_live l2 (intsW ws2) (fun i zs ρ2 S7 => (∃ a1, ρ2 = [none, a1, some (.tup (intsW nm))]) ∧ zs = intsW ((ws2.take i).map fun w => nm.getD w.toNat 0) ∧ S7 = S6) ?_ (i_seqL ?_) ?_ ?_
      · rintro i zs ρ2 S7 ⟨_, _, rfl⟩
        exact rdL_lst hws2
      · simp only [xE, Nat.reduceAdd, Nat.reduceSub, reduceCtorEq]
        refine ⟨small_le (by decide), ?_⟩
        rw [i_dic (rdD_frd q6) hg, wp_some]
        exact ⟨l2, _, rfl, rdL_lst hws2, rfl, ⟨_, rfl⟩, rfl, rfl⟩
      · rintro i w zs ρ2 S7 hw ⟨⟨a1, rfl⟩, rfl, rfl⟩
        simp only [intsW, List.getElem?_map, Option.map_eq_some_iff] at hw
        obtain ⟨x, hx, rfl⟩ := hw
        obtain ⟨x0, x1⟩ := hw32 x (List.mem_of_getElem? hx)
        have hxl : x.toNat < nm.length := by omega
        rw [g_nm]
        simp only [c_nil, xE, Nat.reduceAdd, Nat.reduceSub, reduceCtorEq]
        rw [i_tup x0 (w := .int nm[x.toNat]) (by simp [intsW, hxl]), wp_some]
        refine ⟨⟨_, rfl⟩, ?_, rfl⟩
        rw [List.take_add_one, hx]
        simp [intsW, hxl]
      · rintro zs ρ2 S7 ⟨_, rfl, rfl⟩
        rw [show (intsW ws2).length = ws2.length by simp [intsW], List.take_length]
        refine ⟨small_le (by simp [intsW]; omega), ?_⟩
        simp only [xE, Nat.reduceAdd, Nat.reduceSub, reduceCtorEq]
        have hul : u.toNat < nm.length := by omega
        have hvl : v'.toNat < nm.length := by omega
        rw [i_tup hu.1 (w := .int nm[u.toNat]) (by simp [intsW, hul]), wp_some]
        simp only []
        rw [i_tup hv'.1 (w := .int nm[v'.toNat]) (by simp [intsW, hvl]), wp_some]
        simp only []
        have hkl : kvs'.length < sizeLine := by
          have := (List.getElem?_eq_some_iff.mp hp).1
          rw [sizeLine_eq]; omega
        refine ⟨small_le (by decide), _, p_dicP (at_old o6) hkl, st_nil ⟨⟨_, _, rfl⟩, ?_, (m6.ka .push).set (at_old o6), ?_, ⟨_, at_set (at_old o6), ?_, ?_⟩, f6.push.own (by omega), (kp6.trans .push).late kp5.len⟩⟩
        · rw [at_ne (by omega)]; exact at_old q6
        · rw [at_ne (by omega)]; exact at_old t6
        · have := length_putT kvs' (pairT nm[u.toNat] nm[v'.toNat]) (.ref S7.length)
          omega
        · refine ((mm6.ka .push).put (n2 _ (List.getElem_mem hul)) (n2 _ (List.getElem_mem hvl)) kp6.len at_end (by simp; omega) ?_).set (at_old o6)
          intro w hw
          obtain ⟨x, hx, rfl⟩ := List.mem_map.mp hw
          obtain ⟨x0, x1⟩ := hw32 x hx
          have hxl : x.toNat < nm.length := by omega
          simp only [List.getD_eq_getElem?_getD, List.getElem?_eq_getElem hxl, Option.getD_some]
          exact n2 _ (List.getElem_mem hxl)
    · rintro ρ S6 ⟨⟨x10, x11, rfl⟩, q6, m6, t6, ⟨kvs', o6, l6, mm6⟩, f6, kp6⟩
      rw [List.length_map] at l6
      refine st_ret ?_
      simp only [xE, Nat.reduceAdd, Nat.reduceSub, reduceCtorEq]
      rw [t_lst t6, wp_some]
      exact ⟨small_le (by decide), _, _, kvs', rfl, n4, toldK_len _ _ _, o6, kp5.len, by omega, mm6, f6, kp6⟩
end
end Mi
set_option Elab.async false
set_option linter.all false
set_option maxRecDepth 100000
namespace Mi
open PySem PySem.Spec PyProof.Rows L2
noncomputable def to3 (x y z : Int) : List (T × W) := [(pairT 1 0, .int x), (pairT 2 0, .int y), (pairT 2 1, .int z)]
noncomputable def toK (x y z a b c : Int) : Nat → List (T × W)
  | 0 => to3 x y z
  | 1 => to3 x y z ++ [(pairT 0 1, .int a)]
  | 2 => to3 x y z ++ [(pairT 0 1, .int a), (pairT 0 2, .int b)]
  | _ => to3 x y z ++ [(pairT 0 1, .int a), (pairT 0 2, .int b), (pairT 1 2, .int c)]
theorem to_val {n x y z a b c : Int} (hx : 0 ≤ x ∧ x < n) (hy : 0 ≤ y ∧ y < n) (hz : 0 ≤ z ∧ z < n) (ha : 0 ≤ a ∧ a < n) (hb : 0 ≤ b ∧ b < n) (hc : 0 ≤ c ∧ c < n) : ∀ i j : Nat, i < 3 → j < 3 → i ≠ j → ∃ p : Int, getT (toK x y z a b c 3) (pairT i j) = some (.int p) ∧ 0 ≤ p ∧ p < n := by
  intro i j hi hj hij
  match i, j, hi, hj, hij with
  | 0, 0, _, _, h => exact absurd rfl h
  | 0, 1, _, _, _ => exact ⟨a, by rfl, ha⟩
  | 0, 2, _, _, _ => exact ⟨b, by rfl, hb⟩
  | 1, 0, _, _, _ => exact ⟨x, by rfl, hx⟩
  | 1, 1, _, _, h => exact absurd rfl h
  | 1, 2, _, _, _ => exact ⟨c, by rfl, hc⟩
  | 2, 0, _, _, _ => exact ⟨y, by rfl, hy⟩
  | 2, 1, _, _, _ => exact ⟨z, by rfl, hz⟩
  | 2, 2, _, _, h => exact absurd rfl h
theorem turns_three : ∀ t ∈ turnsL, t.length = 3 ∧ t.getD 0 0 < 3 ∧ t.getD 1 0 < 3 ∧ t.getD 2 0 < 3 ∧ t.getD 0 0 ≠ t.getD 1 0 ∧ t.getD 1 0 ≠ t.getD 2 0 ∧ t.getD 0 0 ≠ t.getD 2 0 := by decide
theorem turns_at {t : List Nat} (h : t ∈ turnsL) : ∃ i j k : Nat, t = [i, j, k] ∧ i < 3 ∧ j < 3 ∧ k < 3 ∧ i ≠ j ∧ j ≠ k ∧ i ≠ k := by
  obtain ⟨h1, h2⟩ := turns_three t h
  match t, h1, h2 with
  | [i, j, k], _, h2 => exact ⟨i, j, k, rfl, h2⟩
section
variable {defs : List (Str × Df)} {fuel d : Nat} {S : Store} {r : Nat} {ρ : Fm}
theorem stA {Φ : Str → FF} {s : Sm} {ss : Ss} {Q : QO} (h : Wp (evS Φ fuel s ρ S) (After Φ fuel ss Q)) : Wp (evSs Φ fuel (.cons s ss) ρ S) Q := by rw [s_cons]; exact h
theorem k_notinL {l : Nat} {f : Int} {ws : List Int} (h : S[l]? = some (.lst (intsW ws))) : ∃ b, copX .notin (.int f) (.ref l) S = some (.bl b, S) := by
  have hf : (flatW (.int f) && (intsW ws).all flatW) = true := by
    simp only [flatW, Bool.true_and, List.all_eq_true]
    intro x hx
    obtain ⟨z, _, rfl⟩ := List.mem_map.mp hx
    rfl
  refine ⟨!(intsW ws).any fun z => eqF z (.int f), ?_⟩
  simp only [copX, rdD_lst h, copE, cop, inW, seqOf, rdL_lst h, hf, if_true, Option.map_some]
theorem ty_dic {q : Nat} {kvs : List (T × W)} (h : S[q]? = some (.dic kvs)) : tyOk "dict" S (.ref q) = true := by simp [tyOk, rdD_dic h]
theorem breaks_ok (G : Gen defs) {bs : List Int} {q b0 : Nat} {kvs : List (T × W)} {x y z : Int} (hb : GoodB bs) (hx : 0 ≤ x ∧ x < bs.length) (hy : 0 ≤ y ∧ y < bs.length) (hz : 0 ≤ z ∧ z < bs.length) (hq : S[q]? = some (.dic kvs)) (hm : MustE S bs.length b0 kvs) :
    Wp (callD defs fuel (d + 2) "_law_breaks" [.tup (intsW bs), .ref q, .int x, .int y, .int z] S) fun p => (∃ k, p.1 = .bl k) ∧ Ka S p.2 := by
  refine call_rule G.breaks rfl ?_
  unfold d__law_breaks
  obtain ⟨a, ha1, ha⟩ := hb.rng x.toNat (by omega)
  obtain ⟨b, hb1, hb2⟩ := hb.rng y.toNat (by omega)
  obtain ⟨c, hc1, hc⟩ := hb.rng z.toNat (by omega)
  have hqt := at_lt hq
  refine st_set ?_
  simp only [x_disp, xE, Nat.reduceAdd, Nat.reduceSub, reduceCtorEq]
  refine ⟨small_le (by decide), small_le (by decide), small_le (by decide), at_end, to3 x y z, by rfl, ?_⟩
  have e1 : ((S ++ [O.dic []]).set S.length (.dic (to3 x y z)))[S.length]? = some (.dic (to3 x y z)) := at_set at_end
  have k1 : Ka S ((S ++ [O.dic []]).set S.length (.dic (to3 x y z))) := Ka.push.late (Nat.le_refl _)
  have l1 : ((S ++ [O.dic []]).set S.length (.dic (to3 x y z))).length = S.length + 1 := by simp
  generalize (S ++ [O.dic []]).set S.length (.dic (to3 x y z)) = S1 at e1 k1 l1 ⊢
  refine st (for_anyL (i_seqL ?_))
  simp only [xE, Nat.reduceAdd, Nat.reduceSub, reduceCtorEq]
  have hls : listX [.ref S.length] S1 = some (.ref S1.length, S1 ++ [.lst [pairW 1 0, pairW 2 0, pairW 2 1]]) := by
    simp only [listX, rdD_dic e1]; rfl
  rw [hls, wp_some]
  refine ⟨S1.length, _, rfl, rdL_lst at_end, S1.length, [pairW 1 0, pairW 2 0, pairW 2 1], (fun k ρ S' => (∃ x6, ρ = [some (.tup (intsW bs)), some (.ref q), some (.int x), some (.int y), some (.int z), some (.ref S.length), x6, none, none, none]) ∧ S'[S.length]? = some (.dic (toK x y z a b c k)) ∧ S'[S1.length]? = some (.lst [pairW 1 0, pairW 2 0, pairW 2 1]) ∧ Ka S S'), rfl, ?_, ?_, ?_, ?_⟩
  · rintro i ρ S' ⟨_, _, h, _⟩
    exact rdL_lst h
  · exact ⟨⟨_, rfl⟩, at_old e1, at_end, k1.trans .push⟩
  · have step : ∀ (Q' : QO) (u v f g : Int) (kv kv' : List (T × W)) (S' : Store) (i : Nat), getT kv (pairT u v) = some (.int f) → 0 ≤ f → bs[f.toNat]? = some g → kv.length < 10 → putT kv (pairT v u) (.int g) = kv' → toK x y z a b c (i + 1) = kv' → ∀ x6 : Option W, S'[S.length]? = some (.dic kv) → S'[S1.length]? = some (.lst [pairW 1 0, pairW 2 0, pairW 2 1]) → Ka S S' → Wp (evG (.nm 6) (pairW u v) [some (.tup (intsW bs)), some (.ref q), some (.int x), some (.int y), some (.int z), some (.ref S.length), x6, none, none, none] S') fun p => Wp (evSs (callD defs fuel (d + 1)) fuel (.cons (.put (.v 5) (.tup (.cons (.ix (.v 6) (.c (.int 1))) (.cons (.ix (.v 6) (.c (.int 0))) .nil))) (.ix (.v 0) (.ix (.v 5) (.v 6)))) .nil) p.1 p.2) (AfterB (fun ρ S' => (∃ x6, ρ = [some (.tup (intsW bs)), some (.ref q), some (.int x), some (.int y), some (.int z), some (.ref S.length), x6, none, none, none]) ∧ S'[S.length]? = some (.dic (toK x y z a b c (i + 1))) ∧ S'[S1.length]? = some (.lst [pairW 1 0, pairW 2 0, pairW 2 1]) ∧ Ka S S') Q') := by
      intro Q' u v f g kv kv' S' i h1 h2 h3 h4 h5 h6 x6 e e' k
      rw [g_nm]
      refine st_put ?_
      simp only [xE, Nat.reduceAdd, Nat.reduceSub, reduceCtorEq, pairW]
      rw [i_dic (rdD_dic e) h1, wp_some]
      simp only []
      rw [i_tup h2 (w := .int g) (by simp [intsW, h3]), wp_some]
      simp only []
      rw [i_tup (by decide) (w := .int v) rfl, wp_some]
      simp only []
      rw [i_tup (by decide) (w := .int u) rfl, wp_some]
      refine ⟨small_le (by decide), _, p_dicP e (by rw [sizeLine_eq]; omega), st_nil ⟨⟨_, rfl⟩, ?_, ?_, k.late (Nat.le_refl _)⟩⟩
      · rw [at_set e, h5, h6]
      · rw [at_ne (by omega)]; exact e'
    rintro i w ρ S2 hw ⟨⟨x6, rfl⟩, e2, l2, k2⟩
    match i, hw, e2 with
    | 0, hw, e2 => cases hw; exact step _ 1 0 x a _ _ S2 0 (by rfl) hx.1 ha1 (by simp [toK, to3]) (by rfl) (by rfl) x6 e2 l2 k2
    | 1, hw, e2 => cases hw; exact step _ 2 0 y b _ _ S2 1 (by rfl) hy.1 hb1 (by simp [toK, to3]) (by rfl) (by rfl) x6 e2 l2 k2
    | 2, hw, e2 => cases hw; exact step _ 2 1 z c _ _ S2 2 (by rfl) hz.1 hc1 (by simp [toK, to3]) (by rfl) (by rfl) x6 e2 l2 k2
    | n + 3, hw, _ => simp at hw
  · rintro ρ S2 ⟨⟨x6, rfl⟩, e2, l2, k2⟩
    have hv := to_val hx hy hz ha hb2 hc
    have e2 : S2[S.length]? = some (.dic (toK x y z a b c 3)) := e2
    refine stA (for_anyL (i_seqL ?_))
    simp only [xE, Nat.reduceAdd, Nat.reduceSub, reduceCtorEq]
    refine (turns_ok (d := d) G.turns).mono ?_
    rintro ⟨w, S'⟩ e
    injection e with q1 q2
    subst q1; subst q2
    have hlt2 := at_lt e2
    refine ⟨S2.length, _, rfl, rdL_lst at_end, S2.length, turnsL.map (fun t => W.tup (natsW t)), (fun k ρ S' => (∃ x7 x8 x9, ρ = [some (.tup (intsW bs)), some (.ref q), some (.int x), some (.int y), some (.int z), some (.ref S.length), x6, x7, x8, x9]) ∧ S'[S.length]? = some (.dic (toK x y z a b c 3)) ∧ S'[S2.length]? = some (.lst (turnsL.map (fun t => W.tup (natsW t)))) ∧ Ka S S'), rfl, ?_, ?_, ?_, ?_⟩
    · rintro i ρ S' ⟨_, _, h, _⟩
      exact rdL_lst h
    · exact ⟨⟨_, _, _, rfl⟩, at_old e2, at_end, k2.trans .push⟩
    · rintro i w ρ S3 hw ⟨⟨x7, x8, x9, rfl⟩, e3, l3, k3⟩
      rw [List.getElem?_map, Option.map_eq_some_iff] at hw
      obtain ⟨t, ht, rfl⟩ := hw
      obtain ⟨i1, j1, h1, rfl, hi1, hj1, hh1, n1, n2, n3⟩ := turns_at (List.mem_of_getElem? ht)
      obtain ⟨p1, g1, r1⟩ := hv i1 j1 hi1 hj1 n1
      obtain ⟨p2, g2, r2⟩ := hv j1 h1 hj1 hh1 n2
      obtain ⟨p3, g3, r3⟩ := hv i1 h1 hi1 hh1 n3
      rw [show W.tup (natsW [i1, j1, h1]) = .tup [.int i1, .int j1, .int h1] from rfl, g_tp]
      refine ⟨_, rfl, st_if ?_⟩
      simp only [xE, Nat.reduceAdd, Nat.reduceSub, reduceCtorEq]
      refine ⟨small_le (by decide), ?_⟩
      rw [i_dic (rdD_dic e3) g3, wp_some]
      simp only []
      have q3 := k3.get _ _ hq
      refine ⟨ty_dic q3, small_le (by decide), ?_⟩
      rw [i_dic (rdD_dic e3) g1, wp_some]
      simp only []
      refine ⟨small_le (by decide), ?_⟩
      rw [i_dic (rdD_dic e3) g2, wp_some]
      simp only []
      refine ⟨small_le (by decide), small_le (by decide), ?_⟩
      rw [i_dic (rdD_dic e3) g3, wp_some]
      simp only []
      refine ⟨small_le (by decide), ?_⟩
      have hget : dgetW (.ref q) [.tup [.int p1, .int p2], .ref S3.length] (S3 ++ [O.lst [.int p3]]) = some ((getT kvs (pairT p1 p2)).getD (.ref S3.length), S3 ++ [O.lst [.int p3]]) := by
        have hk : keyW (.tup [.int p1, .int p2]) = some (pairT p1 p2) := key_pair
        simp only [dgetW, rdD_dic (at_old q3), hk]
      rw [hget, wp_some]
      simp only []
      have hres : ∃ (l : Nat) (ws : List Int), (getT kvs (pairT p1 p2)).getD (.ref S3.length) = .ref l ∧ (S3 ++ [O.lst [.int p3]])[l]? = some (.lst (intsW ws)) := by
        cases hg : getT kvs (pairT p1 p2) with
        | none => exact ⟨S3.length, [p3], rfl, at_end⟩
        | some g =>
          obtain ⟨u, v, l, ws, he, _, _, _, hl, _⟩ := (hm.ka k3) _ (getT_mem hg)
          injection he with _ he
          subst he
          exact ⟨l, ws, rfl, at_old hl⟩
      obtain ⟨l, ws, hl1, hl2⟩ := hres
      rw [hl1]
      obtain ⟨kb, hkb⟩ := k_notinL (f := p3) hl2
      rw [hkb, wp_some]
      simp only [W.bl.injEq, exists_eq_left']
      refine ⟨fun _ => st_ret ?_, fun _ => st_nil (After.nx (st_nil ⟨⟨_, _, _, rfl⟩, at_old e3, at_old l3, k3.trans .push⟩))⟩
      simp only [xE, Nat.reduceAdd, Nat.reduceSub, reduceCtorEq]
      exact After.rt (After.rt ⟨⟨_, rfl⟩, k3.trans .push⟩)
    · rintro ρ S3 ⟨⟨x7, x8, x9, rfl⟩, e3, l3, k3⟩
      refine After.nx (st_ret ?_)
      simp only [xE, Nat.reduceAdd, Nat.reduceSub, reduceCtorEq]
      exact ⟨⟨_, rfl⟩, k3⟩
end
end Mi
set_option Elab.async false
set_option linter.all false
set_option maxRecDepth 100000
namespace Mi
open PySem PySem.Spec PyProof.Rows L2
section
variable {defs : List (Str × Df)} {fuel d : Nat} {S : Store} {r : Nat} {ρ : Fm}
theorem laying_ok (hfu : 20 < fuel) (G : Gen defs) (hf : Fl S r) : Wp (callD defs fuel (d + 7) "_law_laying_rule" [.ref r] S) fun p => IsRule p.1 ∧ Fl p.2 r ∧ Kp r S p.2 := by
  refine call_rule G.laying_rule rfl ?_
  unfold d__law_laying_rule
  refine st_set ?_
  simp only [xE, Nat.reduceAdd, Nat.reduceSub, reduceCtorEq]
  refine (pick_ok (d := d + 5) G.pick hf (show (0 : Int) < 7 by decide) (by decide)).mono ?_
  rintro ⟨w1, S1⟩ ⟨v, q1, v0, v7, f1, k1⟩
  simp only at q1 f1 k1
  subst q1
  refine st_if ?_
  simp only [xE, Nat.reduceAdd, Nat.reduceSub, reduceCtorEq]
  simp only [k_eq, wp_some, W.bl.injEq, exists_eq_left']
  refine ⟨fun _ => st_ret ?_, fun _ => st_nil (After.nx (st_if ?_))⟩
  · simp only [xE, Nat.reduceAdd, Nat.reduceSub, reduceCtorEq]
    refine (free_rule_ok (d := d) hfu G f1).mono ?_
    rintro ⟨w2, S2⟩ ⟨h1, h2, h3⟩
    exact After.rt ⟨h1, h2, k1.trans h3⟩
  · simp only [xE, Nat.reduceAdd, Nat.reduceSub, reduceCtorEq]
    simp only [k_eq, wp_some, W.bl.injEq, exists_eq_left']
    refine ⟨fun _ => st_ret ?_, fun _ => st_nil (After.nx (st_asg ?_))⟩
    · simp only [xE, Nat.reduceAdd, Nat.reduceSub, reduceCtorEq]
      refine (one_way_ok (d := d) hfu G f1).mono ?_
      rintro ⟨w2, S2⟩ ⟨h1, h2, h3⟩
      exact After.rt ⟨h1, h2, k1.trans h3⟩
    · simp only [xE, Nat.reduceAdd, Nat.reduceSub, reduceCtorEq]
      refine (laying_kind_ok (d := d + 4) G f1).mono ?_
      rintro ⟨w2, S2⟩ ⟨⟨bs0, q0, kvs0, most, e2, hbs0, m1, m3, m6, hq0, hq0l, h40, hm0⟩, f2, k2⟩
      simp only at e2 f2 k2 hq0 hm0
      subst e2
      refine ⟨_, _, rfl, rfl, st_set ?_⟩
      simp only [xE, Nat.reduceAdd, Nat.reduceSub, reduceCtorEq]
      refine (pick_ok (d := d + 5) G.pick f2 (m := most) (by omega) (by omega)).mono ?_
      rintro ⟨w3, S3⟩ ⟨v3, q3, v30, v3m, f3, k3⟩
      simp only at q3 f3 k3
      subst q3
      simp only [o_add, wp_some]
      obtain ⟨a, ea⟩ : ∃ a : Nat, 1 + v3 = a := ⟨(1 + v3).toNat, by omega⟩
      rw [ea]
      have hr1 := f1.lt
      refine st_asg ?_
      simp only [xE, Nat.reduceAdd, Nat.reduceSub, reduceCtorEq]
      refine (numbered_ok (d := d + 4) G (S0 := S1) hbs0 f3 hr1 (k2.trans k3) (k3.get _ _ (by omega) hq0) hq0l h40 (hm0.kp hr1 k3)).mono ?_
      rintro ⟨w4, S4⟩ ⟨bs, q, kvs, e4, hb, hbl, hq, hql, h4, hm, f4, k4⟩
      simp only at e4 f4 k4 hq hm
      subst e4
      rw [← hbl] at hm m6
      have hn : bs.length = 2 ∨ bs.length = 3 := by rw [hbl]; exact (KB_len bs0 hbs0).1
      have hsz : SizeOk a bs := ⟨by omega, hb, by
        have h1 : (a : Int) * bs.length ≤ most * bs.length := Int.mul_le_mul_of_nonneg_right (by omega) (by omega)
        exact_mod_cast Int.le_trans h1 m6, by omega⟩
      refine ⟨_, _, rfl, rfl, st_set ?_⟩
      simp only [xE, Nat.reduceAdd, Nat.reduceSub, reduceCtorEq]
      refine ⟨Nat.zero_le _, ?_⟩
      refine (rule_of_ok (d := d + 1) hfu G.rule_of G.names G.name G.letters G.pick f4 (a := a) (bs := bs) (by omega) (by omega) (us := []) (.inl rfl) (by decide) (fun _ h => nomatch h)).mono ?_
      rintro ⟨w5, S5⟩ ⟨ms, ns, q5, hml, hnl, hnm, f5, k5⟩
      simp only [sortF_nil] at q5 f5 k5
      subst q5
      have kk : Kp r S S5 := k1.trans (k4.trans k5)
      have hrt := f5.lt
      have hq5 : S5[q]? = some (.dic kvs) := k5.get _ _ (by omega) hq
      have hm5 : MustE S5 bs.length S1.length kvs := hm.kp hr1 k5
      refine st_set ?_
      simp only [xE, Nat.reduceAdd, Nat.reduceSub, reduceCtorEq]
      refine st_set ?_
      simp only [xE, Nat.reduceAdd, Nat.reduceSub, reduceCtorEq]
      rw [l_tup, wp_some]
      simp only [show (intsW bs).length = bs.length by simp [intsW]]
      refine st (for_any (i_rng ?_))
      simp only [xE, Nat.reduceAdd, Nat.reduceSub, reduceCtorEq]
      rw [o_mul (by omega) (by omega), wp_some]
      simp only []
      rw [o_mul (by omega) (by omega), wp_some]
      have hcube : (bs.length : Int) * bs.length * bs.length ≤ 27 ∧ 0 ≤ (bs.length : Int) * bs.length * bs.length := by rcases hn with h | h <;> rw [h] <;> decide
      refine ⟨_, rfl, by omega, by omega, rngW 0 ((bs.length : Int) * bs.length * bs.length).toNat, (fun k ρ S' => (∃ x9 x10 x11 x12 x13 x14, ρ = [some (.ref r), some (.int v), some (.tup (intsW bs)), some (.ref q), some (.int most), some (.int a), some (ruleW ms ns bs []), some (.ref S5.length), some (.int bs.length), x9, x10, x11, x12, x13, x14]) ∧ (∃ kvs fs, S'[S5.length]? = some (.dic kvs) ∧ FigD (figsL a bs) kvs fs) ∧ S'[q]? = some (.dic kvs) ∧ MustE S' bs.length S1.length kvs ∧ Fl S' r ∧ Kp r S S'), rfl, ?_, ?_, ?_⟩
      · exact ⟨⟨_, _, _, _, _, _, rfl⟩, ⟨[], [], at_end, .nil⟩, at_old hq5, hm5.ka .push, f5.push, kk.trans .push⟩
      · rintro k w ρ S6 hw ⟨⟨x9, x10, x11, x12, x13, x14, rfl⟩, ⟨kvd, fs, e6, hd⟩, hq6, hm6, f6, k6⟩
        obtain ⟨hk, rfl⟩ := rng_at hw
        rw [g_nm]
        have hnp : (0 : Int) < bs.length := by omega
        have hnb : (bs.length : Int) < 1073741824 := by omega
        have y1 : 0 ≤ (k : Int) % bs.length ∧ (k : Int) % bs.length < bs.length := ⟨Int.emod_nonneg _ (by omega), Int.emod_lt_of_pos _ hnp⟩
        have y2 : 0 ≤ (k : Int) / bs.length % bs.length ∧ (k : Int) / bs.length % bs.length < bs.length := ⟨Int.emod_nonneg _ (by omega), Int.emod_lt_of_pos _ hnp⟩
        have y3 : 0 ≤ (k : Int) / bs.length / bs.length ∧ (k : Int) / bs.length / bs.length < bs.length := by
          rcases hn with h | h <;> rw [h] at hk ⊢ <;> omega
        refine st_par ?_
        simp only [xE, Nat.reduceAdd, Nat.reduceSub, reduceCtorEq]
        rw [o_mod hnp, wp_some]
        simp only []
        rw [o_fdiv hnp hnb, wp_some]
        simp only []
        rw [o_mod hnp, wp_some]
        refine ⟨_, _, rfl, st_set ?_⟩
        simp only [xE, Nat.reduceAdd, Nat.reduceSub, reduceCtorEq]
        rw [o_fdiv hnp hnb, wp_some]
        simp only []
        rw [o_fdiv hnp hnb, wp_some]
        generalize (k : Int) % bs.length = z1 at y1 ⊢
        generalize (k : Int) / bs.length % bs.length = z2 at y2 ⊢
        generalize (k : Int) / bs.length / bs.length = z3 at y3 ⊢
        refine st_if ?_
        simp only [xE, Nat.reduceAdd, Nat.reduceSub, reduceCtorEq]
        refine (breaks_ok (d := d + 4) G hb y1 y2 y3 hq6 hm6).mono ?_
        rintro ⟨w7, S7⟩ ⟨⟨kb, e7⟩, k7⟩
        simp only at e7 k7
        subst e7
        refine ⟨kb, rfl, ?_⟩
        have hqn : q < S5.length := at_lt hq5
        refine ⟨fun _ => ?_, fun _ => st_nil (After.nx (st_nil ⟨⟨_, _, _, _, _, _, rfl⟩, ⟨kvd, fs, k7.get _ _ e6, hd⟩, k7.get _ _ hq6, hm6.ka k7, f6.ka k7, k6.trans (k7.kp r)⟩))⟩
        refine st (for_anyL (i_seqL ?_))
        simp only [xE, Nat.reduceAdd, Nat.reduceSub, reduceCtorEq]
        refine (rising_ok (d := d + 5) G.rising (a := a) (by omega)).mono ?_
        rintro ⟨w8, S8⟩ ⟨t, ts, q8, e8, ht, ht7, k8⟩
        simp only at q8 e8 k8
        subst q8
        have h56 : S5.length < S6.length := at_lt e6
        have h67 := k7.len
        refine ⟨t, _, rfl, rdL_lst e8, t, ts.map triW, (fun k ρ S' => (∃ x9 x13 x14, ρ = [some (.ref r), some (.int v), some (.tup (intsW bs)), some (.ref q), some (.int most), some (.int a), some (ruleW ms ns bs []), some (.ref S5.length), some (.int bs.length), x9, some (.int z1), some (.int z2), some (.int z3), x13, x14]) ∧ (∃ kvs fs, S'[S5.length]? = some (.dic kvs) ∧ FigD (figsL a bs) kvs fs) ∧ S'[q]? = some (.dic kvs) ∧ MustE S' bs.length S1.length kvs ∧ S'[t]? = some (.lst (ts.map triW)) ∧ Fl S' r ∧ Kp r S S'), rfl, ?_, ?_, ?_, ?_⟩
        · rintro i ρ S' ⟨_, _, _, _, h, _⟩
          exact rdL_lst h
        · exact ⟨⟨_, _, _, rfl⟩, ⟨kvd, fs, k8.get _ _ (k7.get _ _ e6), hd⟩, k8.get _ _ (k7.get _ _ hq6), (hm6.ka k7).ka k8, e8, (f6.ka k7).ka k8, k6.trans ((k7.trans k8).kp r)⟩
        · rintro i w ρ S9 hw ⟨⟨x9, x13, x14, rfl⟩, ⟨kvd, fs, e9, hd⟩, hq9, hm9, ht9, f9, k9⟩
          rw [List.getElem?_map, Option.map_eq_some_iff] at hw
          obtain ⟨tr, htr, rfl⟩ := hw
          obtain ⟨t1, t2, t3⟩ := ht tr (List.mem_of_getElem? htr)
          rw [g_nm]
          refine st_set ?_
          simp only [xE, Nat.reduceAdd, Nat.reduceSub, reduceCtorEq, triW]
          rw [i_tup (by decide) (w := .int tr.1) rfl, wp_some]
          simp only []
          refine ⟨Nat.zero_le _, small_le (by decide), ?_⟩
          rw [i_tup (by decide) (w := .int tr.2.1) rfl, wp_some]
          simp only []
          refine ⟨small_le (by decide), small_le (by decide), small_le (by decide), st_put ?_⟩
          simp only [xE, Nat.reduceAdd, Nat.reduceSub, reduceCtorEq]
          rw [i_tup (by decide) (w := .int tr.2.2) rfl, wp_some]
          simp only []
          refine ⟨small_le (by decide), small_le (by decide), small_le (by decide), ?_⟩
          rw [o_tups (small_le (by simp)), wp_some]
          have hu : GoodW a bs.length [(tr.1, []), (tr.2.1, [z1]), (tr.2.2, [z2, z3])] := good3 t1 t2 t3 y1 y2 y3
          refine (figure_ok (d := d + 3) G.figure G.part G.turns G.between (m0 := .tup (ms.map W.str)) (b0 := .tup []) (bs := bs) hb hnl (a := a) (u := [(tr.1, []), (tr.2.1, [z1]), (tr.2.2, [z2, z3])]) hu rfl).mono ?_
          rintro ⟨w10, S10⟩ ⟨q10, k10⟩
          simp only at q10 k10
          subst q10
          have e10 : S10[S5.length]? = some (.dic kvd) := k10.get _ _ e9
          have hl := hd.len
          obtain ⟨fs', hd'⟩ := hd.put (v := .bl true) (fig_mem (bs := bs) hu rfl)
          refine ⟨_, p_dic e10 (by rw [sizeLine_eq]; have := figs_lt hsz; omega), st_nil ?_⟩
          exact ⟨⟨_, _, _, rfl⟩, ⟨_, fs', at_set e10, hd'⟩, by rw [at_ne (by omega)]; exact k10.get _ _ hq9, (hm9.ka k10).set e10, by rw [at_ne (by omega)]; exact k10.get _ _ ht9, (f9.ka k10).own hrt, (k9.trans (k10.kp r)).late kk.len⟩
        · rintro ρ S9 ⟨⟨x9, x13, x14, rfl⟩, hdd, hq9, hm9, ht9, f9, k9⟩
          exact st_nil (After.nx (st_nil ⟨⟨_, _, _, _, _, _, rfl⟩, hdd, hq9, hm9, f9, k9⟩))
      · rintro ρ S6 ⟨⟨x9, x10, x11, x12, x13, x14, rfl⟩, ⟨kvd, fs, e6, hd⟩, hq6, hm6, f6, k6⟩
        refine st_ret ?_
        refine (fin_ok (i := 6) (t := 7) rfl rfl e6 hd hsz hml hnl hnm).mono ?_
        rintro ⟨w9, S9⟩ ⟨h1, h2⟩
        exact ⟨h1, f6.ka h2, k6.trans (h2.kp r)⟩
theorem rule_ok (hfu : 20 < fuel) (G : Gen defs) (hg : defs.lookup ("_law_rule" : Str) = some d__law_rule) (hf : Fl S r) : Wp (callD defs fuel (d + 8) "_law_rule" [.ref r] S) fun p => IsRule p.1 ∧ Fl p.2 r ∧ Kp r S p.2 := by
  refine call_rule hg rfl ?_
  unfold d__law_rule
  refine st_set ?_
  simp only [xE, Nat.reduceAdd, Nat.reduceSub, reduceCtorEq]
  refine (pick_ok (d := d + 6) G.pick hf (show (0 : Int) < 4 by decide) (by decide)).mono ?_
  rintro ⟨w1, S1⟩ ⟨v, q1, v0, v7, f1, k1⟩
  simp only at q1 f1 k1
  subst q1
  refine st_if ?_
  simp only [xE, Nat.reduceAdd, Nat.reduceSub, reduceCtorEq]
  simp only [k_eq, wp_some, W.bl.injEq, exists_eq_left']
  refine ⟨fun _ => st_ret ?_, fun _ => st_nil (After.nx (st_if ?_))⟩
  · simp only [xE, Nat.reduceAdd, Nat.reduceSub, reduceCtorEq]
    refine (laying_ok (d := d) hfu G f1).mono ?_
    rintro ⟨w2, S2⟩ ⟨h1, h2, h3⟩
    exact After.rt ⟨h1, h2, k1.trans h3⟩
  · simp only [xE, Nat.reduceAdd, Nat.reduceSub, reduceCtorEq]
    simp only [k_eq, wp_some, W.bl.injEq, exists_eq_left']
    refine ⟨fun _ => st_ret ?_, fun _ => st_nil (After.nx (st_ret ?_))⟩
    · simp only [xE, Nat.reduceAdd, Nat.reduceSub, reduceCtorEq]
      refine (unlaying_ok (d := d + 1) hfu G f1).mono ?_
      rintro ⟨w2, S2⟩ ⟨h1, h2, h3⟩
      exact After.rt ⟨h1, h2, k1.trans h3⟩
    · simp only [xE, Nat.reduceAdd, Nat.reduceSub, reduceCtorEq]
      refine (any_rule_ok (d := d + 1) hfu G f1).mono ?_
      rintro ⟨w2, S2⟩ ⟨h1, h2, h3⟩
      exact ⟨h1, h2, k1.trans h3⟩
end
end Mi
set_option Elab.async false
set_option linter.all false
set_option maxRecDepth 100000
namespace Mi
open PySem PySem.Spec PyProof.Rows L2
theorem GoodW.nil {a n : Nat} : GoodW a n [] := ⟨fun k p h => (by simp at h), fun k p h => (by simp at h), fun k p h => (by simp at h)⟩
theorem GoodW.snoc {a n : Nat} {u : Wd} {m : Int} {ws : List Int} (h : GoodW a n u) (h1 : 0 ≤ m ∧ m < a) (h2 : ws.length = u.length) (h3 : ∀ w ∈ ws, 0 ≤ w ∧ w < (n : Int)) : GoodW a n (u ++ [(m, ws)]) := by
  have key : ∀ (k : Nat) (p : Pt), (u ++ [(m, ws)])[k]? = some p → u[k]? = some p ∨ (k = u.length ∧ p = (m, ws)) := fun k p e => by
    rcases Nat.lt_or_ge k u.length with hk | hk
    · rw [List.getElem?_append_left hk] at e; exact .inl e
    · rw [List.getElem?_append_right hk] at e
      have : k - u.length = 0 := by
        have := (List.getElem?_eq_some_iff.mp e).1
        simp at this; omega
      rw [this] at e
      cases e
      exact .inr ⟨by omega, rfl⟩
  refine ⟨fun k p e => ?_, fun k p e => ?_, fun k p e => ?_⟩ <;> rcases key k p e with e | ⟨rfl, rfl⟩
  · exact h.mark k p e
  · exact h1
  · exact h.len k p e
  · exact h2
  · exact h.way k p e
  · exact h3
theorem GoodB.inv {bs : List Int} (h : GoodB bs) : ∀ k : Nat, k < bs.length → bs.getD (bs.getD k 0).toNat 0 = k := by
  rcases h with rfl | rfl | rfl | rfl | rfl | rfl <;> decide
theorem GoodB.getD {bs : List Int} (h : GoodB bs) {x : Int} (h0 : 0 ≤ x) (h1 : x < bs.length) : bs[x.toNat]? = some (bs.getD x.toNat 0) ∧ 0 ≤ bs.getD x.toNat 0 ∧ bs.getD x.toNat 0 < bs.length := by
  obtain ⟨b, h2, h3⟩ := h.rng x.toNat (by omega)
  rw [getD_some h2]
  exact ⟨h2, h3⟩
theorem btw_ok {a : Nat} {bs : List Int} {u : Wd} {i j : Nat} (hb : GoodB bs) (hu : GoodW a bs.length u) (hi : i < u.length) (hj : j < u.length) (hij : i ≠ j) : 0 ≤ btwF bs u i j ∧ btwF bs u i j < bs.length ∧ btwF bs u j i = bs.getD (btwF bs u i j).toNat 0 := by
  have one : ∀ i j : Nat, i < u.length → j < i → 0 ≤ ((u.getD i (0, [])).2).getD j 0 ∧ ((u.getD i (0, [])).2).getD j 0 < bs.length := fun i j hi hji => by
    have hpi : u[i]? = some u[i] := List.getElem?_eq_getElem hi
    have hw : j < u[i].2.length := by rw [hu.len i _ hpi]; exact hji
    rw [getD_some hpi, getD_some (List.getElem?_eq_getElem hw)]
    exact hu.way i _ hpi _ (List.getElem_mem hw)
  unfold btwF
  by_cases h : j < i
  · rw [if_pos h, if_neg (by omega)]
    obtain ⟨h1, h2⟩ := one i j hi h
    exact ⟨h1, h2, rfl⟩
  · rw [if_neg h, if_pos (by omega)]
    obtain ⟨h1, h2⟩ := one j i hj (by omega)
    obtain ⟨_, g1, g2⟩ := hb.getD h1 h2
    refine ⟨g1, g2, ?_⟩
    rw [hb.inv _ (by omega)]
    omega
section
variable {defs : List (Str × Df)} {fuel d : Nat} {S : Store} {r : Nat} {ρ : Fm}
theorem any_world_ok (hp : defs.lookup ("_law_pick" : Str) = some d__law_pick) (hg : defs.lookup ("_law_any_world" : Str) = some d__law_any_world) (hf : Fl S r) {a : Nat} {bs : List Int} {ms ns : List Str} {fs : List Wd} {many : Nat} (hs : SizeOk a bs) (hml : ms.length = a) (hnl : ns.length = bs.length) (hm : many ≤ 999) :
    Wp (callD defs fuel (d + 2) "_law_any_world" [.ref r, ruleW ms ns bs fs, .int many] S) fun p => ∃ u : Wd, p.1 = wdW u ∧ u.length = many ∧ GoodW a bs.length u ∧ Fl p.2 r ∧ Kp r S p.2 := by
  refine call_rule hg rfl ?_
  unfold d__law_any_world
  have hrt := hf.lt
  refine st_set ?_
  simp only [xE, Nat.reduceAdd, Nat.reduceSub, reduceCtorEq]
  refine ⟨Nat.zero_le _, st (for_any (i_rng ?_))⟩
  simp only [xE, Nat.reduceAdd, Nat.reduceSub, reduceCtorEq]
  have hn := hs.n3
  have ha := hs.pos
  have ha3 := hs.a3
  refine ⟨_, rfl, by omega, by omega, rngW 0 many, (fun k ρ S' => (∃ x4 x5, ρ = [some (.ref r), some (ruleW ms ns bs fs), some (.int many), some (.ref S.length), x4, x5]) ∧ (∃ u : Wd, S'[S.length]? = some (.lst (u.map ptW)) ∧ u.length = k ∧ GoodW a bs.length u) ∧ Fl S' r ∧ Kp r S S'), by simp, ⟨⟨_, _, rfl⟩, ⟨[], at_end, rfl, .nil⟩, hf.push, .push⟩, ?_, ?_⟩
  · rintro k w ρ S1 hw ⟨⟨x4, x5, rfl⟩, ⟨u, e1, hul, hu⟩, f1, k1⟩
    obtain ⟨hk, rfl⟩ := rng_at hw
    rw [g_nm]
    refine st_set ?_
    simp only [xE, Nat.reduceAdd, Nat.reduceSub, reduceCtorEq]
    rw [show ixX (ruleW ms ns bs fs) (.int 0) S1 = some (.tup (ms.map W.str), S1) from i_tup (by decide) rfl, wp_some]
    simp only [l_tup, wp_some, List.length_map, hml]
    refine (pick_ok (d := d) hp f1 (m := (a : Int)) (by omega) (by omega)).mono ?_
    rintro ⟨w2, S2⟩ ⟨mk, q2, m0, m1, f2, k2⟩
    simp only at q2 f2 k2
    subst q2
    refine st_ex ?_
    simp only [xE, Nat.reduceAdd, Nat.reduceSub, reduceCtorEq]
    have e2 := k2.get _ _ (by omega) e1
    refine ⟨ty_lst e2, ?_⟩
    refine comp_its (rngW 0 k) (fun i zs ρ2 S3 => (∃ a1, ρ2 = [none, a1, some (.ref r), some (ruleW ms ns bs fs)]) ∧ (∃ ws : List Int, zs = intsW ws ∧ ws.length = i ∧ ∀ w ∈ ws, 0 ≤ w ∧ w < (bs.length : Int)) ∧ Fl S3 r ∧ Kp r S2 S3) (i_rng ?_) ?_ ?_
    · simp only [xE, Nat.reduceAdd, Nat.reduceSub, reduceCtorEq]
      exact ⟨_, rfl, by omega, by omega, by simp, ⟨_, rfl⟩, ⟨[], rfl, rfl, fun _ h => (nomatch h)⟩, f2, .refl⟩
    · rintro i w zs ρ2 S3 hw ⟨⟨a1, rfl⟩, ⟨ws, rfl, hwl, hws⟩, f3, k3⟩
      rw [g_nm]
      simp only [c_nil, xE, Nat.reduceAdd, Nat.reduceSub, reduceCtorEq]
      rw [show ixX (ruleW ms ns bs fs) (.int 1) S3 = some (.tup (List.zipWith wayW ns bs), S3) from i_tup (by decide) rfl, wp_some]
      simp only [l_tup, wp_some]
      have hzl : (List.zipWith wayW ns bs).length = bs.length := by simp; omega
      rw [hzl]
      refine (pick_ok (d := d) hp f3 (m := (bs.length : Int)) (by omega) (by omega)).mono ?_
      rintro ⟨w4, S4⟩ ⟨x, q4, x0, x1, f4, k4⟩
      simp only at q4 f4 k4
      subst q4
      refine ⟨⟨_, rfl⟩, ⟨ws ++ [x], by simp [intsW], by simp; omega, fun w hw => ?_⟩, f4, k3.trans k4⟩
      rcases List.mem_append.mp hw with h | h
      · exact hws w h
      · rw [List.mem_singleton.mp h]; exact ⟨x0, x1⟩
    · rintro zs ρ2 S3 ⟨_, ⟨ws, rfl, hwl, hws⟩, f3, k3⟩
      rw [rng_len] at hwl
      refine ⟨small_le (by simp [intsW]; omega), ?_⟩
      rw [t_lst at_end, wp_some]
      simp only []
      have hlt := at_lt e2
      have e3 : (S3 ++ [O.lst (intsW ws)])[S.length]? = some (.lst (u.map ptW)) := at_old (k3.get _ _ (by omega) e2)
      refine ⟨small_le (by decide), ?_⟩
      rw [a_lst e3 (by rw [sizeLine_eq]; simp; omega), wp_some]
      refine st_nil ⟨⟨_, _, rfl⟩, ⟨u ++ [(mk, ws)], ?_, by simp; omega, hu.snoc ⟨m0, m1⟩ (by omega) hws⟩, f3.push.own hrt, ((k1.trans k2).trans (k3.trans .push)).late (Nat.le_refl _)⟩
      rw [at_set e3]
      simp [ptW, intsW]
  · rintro ρ S1 ⟨⟨x4, x5, rfl⟩, ⟨u, e1, hul, hu⟩, f1, k1⟩
    rw [rng_len] at hul
    refine st_ret ?_
    simp only [xE, Nat.reduceAdd, Nat.reduceSub, reduceCtorEq]
    rw [t_lst e1, wp_some]
    exact ⟨u, rfl, hul, hu, f1, k1⟩
theorem alike_int (hg : defs.lookup ("_law_alike" : Str) = some d__law_alike) {x y : Int} : Wp (callD defs fuel (d + 1) "_law_alike" [.int x, .int y] S) fun p => p = (.bl (x == y), S) := by
  refine call_rule hg rfl ?_
  unfold d__law_alike
  refine st_if ?_
  simp only [xE, Nat.reduceAdd, Nat.reduceSub, reduceCtorEq]
  rw [show copX .is (.int y) .non S = some (.bl false, S) from rfl, wp_some]
  simp only [W.bl.injEq, exists_eq_left']
  refine ⟨fun h => (nomatch h), fun _ => st_nil (After.nx (st_if ?_))⟩
  simp only [xE, Nat.reduceAdd, Nat.reduceSub, reduceCtorEq]
  have ib : ∀ z : Int, isW S (.int z) "bool" = some false := fun z => by rfl
  have ii : ∀ z : Int, isW S (.int z) "int" = some true := fun z => by rfl
  simp only [ib, Option.some.injEq, exists_eq_left', truW]
  refine ⟨fun h => (nomatch h), fun _ => ⟨fun h => (nomatch h), fun _ => st_nil (After.nx (st_if ?_))⟩⟩
  simp only [xE, Nat.reduceAdd, Nat.reduceSub, reduceCtorEq, ii, Option.some.injEq, exists_eq_left', truW]
  refine st_ret ?_
  simp only [xE, Nat.reduceAdd, Nat.reduceSub, reduceCtorEq, ii, Option.some.injEq, exists_eq_left', W.bl.injEq]
  rw [k_eq, wp_some]
  exact After.rt rfl
theorem way_ok (hd : defs.lookup ("way" : Str) = some d_way) {m0 b0 : W} {ns : List Str} {bs : List Int} {a : Nat} {u : Wd} {i j : Nat} (hb : GoodB bs) (hl : ns.length = bs.length) (hu : GoodW a bs.length u) (hi : i < u.length) (hj : j < u.length) (hij : i ≠ j) :
    Wp (callD defs fuel (d + 1) "way" [.tup [m0, .tup (List.zipWith wayW ns bs), b0], wdW u, .int i, .int j] S) fun p => p = (.int (btwF bs u i j), S) := by
  refine call_rule hd rfl ?_
  unfold d_way
  simp only [xE, sE, Nat.reduceAdd, Nat.reduceSub, reduceCtorEq]
  simp only [k_gt, wp_some, W.bl.injEq, exists_eq_left', wdW]
  have hpi : u[i]? = some u[i] := List.getElem?_eq_getElem hi
  have hpj : u[j]? = some u[j] := List.getElem?_eq_getElem hj
  refine ⟨fun h => ?_, fun h => ?_⟩
  · have hji : j < i := by have := of_decide_eq_true h; omega
    have hw : j < u[i].2.length := by rw [hu.len i _ hpi]; exact hji
    rw [i_tup (by omega) (w := ptW u[i]) (by simp [hi]), wp_some]
    simp only [ptW]
    rw [i_tup (by decide) (w := .tup (u[i].2.map W.int)) rfl, wp_some]
    simp only []
    rw [i_tup (by omega) (w := .int u[i].2[j]) (by simp [hw]), wp_some]
    simp [btwF, hji, hi, hw]
  · have hij' : i < j := by have := of_decide_eq_false h; omega
    have hw : i < u[j].2.length := by rw [hu.len j _ hpj]; exact hij'
    obtain ⟨g1, g2⟩ := hu.way j _ hpj u[j].2[i] (List.getElem_mem hw)
    obtain ⟨b, hb1, hb2, hb3⟩ := hb.rng u[j].2[i].toNat (by omega)
    have hn : (u[j].2[i].toNat) < ns.length := by omega
    rw [i_tup (by decide) (w := .tup (List.zipWith wayW ns bs)) rfl, wp_some]
    simp only []
    rw [i_tup (by omega) (w := ptW u[j]) (by simp [hj]), wp_some]
    simp only [ptW]
    rw [i_tup (by decide) (w := .tup (u[j].2.map W.int)) rfl, wp_some]
    simp only []
    rw [i_tup (by omega) (w := .int u[j].2[i]) (by simp [hw]), wp_some]
    simp only []
    rw [i_tup g1 (w := wayW ns[u[j].2[i].toNat] b) (way_at (List.getElem?_eq_getElem hn) hb1), wp_some]
    simp only [wayW]
    rw [i_tup (by decide) (w := .int b) rfl, wp_some]
    have hji : ¬ j < i := by omega
    simp [btwF, hji, hj, hw, hb1]
theorem back_at {ns : List Str} {bs : List Int} {x : Int} {Q : QW} (hb : GoodB bs) (hl : ns.length = bs.length) (h0 : 0 ≤ x) (h1 : x < bs.length) : (Wp (ixX (.tup (List.zipWith wayW ns bs)) (.int x) S) fun q => Wp (ixX q.1 (.int 1) q.2) Q) ↔ Q (.int (bs.getD x.toNat 0), S) := by
  obtain ⟨g1, g2, g3⟩ := hb.getD h0 h1
  rw [i_tup h0 (w := wayW (ns[x.toNat]'(by omega)) (bs.getD x.toNat 0)) (way_at (List.getElem?_eq_getElem (by omega)) g1), wp_some]
  simp only [wayW]
  rw [i_tup (by decide) (w := .int (bs.getD x.toNat 0)) rfl, wp_some]
theorem back_ok (hd : defs.lookup ("back" : Str) = some d_back) {m0 b0 : W} {ns : List Str} {bs : List Int} {x : Int} (hb : GoodB bs) (hl : ns.length = bs.length) (h0 : 0 ≤ x) (h1 : x < bs.length) :
    Wp (callD defs fuel (d + 1) "back" [.tup [m0, .tup (List.zipWith wayW ns bs), b0], .int x] S) fun p => p = (.int (bs.getD x.toNat 0), S) := by
  refine call_rule hd rfl ?_
  unfold d_back
  refine st_ret ?_
  simp only [xE, Nat.reduceAdd, Nat.reduceSub, reduceCtorEq]
  rw [i_tup (by decide) (w := .tup (List.zipWith wayW ns bs)) rfl, wp_some]
  rw [back_at hb hl h0 h1]
end
end Mi
set_option Elab.async false
set_option linter.all false
set_option maxRecDepth 100000
namespace Mi
open PySem PySem.Spec PyProof.Rows L2
structure PairAt (w : W) (a : Nat) (bs : List Int) (ms ns : List Str) (gs : List Wd) (u : Wd) : Prop where
  eq : w = .tup [ruleW ms ns bs (sortF gs), wdW u]
  rule : RuleAt a bs ms ns gs
  good : GoodW a bs.length u
  two : 2 ≤ u.length
  most : u.length ≤ 999
noncomputable def IsPair (w : W) : Prop := ∃ a bs ms ns gs u, PairAt w a bs ms ns gs u
structure AskAt (w : W) (a : Nat) (bs : List Int) (ms ns : List Str) (gs : List Wd) (u : Wd) (i j : Nat) : Prop where
  eq : w = .tup [ruleW ms ns bs (sortF gs), wdW u, .int i, .int j]
  rule : RuleAt a bs ms ns gs
  good : GoodW a bs.length u
  i1 : i < u.length
  j1 : j < u.length
  ne : i ≠ j
noncomputable def IsAsk (w : W) : Prop := ∃ a bs ms ns gs u i j, AskAt w a bs ms ns gs u i j
section
variable {defs : List (Str × Df)} {fuel d : Nat} {S : Store} {r : Nat} {ρ : Fm}
theorem flow_ok (hg : defs.lookup ("_law_flow" : Str) = some d__law_flow) {t : Nat} {xs : List Int} (h : S[t]? = some (.fro (xs.map W.int))) : Wp (callD defs fuel (d + 1) "_law_flow" [.ref t] S) fun p => ∃ r, p.1 = .ref r ∧ Fl p.2 r := by
  refine call_rule hg rfl ?_
  unfold d__law_flow
  refine st_ret ?_
  simp only [xE, Nat.reduceAdd, Nat.reduceSub, reduceCtorEq]
  have hl : listX [.ref t] S = some (.ref S.length, S ++ [.lst (xs.map W.int)]) := by
    have : rdD S t = none := by simp [rdD, h]
    simp only [listX, this, listW, seqOf, rdL_fro h]
  rw [hl, wp_some]
  refine ⟨small_le (by decide), _, rfl, S.length, xs, 0, 0, 1, 0, at_end, at_old at_end, by simp, by decide, by decide, by decide, by decide⟩
theorem holds_ok (hbt : defs.lookup ("_law_between" : Str) = some d__law_between) (hal : defs.lookup ("_law_alike" : Str) = some d__law_alike) (hw : defs.lookup ("way" : Str) = some d_way) (hbk : defs.lookup ("back" : Str) = some d_back) (hh : defs.lookup ("_law_holds" : Str) = some d__law_holds)
    {ms ns : List Str} {bs : List Int} {fs : List Wd} {a : Nat} {u : Wd} {i j : Nat} (hb : GoodB bs) (hl : ns.length = bs.length) (hu : GoodW a bs.length u) (hi : i < u.length) (hj : j < u.length) (hij : i ≠ j) :
    Wp (callD defs fuel (d + 2) "_law_holds" [ruleW ms ns bs fs, wdW u, .int i, .int j] S) fun p => p = (.bl true, S) := by
  refine call_rule hh rfl ?_
  unfold d__law_holds ruleW
  obtain ⟨D0, D1, D2⟩ := btw_ok hb hu hi hj hij
  obtain ⟨_, E0, E1⟩ := hb.getD D0 D1
  have inv : bs.getD (bs.getD (btwF bs u i j).toNat 0).toNat 0 = btwF bs u i j := by
    rw [hb.inv _ (by omega)]; omega
  refine st_set ?_
  simp only [xE, Nat.reduceAdd, Nat.reduceSub, reduceCtorEq]
  refine (between_ok (d := d) hbt hb hl hu hi hj hij).mono ?_
  rintro ⟨w1, S1⟩ e
  injection e with q1 q2
  subst q1; subst q2
  refine st_set ?_
  simp only [xE, Nat.reduceAdd, Nat.reduceSub, reduceCtorEq]
  rw [i_tup (by decide) (w := .tup (List.zipWith wayW ns bs)) rfl, wp_some]
  simp only []
  rw [back_at hb hl D0 D1]
  refine st_if ?_
  simp only [xE, Nat.reduceAdd, Nat.reduceSub, reduceCtorEq]
  refine (way_ok (d := d) hw hb hl hu hi hj hij).mono ?_
  rintro ⟨w1, S1⟩ e
  injection e with q1 q2
  subst q1; subst q2
  refine (alike_int (d := d) hal).mono ?_
  rintro ⟨w1, S1⟩ e
  injection e with q1 q2
  subst q1; subst q2
  refine ⟨true, by simp [truW], fun h => (nomatch h), fun _ => ?_⟩
  refine (way_ok (d := d) hw hb hl hu hj hi (Ne.symm hij)).mono ?_
  rintro ⟨w1, S1⟩ e
  injection e with q1 q2
  subst q1; subst q2
  refine (alike_int (d := d) hal).mono ?_
  rintro ⟨w1, S1⟩ e
  injection e with q1 q2
  subst q1; subst q2
  refine ⟨true, by simp [truW, D2], fun h => (nomatch h), fun _ => st_nil (After.nx (st_ret ?_))⟩
  simp only [xE, Nat.reduceAdd, Nat.reduceSub, reduceCtorEq]
  refine (back_ok (d := d) hbk hb hl D0 D1).mono ?_
  rintro ⟨w1, S1⟩ e
  injection e with q1 q2
  subst q1; subst q2
  refine (alike_int (d := d) hal).mono ?_
  rintro ⟨w1, S1⟩ e
  injection e with q1 q2
  subst q1; subst q2
  refine ⟨true, by simp, fun _ => ?_, fun h => (nomatch h)⟩
  refine (back_ok (d := d) hbk hb hl E0 E1).mono ?_
  rintro ⟨w1, S1⟩ e
  injection e with q1 q2
  subst q1; subst q2
  refine (alike_int (d := d) hal).mono ?_
  rintro ⟨w1, S1⟩ e
  injection e with q1 q2
  subst q1; subst q2
  rw [inv]
  simp
structure Law (defs : List (Str × Df)) : Prop where
  gen : Gen defs
  rule : defs.lookup ("_law_rule" : Str) = some d__law_rule
  world : defs.lookup ("_law_any_world" : Str) = some d__law_any_world
  flow : defs.lookup ("_law_flow" : Str) = some d__law_flow
  alike : defs.lookup ("_law_alike" : Str) = some d__law_alike
  holds : defs.lookup ("_law_holds" : Str) = some d__law_holds
  way : defs.lookup ("way" : Str) = some d_way
  back : defs.lookup ("back" : Str) = some d_back
  law : defs.lookup ("law" : Str) = some d_law
theorem law_ok (hfu : 20 < fuel) (L : Law defs) {xs : List Int} : Wp (callD defs fuel (d + 9) "law" [.ref 0] [.fro (xs.map W.int)]) fun p => p.1 = .bl true := by
  have G := L.gen
  refine call_rule L.law rfl ?_
  unfold d_law
  refine st_set ?_
  simp only [xE, Nat.reduceAdd, Nat.reduceSub, reduceCtorEq]
  refine (flow_ok (d := d + 7) L.flow (t := 0) rfl).mono ?_
  rintro ⟨w1, S1⟩ ⟨r, q1, f1⟩
  simp only at q1 f1
  subst q1
  refine st_set ?_
  simp only [xE, Nat.reduceAdd, Nat.reduceSub, reduceCtorEq]
  refine ⟨Nat.zero_le _, ?_⟩
  have hrt := f1.lt
  refine st (for_any (i_rng ?_))
  simp only [xE, Nat.reduceAdd, Nat.reduceSub, reduceCtorEq]
  refine ⟨_, rfl, by decide, by decide, rngW 0 2, (fun k ρ S' => (∃ x3 x4 x5, ρ = [some (.ref 0), some (.ref r), some (.ref S1.length), x3, x4, x5, none, none, none, none]) ∧ (∃ ps, S'[S1.length]? = some (.lst ps) ∧ ps.length = k ∧ ∀ p ∈ ps, IsPair p) ∧ Fl S' r), rfl, ⟨⟨_, _, _, rfl⟩, ⟨[], at_end, rfl, fun _ h => (nomatch h)⟩, f1.push⟩, ?_, ?_⟩
  · rintro k w ρ S2 hw ⟨⟨x3, x4, x5, rfl⟩, ⟨ps, e2, hpl, hps⟩, f2⟩
    obtain ⟨hk, rfl⟩ := rng_at hw
    rw [g_nm]
    refine st_set ?_
    simp only [xE, Nat.reduceAdd, Nat.reduceSub, reduceCtorEq]
    refine (rule_ok (d := d) hfu G L.rule f2).mono ?_
    rintro ⟨w3, S3⟩ ⟨⟨a, bs, ms, ns, gs, q3, hr⟩, f3, k3⟩
    simp only at q3 f3 k3
    subst q3
    have e3 := k3.get _ _ (by omega) e2
    refine st_set ?_
    simp only [xE, Nat.reduceAdd, Nat.reduceSub, reduceCtorEq]
    refine (pick_ok (d := d + 7) G.pick f3 (show (0 : Int) < 8 by decide) (by decide)).mono ?_
    rintro ⟨w4, S4⟩ ⟨v4, q4, v40, v48, f4, k4⟩
    simp only at q4 f4 k4
    subst q4
    simp only [o_add, wp_some]
    have e4 := k4.get _ _ (by omega) e3
    obtain ⟨m4, hm4⟩ : ∃ m : Nat, 2 + v4 = m := ⟨(2 + v4).toNat, by omega⟩
    rw [hm4]
    have tail : ∀ (Q' : QO) (m : Nat) (S5 : Store), 2 ≤ m → m ≤ 999 → S5[S1.length]? = some (.lst ps) → Fl S5 r → Wp (evSs (callD defs fuel (d + 8)) fuel (.cons (.ex (.me .append (.v 2) (.cons (.tup (.cons (.v 4) (.cons (.own "_law_any_world" 3 (.cons (.v 1) (.cons (.v 4) (.cons (.v 5) .nil)))) .nil))) .nil))) .nil) [some (.ref 0), some (.ref r), some (.ref S1.length), some (.int k), some (ruleW ms ns bs (sortF gs)), some (.int m), none, none, none, none] S5) (AfterB (fun ρ S' => (∃ x3 x4 x5, ρ = [some (.ref 0), some (.ref r), some (.ref S1.length), x3, x4, x5, none, none, none, none]) ∧ (∃ ps, S'[S1.length]? = some (.lst ps) ∧ ps.length = k + 1 ∧ ∀ p ∈ ps, IsPair p) ∧ Fl S' r) Q') := by
      intro Q' m S5 hm2 hm9 e5 f5
      refine st_ex ?_
      simp only [xE, Nat.reduceAdd, Nat.reduceSub, reduceCtorEq]
      refine ⟨ty_lst e5, ?_⟩
      refine (any_world_ok (d := d + 6) G.pick L.world f5 hr.size hr.ml hr.nl hm9).mono ?_
      rintro ⟨w6, S6⟩ ⟨u, q6, hul, hu, f6, k6⟩
      simp only at q6 f6 k6
      subst q6
      have e6 := k6.get _ _ (by omega) e5
      refine ⟨small_le (by decide), ?_⟩
      rw [a_lst e6 (by rw [sizeLine_eq]; omega), wp_some]
      refine st_nil ⟨⟨_, _, _, rfl⟩, ⟨_, at_set e6, by simp; omega, fun p hp => ?_⟩, f6.own hrt⟩
      rcases List.mem_append.mp hp with hp | hp
      · exact hps p hp
      · rw [List.mem_singleton.mp hp]
        exact ⟨a, bs, ms, ns, gs, u, rfl, hr, hu, by omega, by omega⟩
    refine st_if ?_
    simp only [xE, Nat.reduceAdd, Nat.reduceSub, reduceCtorEq]
    refine (pick_ok (d := d + 7) G.pick f4 (show (0 : Int) < 8 by decide) (by decide)).mono ?_
    rintro ⟨w5, S5⟩ ⟨v5, q5, v50, v58, f5, k5⟩
    simp only at q5 f5 k5
    subst q5
    simp only [k_eq, wp_some, W.bl.injEq, exists_eq_left']
    have e5 := k5.get _ _ (by omega) e4
    refine ⟨fun _ => st_set ?_, fun _ => st_nil (After.nx (tail _ m4 S5 (by omega) (by omega) e5 f5))⟩
    simp only [xE, Nat.reduceAdd, Nat.reduceSub, reduceCtorEq]
    refine (pick_ok (d := d + 7) G.pick f5 (show (0 : Int) < 29 by decide) (by decide)).mono ?_
    rintro ⟨w6, S6⟩ ⟨v6, q6, v60, v68, f6, k6⟩
    simp only at q6 f6 k6
    subst q6
    simp only [o_add, wp_some]
    obtain ⟨m6, hm6⟩ : ∃ m : Nat, 2 + v6 = m := ⟨(2 + v6).toNat, by omega⟩
    rw [hm6]
    exact st_nil (After.nx (tail _ m6 S6 (by omega) (by omega) (k6.get _ _ (by omega) e5) f6))
  · rintro ρ S2 ⟨⟨x3, x4, x5, rfl⟩, ⟨ps, e2, hpl, hps⟩, f2⟩
    rw [rng_len] at hpl
    refine st_set ?_
    simp only [xE, Nat.reduceAdd, Nat.reduceSub, reduceCtorEq]
    refine ⟨Nat.zero_le _, ?_⟩
    refine st (for_any (i_rng ?_))
    simp only [xE, Nat.reduceAdd, Nat.reduceSub, reduceCtorEq]
    have h12 := at_lt e2
    refine ⟨_, rfl, by decide, by decide, rngW 0 8, (fun k ρ S' => (∃ x3 x4 x5 x7 x8 x9, ρ = [some (.ref 0), some (.ref r), some (.ref S1.length), x3, x4, x5, some (.ref S2.length), x7, x8, x9]) ∧ S'[S1.length]? = some (.lst ps) ∧ (∃ as, S'[S2.length]? = some (.lst as) ∧ as.length = k ∧ ∀ p ∈ as, IsAsk p) ∧ Fl S' r), rfl, ⟨⟨_, _, _, _, _, _, rfl⟩, at_old e2, ⟨[], at_end, rfl, fun _ h => (nomatch h)⟩, f2.push⟩, ?_, ?_⟩
    · rintro k w ρ S3 hw ⟨⟨x3, x4, x5, x7, x8, x9, rfl⟩, p3, ⟨as, a3, hal, has⟩, f3⟩
      obtain ⟨hk, rfl⟩ := rng_at hw
      rw [g_nm]
      refine st_asg ?_
      simp only [xE, Nat.reduceAdd, Nat.reduceSub, reduceCtorEq]
      refine (pick_ok (d := d + 7) G.pick f3 (show (0 : Int) < 2 by decide) (by decide)).mono ?_
      rintro ⟨w4, S4⟩ ⟨v4, q4, v40, v42, f4, k4⟩
      simp only at q4 f4 k4
      subst q4
      have hv : v4.toNat < ps.length := by omega
      rw [i_lst (k4.get _ _ (by omega) p3) v40 (w := ps[v4.toNat]) (List.getElem?_eq_getElem hv), wp_some]
      obtain ⟨a, bs, ms, ns, gs, u, hp⟩ := hps _ (List.getElem_mem hv)
      refine ⟨_, _, hp.eq, rfl, st_set ?_⟩
      have htwo := hp.two
      have hmost := hp.most
      simp only [xE, Nat.reduceAdd, Nat.reduceSub, reduceCtorEq, wdW]
      simp only [l_tup, wp_some, List.length_map]
      refine (pick_ok (d := d + 7) G.pick f4 (m := (u.length : Int)) (by omega) (by omega)).mono ?_
      rintro ⟨w5, S5⟩ ⟨v5, q5, v50, v51, f5, k5⟩
      simp only at q5 f5 k5
      subst q5
      refine st_set ?_
      simp only [xE, Nat.reduceAdd, Nat.reduceSub, reduceCtorEq]
      simp only [l_tup, wp_some, List.length_map, o_add, o_sub]
      refine (pick_ok (d := d + 7) G.pick f5 (m := (u.length : Int) - 1) (by omega) (by omega)).mono ?_
      rintro ⟨w6, S6⟩ ⟨v6, q6, v60, v61, f6, k6⟩
      simp only at q6 f6 k6
      subst q6
      simp only [l_tup, wp_some, List.length_map, o_add]
      rw [o_mod (by omega), wp_some]
      refine st_ex ?_
      simp only [xE, Nat.reduceAdd, Nat.reduceSub, reduceCtorEq]
      have a6 : S6[S2.length]? = some (.lst as) := k6.get _ _ (by omega) (k5.get _ _ (by omega) (k4.get _ _ (by omega) a3))
      have p6 : S6[S1.length]? = some (.lst ps) := k6.get _ _ (by omega) (k5.get _ _ (by omega) (k4.get _ _ (by omega) p3))
      refine ⟨ty_lst a6, small_le (by decide), ?_⟩
      rw [a_lst a6 (by rw [sizeLine_eq]; omega), wp_some]
      refine st_nil ⟨⟨_, _, _, _, _, _, rfl⟩, by rw [at_ne (by omega)]; exact p6, ⟨_, at_set a6, by simp; omega, fun p hp' => ?_⟩, f6.own (by omega)⟩
      rcases List.mem_append.mp hp' with h | h
      · exact has p h
      · rw [List.mem_singleton.mp h]
        have hj0 : 0 ≤ (v5 + 1 + v6) % (u.length : Int) := Int.emod_nonneg _ (by omega)
        have hj1 : (v5 + 1 + v6) % (u.length : Int) < u.length := Int.emod_lt_of_pos _ (by omega)
        have hne : (v5 + 1 + v6) % (u.length : Int) ≠ v5 := by
          rcases Int.lt_or_le (v5 + 1 + v6) u.length with h | h
          · rw [Int.emod_eq_of_lt (by omega) h]; omega
          · rw [← Int.sub_emod_right, Int.emod_eq_of_lt (by omega) (by omega)]; omega
        refine ⟨a, bs, ms, ns, gs, u, v5.toNat, ((v5 + 1 + v6) % (u.length : Int)).toNat, ?_, hp.rule, hp.good, by omega, by omega, by omega⟩
        rw [Int.toNat_of_nonneg v50, Int.toNat_of_nonneg hj0]
        rfl
    · rintro ρ S3 ⟨⟨x3, x4, x5, x7, x8, x9, rfl⟩, p3, ⟨as, a3, hal, has⟩, f3⟩
      rw [rng_len] at hal
      refine stA (for_anyL (i_seqL ?_))
      simp only [xE, Nat.reduceAdd, Nat.reduceSub, reduceCtorEq]
      have hsl : slW (.ref S2.length) none (some ((1 : Nat) : Int)) S3 = some (.ref S3.length, S3 ++ [.lst (as.take 1)]) := by
        simp only [slW, rdL_lst a3, cut_take]
      rw [show (some (1 : Int)) = some ((1 : Nat) : Int) from rfl, hsl, wp_some]
      simp only []
      rw [o_lsts (at_old a3) at_end (small_le (by simp; omega)), wp_some]
      refine ⟨_, _, rfl, rdL_lst at_end, _, as ++ as.take 1, (fun k ρ S' => (∃ x4 x7 x8 x9, ρ = [some (.ref 0), some (.ref r), some (.ref S1.length), x3, x4, x5, some (.ref S2.length), x7, x8, x9]) ∧ S'[(S3 ++ [O.lst (as.take 1)]).length]? = some (.lst (as ++ as.take 1))), rfl, ?_, ⟨⟨_, _, _, _, rfl⟩, at_end⟩, ?_, ?_⟩
      · rintro i ρ S' ⟨_, h⟩
        exact rdL_lst h
      · rintro i w ρ S4 hw ⟨⟨x4, x7, x8, x9, rfl⟩, e4⟩
        have hmem : w ∈ as := by
          rcases List.mem_append.mp (List.mem_of_getElem? hw) with h | h
          · exact h
          · exact List.mem_of_mem_take h
        obtain ⟨a, bs, ms, ns, gs, u, i1, j1, hA⟩ := has w hmem
        rw [hA.eq, g_tp]
        refine ⟨_, rfl, st_if ?_⟩
        simp only [xE, Nat.reduceAdd, Nat.reduceSub, reduceCtorEq]
        refine (holds_ok (d := d + 6) G.between L.alike L.way L.back L.holds hA.rule.size.good hA.rule.nl hA.good hA.i1 hA.j1 hA.ne).mono ?_
        rintro ⟨w5, S5⟩ e
        injection e with q1 q2
        subst q1; subst q2
        refine ⟨true, rfl, fun h => (nomatch h), fun _ => st_nil (After.nx (st_nil ⟨⟨_, _, _, _, rfl⟩, e4⟩))⟩
      · rintro ρ S4 ⟨⟨x4, x7, x8, x9, rfl⟩, e4⟩
        refine After.nx (st_ret ?_)
        simp only [xE, Nat.reduceAdd, Nat.reduceSub, reduceCtorEq]
end
end Mi
set_option Elab.async false
set_option linter.all false
set_option maxRecDepth 100000
namespace Mi
open PySem PySem.Spec PyProof.Rows L2
section
variable {defs : List (Str × Df)} {fuel d : Nat} {S : Store} {r : Nat} {Q : QW}
end
section
variable {Φ : Str → FF} {fuel : Nat} {ρ : Fm} {S : Store} {ss : Ss} {Q : QO}
end
end Mi
set_option Elab.async false
set_option linter.all false
set_option maxRecDepth 100000
namespace Mi
open PySem PySem.Spec PyProof.Rows L2
noncomputable def top (i : Nat) : Stmt := PySem.Challenge.pw_layworld_k05_ways_and_ways_back.main.body.getD i (.Pass ⟨0, 0, 0, 0⟩)
noncomputable def defsT : List (Str × Df) := [("way", d_way), ("back", d_back), ("_law_flow", d__law_flow), ("_law_pick", d__law_pick), ("_law_letters", d__law_letters), ("_law_name", d__law_name), ("_law_names", d__law_names), ("_law_between", d__law_between), ("_law_part", d__law_part), ("_law_turns", d__law_turns), ("_law_figure", d__law_figure), ("_law_backs", d__law_backs), ("_law_rule_of", d__law_rule_of), ("_law_free_three", d__law_free_three), ("_law_sizes", d__law_sizes), ("_law_any_rule", d__law_any_rule), ("_law_laying_kind", d__law_laying_kind), ("_law_breaks", d__law_breaks), ("_law_numbered", d__law_numbered), ("_law_laying_rule", d__law_laying_rule), ("_law_rising", d__law_rising), ("_law_free_rule", d__law_free_rule), ("_law_one_way_rule", d__law_one_way_rule), ("_law_unlaying_rule", d__law_unlaying_rule), ("_law_any_world", d__law_any_world), ("_law_alike", d__law_alike), ("_law_rule", d__law_rule), ("_law_holds", d__law_holds), ("law", d_law)]
noncomputable def fnsT : List (Str × Nat) := [("way", 4), ("back", 2), ("_law_flow", 1), ("_law_pick", 2), ("_law_letters", 2), ("_law_name", 2), ("_law_names", 2), ("_law_between", 4), ("_law_part", 3), ("_law_turns", 0), ("_law_figure", 2), ("_law_backs", 2), ("_law_rule_of", 4), ("_law_free_three", 3), ("_law_sizes", 1), ("_law_any_rule", 1), ("_law_laying_kind", 1), ("_law_breaks", 5), ("_law_numbered", 3), ("_law_laying_rule", 1), ("_law_rising", 1), ("_law_free_rule", 1), ("_law_one_way_rule", 1), ("_law_unlaying_rule", 1), ("_law_any_world", 3), ("_law_alike", 2), ("_law_rule", 1), ("_law_holds", 4), ("law", 1)]
noncomputable def bltT : List Str := ["range", "len", "list", "tuple", "abs", "int", "all", "any", "min", "sorted", "isinstance", "bool", "str", "dict"]
theorem is_way : isDf fnsT bltT (top 1) d_way := by rfl
theorem sc_way : FnScope d_way.N d_way.ps (defScope (top 1)) := ⟨rfl, rfl, rfl, by decide +kernel, rfl, by decide +kernel, by decide +kernel⟩
theorem is_back : isDf fnsT bltT (top 3) d_back := by rfl
theorem sc_back : FnScope d_back.N d_back.ps (defScope (top 3)) := ⟨rfl, rfl, rfl, by decide +kernel, rfl, by decide +kernel, by decide +kernel⟩
theorem is__law_flow : isDf fnsT bltT (top 5) d__law_flow := by rfl
theorem sc__law_flow : FnScope d__law_flow.N d__law_flow.ps (defScope (top 5)) := ⟨rfl, rfl, rfl, by decide +kernel, rfl, by decide +kernel, by decide +kernel⟩
theorem is__law_pick : isDf fnsT bltT (top 6) d__law_pick := by rfl
theorem sc__law_pick : FnScope d__law_pick.N d__law_pick.ps (defScope (top 6)) := ⟨rfl, rfl, rfl, by decide +kernel, rfl, by decide +kernel, by decide +kernel⟩
theorem is__law_letters : isDf fnsT bltT (top 7) d__law_letters := by rfl
theorem sc__law_letters : FnScope d__law_letters.N d__law_letters.ps (defScope (top 7)) := ⟨rfl, rfl, rfl, by decide +kernel, rfl, by decide +kernel, by decide +kernel⟩
theorem is__law_name : isDf fnsT bltT (top 8) d__law_name := by rfl
theorem sc__law_name : FnScope d__law_name.N d__law_name.ps (defScope (top 8)) := ⟨rfl, rfl, rfl, by decide +kernel, rfl, by decide +kernel, by decide +kernel⟩
theorem is__law_names : isDf fnsT bltT (top 9) d__law_names := by rfl
theorem sc__law_names : FnScope d__law_names.N d__law_names.ps (defScope (top 9)) := ⟨rfl, rfl, rfl, by decide +kernel, rfl, by decide +kernel, by decide +kernel⟩
theorem is__law_between : isDf fnsT bltT (top 10) d__law_between := by rfl
theorem sc__law_between : FnScope d__law_between.N d__law_between.ps (defScope (top 10)) := ⟨rfl, rfl, rfl, by decide +kernel, rfl, by decide +kernel, by decide +kernel⟩
theorem is__law_part : isDf fnsT bltT (top 11) d__law_part := by rfl
theorem sc__law_part : FnScope d__law_part.N d__law_part.ps (defScope (top 11)) := ⟨rfl, rfl, rfl, by decide +kernel, rfl, by decide +kernel, by decide +kernel⟩
theorem is__law_turns : isDf fnsT bltT (top 12) d__law_turns := by rfl
theorem sc__law_turns : FnScope d__law_turns.N d__law_turns.ps (defScope (top 12)) := ⟨rfl, rfl, rfl, by decide +kernel, rfl, by decide +kernel, by decide +kernel⟩
theorem is__law_figure : isDf fnsT bltT (top 13) d__law_figure := by rfl
theorem sc__law_figure : FnScope d__law_figure.N d__law_figure.ps (defScope (top 13)) := ⟨rfl, rfl, rfl, by decide +kernel, rfl, by decide +kernel, by decide +kernel⟩
theorem is__law_backs : isDf fnsT bltT (top 14) d__law_backs := by rfl
theorem sc__law_backs : FnScope d__law_backs.N d__law_backs.ps (defScope (top 14)) := ⟨rfl, rfl, rfl, by decide +kernel, rfl, by decide +kernel, by decide +kernel⟩
theorem is__law_rule_of : isDf fnsT bltT (top 15) d__law_rule_of := by rfl
theorem sc__law_rule_of : FnScope d__law_rule_of.N d__law_rule_of.ps (defScope (top 15)) := ⟨rfl, rfl, rfl, by decide +kernel, rfl, by decide +kernel, by decide +kernel⟩
theorem is__law_free_three : isDf fnsT bltT (top 16) d__law_free_three := by rfl
theorem sc__law_free_three : FnScope d__law_free_three.N d__law_free_three.ps (defScope (top 16)) := ⟨rfl, rfl, rfl, by decide +kernel, rfl, by decide +kernel, by decide +kernel⟩
theorem is__law_sizes : isDf fnsT bltT (top 17) d__law_sizes := by rfl
theorem sc__law_sizes : FnScope d__law_sizes.N d__law_sizes.ps (defScope (top 17)) := ⟨rfl, rfl, rfl, by decide +kernel, rfl, by decide +kernel, by decide +kernel⟩
theorem is__law_any_rule : isDf fnsT bltT (top 18) d__law_any_rule := by rfl
theorem sc__law_any_rule : FnScope d__law_any_rule.N d__law_any_rule.ps (defScope (top 18)) := ⟨rfl, rfl, rfl, by decide +kernel, rfl, by decide +kernel, by decide +kernel⟩
theorem is__law_laying_kind : isDf fnsT bltT (top 19) d__law_laying_kind := by rfl
theorem sc__law_laying_kind : FnScope d__law_laying_kind.N d__law_laying_kind.ps (defScope (top 19)) := ⟨rfl, rfl, rfl, by decide +kernel, rfl, by decide +kernel, by decide +kernel⟩
theorem is__law_breaks : isDf fnsT bltT (top 20) d__law_breaks := by rfl
theorem sc__law_breaks : FnScope d__law_breaks.N d__law_breaks.ps (defScope (top 20)) := ⟨rfl, rfl, rfl, by decide +kernel, rfl, by decide +kernel, by decide +kernel⟩
theorem is__law_numbered : isDf fnsT bltT (top 21) d__law_numbered := by rfl
theorem sc__law_numbered : FnScope d__law_numbered.N d__law_numbered.ps (defScope (top 21)) := ⟨rfl, rfl, rfl, by decide +kernel, rfl, by decide +kernel, by decide +kernel⟩
theorem is__law_laying_rule : isDf fnsT bltT (top 22) d__law_laying_rule := by rfl
theorem sc__law_laying_rule : FnScope d__law_laying_rule.N d__law_laying_rule.ps (defScope (top 22)) := ⟨rfl, rfl, rfl, by decide +kernel, rfl, by decide +kernel, by decide +kernel⟩
theorem is__law_rising : isDf fnsT bltT (top 23) d__law_rising := by rfl
theorem sc__law_rising : FnScope d__law_rising.N d__law_rising.ps (defScope (top 23)) := ⟨rfl, rfl, rfl, by decide +kernel, rfl, by decide +kernel, by decide +kernel⟩
theorem is__law_free_rule : isDf fnsT bltT (top 24) d__law_free_rule := by rfl
theorem sc__law_free_rule : FnScope d__law_free_rule.N d__law_free_rule.ps (defScope (top 24)) := ⟨rfl, rfl, rfl, by decide +kernel, rfl, by decide +kernel, by decide +kernel⟩
theorem is__law_one_way_rule : isDf fnsT bltT (top 25) d__law_one_way_rule := by rfl
theorem sc__law_one_way_rule : FnScope d__law_one_way_rule.N d__law_one_way_rule.ps (defScope (top 25)) := ⟨rfl, rfl, rfl, by decide +kernel, rfl, by decide +kernel, by decide +kernel⟩
theorem is__law_unlaying_rule : isDf fnsT bltT (top 26) d__law_unlaying_rule := by rfl
theorem sc__law_unlaying_rule : FnScope d__law_unlaying_rule.N d__law_unlaying_rule.ps (defScope (top 26)) := ⟨rfl, rfl, rfl, by decide +kernel, rfl, by decide +kernel, by decide +kernel⟩
theorem is__law_any_world : isDf fnsT bltT (top 27) d__law_any_world := by rfl
theorem sc__law_any_world : FnScope d__law_any_world.N d__law_any_world.ps (defScope (top 27)) := ⟨rfl, rfl, rfl, by decide +kernel, rfl, by decide +kernel, by decide +kernel⟩
theorem is__law_alike : isDf fnsT bltT (top 28) d__law_alike := by rfl
theorem sc__law_alike : FnScope d__law_alike.N d__law_alike.ps (defScope (top 28)) := ⟨rfl, rfl, rfl, by decide +kernel, rfl, by decide +kernel, by decide +kernel⟩
theorem is__law_rule : isDf fnsT bltT (top 29) d__law_rule := by rfl
theorem sc__law_rule : FnScope d__law_rule.N d__law_rule.ps (defScope (top 29)) := ⟨rfl, rfl, rfl, by decide +kernel, rfl, by decide +kernel, by decide +kernel⟩
theorem is__law_holds : isDf fnsT bltT (top 30) d__law_holds := by rfl
theorem sc__law_holds : FnScope d__law_holds.N d__law_holds.ps (defScope (top 30)) := ⟨rfl, rfl, rfl, by decide +kernel, rfl, by decide +kernel, by decide +kernel⟩
theorem is_law : isDf fnsT bltT (top 31) d_law := by rfl
theorem sc_law : FnScope d_law.N d_law.ps (defScope (top 31)) := ⟨rfl, rfl, rfl, by decide +kernel, rfl, by decide +kernel, by decide +kernel⟩
end Mi
set_option Elab.async false
set_option linter.all false
set_option maxRecDepth 100000
namespace Mi
open PySem PySem.Spec PyProof.Rows L2
theorem look_cons {x y : Str} {n m : Nat} {L : List (Str × Nat)} (h : ((y, m) :: L).lookup x = some n) : (x = y ∧ n = m) ∨ L.lookup x = some n := by
  rw [List.lookup_cons] at h
  split at h
  · rename_i e
    cases h
    exact .inl ⟨eq_of_beq e, rfl⟩
  · exact .inr h
theorem us0 {us : List Value} (h : us.length = 0) : us = [] := List.eq_nil_of_length_eq_zero h
theorem us1 {us : List Value} (h : us.length = 1) : ∃ a0, us = [a0] := match us, h with | [a0], _ => ⟨a0, rfl⟩
theorem us2 {us : List Value} (h : us.length = 2) : ∃ a0 a1, us = [a0, a1] := match us, h with | [a0, a1], _ => ⟨a0, a1, rfl⟩
theorem us3 {us : List Value} (h : us.length = 3) : ∃ a0 a1 a2, us = [a0, a1, a2] := match us, h with | [a0, a1, a2], _ => ⟨a0, a1, a2, rfl⟩
theorem us4 {us : List Value} (h : us.length = 4) : ∃ a0 a1 a2 a3, us = [a0, a1, a2, a3] := match us, h with | [a0, a1, a2, a3], _ => ⟨a0, a1, a2, a3, rfl⟩
theorem us5 {us : List Value} (h : us.length = 5) : ∃ a0 a1 a2 a3 a4, us = [a0, a1, a2, a3, a4] := match us, h with | [a0, a1, a2, a3, a4], _ => ⟨a0, a1, a2, a3, a4, rfl⟩
theorem lawT : Law defsT where
  gen := ⟨by rfl, by rfl, by rfl, by rfl, by rfl, by rfl, by rfl, by rfl, by rfl, by rfl, by rfl, by rfl, by rfl, by rfl, by rfl, by rfl, by rfl, by rfl, by rfl, by rfl, by rfl⟩
  rule := by rfl
  world := by rfl
  flow := by rfl
  alike := by rfl
  holds := by rfl
  way := by rfl
  back := by rfl
  law := by rfl
theorem bd_way (kV doc pm : Value) (an : Option Addr) (cdv ct : Value) (us : List Value) (h : us.length = d_way.ps.length) : bindArgs (PySem.W.fnOf "way" "way" (defArgs (top 1)) (defBody (top 1)) (defScope (top 1)) .none kV doc pm an cdv ct) ⟨us, []⟩ = pure (d_way.ps.zip us) := by
  obtain ⟨x0, x1, x2, x3, rfl⟩ := us4 h
  rfl
theorem bd_back (kV doc pm : Value) (an : Option Addr) (cdv ct : Value) (us : List Value) (h : us.length = d_back.ps.length) : bindArgs (PySem.W.fnOf "back" "back" (defArgs (top 3)) (defBody (top 3)) (defScope (top 3)) .none kV doc pm an cdv ct) ⟨us, []⟩ = pure (d_back.ps.zip us) := by
  obtain ⟨x0, x1, rfl⟩ := us2 h
  rfl
theorem bd__law_flow (kV doc pm : Value) (an : Option Addr) (cdv ct : Value) (us : List Value) (h : us.length = d__law_flow.ps.length) : bindArgs (PySem.W.fnOf "_law_flow" "_law_flow" (defArgs (top 5)) (defBody (top 5)) (defScope (top 5)) .none kV doc pm an cdv ct) ⟨us, []⟩ = pure (d__law_flow.ps.zip us) := by
  obtain ⟨x0, rfl⟩ := us1 h
  rfl
theorem bd__law_pick (kV doc pm : Value) (an : Option Addr) (cdv ct : Value) (us : List Value) (h : us.length = d__law_pick.ps.length) : bindArgs (PySem.W.fnOf "_law_pick" "_law_pick" (defArgs (top 6)) (defBody (top 6)) (defScope (top 6)) .none kV doc pm an cdv ct) ⟨us, []⟩ = pure (d__law_pick.ps.zip us) := by
  obtain ⟨x0, x1, rfl⟩ := us2 h
  rfl
theorem bd__law_letters (kV doc pm : Value) (an : Option Addr) (cdv ct : Value) (us : List Value) (h : us.length = d__law_letters.ps.length) : bindArgs (PySem.W.fnOf "_law_letters" "_law_letters" (defArgs (top 7)) (defBody (top 7)) (defScope (top 7)) .none kV doc pm an cdv ct) ⟨us, []⟩ = pure (d__law_letters.ps.zip us) := by
  obtain ⟨x0, x1, rfl⟩ := us2 h
  rfl
theorem bd__law_name (kV doc pm : Value) (an : Option Addr) (cdv ct : Value) (us : List Value) (h : us.length = d__law_name.ps.length) : bindArgs (PySem.W.fnOf "_law_name" "_law_name" (defArgs (top 8)) (defBody (top 8)) (defScope (top 8)) .none kV doc pm an cdv ct) ⟨us, []⟩ = pure (d__law_name.ps.zip us) := by
  obtain ⟨x0, x1, rfl⟩ := us2 h
  rfl
theorem bd__law_names (kV doc pm : Value) (an : Option Addr) (cdv ct : Value) (us : List Value) (h : us.length = d__law_names.ps.length) : bindArgs (PySem.W.fnOf "_law_names" "_law_names" (defArgs (top 9)) (defBody (top 9)) (defScope (top 9)) .none kV doc pm an cdv ct) ⟨us, []⟩ = pure (d__law_names.ps.zip us) := by
  obtain ⟨x0, x1, rfl⟩ := us2 h
  rfl
theorem bd__law_between (kV doc pm : Value) (an : Option Addr) (cdv ct : Value) (us : List Value) (h : us.length = d__law_between.ps.length) : bindArgs (PySem.W.fnOf "_law_between" "_law_between" (defArgs (top 10)) (defBody (top 10)) (defScope (top 10)) .none kV doc pm an cdv ct) ⟨us, []⟩ = pure (d__law_between.ps.zip us) := by
  obtain ⟨x0, x1, x2, x3, rfl⟩ := us4 h
  rfl
theorem bd__law_part (kV doc pm : Value) (an : Option Addr) (cdv ct : Value) (us : List Value) (h : us.length = d__law_part.ps.length) : bindArgs (PySem.W.fnOf "_law_part" "_law_part" (defArgs (top 11)) (defBody (top 11)) (defScope (top 11)) .none kV doc pm an cdv ct) ⟨us, []⟩ = pure (d__law_part.ps.zip us) := by
  obtain ⟨x0, x1, x2, rfl⟩ := us3 h
  rfl
theorem bd__law_turns (kV doc pm : Value) (an : Option Addr) (cdv ct : Value) (us : List Value) (h : us.length = d__law_turns.ps.length) : bindArgs (PySem.W.fnOf "_law_turns" "_law_turns" (defArgs (top 12)) (defBody (top 12)) (defScope (top 12)) .none kV doc pm an cdv ct) ⟨us, []⟩ = pure (d__law_turns.ps.zip us) := by
  cases us0 h
  rfl
theorem bd__law_figure (kV doc pm : Value) (an : Option Addr) (cdv ct : Value) (us : List Value) (h : us.length = d__law_figure.ps.length) : bindArgs (PySem.W.fnOf "_law_figure" "_law_figure" (defArgs (top 13)) (defBody (top 13)) (defScope (top 13)) .none kV doc pm an cdv ct) ⟨us, []⟩ = pure (d__law_figure.ps.zip us) := by
  obtain ⟨x0, x1, rfl⟩ := us2 h
  rfl
theorem bd__law_backs (kV doc pm : Value) (an : Option Addr) (cdv ct : Value) (us : List Value) (h : us.length = d__law_backs.ps.length) : bindArgs (PySem.W.fnOf "_law_backs" "_law_backs" (defArgs (top 14)) (defBody (top 14)) (defScope (top 14)) .none kV doc pm an cdv ct) ⟨us, []⟩ = pure (d__law_backs.ps.zip us) := by
  obtain ⟨x0, x1, rfl⟩ := us2 h
  rfl
theorem bd__law_rule_of (kV doc pm : Value) (an : Option Addr) (cdv ct : Value) (us : List Value) (h : us.length = d__law_rule_of.ps.length) : bindArgs (PySem.W.fnOf "_law_rule_of" "_law_rule_of" (defArgs (top 15)) (defBody (top 15)) (defScope (top 15)) .none kV doc pm an cdv ct) ⟨us, []⟩ = pure (d__law_rule_of.ps.zip us) := by
  obtain ⟨x0, x1, x2, x3, rfl⟩ := us4 h
  rfl
theorem bd__law_free_three (kV doc pm : Value) (an : Option Addr) (cdv ct : Value) (us : List Value) (h : us.length = d__law_free_three.ps.length) : bindArgs (PySem.W.fnOf "_law_free_three" "_law_free_three" (defArgs (top 16)) (defBody (top 16)) (defScope (top 16)) .none kV doc pm an cdv ct) ⟨us, []⟩ = pure (d__law_free_three.ps.zip us) := by
  obtain ⟨x0, x1, x2, rfl⟩ := us3 h
  rfl
theorem bd__law_sizes (kV doc pm : Value) (an : Option Addr) (cdv ct : Value) (us : List Value) (h : us.length = d__law_sizes.ps.length) : bindArgs (PySem.W.fnOf "_law_sizes" "_law_sizes" (defArgs (top 17)) (defBody (top 17)) (defScope (top 17)) .none kV doc pm an cdv ct) ⟨us, []⟩ = pure (d__law_sizes.ps.zip us) := by
  obtain ⟨x0, rfl⟩ := us1 h
  rfl
theorem bd__law_any_rule (kV doc pm : Value) (an : Option Addr) (cdv ct : Value) (us : List Value) (h : us.length = d__law_any_rule.ps.length) : bindArgs (PySem.W.fnOf "_law_any_rule" "_law_any_rule" (defArgs (top 18)) (defBody (top 18)) (defScope (top 18)) .none kV doc pm an cdv ct) ⟨us, []⟩ = pure (d__law_any_rule.ps.zip us) := by
  obtain ⟨x0, rfl⟩ := us1 h
  rfl
theorem bd__law_laying_kind (kV doc pm : Value) (an : Option Addr) (cdv ct : Value) (us : List Value) (h : us.length = d__law_laying_kind.ps.length) : bindArgs (PySem.W.fnOf "_law_laying_kind" "_law_laying_kind" (defArgs (top 19)) (defBody (top 19)) (defScope (top 19)) .none kV doc pm an cdv ct) ⟨us, []⟩ = pure (d__law_laying_kind.ps.zip us) := by
  obtain ⟨x0, rfl⟩ := us1 h
  rfl
theorem bd__law_breaks (kV doc pm : Value) (an : Option Addr) (cdv ct : Value) (us : List Value) (h : us.length = d__law_breaks.ps.length) : bindArgs (PySem.W.fnOf "_law_breaks" "_law_breaks" (defArgs (top 20)) (defBody (top 20)) (defScope (top 20)) .none kV doc pm an cdv ct) ⟨us, []⟩ = pure (d__law_breaks.ps.zip us) := by
  obtain ⟨x0, x1, x2, x3, x4, rfl⟩ := us5 h
  rfl
theorem bd__law_numbered (kV doc pm : Value) (an : Option Addr) (cdv ct : Value) (us : List Value) (h : us.length = d__law_numbered.ps.length) : bindArgs (PySem.W.fnOf "_law_numbered" "_law_numbered" (defArgs (top 21)) (defBody (top 21)) (defScope (top 21)) .none kV doc pm an cdv ct) ⟨us, []⟩ = pure (d__law_numbered.ps.zip us) := by
  obtain ⟨x0, x1, x2, rfl⟩ := us3 h
  rfl
theorem bd__law_laying_rule (kV doc pm : Value) (an : Option Addr) (cdv ct : Value) (us : List Value) (h : us.length = d__law_laying_rule.ps.length) : bindArgs (PySem.W.fnOf "_law_laying_rule" "_law_laying_rule" (defArgs (top 22)) (defBody (top 22)) (defScope (top 22)) .none kV doc pm an cdv ct) ⟨us, []⟩ = pure (d__law_laying_rule.ps.zip us) := by
  obtain ⟨x0, rfl⟩ := us1 h
  rfl
theorem bd__law_rising (kV doc pm : Value) (an : Option Addr) (cdv ct : Value) (us : List Value) (h : us.length = d__law_rising.ps.length) : bindArgs (PySem.W.fnOf "_law_rising" "_law_rising" (defArgs (top 23)) (defBody (top 23)) (defScope (top 23)) .none kV doc pm an cdv ct) ⟨us, []⟩ = pure (d__law_rising.ps.zip us) := by
  obtain ⟨x0, rfl⟩ := us1 h
  rfl
theorem bd__law_free_rule (kV doc pm : Value) (an : Option Addr) (cdv ct : Value) (us : List Value) (h : us.length = d__law_free_rule.ps.length) : bindArgs (PySem.W.fnOf "_law_free_rule" "_law_free_rule" (defArgs (top 24)) (defBody (top 24)) (defScope (top 24)) .none kV doc pm an cdv ct) ⟨us, []⟩ = pure (d__law_free_rule.ps.zip us) := by
  obtain ⟨x0, rfl⟩ := us1 h
  rfl
theorem bd__law_one_way_rule (kV doc pm : Value) (an : Option Addr) (cdv ct : Value) (us : List Value) (h : us.length = d__law_one_way_rule.ps.length) : bindArgs (PySem.W.fnOf "_law_one_way_rule" "_law_one_way_rule" (defArgs (top 25)) (defBody (top 25)) (defScope (top 25)) .none kV doc pm an cdv ct) ⟨us, []⟩ = pure (d__law_one_way_rule.ps.zip us) := by
  obtain ⟨x0, rfl⟩ := us1 h
  rfl
theorem bd__law_unlaying_rule (kV doc pm : Value) (an : Option Addr) (cdv ct : Value) (us : List Value) (h : us.length = d__law_unlaying_rule.ps.length) : bindArgs (PySem.W.fnOf "_law_unlaying_rule" "_law_unlaying_rule" (defArgs (top 26)) (defBody (top 26)) (defScope (top 26)) .none kV doc pm an cdv ct) ⟨us, []⟩ = pure (d__law_unlaying_rule.ps.zip us) := by
  obtain ⟨x0, rfl⟩ := us1 h
  rfl
theorem bd__law_any_world (kV doc pm : Value) (an : Option Addr) (cdv ct : Value) (us : List Value) (h : us.length = d__law_any_world.ps.length) : bindArgs (PySem.W.fnOf "_law_any_world" "_law_any_world" (defArgs (top 27)) (defBody (top 27)) (defScope (top 27)) .none kV doc pm an cdv ct) ⟨us, []⟩ = pure (d__law_any_world.ps.zip us) := by
  obtain ⟨x0, x1, x2, rfl⟩ := us3 h
  rfl
theorem bd__law_alike (kV doc pm : Value) (an : Option Addr) (cdv ct : Value) (us : List Value) (h : us.length = d__law_alike.ps.length) : bindArgs (PySem.W.fnOf "_law_alike" "_law_alike" (defArgs (top 28)) (defBody (top 28)) (defScope (top 28)) .none kV doc pm an cdv ct) ⟨us, []⟩ = pure (d__law_alike.ps.zip us) := by
  obtain ⟨x0, x1, rfl⟩ := us2 h
  rfl
theorem bd__law_rule (kV doc pm : Value) (an : Option Addr) (cdv ct : Value) (us : List Value) (h : us.length = d__law_rule.ps.length) : bindArgs (PySem.W.fnOf "_law_rule" "_law_rule" (defArgs (top 29)) (defBody (top 29)) (defScope (top 29)) .none kV doc pm an cdv ct) ⟨us, []⟩ = pure (d__law_rule.ps.zip us) := by
  obtain ⟨x0, rfl⟩ := us1 h
  rfl
theorem bd__law_holds (kV doc pm : Value) (an : Option Addr) (cdv ct : Value) (us : List Value) (h : us.length = d__law_holds.ps.length) : bindArgs (PySem.W.fnOf "_law_holds" "_law_holds" (defArgs (top 30)) (defBody (top 30)) (defScope (top 30)) .none kV doc pm an cdv ct) ⟨us, []⟩ = pure (d__law_holds.ps.zip us) := by
  obtain ⟨x0, x1, x2, x3, rfl⟩ := us4 h
  rfl
theorem bd_law (kV doc pm : Value) (an : Option Addr) (cdv ct : Value) (us : List Value) (h : us.length = d_law.ps.length) : bindArgs (PySem.W.fnOf "law" "law" (defArgs (top 31)) (defBody (top 31)) (defScope (top 31)) .none kV doc pm an cdv ct) ⟨us, []⟩ = pure (d_law.ps.zip us) := by
  obtain ⟨x0, rfl⟩ := us1 h
  rfl
section
variable {P : Program} {w : World} {K : PySem.W.Frag} {mg : Str → Option Value} {base : Heap}
noncomputable def DefAt (K : PySem.W.Frag) (mg : Str → Option Value) (x : Str) (st : Stmt) (df : Df) : Prop := ∃ (f : Addr) (fd : FuncData), Fun K x x st f fd ∧ mg x = some (.ref f) ∧ PySem.W.keepIn K (.ref f) = true ∧ Binds K fd df.ps []
theorem def_mk {h : Heap} {x : Str} {st : Stmt} {df : Df} {f : Addr} {oc : Value} {od an : Option Addr} {osl : Array (Option Value)} {kV doc pm cdv ct : Value} (X : K.In h) (G : h.Ns mainGlobals mg)
    (b : ∀ (kV doc pm : Value) (an : Option Addr) (cdv ct : Value) (us : List Value), us.length = df.ps.length → bindArgs (PySem.W.fnOf x x (defArgs st) (defBody st) (defScope st) .none kV doc pm an cdv ct) ⟨us, []⟩ = pure (df.ps.zip us))
    (a : PySem.W.nsIn K mainGlobals x = some (some (.ref f))) (l : K.lookup f = some ⟨oc, od, .func (PySem.W.fnOf x x (defArgs st) (defBody st) (defScope st) .none kV doc pm an cdv ct), osl⟩) (c : PySem.W.codeIn K cdv x = true) (k : PySem.W.keepIn K (.ref f) = true) : DefAt K mg x st df :=
  have F := fun_mk (st := st) l c k
  ⟨f, _, F, PySem.W.mg_of X G a, k, F.binds b⟩
theorem fns_ok {fuel : Nat} (hb : ∀ y ∈ bltT, mg y = none) (D : ∀ x n, fnsT.lookup x = some n → ∃ st df, defsT.lookup x = some df ∧ df.ps.length = n ∧ FnScope df.N df.ps (defScope st) ∧ isDf fnsT bltT st df ∧ DefAt K mg x st df) : ∀ d, FnsOk P w K mg base fnsT defsT fuel d
  | 0 => fun f n h => by
    obtain ⟨st, df, h1, h2, h3, h4, fa, fd, F, m, kp, b⟩ := D f n h
    refine ⟨fa, fd, df.ps, ⟨fun vs H Q E z => ?_, fun A outer s H args us vs Q E hr he hbd hv z => ?_⟩, m, kp, b⟩
    all_goals
      obtain ⟨_, _, _, _, _, _, _, _, z, _⟩ := z
      cases z
  | d + 1 => fun f n h => by
    obtain ⟨st, df, h1, h2, h3, h4, fa, fd, F, m, kp, b⟩ := D f n h
    refine ⟨fa, fd, df.ps, ?_, m, kp, b⟩
    rw [← h2]
    exact fn_ok F h3 h1 h4 hb (fns_ok hb D d)
theorem all_D (D1 : DefAt K mg "way" (top 1) d_way) (D3 : DefAt K mg "back" (top 3) d_back) (D5 : DefAt K mg "_law_flow" (top 5) d__law_flow) (D6 : DefAt K mg "_law_pick" (top 6) d__law_pick) (D7 : DefAt K mg "_law_letters" (top 7) d__law_letters) (D8 : DefAt K mg "_law_name" (top 8) d__law_name) (D9 : DefAt K mg "_law_names" (top 9) d__law_names) (D10 : DefAt K mg "_law_between" (top 10) d__law_between) (D11 : DefAt K mg "_law_part" (top 11) d__law_part) (D12 : DefAt K mg "_law_turns" (top 12) d__law_turns) (D13 : DefAt K mg "_law_figure" (top 13) d__law_figure) (D14 : DefAt K mg "_law_backs" (top 14) d__law_backs) (D15 : DefAt K mg "_law_rule_of" (top 15) d__law_rule_of) (D16 : DefAt K mg "_law_free_three" (top 16) d__law_free_three) (D17 : DefAt K mg "_law_sizes" (top 17) d__law_sizes) (D18 : DefAt K mg "_law_any_rule" (top 18) d__law_any_rule) (D19 : DefAt K mg "_law_laying_kind" (top 19) d__law_laying_kind) (D20 : DefAt K mg "_law_breaks" (top 20) d__law_breaks) (D21 : DefAt K mg "_law_numbered" (top 21) d__law_numbered) (D22 : DefAt K mg "_law_laying_rule" (top 22) d__law_laying_rule) (D23 : DefAt K mg "_law_rising" (top 23) d__law_rising) (D24 : DefAt K mg "_law_free_rule" (top 24) d__law_free_rule) (D25 : DefAt K mg "_law_one_way_rule" (top 25) d__law_one_way_rule) (D26 : DefAt K mg "_law_unlaying_rule" (top 26) d__law_unlaying_rule) (D27 : DefAt K mg "_law_any_world" (top 27) d__law_any_world) (D28 : DefAt K mg "_law_alike" (top 28) d__law_alike) (D29 : DefAt K mg "_law_rule" (top 29) d__law_rule) (D30 : DefAt K mg "_law_holds" (top 30) d__law_holds) (D31 : DefAt K mg "law" (top 31) d_law) : ∀ x n, fnsT.lookup x = some n → ∃ st df, defsT.lookup x = some df ∧ df.ps.length = n ∧ FnScope df.N df.ps (defScope st) ∧ isDf fnsT bltT st df ∧ DefAt K mg x st df := by
  intro x n h
  unfold fnsT at h
  rcases look_cons h with ⟨rfl, rfl⟩ | h
  · exact ⟨top 1, d_way, by rfl, rfl, sc_way, is_way, D1⟩
  rcases look_cons h with ⟨rfl, rfl⟩ | h
  · exact ⟨top 3, d_back, by rfl, rfl, sc_back, is_back, D3⟩
  rcases look_cons h with ⟨rfl, rfl⟩ | h
  · exact ⟨top 5, d__law_flow, by rfl, rfl, sc__law_flow, is__law_flow, D5⟩
  rcases look_cons h with ⟨rfl, rfl⟩ | h
  · exact ⟨top 6, d__law_pick, by rfl, rfl, sc__law_pick, is__law_pick, D6⟩
  rcases look_cons h with ⟨rfl, rfl⟩ | h
  · exact ⟨top 7, d__law_letters, by rfl, rfl, sc__law_letters, is__law_letters, D7⟩
  rcases look_cons h with ⟨rfl, rfl⟩ | h
  · exact ⟨top 8, d__law_name, by rfl, rfl, sc__law_name, is__law_name, D8⟩
  rcases look_cons h with ⟨rfl, rfl⟩ | h
  · exact ⟨top 9, d__law_names, by rfl, rfl, sc__law_names, is__law_names, D9⟩
  rcases look_cons h with ⟨rfl, rfl⟩ | h
  · exact ⟨top 10, d__law_between, by rfl, rfl, sc__law_between, is__law_between, D10⟩
  rcases look_cons h with ⟨rfl, rfl⟩ | h
  · exact ⟨top 11, d__law_part, by rfl, rfl, sc__law_part, is__law_part, D11⟩
  rcases look_cons h with ⟨rfl, rfl⟩ | h
  · exact ⟨top 12, d__law_turns, by rfl, rfl, sc__law_turns, is__law_turns, D12⟩
  rcases look_cons h with ⟨rfl, rfl⟩ | h
  · exact ⟨top 13, d__law_figure, by rfl, rfl, sc__law_figure, is__law_figure, D13⟩
  rcases look_cons h with ⟨rfl, rfl⟩ | h
  · exact ⟨top 14, d__law_backs, by rfl, rfl, sc__law_backs, is__law_backs, D14⟩
  rcases look_cons h with ⟨rfl, rfl⟩ | h
  · exact ⟨top 15, d__law_rule_of, by rfl, rfl, sc__law_rule_of, is__law_rule_of, D15⟩
  rcases look_cons h with ⟨rfl, rfl⟩ | h
  · exact ⟨top 16, d__law_free_three, by rfl, rfl, sc__law_free_three, is__law_free_three, D16⟩
  rcases look_cons h with ⟨rfl, rfl⟩ | h
  · exact ⟨top 17, d__law_sizes, by rfl, rfl, sc__law_sizes, is__law_sizes, D17⟩
  rcases look_cons h with ⟨rfl, rfl⟩ | h
  · exact ⟨top 18, d__law_any_rule, by rfl, rfl, sc__law_any_rule, is__law_any_rule, D18⟩
  rcases look_cons h with ⟨rfl, rfl⟩ | h
  · exact ⟨top 19, d__law_laying_kind, by rfl, rfl, sc__law_laying_kind, is__law_laying_kind, D19⟩
  rcases look_cons h with ⟨rfl, rfl⟩ | h
  · exact ⟨top 20, d__law_breaks, by rfl, rfl, sc__law_breaks, is__law_breaks, D20⟩
  rcases look_cons h with ⟨rfl, rfl⟩ | h
  · exact ⟨top 21, d__law_numbered, by rfl, rfl, sc__law_numbered, is__law_numbered, D21⟩
  rcases look_cons h with ⟨rfl, rfl⟩ | h
  · exact ⟨top 22, d__law_laying_rule, by rfl, rfl, sc__law_laying_rule, is__law_laying_rule, D22⟩
  rcases look_cons h with ⟨rfl, rfl⟩ | h
  · exact ⟨top 23, d__law_rising, by rfl, rfl, sc__law_rising, is__law_rising, D23⟩
  rcases look_cons h with ⟨rfl, rfl⟩ | h
  · exact ⟨top 24, d__law_free_rule, by rfl, rfl, sc__law_free_rule, is__law_free_rule, D24⟩
  rcases look_cons h with ⟨rfl, rfl⟩ | h
  · exact ⟨top 25, d__law_one_way_rule, by rfl, rfl, sc__law_one_way_rule, is__law_one_way_rule, D25⟩
  rcases look_cons h with ⟨rfl, rfl⟩ | h
  · exact ⟨top 26, d__law_unlaying_rule, by rfl, rfl, sc__law_unlaying_rule, is__law_unlaying_rule, D26⟩
  rcases look_cons h with ⟨rfl, rfl⟩ | h
  · exact ⟨top 27, d__law_any_world, by rfl, rfl, sc__law_any_world, is__law_any_world, D27⟩
  rcases look_cons h with ⟨rfl, rfl⟩ | h
  · exact ⟨top 28, d__law_alike, by rfl, rfl, sc__law_alike, is__law_alike, D28⟩
  rcases look_cons h with ⟨rfl, rfl⟩ | h
  · exact ⟨top 29, d__law_rule, by rfl, rfl, sc__law_rule, is__law_rule, D29⟩
  rcases look_cons h with ⟨rfl, rfl⟩ | h
  · exact ⟨top 30, d__law_holds, by rfl, rfl, sc__law_holds, is__law_holds, D30⟩
  rcases look_cons h with ⟨rfl, rfl⟩ | h
  · exact ⟨top 31, d_law, by rfl, rfl, sc_law, is_law, D31⟩
  cases h
theorem all_B {h : Heap} (X : K.In h) (G : h.Ns mainGlobals mg) (z0 : PySem.W.nsIn K mainGlobals "range" = some none) (z1 : PySem.W.nsIn K mainGlobals "len" = some none) (z2 : PySem.W.nsIn K mainGlobals "list" = some none) (z3 : PySem.W.nsIn K mainGlobals "tuple" = some none) (z4 : PySem.W.nsIn K mainGlobals "abs" = some none) (z5 : PySem.W.nsIn K mainGlobals "int" = some none) (z6 : PySem.W.nsIn K mainGlobals "all" = some none) (z7 : PySem.W.nsIn K mainGlobals "any" = some none) (z8 : PySem.W.nsIn K mainGlobals "min" = some none) (z9 : PySem.W.nsIn K mainGlobals "sorted" = some none) (z10 : PySem.W.nsIn K mainGlobals "isinstance" = some none) (z11 : PySem.W.nsIn K mainGlobals "bool" = some none) (z12 : PySem.W.nsIn K mainGlobals "str" = some none) (z13 : PySem.W.nsIn K mainGlobals "dict" = some none) : ∀ y ∈ bltT, mg y = none := by
  intro y hy
  unfold bltT at hy
  simp only [List.mem_cons, List.not_mem_nil, or_false] at hy
  rcases hy with rfl | rfl | rfl | rfl | rfl | rfl | rfl | rfl | rfl | rfl | rfl | rfl | rfl | rfl
  · exact PySem.W.mg_none_of X G z0
  · exact PySem.W.mg_none_of X G z1
  · exact PySem.W.mg_none_of X G z2
  · exact PySem.W.mg_none_of X G z3
  · exact PySem.W.mg_none_of X G z4
  · exact PySem.W.mg_none_of X G z5
  · exact PySem.W.mg_none_of X G z6
  · exact PySem.W.mg_none_of X G z7
  · exact PySem.W.mg_none_of X G z8
  · exact PySem.W.mg_none_of X G z9
  · exact PySem.W.mg_none_of X G z10
  · exact PySem.W.mg_none_of X G z11
  · exact PySem.W.mg_none_of X G z12
  · exact PySem.W.mg_none_of X G z13
end
theorem all_mk {l : PySem.W.OpenLaw} {w : World} {K : PySem.W.Frag} {h : Heap} {mg : Str → Option Value} {fa f : Addr} (X : K.In h) (G : h.Ns mainGlobals mg) (hfa : mg "law" = some (.ref fa)) (hb : ∀ y ∈ bltT, mg y = none)
    (D1 : DefAt K mg "way" (top 1) d_way) (D3 : DefAt K mg "back" (top 3) d_back) (D5 : DefAt K mg "_law_flow" (top 5) d__law_flow) (D6 : DefAt K mg "_law_pick" (top 6) d__law_pick) (D7 : DefAt K mg "_law_letters" (top 7) d__law_letters) (D8 : DefAt K mg "_law_name" (top 8) d__law_name) (D9 : DefAt K mg "_law_names" (top 9) d__law_names) (D10 : DefAt K mg "_law_between" (top 10) d__law_between) (D11 : DefAt K mg "_law_part" (top 11) d__law_part) (D12 : DefAt K mg "_law_turns" (top 12) d__law_turns) (D13 : DefAt K mg "_law_figure" (top 13) d__law_figure) (D14 : DefAt K mg "_law_backs" (top 14) d__law_backs) (D15 : DefAt K mg "_law_rule_of" (top 15) d__law_rule_of) (D16 : DefAt K mg "_law_free_three" (top 16) d__law_free_three) (D17 : DefAt K mg "_law_sizes" (top 17) d__law_sizes) (D18 : DefAt K mg "_law_any_rule" (top 18) d__law_any_rule) (D19 : DefAt K mg "_law_laying_kind" (top 19) d__law_laying_kind) (D20 : DefAt K mg "_law_breaks" (top 20) d__law_breaks) (D21 : DefAt K mg "_law_numbered" (top 21) d__law_numbered) (D22 : DefAt K mg "_law_laying_rule" (top 22) d__law_laying_rule) (D23 : DefAt K mg "_law_rising" (top 23) d__law_rising) (D24 : DefAt K mg "_law_free_rule" (top 24) d__law_free_rule) (D25 : DefAt K mg "_law_one_way_rule" (top 25) d__law_one_way_rule) (D26 : DefAt K mg "_law_unlaying_rule" (top 26) d__law_unlaying_rule) (D27 : DefAt K mg "_law_any_world" (top 27) d__law_any_world) (D28 : DefAt K mg "_law_alike" (top 28) d__law_alike) (D29 : DefAt K mg "_law_rule" (top 29) d__law_rule) (D30 : DefAt K mg "_law_holds" (top 30) d__law_holds)
    {oc : Value} {od an : Option Addr} {osl : Array (Option Value)} {kV doc pm cdv ct : Value} (a : PySem.W.nsIn K mainGlobals "law" = some (some (.ref f))) (l' : K.lookup f = some ⟨oc, od, .func (PySem.W.fnOf "law" "law" (defArgs (top 31)) (defBody (top 31)) (defScope (top 31)) .none kV doc pm an cdv ct), osl⟩) (c : PySem.W.codeIn K cdv "law" = true) (k : PySem.W.keepIn K (.ref f) = true) :
    ∃ fd : FuncData, (∀ (s : Shared) (v : Value), BindsTo s fd ⟨[v], []⟩ [("_law_script", v)]) ∧ ∀ base : Heap, K.In base → base.Ns mainGlobals mg → FnOk l.prog w K mg base CX0 9 fa fd ["_law_script"] (spF w K 1 (callD defsT 100 9 "law")) := by
  have e := hfa.symm.trans (PySem.W.mg_of X G a)
  cases e
  have D31 : DefAt K mg "law" (top 31) d_law := def_mk X G bd_law a l' c k
  have F := fun_mk (st := top 31) l' c k
  exact ⟨PySem.W.fnOf "law" "law" (defArgs (top 31)) (defBody (top 31)) (defScope (top 31)) .none kV doc pm an cdv ct, fun s v => .of_eq rfl, fun base _ _ => fn_ok (df := d_law) F sc_law (by rfl) is_law hb (fns_ok hb (all_D D1 D3 D5 D6 D7 D8 D9 D10 D11 D12 D13 D14 D15 D16 D17 D18 D19 D20 D21 D22 D23 D24 D25 D26 D27 D28 D29 D30 D31) 8)⟩
theorem walk {l : PySem.W.OpenLaw} {q : Program} {loose : List Str} {XP : (Str → Option Value) → Heap → Prop} {YP : World → Heap → Prop} {d : DefRec} {K : Params → PySem.W.Frag} (hn : l.most = some 63) (hdf : d.params.defaults = [])
    (hY : ∀ (w : World) (h : Heap), YP w h → (K w.params).In h)
    (F : ∀ (w : World) (mg : Str → Option Value) (fa : Addr) (h : Heap), (K w.params).In h → h.Ns mainGlobals mg → mg d.name = some (.ref fa) →
      ∃ fd : FuncData, (∀ (s : Shared) (u : Value), BindsTo s fd ⟨[u], []⟩ [("_law_script", u)]) ∧ ∀ base : Heap, (K w.params).In base → base.Ns mainGlobals mg → FnOk l.prog w (K w.params) mg base CX0 9 fa fd ["_law_script"] (spF w (K w.params) 1 (callD defsT 100 9 "law"))) :
    PySem.W.WalkO q loose XP YP l.row.toRowW d [] (fun f vs => PySem.call f vs) :=
  L2.walk_of (n := 63) (k := 9) (x := "_law_script") (CX := fun _ => CX0) (sp := fun w => spF w (K w.params) 1 (callD defsT 100 9 "law")) hn (by decide) hdf ⟨rfl, by decide, by decide⟩ hY F
    (fun w H a ns hl hO hS => law_sp (by
      obtain ⟨⟨v, S'⟩, e, q⟩ := law_ok (defs := defsT) (fuel := 100) (d := 0) (by decide) lawT (xs := ns)
      simp only at q
      subst q
      exact ⟨S', e⟩) hO hS) fun _ _ _ _ _ z => z
end Mi
open PySem PySem.W PyProof.Rows L2
set_option Elab.async false
set_option maxRecDepth 100000
set_option maxHeartbeats 0
namespace Mi
section
noncomputable def pw : Program := PySem.Challenge.pw_layworld_k05_ways_and_ways_back
noncomputable def ge (P : Params) (n : Str) (t : Nat) (v : Value) : DictEntry := ⟨PyData.keyHash P n, .str n t, v⟩
noncomputable def kd (a : Nat) (es : List DictEntry) (n : Nat) : Addr × Obj := (a, ⟨.type "dict", none, .dict es.toArray n, #[]⟩)
noncomputable def kt (a : Nat) (c : Value) (vs : List Value) (n : Nat) : Addr × Obj := (a, ⟨c, none, .seq vs.toArray n, #[]⟩)
noncomputable def kc (a : Nat) (vs : List Value) : Addr × Obj := (a, ⟨.type "code", none, .fields vs.toArray, #[]⟩)
noncomputable def kf (a : Nat) (st : Stmt) (n : Str) (pm cd : Value) : Addr × Obj := (a, ⟨.type "function", none, .func (PySem.W.fnOf n n (defArgs st) (defBody st) (defScope st) .none .none .none pm none cd .none), #[]⟩)
noncomputable def K0 (P : Params) : PySem.W.Frag := [kd 3 [ge P "__name__" 165 (.str "law_layworld_k05_ways_and_ways_back" 209), ge P "__doc__" 166 .none, ge P "__package__" 167 .none, ge P "__loader__" 168 (.builtin "__main__.__loader__#opaque"), ge P "__spec__" 169 .none, ge P "__annotations__" 170 (.ref 6), ge P "__builtins__" 171 (.ref 4), ge P "__file__" 173 (.str "/claim/cut.py" 172), ge P "__cached__" 174 .none, ge P "way" 198 (.ref 21), ge P "back" 208 (.ref 28), ge P "_law_flow" 217 (.ref 35), ge P "_law_pick" 227 (.ref 42), ge P "_law_letters" 233 (.ref 47), ge P "_law_name" 242 (.ref 54), ge P "_law_names" 255 (.ref 61), ge P "_law_between" 265 (.ref 68), ge P "_law_part" 271 (.ref 73), ge P "_law_turns" 277 (.ref 80), ge P "_law_figure" 283 (.ref 85), ge P "_law_backs" 292 (.ref 92), ge P "_law_rule_of" 298 (.ref 97), ge P "_law_free_three" 304 (.ref 102), ge P "_law_sizes" 312 (.ref 109), ge P "_law_any_rule" 324 (.ref 116), ge P "_law_laying_kind" 332 (.ref 123), ge P "_law_breaks" 348 (.ref 130), ge P "_law_numbered" 354 (.ref 135), ge P "_law_laying_rule" 375 (.ref 142), ge P "_law_rising" 381 (.ref 147), ge P "_law_free_rule" 387 (.ref 152), ge P "_law_one_way_rule" 393 (.ref 157), ge P "_law_unlaying_rule" 399 (.ref 162), ge P "_law_any_world" 405 (.ref 167), ge P "_law_alike" 411 (.ref 172), ge P "_law_rule" 419 (.ref 179), ge P "_law_holds" 431 (.ref 186), ge P "law" 447 (.ref 193)] 38,
  kc 20 [(.str "way" 189), (.str "way" 190), (.str "/claim/cut.py" 191), (.int 2 0), (.int 4 0), (.int 0 0), (.int 0 0), (.int 3 0), (.ref 15), (.bool true), (.int 181 0), (.ref 16), .none, (.ref 17), (.ref 18), (.ref 19), (.int 196 0), (.int 2 0), (.str "/claim/cut.py" 197)],
  kf 21 (top 1) "way" (.str "layworld.worlds" 187) (.ref 20),
  kc 27 [(.str "back" 201), (.str "back" 202), (.str "/claim/cut.py" 203), (.int 7 0), (.int 2 0), (.int 0 0), (.int 0 0), (.int 3 0), (.ref 22), (.bool true), (.int 181 0), (.ref 23), .none, (.ref 24), (.ref 25), (.ref 26), (.int 206 0), (.int 7 0), (.str "/claim/cut.py" 207)],
  kf 28 (top 3) "back" (.str "layworld.rules" 199) (.ref 27),
  kc 34 [(.str "_law_flow" 211), (.str "_law_flow" 212), (.str "/claim/cut.py" 213), (.int 10 0), (.int 1 0), (.int 0 0), (.int 0 0), (.int 3 0), (.ref 29), (.bool true), (.int 181 0), (.ref 30), .none, (.ref 31), (.ref 32), (.ref 33), (.int 215 0), (.int 10 0), (.str "/claim/cut.py" 216)],
  kf 35 (top 5) "_law_flow" (.str "law_layworld_k05_ways_and_ways_back" 209) (.ref 34),
  kc 41 [(.str "_law_pick" 218), (.str "_law_pick" 219), (.str "/claim/cut.py" 220), (.int 12 0), (.int 2 0), (.int 0 0), (.int 0 0), (.int 3 0), (.ref 36), (.bool true), (.int 181 0), (.ref 37), .none, (.ref 38), (.ref 39), (.ref 40), (.int 225 0), (.int 12 0), (.str "/claim/cut.py" 226)],
  kf 42 (top 6) "_law_pick" (.str "law_layworld_k05_ways_and_ways_back" 209) (.ref 41),
  kc 46 [(.str "_law_letters" 228), (.str "_law_letters" 229), (.str "/claim/cut.py" 230), (.int 27 0), (.int 2 0), (.int 0 0), (.int 0 0), (.int 3 0), (.ref 43), (.bool true), (.int 181 0), (.ref 44), .none, .none, .none, (.ref 45), (.int 231 0), (.int 27 0), (.str "/claim/cut.py" 232)],
  kf 47 (top 7) "_law_letters" (.str "law_layworld_k05_ways_and_ways_back" 209) (.ref 46),
  kc 53 [(.str "_law_name" 234), (.str "_law_name" 235), (.str "/claim/cut.py" 236), (.int 29 0), (.int 2 0), (.int 0 0), (.int 0 0), (.int 3 0), (.ref 48), (.bool true), (.int 181 0), (.ref 49), .none, (.ref 50), (.ref 51), (.ref 52), (.int 240 0), (.int 29 0), (.str "/claim/cut.py" 241)],
  kf 54 (top 8) "_law_name" (.str "law_layworld_k05_ways_and_ways_back" 209) (.ref 53),
  kc 60 [(.str "_law_names" 243), (.str "_law_names" 244), (.str "/claim/cut.py" 245), (.int 37 0), (.int 2 0), (.int 0 0), (.int 0 0), (.int 3 0), (.ref 55), (.bool true), (.int 181 0), (.ref 56), .none, (.ref 57), (.ref 58), (.ref 59), (.int 253 0), (.int 37 0), (.str "/claim/cut.py" 254)],
  kf 61 (top 9) "_law_names" (.str "law_layworld_k05_ways_and_ways_back" 209) (.ref 60),
  kc 67 [(.str "_law_between" 256), (.str "_law_between" 257), (.str "/claim/cut.py" 258), (.int 50 0), (.int 4 0), (.int 0 0), (.int 0 0), (.int 3 0), (.ref 62), (.bool true), (.int 181 0), (.ref 63), .none, (.ref 64), (.ref 65), (.ref 66), (.int 263 0), (.int 50 0), (.str "/claim/cut.py" 264)],
  kf 68 (top 10) "_law_between" (.str "law_layworld_k05_ways_and_ways_back" 209) (.ref 67),
  kc 72 [(.str "_law_part" 266), (.str "_law_part" 267), (.str "/claim/cut.py" 268), (.int 54 0), (.int 3 0), (.int 0 0), (.int 0 0), (.int 3 0), (.ref 69), (.bool true), (.int 181 0), (.ref 70), .none, .none, .none, (.ref 71), (.int 269 0), (.int 54 0), (.str "/claim/cut.py" 270)],
  kf 73 (top 11) "_law_part" (.str "law_layworld_k05_ways_and_ways_back" 209) (.ref 72),
  kc 79 [(.str "_law_turns" 272), (.str "_law_turns" 273), (.str "/claim/cut.py" 274), (.int 60 0), (.int 0 0), (.int 0 0), (.int 0 0), (.int 3 0), (.ref 74), (.bool true), (.int 181 0), (.ref 75), .none, (.ref 76), (.ref 77), (.ref 78), (.int 275 0), (.int 60 0), (.str "/claim/cut.py" 276)],
  kf 80 (top 12) "_law_turns" (.str "law_layworld_k05_ways_and_ways_back" 209) (.ref 79),
  kc 84 [(.str "_law_figure" 278), (.str "_law_figure" 279), (.str "/claim/cut.py" 280), (.int 62 0), (.int 2 0), (.int 0 0), (.int 0 0), (.int 3 0), (.ref 81), (.bool true), (.int 181 0), (.ref 82), .none, .none, .none, (.ref 83), (.int 281 0), (.int 62 0), (.str "/claim/cut.py" 282)],
  kf 85 (top 13) "_law_figure" (.str "law_layworld_k05_ways_and_ways_back" 209) (.ref 84),
  kc 91 [(.str "_law_backs" 284), (.str "_law_backs" 285), (.str "/claim/cut.py" 286), (.int 64 0), (.int 2 0), (.int 0 0), (.int 0 0), (.int 3 0), (.ref 86), (.bool true), (.int 181 0), (.ref 87), .none, (.ref 88), (.ref 89), (.ref 90), (.int 290 0), (.int 64 0), (.str "/claim/cut.py" 291)],
  kf 92 (top 14) "_law_backs" (.str "law_layworld_k05_ways_and_ways_back" 209) (.ref 91),
  kc 96 [(.str "_law_rule_of" 293), (.str "_law_rule_of" 294), (.str "/claim/cut.py" 295), (.int 67 0), (.int 4 0), (.int 0 0), (.int 0 0), (.int 3 0), (.ref 93), (.bool true), (.int 181 0), (.ref 94), .none, .none, .none, (.ref 95), (.int 296 0), (.int 67 0), (.str "/claim/cut.py" 297)],
  kf 97 (top 15) "_law_rule_of" (.str "law_layworld_k05_ways_and_ways_back" 209) (.ref 96),
  kc 101 [(.str "_law_free_three" 299), (.str "_law_free_three" 300), (.str "/claim/cut.py" 301), (.int 71 0), (.int 3 0), (.int 0 0), (.int 0 0), (.int 3 0), (.ref 98), (.bool true), (.int 181 0), (.ref 99), .none, .none, .none, (.ref 100), (.int 302 0), (.int 71 0), (.str "/claim/cut.py" 303)],
  kf 102 (top 16) "_law_free_three" (.str "law_layworld_k05_ways_and_ways_back" 209) (.ref 101),
  kc 108 [(.str "_law_sizes" 305), (.str "_law_sizes" 306), (.str "/claim/cut.py" 307), (.int 76 0), (.int 1 0), (.int 0 0), (.int 0 0), (.int 3 0), (.ref 103), (.bool true), (.int 181 0), (.ref 104), .none, (.ref 105), (.ref 106), (.ref 107), (.int 310 0), (.int 76 0), (.str "/claim/cut.py" 311)],
  kf 109 (top 17) "_law_sizes" (.str "law_layworld_k05_ways_and_ways_back" 209) (.ref 108),
  kc 115 [(.str "_law_any_rule" 313), (.str "_law_any_rule" 314), (.str "/claim/cut.py" 315), (.int 79 0), (.int 1 0), (.int 0 0), (.int 0 0), (.int 3 0), (.ref 110), (.bool true), (.int 181 0), (.ref 111), .none, (.ref 112), (.ref 113), (.ref 114), (.int 322 0), (.int 79 0), (.str "/claim/cut.py" 323)],
  kf 116 (top 18) "_law_any_rule" (.str "law_layworld_k05_ways_and_ways_back" 209) (.ref 115),
  kc 122 [(.str "_law_laying_kind" 325), (.str "_law_laying_kind" 326), (.str "/claim/cut.py" 327), (.int 86 0), (.int 1 0), (.int 0 0), (.int 0 0), (.int 3 0), (.ref 117), (.bool true), (.int 181 0), (.ref 118), .none, (.ref 119), (.ref 120), (.ref 121), (.int 330 0), (.int 86 0), (.str "/claim/cut.py" 331)],
  kf 123 (top 19) "_law_laying_kind" (.str "law_layworld_k05_ways_and_ways_back" 209) (.ref 122),
  kc 129 [(.str "_law_breaks" 333), (.str "_law_breaks" 334), (.str "/claim/cut.py" 335), (.int 95 0), (.int 5 0), (.int 0 0), (.int 0 0), (.int 3 0), (.ref 124), (.bool true), (.int 181 0), (.ref 125), .none, (.ref 126), (.ref 127), (.ref 128), (.int 346 0), (.int 95 0), (.str "/claim/cut.py" 347)],
  kf 130 (top 20) "_law_breaks" (.str "law_layworld_k05_ways_and_ways_back" 209) (.ref 129),
  kc 134 [(.str "_law_numbered" 349), (.str "_law_numbered" 350), (.str "/claim/cut.py" 351), (.int 103 0), (.int 3 0), (.int 0 0), (.int 0 0), (.int 3 0), (.ref 131), (.bool true), (.int 181 0), (.ref 132), .none, .none, .none, (.ref 133), (.int 352 0), (.int 103 0), (.str "/claim/cut.py" 353)],
  kf 135 (top 21) "_law_numbered" (.str "law_layworld_k05_ways_and_ways_back" 209) (.ref 134),
  kc 141 [(.str "_law_laying_rule" 355), (.str "_law_laying_rule" 356), (.str "/claim/cut.py" 357), (.int 118 0), (.int 1 0), (.int 0 0), (.int 0 0), (.int 3 0), (.ref 136), (.bool true), (.int 181 0), (.ref 137), .none, (.ref 138), (.ref 139), (.ref 140), (.int 373 0), (.int 118 0), (.str "/claim/cut.py" 374)],
  kf 142 (top 22) "_law_laying_rule" (.str "law_layworld_k05_ways_and_ways_back" 209) (.ref 141),
  kc 146 [(.str "_law_rising" 376), (.str "_law_rising" 377), (.str "/claim/cut.py" 378), (.int 138 0), (.int 1 0), (.int 0 0), (.int 0 0), (.int 3 0), (.ref 143), (.bool true), (.int 181 0), (.ref 144), .none, .none, .none, (.ref 145), (.int 379 0), (.int 138 0), (.str "/claim/cut.py" 380)],
  kf 147 (top 23) "_law_rising" (.str "law_layworld_k05_ways_and_ways_back" 209) (.ref 146),
  kc 151 [(.str "_law_free_rule" 382), (.str "_law_free_rule" 383), (.str "/claim/cut.py" 384), (.int 144 0), (.int 1 0), (.int 0 0), (.int 0 0), (.int 3 0), (.ref 148), (.bool true), (.int 181 0), (.ref 149), .none, .none, .none, (.ref 150), (.int 385 0), (.int 144 0), (.str "/claim/cut.py" 386)],
  kf 152 (top 24) "_law_free_rule" (.str "law_layworld_k05_ways_and_ways_back" 209) (.ref 151),
  kc 156 [(.str "_law_one_way_rule" 388), (.str "_law_one_way_rule" 389), (.str "/claim/cut.py" 390), (.int 157 0), (.int 1 0), (.int 0 0), (.int 0 0), (.int 3 0), (.ref 153), (.bool true), (.int 181 0), (.ref 154), .none, .none, .none, (.ref 155), (.int 391 0), (.int 157 0), (.str "/claim/cut.py" 392)],
  kf 157 (top 25) "_law_one_way_rule" (.str "law_layworld_k05_ways_and_ways_back" 209) (.ref 156),
  kc 161 [(.str "_law_unlaying_rule" 394), (.str "_law_unlaying_rule" 395), (.str "/claim/cut.py" 396), (.int 161 0), (.int 1 0), (.int 0 0), (.int 0 0), (.int 3 0), (.ref 158), (.bool true), (.int 181 0), (.ref 159), .none, .none, .none, (.ref 160), (.int 397 0), (.int 161 0), (.str "/claim/cut.py" 398)],
  kf 162 (top 26) "_law_unlaying_rule" (.str "law_layworld_k05_ways_and_ways_back" 209) (.ref 161),
  kc 166 [(.str "_law_any_world" 400), (.str "_law_any_world" 401), (.str "/claim/cut.py" 402), (.int 176 0), (.int 3 0), (.int 0 0), (.int 0 0), (.int 3 0), (.ref 163), (.bool true), (.int 181 0), (.ref 164), .none, .none, .none, (.ref 165), (.int 403 0), (.int 176 0), (.str "/claim/cut.py" 404)],
  kf 167 (top 27) "_law_any_world" (.str "law_layworld_k05_ways_and_ways_back" 209) (.ref 166),
  kc 171 [(.str "_law_alike" 406), (.str "_law_alike" 407), (.str "/claim/cut.py" 408), (.int 182 0), (.int 2 0), (.int 0 0), (.int 0 0), (.int 3 0), (.ref 168), (.bool true), (.int 181 0), (.ref 169), .none, .none, .none, (.ref 170), (.int 409 0), (.int 182 0), (.str "/claim/cut.py" 410)],
  kf 172 (top 28) "_law_alike" (.str "law_layworld_k05_ways_and_ways_back" 209) (.ref 171),
  kc 178 [(.str "_law_rule" 412), (.str "_law_rule" 413), (.str "/claim/cut.py" 414), (.int 194 0), (.int 1 0), (.int 0 0), (.int 0 0), (.int 3 0), (.ref 173), (.bool true), (.int 181 0), (.ref 174), .none, (.ref 175), (.ref 176), (.ref 177), (.int 417 0), (.int 194 0), (.str "/claim/cut.py" 418)],
  kf 179 (top 29) "_law_rule" (.str "law_layworld_k05_ways_and_ways_back" 209) (.ref 178),
  kc 185 [(.str "_law_holds" 420), (.str "_law_holds" 421), (.str "/claim/cut.py" 422), (.int 201 0), (.int 4 0), (.int 0 0), (.int 0 0), (.int 3 0), (.ref 180), (.bool true), (.int 181 0), (.ref 181), .none, (.ref 182), (.ref 183), (.ref 184), (.int 429 0), (.int 201 0), (.str "/claim/cut.py" 430)],
  kf 186 (top 30) "_law_holds" (.str "law_layworld_k05_ways_and_ways_back" 209) (.ref 185),
  kc 192 [(.str "law" 432), (.str "law" 433), (.str "/claim/cut.py" 434), (.int 207 0), (.int 1 0), (.int 0 0), (.int 0 0), (.int 3 0), (.ref 187), (.bool true), (.int 181 0), (.ref 188), .none, (.ref 189), (.ref 190), (.ref 191), (.int 445 0), (.int 207 0), (.str "/claim/cut.py" 446)],
  kf 193 (top 31) "law" (.str "law_layworld_k05_ways_and_ways_back" 209) (.ref 192)]
noncomputable def as0 : List Nat := [3, 20, 21, 27, 28, 34, 35, 41, 42, 46, 47, 53, 54, 60, 61, 67, 68, 72, 73, 79, 80, 84, 85, 91, 92, 96, 97, 101, 102, 108, 109, 115, 116, 122, 123, 129, 130, 134, 135, 141, 142, 146, 147, 151, 152, 156, 157, 161, 162, 166, 167, 171, 172, 178, 179, 185, 186, 192, 193]
noncomputable def vq : Program := { pw with main := { pw.main with body := [top 31] } }
noncomputable def lo : List Str := ["way", "back", "_law_flow", "_law_pick", "_law_letters", "_law_name", "_law_names", "_law_between", "_law_part", "_law_turns", "_law_figure", "_law_backs", "_law_rule_of", "_law_free_three", "_law_sizes", "_law_any_rule", "_law_laying_kind", "_law_breaks", "_law_numbered", "_law_laying_rule", "_law_rising", "_law_free_rule", "_law_one_way_rule", "_law_unlaying_rule", "_law_any_world", "_law_alike", "_law_rule", "_law_holds"]
theorem def_at {K : PySem.W.Frag} {h : Heap} {mg : Str → Option Value} {x : Str} {st : Stmt} {df : Df} (a : Nat) (pm cd : Value) (X : K.In h) (G : h.Ns mainGlobals mg)
    (b : ∀ (kV doc pm : Value) (an : Option Addr) (cdv ct : Value) (us : List Value), us.length = df.ps.length → bindArgs (PySem.W.fnOf x x (defArgs st) (defBody st) (defScope st) .none kV doc pm an cdv ct) ⟨us, []⟩ = pure (df.ps.zip us))
    (e : PySem.W.nsIn K mainGlobals x = some (some (.ref a))) (l : K.lookup a = some (kf a st x pm cd).2) (c : PySem.W.codeIn K cd x = true) (k : PySem.W.keepIn K (.ref a) = true) : DefAt K mg x st df := def_mk X G b e l c k
theorem eK : ∀ P, as0 = (K0 P).map (·.1) := fun _ => by kernel_rfl
noncomputable def hk : PySem.W.Hook := PySem.W.kHook K0 as0 eK
theorem hl : PySem.W.LeftO pw vq lo (fun s => PySem.W.xlAt vq [] s && PySem.W.recOk [] s) hk.obs hk.val 1918 := fun w => by kernel_rfl
end
end Mi
theorem PySem.Challenge.cw_layworld_k05_ways_and_ways_back_holds : PySem.Challenge.rw_layworld_k05_ways_and_ways_back.Holds := by
  w_on
  refine PySem.W.holds_law (by kernel_rfl) (fun said => ?_)
  refine PySem.W.holds_open (q := Mi.vq) (loose := Mi.lo) (Xt := fun s => PySem.W.xlAt Mi.vq [] s && PySem.W.recOk [] s) (XP := PySem.W.XL Mi.vq []) (Yf := Mi.hk.obs) (Ya := Mi.hk.val) (YP := Mi.hk.says) (N := 1918) Mi.hl Mi.hk.of Mi.hk.keeps (fun s e => PySem.W.xl_of s (Bool.and_eq_true_iff.mp e).1) PySem.W.XL.keeps (by rfl) (by rfl) (by rfl) (fun s e => PySem.W.recFacts_of (Bool.and_eq_true_iff.mp e).2) (by rfl) said (by decide +kernel) ⟨rfl, rfl, rfl, rfl, rfl, by decide +kernel⟩ ?hw ?hc
  case hw => w_witness2
  case hc =>
  refine Mi.walk (l := PySem.Challenge.rw_layworld_k05_ways_and_ways_back) (K := Mi.K0) rfl rfl (fun w h Y => PySem.W.kIn_of Y) ?F
  case F =>
    intro w mg fa h KX G hmg
    exact Mi.all_mk KX G hmg (Mi.all_B KX G (by kernel_rfl) (by kernel_rfl) (by kernel_rfl) (by kernel_rfl) (by kernel_rfl) (by kernel_rfl) (by kernel_rfl) (by kernel_rfl) (by kernel_rfl) (by kernel_rfl) (by kernel_rfl) (by kernel_rfl) (by kernel_rfl) (by kernel_rfl))
      (Mi.def_at 21 (.str "layworld.worlds" 187) (.ref 20) (x := "way") (st := Mi.top 1) (df := Mi.d_way) KX G Mi.bd_way (by kernel_rfl) (by kernel_rfl) (by kernel_rfl) (by kernel_rfl))
      (Mi.def_at 28 (.str "layworld.rules" 199) (.ref 27) (x := "back") (st := Mi.top 3) (df := Mi.d_back) KX G Mi.bd_back (by kernel_rfl) (by kernel_rfl) (by kernel_rfl) (by kernel_rfl))
      (Mi.def_at 35 (.str "law_layworld_k05_ways_and_ways_back" 209) (.ref 34) (x := "_law_flow") (st := Mi.top 5) (df := Mi.d__law_flow) KX G Mi.bd__law_flow (by kernel_rfl) (by kernel_rfl) (by kernel_rfl) (by kernel_rfl))
      (Mi.def_at 42 (.str "law_layworld_k05_ways_and_ways_back" 209) (.ref 41) (x := "_law_pick") (st := Mi.top 6) (df := Mi.d__law_pick) KX G Mi.bd__law_pick (by kernel_rfl) (by kernel_rfl) (by kernel_rfl) (by kernel_rfl))
      (Mi.def_at 47 (.str "law_layworld_k05_ways_and_ways_back" 209) (.ref 46) (x := "_law_letters") (st := Mi.top 7) (df := Mi.d__law_letters) KX G Mi.bd__law_letters (by kernel_rfl) (by kernel_rfl) (by kernel_rfl) (by kernel_rfl))
      (Mi.def_at 54 (.str "law_layworld_k05_ways_and_ways_back" 209) (.ref 53) (x := "_law_name") (st := Mi.top 8) (df := Mi.d__law_name) KX G Mi.bd__law_name (by kernel_rfl) (by kernel_rfl) (by kernel_rfl) (by kernel_rfl))
      (Mi.def_at 61 (.str "law_layworld_k05_ways_and_ways_back" 209) (.ref 60) (x := "_law_names") (st := Mi.top 9) (df := Mi.d__law_names) KX G Mi.bd__law_names (by kernel_rfl) (by kernel_rfl) (by kernel_rfl) (by kernel_rfl))
      (Mi.def_at 68 (.str "law_layworld_k05_ways_and_ways_back" 209) (.ref 67) (x := "_law_between") (st := Mi.top 10) (df := Mi.d__law_between) KX G Mi.bd__law_between (by kernel_rfl) (by kernel_rfl) (by kernel_rfl) (by kernel_rfl))
      (Mi.def_at 73 (.str "law_layworld_k05_ways_and_ways_back" 209) (.ref 72) (x := "_law_part") (st := Mi.top 11) (df := Mi.d__law_part) KX G Mi.bd__law_part (by kernel_rfl) (by kernel_rfl) (by kernel_rfl) (by kernel_rfl))
      (Mi.def_at 80 (.str "law_layworld_k05_ways_and_ways_back" 209) (.ref 79) (x := "_law_turns") (st := Mi.top 12) (df := Mi.d__law_turns) KX G Mi.bd__law_turns (by kernel_rfl) (by kernel_rfl) (by kernel_rfl) (by kernel_rfl))
      (Mi.def_at 85 (.str "law_layworld_k05_ways_and_ways_back" 209) (.ref 84) (x := "_law_figure") (st := Mi.top 13) (df := Mi.d__law_figure) KX G Mi.bd__law_figure (by kernel_rfl) (by kernel_rfl) (by kernel_rfl) (by kernel_rfl))
      (Mi.def_at 92 (.str "law_layworld_k05_ways_and_ways_back" 209) (.ref 91) (x := "_law_backs") (st := Mi.top 14) (df := Mi.d__law_backs) KX G Mi.bd__law_backs (by kernel_rfl) (by kernel_rfl) (by kernel_rfl) (by kernel_rfl))
      (Mi.def_at 97 (.str "law_layworld_k05_ways_and_ways_back" 209) (.ref 96) (x := "_law_rule_of") (st := Mi.top 15) (df := Mi.d__law_rule_of) KX G Mi.bd__law_rule_of (by kernel_rfl) (by kernel_rfl) (by kernel_rfl) (by kernel_rfl))
      (Mi.def_at 102 (.str "law_layworld_k05_ways_and_ways_back" 209) (.ref 101) (x := "_law_free_three") (st := Mi.top 16) (df := Mi.d__law_free_three) KX G Mi.bd__law_free_three (by kernel_rfl) (by kernel_rfl) (by kernel_rfl) (by kernel_rfl))
      (Mi.def_at 109 (.str "law_layworld_k05_ways_and_ways_back" 209) (.ref 108) (x := "_law_sizes") (st := Mi.top 17) (df := Mi.d__law_sizes) KX G Mi.bd__law_sizes (by kernel_rfl) (by kernel_rfl) (by kernel_rfl) (by kernel_rfl))
      (Mi.def_at 116 (.str "law_layworld_k05_ways_and_ways_back" 209) (.ref 115) (x := "_law_any_rule") (st := Mi.top 18) (df := Mi.d__law_any_rule) KX G Mi.bd__law_any_rule (by kernel_rfl) (by kernel_rfl) (by kernel_rfl) (by kernel_rfl))
      (Mi.def_at 123 (.str "law_layworld_k05_ways_and_ways_back" 209) (.ref 122) (x := "_law_laying_kind") (st := Mi.top 19) (df := Mi.d__law_laying_kind) KX G Mi.bd__law_laying_kind (by kernel_rfl) (by kernel_rfl) (by kernel_rfl) (by kernel_rfl))
      (Mi.def_at 130 (.str "law_layworld_k05_ways_and_ways_back" 209) (.ref 129) (x := "_law_breaks") (st := Mi.top 20) (df := Mi.d__law_breaks) KX G Mi.bd__law_breaks (by kernel_rfl) (by kernel_rfl) (by kernel_rfl) (by kernel_rfl))
      (Mi.def_at 135 (.str "law_layworld_k05_ways_and_ways_back" 209) (.ref 134) (x := "_law_numbered") (st := Mi.top 21) (df := Mi.d__law_numbered) KX G Mi.bd__law_numbered (by kernel_rfl) (by kernel_rfl) (by kernel_rfl) (by kernel_rfl))
      (Mi.def_at 142 (.str "law_layworld_k05_ways_and_ways_back" 209) (.ref 141) (x := "_law_laying_rule") (st := Mi.top 22) (df := Mi.d__law_laying_rule) KX G Mi.bd__law_laying_rule (by kernel_rfl) (by kernel_rfl) (by kernel_rfl) (by kernel_rfl))
      (Mi.def_at 147 (.str "law_layworld_k05_ways_and_ways_back" 209) (.ref 146) (x := "_law_rising") (st := Mi.top 23) (df := Mi.d__law_rising) KX G Mi.bd__law_rising (by kernel_rfl) (by kernel_rfl) (by kernel_rfl) (by kernel_rfl))
      (Mi.def_at 152 (.str "law_layworld_k05_ways_and_ways_back" 209) (.ref 151) (x := "_law_free_rule") (st := Mi.top 24) (df := Mi.d__law_free_rule) KX G Mi.bd__law_free_rule (by kernel_rfl) (by kernel_rfl) (by kernel_rfl) (by kernel_rfl))
      (Mi.def_at 157 (.str "law_layworld_k05_ways_and_ways_back" 209) (.ref 156) (x := "_law_one_way_rule") (st := Mi.top 25) (df := Mi.d__law_one_way_rule) KX G Mi.bd__law_one_way_rule (by kernel_rfl) (by kernel_rfl) (by kernel_rfl) (by kernel_rfl))
      (Mi.def_at 162 (.str "law_layworld_k05_ways_and_ways_back" 209) (.ref 161) (x := "_law_unlaying_rule") (st := Mi.top 26) (df := Mi.d__law_unlaying_rule) KX G Mi.bd__law_unlaying_rule (by kernel_rfl) (by kernel_rfl) (by kernel_rfl) (by kernel_rfl))
      (Mi.def_at 167 (.str "law_layworld_k05_ways_and_ways_back" 209) (.ref 166) (x := "_law_any_world") (st := Mi.top 27) (df := Mi.d__law_any_world) KX G Mi.bd__law_any_world (by kernel_rfl) (by kernel_rfl) (by kernel_rfl) (by kernel_rfl))
      (Mi.def_at 172 (.str "law_layworld_k05_ways_and_ways_back" 209) (.ref 171) (x := "_law_alike") (st := Mi.top 28) (df := Mi.d__law_alike) KX G Mi.bd__law_alike (by kernel_rfl) (by kernel_rfl) (by kernel_rfl) (by kernel_rfl))
      (Mi.def_at 179 (.str "law_layworld_k05_ways_and_ways_back" 209) (.ref 178) (x := "_law_rule") (st := Mi.top 29) (df := Mi.d__law_rule) KX G Mi.bd__law_rule (by kernel_rfl) (by kernel_rfl) (by kernel_rfl) (by kernel_rfl))
      (Mi.def_at 186 (.str "law_layworld_k05_ways_and_ways_back" 209) (.ref 185) (x := "_law_holds") (st := Mi.top 30) (df := Mi.d__law_holds) KX G Mi.bd__law_holds (by kernel_rfl) (by kernel_rfl) (by kernel_rfl) (by kernel_rfl))
      (f := 193) (oc := .type "function") (od := none) (an := none) (osl := #[]) (kV := .none) (doc := .none) (pm := (.str "law_layworld_k05_ways_and_ways_back" 209)) (cdv := (.ref 192)) (ct := .none) (by kernel_rfl) (by kernel_rfl) (by kernel_rfl) (by kernel_rfl)
