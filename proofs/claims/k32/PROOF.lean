import PyProof.Rows.All
import Wide.All
import OpenK.AllK
import Wide.FinOn
import Lean
import PyProof.EqAt
import PyProof.EqKinds
import PyProof.TupleCall
import PyProof.ListRange
import PyProof.TupleOfSeq
import PyProof.ConsumeWalk
import PyProof.WalksMore
import PyProof.Draws
import PyProof.EnumMake
import PyProof.ZipIter
import PyProof.Rows.EnumRows
import PyProof.Rows.FactsT2
import PyProof.MeetsSeq3
import PyProof.DictRoadsH
import PyProof.Rows.TupTab
import PyProof.Rows.SortWalk
import PyProof.Rows.SeqCalls
import PyProof.ListMulRoad
import KE.KDictLaws
import OpenK.KRaise
import KE.KLam
import KE.KNestM
import PySem.Challenge.RW_guisery_k32_breadths_by_turns
set_option Elab.async false
set_option linter.all false
set_option maxRecDepth 100000
set_option maxHeartbeats 4000000
namespace L2
open PySem PySem.Spec PyProof.Rows
noncomputable abbrev Key := Sum Int Str
noncomputable def keyIs : Key → Value → Bool
  | .inl k, v => Value.isInt k v
  | .inr x, v => Value.isStrOf x v
noncomputable def keyH (w : World) : Key → Int
  | .inl k => hashInt k
  | .inr x => hashStr w x
theorem keyIs_shape : ∀ {k : Key} {v : Value}, keyIs k v = true → (∃ i t, k = Sum.inl i ∧ v = Value.int i t) ∨ (∃ x t, k = Sum.inr x ∧ v = Value.str x t)
  | .inl i, v, h => by
    obtain ⟨t, e⟩ := Value.isInt_shape (k := i) (v := v) h
    exact .inl ⟨i, t, rfl, e⟩
  | .inr x, v, h => by
    obtain ⟨t, e⟩ := Value.isStrOf_shape (x := x) (v := v) h
    exact .inr ⟨x, t, rfl, e⟩
theorem keyIs_int (i : Int) (t : Tok) : keyIs (.inl i) (.int i t) = true := by simp [keyIs, Value.isInt]
theorem keyIs_str (x : Str) (t : Tok) : keyIs (.inr x) (.str x t) = true := by simp [keyIs, Value.isStrOf]
theorem key_ll (a b : Int) : decide ((Sum.inl a : Key) = Sum.inl b) = (a == b) := by
  by_cases e : a = b
  · subst e; simp
  · have h : ¬ (Sum.inl a : Key) = Sum.inl b := fun q => e (Sum.inl.inj q)
    rw [decide_eq_false h]
    exact (beq_eq_false_iff_ne.mpr e).symm
theorem key_rr (a b : Str) : decide ((Sum.inr a : Key) = Sum.inr b) = decide (a = b) := by
  by_cases e : a = b
  · subst e; simp
  · have h : ¬ (Sum.inr a : Key) = Sum.inr b := fun q => e (Sum.inr.inj q)
    rw [decide_eq_false h, decide_eq_false e]
theorem key_lr (a : Int) (b : Str) : decide ((Sum.inl a : Key) = Sum.inr b) = false := decide_eq_false (fun q => nomatch q)
theorem key_rl (a : Str) (b : Int) : decide ((Sum.inr a : Key) = Sum.inl b) = false := decide_eq_false (fun q => nomatch q)
noncomputable def mixKind (prog : Program) (w : World) : PySem.KeyKind prog w Key where
  is := keyIs
  hash := keyH w
  inj := fun v a b ha hb => by
    rcases keyIs_shape ha with ⟨i, t, rfl, rfl⟩ | ⟨x, t, rfl, rfl⟩
    · rcases keyIs_shape hb with ⟨j, u, rfl, e⟩ | ⟨y, u, rfl, e⟩
      · injection e with e1 _; rw [e1]
      · exact nomatch e
    · rcases keyIs_shape hb with ⟨j, u, rfl, e⟩ | ⟨y, u, rfl, e⟩
      · exact nomatch e
      · injection e with e1 _; rw [e1]
  byValue := fun k v h => by
    rcases keyIs_shape h with ⟨i, t, rfl, rfl⟩ | ⟨x, t, rfl, rfl⟩ <;> rfl
  pyHash := fun hv h => by
    rcases keyIs_shape hv with ⟨i, t, rfl, rfl⟩ | ⟨x, t, rfl, rfl⟩
    · exact wpAny_pyHash_int h
    · exact wpAny_pyHash_str h
  eqBool := fun hu hv h => by
    rcases keyIs_shape hu with ⟨i, t, rfl, rfl⟩ | ⟨x, t, rfl, rfl⟩
    · rcases keyIs_shape hv with ⟨j, u, rfl, rfl⟩ | ⟨y, u, rfl, rfl⟩
      · rw [key_ll] at h; exact wpAny_eqBool_int h
      · rw [key_lr] at h; exact SeqAt.EqAt.int_str i t y u _ _ _ _ h
    · rcases keyIs_shape hv with ⟨j, u, rfl, rfl⟩ | ⟨y, u, rfl, rfl⟩
      · rw [key_rl] at h; exact SeqAt.EqAt.str_int x t j u _ _ _ _ h
      · rw [key_rr] at h; exact wpAny_eqBool_str h
  «strs» := fun k x t v h => by
    rcases keyIs_shape h with ⟨i, u, rfl, e⟩ | ⟨y, u, rfl, e⟩
    · exact nomatch e
    · injection e with e1 _
      subst e1
      cases v <;> rfl
theorem mixKind_int (prog : Program) (w : World) (i : Int) (t : Tok) : (mixKind prog w).is (.inl i) (.int i t) = true := keyIs_int i t
theorem mixKind_str (prog : Program) (w : World) (x : Str) (t : Tok) : (mixKind prog w).is (.inr x) (.str x t) = true := keyIs_str x t
end L2
namespace L2
open PySem PySem.Spec PyProof.Rows
inductive V where
  | non | bl (b : Bool) | int (i : Int) | str (x : Str) | byt (b : Array UInt8) | flt (b : UInt64) | ref (a : Addr) | ty (n : String)
  deriving DecidableEq
noncomputable def RelV : V → Value → Prop
  | .non, u => u = Value.none
  | .bl b, u => u = Value.bool b
  | .int i, u => ∃ t, u = Value.int i t
  | .str x, u => ∃ t, u = Value.str x t
  | .byt b, u => ∃ t, u = Value.bytes b t
  | .flt b, u => ∃ t, u = Value.float b t
  | .ref a, u => u = Value.ref a
  | .ty n, u => u = Value.type n
noncomputable abbrev Vals : List V → List Value → Prop := Paired RelV
theorem Vals.length {xs : List V} {us : List Value} (r : Vals xs us) : xs.length = us.length := Paired.length r
theorem Vals.get : ∀ {xs : List V} {us : List Value} {i : Nat} {x : V}, Vals xs us → xs[i]? = some x → ∃ u, us[i]? = some u ∧ RelV x u
  | _, _, _, _, .nil, e => by simp at e
  | _, _, 0, _, .cons r _, e => by simp at e; subst e; exact ⟨_, rfl, r⟩
  | _, _, i + 1, x, .cons _ t, e => by
    obtain ⟨u, h1, h2⟩ := Vals.get (i := i) (x := x) t (by simpa using e)
    exact ⟨u, by simpa using h1, h2⟩
theorem Vals.append : ∀ {xs ys : List V} {us ws : List Value}, Vals xs us → Vals ys ws → Vals (xs ++ ys) (us ++ ws)
  | _, _, _, _, .nil, s => s
  | _, _, _, _, .cons r t, s => .cons r (Vals.append t s)
theorem Vals.take : ∀ {xs : List V} {us : List Value} (n : Nat), Vals xs us → Vals (xs.take n) (us.take n)
  | _, _, 0, _ => .nil
  | _, _, _ + 1, .nil => .nil
  | _, _, n + 1, .cons r t => .cons r (Vals.take n t)
theorem Vals.drop : ∀ {xs : List V} {us : List Value} (n : Nat), Vals xs us → Vals (xs.drop n) (us.drop n)
  | _, _, 0, r => r
  | _, _, _ + 1, .nil => .nil
  | _, _, n + 1, .cons _ t => Vals.drop n t
noncomputable def RelO : Option V → Option Value → Prop
  | some v, some u => RelV v u
  | none, none => True
  | _, _ => False
noncomputable def KV {κ : Type} : List (κ × V) → List (κ × Value) → Prop := Paired fun (p : κ × V) (q : κ × Value) => p.1 = q.1 ∧ RelV p.2 q.2
noncomputable def kV : Key → V
  | .inl i => .int i
  | .inr x => .str x
inductive HO where
    | lst (xs : List V)
    | tup (xs : List V)
    | dK (kvs : List (Key × V)) | dT (kvs : List (List Key × V))
    | set (S : Int → Bool) (n : Nat)
    | ins (C dx : Addr) (fs : List (Str × V))
    | own (x : Addr)
    | xd (fs : List (Str × V))
    | met (f x : Addr)
    | rng (lo hi : Int)
    | frz (o : Obj) (u : HO)
    | tbl (ps : Array Value)
    | ext (φ : Heap → Prop)
noncomputable abbrev Hp := Addr → Option HO
noncomputable def upd (H : Hp) (a : Addr) (o : HO) : Hp := fun b => if b = a then some o else H b
theorem upd_same {H : Hp} {a : Addr} {o : HO} : upd H a o a = some o := by unfold upd; rw [if_pos rfl]
theorem upd_ne {H : Hp} {a b : Addr} {o : HO} (h : b ≠ a) : upd H a o b = H b := by unfold upd; rw [if_neg h]
theorem ne_of {H : Hp} {a b : Addr} {o u : HO} (h : H a = some o) (h' : H b = some u) (d : o ≠ u) : a ≠ b := by
  intro e; subst e; rw [h] at h'; exact d (Option.some.inj h')
theorem ne_of_none {H : Hp} {a b : Addr} {o : HO} (h : H a = some o) (h' : H b = none) : a ≠ b := by
  intro e; subst e; rw [h] at h'; cases h'
section
variable (P : Program) (w : World)
noncomputable def ObjOk (H : Hp) (h : Heap) (a : Addr) : HO → Prop
  | .lst xs => xs.length ≤ sizeLine ∧ ∃ (its : List Value) (n : Nat), Vals xs its ∧ h.get? a = some { cls := .type "list", data := .seq its.toArray n }
  | .tup xs => xs.length ≤ sizeLine ∧ ∃ (its : List Value) (n : Nat), Vals xs its ∧ h.get? a = some { cls := .type "tuple", data := .seq its.toArray n }
  | .dK kvs => kvs.length ≤ sizeLine ∧ (a == sysModules) = false ∧ ∃ vs, KV kvs vs ∧ h.DictOf (mixKind P w) a vs
  | .dT kvs => kvs.length ≤ sizeLine ∧ (a == sysModules) = false ∧ ∃ xs : List (List Key × Addr × Value),
      Paired (fun (p : List Key × V) (q : List Key × Addr × Value) => p.1 = q.1 ∧ H q.2.1 = some (.tup (p.1.map kV)) ∧ RelV p.2 q.2.2) kvs xs ∧
      ∃ o es ep, h.get? a = some o ∧ o.ExactDict ∧ o.data = .dict es ep ∧ es.toList = xs.map (entryOfKey (tupleKind (mixKind P w))) ∧ (xs.map (·.1)).Nodup
  | .set S n => h.SetOf (intKind P w) a S n
  | .ins C dx fs => H dx = some (.own a) ∧ fs.length ≤ 1000 ∧ dx ≠ a ∧ h.get? a = some (PySem.W.instObj C dx) ∧
      ∃ mA, h.Ns1 dx mA ∧ (∀ f, RelO (fs.lookup f) (mA f)) ∧ PySem.Within mA (fs.map (·.1))
  | .own _ => ∃ o, h.get? a = some o
  | .xd fs => ∃ mA, h.Ns1 a mA ∧ ∀ f, RelO (fs.lookup f) (mA f)
  | .rng lo hi => ∃ t u v, h.get? a = some { cls := .type "range", data := .fields #[.int lo t, .int hi u, .int 1 v] }
  | .frz o u => h.get? a = some o ∧ ObjOk H h a u
  | .tbl ps => h.get? a = some { cls := .none, data := .fields ps }
  | .met f x => h.get? a = some (PySem.W.methodObj (.ref f) (.ref x))
  | .ext φ => φ h ∧ (∃ o, h.get? a = some o) ∧ ∀ h1 h2 : Heap, φ h1 → (∀ o, h1.get? a = some o → h2.get? a = some o) → φ h2
noncomputable def HOk (H : Hp) (h : Heap) : Prop := ∀ a o, H a = some o → ObjOk P w H h a o
end
section
variable {P : Program} {w : World} {H H' : Hp} {h h' : Heap} {a : Addr} {o : HO}
theorem ObjOk.lt (x : ObjOk P w H h a o) : a < h.objs.size := by
  cases o with
  | lst xs => obtain ⟨_, _, _, _, e⟩ := x; exact Heap.lt_size e
  | tup xs => obtain ⟨_, _, _, _, e⟩ := x; exact Heap.lt_size e
  | dK kvs => obtain ⟨_, _, _, _, o, _, _, e, _⟩ := x; exact Heap.lt_size e
  | dT kvs => obtain ⟨_, _, _, _, o, _, _, e, _⟩ := x; exact Heap.lt_size e
  | set S n => obtain ⟨o, _, _, _, e, _⟩ := x; exact Heap.lt_size e
  | ins C dx fs => obtain ⟨_, _, _, e, _⟩ := x; exact Heap.lt_size e
  | own y => obtain ⟨_, e⟩ := x; exact Heap.lt_size e
  | xd fs => obtain ⟨_, ⟨_, _, _, e, _⟩, _⟩ := x; exact Heap.lt_size e
  | rng lo hi => obtain ⟨_, _, _, e⟩ := x; exact Heap.lt_size e
  | frz ob u => obtain ⟨e, _⟩ := x; exact Heap.lt_size e
  | tbl ps => exact Heap.lt_size (show h.get? a = some _ from x)
  | met f y => exact Heap.lt_size (show h.get? a = some _ from x)
  | ext φ => obtain ⟨_, ⟨_, e⟩, _⟩ := x; exact Heap.lt_size e
theorem Paired.mapP {α β : Type} {F G : α → β → Prop} : ∀ {l₁ : List α} {l₂ : List β}, Paired F l₁ l₂ → (∀ a b, F a b → G a b) → Paired G l₁ l₂
  | _, _, .nil, _ => .nil
  | _, _, .cons r t, f => .cons (f _ _ r) (Paired.mapP t f)
theorem ObjOk.stay (x : ObjOk P w H h a o) (k : ∀ b u, (b = a ∨ H b = some (.own a)) → h.get? b = some u → h'.get? b = some u)
    (ho : ∀ b, H b = some (.own a) → H' b = some (.own a)) (ht : ∀ b xs, H b = some (.tup xs) → H' b = some (.tup xs)) : ObjOk P w H' h' a o := by
  induction o with
  | lst xs => obtain ⟨z, its, n, r, e⟩ := x; exact ⟨z, its, n, r, k _ _ (.inl rfl) e⟩
  | tup xs => obtain ⟨z, its, n, r, e⟩ := x; exact ⟨z, its, n, r, k _ _ (.inl rfl) e⟩
  | dK kvs => obtain ⟨z, y, vs, r, ob, es, ep, e, c⟩ := x; exact ⟨z, y, vs, r, ob, es, ep, k _ _ (.inl rfl) e, c⟩
  | dT kvs =>
    obtain ⟨z, y, xs, r, ob, es, ep, e, c⟩ := x
    exact ⟨z, y, xs, Paired.mapP r fun p q z => ⟨z.1, ht _ _ z.2.1, z.2.2⟩, ob, es, ep, k _ _ (.inl rfl) e, c⟩
  | set S n => obtain ⟨ob, es, ep, t, e, c⟩ := x; exact ⟨ob, es, ep, t, k _ _ (.inl rfl) e, c⟩
  | ins C dx fs =>
    obtain ⟨d, z, ne, e, mA, ⟨od, es, ep, e2, c⟩, r⟩ := x
    exact ⟨ho _ d, z, ne, k _ _ (.inl rfl) e, mA, ⟨od, es, ep, k _ _ (.inr d) e2, c⟩, r⟩
  | own y => obtain ⟨ob, e⟩ := x; exact ⟨ob, k _ _ (.inl rfl) e⟩
  | xd fs => obtain ⟨mA, ⟨od, es, ep, e, c⟩, r⟩ := x; exact ⟨mA, ⟨od, es, ep, k _ _ (.inl rfl) e, c⟩, r⟩
  | rng lo hi => obtain ⟨t, u, v, e⟩ := x; exact ⟨t, u, v, k _ _ (.inl rfl) e⟩
  | frz ob u ih => obtain ⟨e, q⟩ := x; exact ⟨k _ _ (.inl rfl) e, ih q⟩
  | tbl ps =>
    have e : h.get? a = some { cls := .none, data := .fields ps } := x
    show h'.get? a = some { cls := .none, data := .fields ps }
    exact k a _ (.inl rfl) e
  | met f y =>
    have e : h.get? a = some (PySem.W.methodObj (.ref f) (.ref y)) := x
    show h'.get? a = some (PySem.W.methodObj (.ref f) (.ref y))
    exact k a _ (.inl rfl) e
  | ext φ => obtain ⟨p, ⟨o, e⟩, st⟩ := x; exact ⟨st _ _ p fun o q => k _ _ (.inl rfl) q, ⟨o, k _ _ (.inl rfl) e⟩, st⟩
theorem HOk.lt (x : HOk P w H h) (e : H a = some o) : a < h.objs.size := (x a o e).lt
theorem HOk.fresh (x : HOk P w H h) (e : h.objs.size ≤ a) : H a = none := by
  cases q : H a with
  | none => rfl
  | some u => exact absurd (Nat.lt_of_lt_of_le (x.lt q) e) (Nat.lt_irrefl _)
theorem HOk.kept (x : HOk P w H h) (k : ∀ b u, h.get? b = some u → h'.get? b = some u) : HOk P w H h' := fun a o e =>
  (x a o e).stay (fun b u _ q => k b u q) (fun _ q => q) fun _ _ q => q
theorem HOk.laid (x : HOk P w H h) (k : ∀ b u, h.get? b = some u → h'.get? b = some u) (hp : h.objs.size ≤ a) (new : ObjOk P w (upd H a o) h' a o) : HOk P w (upd H a o) h' := fun b u e => by
  have hn := x.fresh hp
  by_cases hb : b = a
  · subst hb; rw [upd_same] at e; cases e; exact new
  · rw [upd_ne hb] at e
    exact (x b u e).stay (fun c v _ q => k c v q) (fun c q => by rw [upd_ne (ne_of_none q hn)]; exact q) fun c xs q => by rw [upd_ne (ne_of_none q hn)]; exact q
end
noncomputable def Rd (H : Hp) (a : Addr) (u : HO) : Prop := H a = some u ∨ ∃ o, H a = some (.frz o u)
theorem Rd.ok {P : Program} {w : World} {H : Hp} {h : Heap} {a : Addr} {u : HO} (r : Rd H a u) (x : HOk P w H h) : ObjOk P w H h a u := by
  rcases r with r | ⟨o, r⟩
  · exact x a u r
  · obtain ⟨_, q⟩ := x a _ r
    exact q
noncomputable def Mut : Option HO → Prop
  | some (.lst _) => True
  | some (.dK _) => True
  | some (.dT _) => True
  | some (.set _ _) => True
  | some (.ins _ _ _) => True
  | some (.ext _) => True
  | _ => False
section
variable {P : Program} {w : World} {H : Hp} {h h' : Heap} {x e : Addr} {o' : HO}
theorem HOk.write (ok : HOk P w H h) (mu : Mut (H x)) (he : e = x ∨ H e = some (.own x)) (k : ∀ b u, b ≠ e → h.get? b = some u → h'.get? b = some u) (heo : ∃ u, h'.get? e = some u)
    (new : ObjOk P w (upd H x o') h' x o') : HOk P w (upd H x o') h' := fun b u q => by
  have nown : ∀ c y, H c = some (.own y) → c ≠ x := fun c y r z => by subst z; rw [r] at mu; exact mu
  have ntup : ∀ c xs, H c = some (.tup xs) → c ≠ x := fun c xs r z => by subst z; rw [r] at mu; exact mu
  by_cases hb : b = x
  · subst hb; rw [upd_same] at q; cases q; exact new
  · rw [upd_ne hb] at q
    by_cases hbe : b = e
    · have q' : H b = some (.own x) := by
        rcases he with z | z
        · exact absurd (hbe.trans z) hb
        · rw [hbe]; exact z
      rw [q] at q'; cases q'
      obtain ⟨v, hv⟩ := heo
      exact ⟨v, by rw [hbe]; exact hv⟩
    · refine (ok b u q).stay (fun c v hc r => k c v ?_ r) (fun c r => by rw [upd_ne (nown c b r)]; exact r) fun c xs r => by rw [upd_ne (ntup c xs r)]; exact r
      rcases hc with rfl | hc
      · exact hbe
      · rintro rfl
        rcases he with z | z
        · exact nown c b hc z
        · rw [hc] at z; cases z; exact hb rfl
end
structure Un (fs ex : List Addr) (H H' : Hp) (h h' : Heap) : Prop where
  keep : ∀ b o, h.get? b = some o → H b = none → b ∉ fs → b ∉ ex → h'.get? b = some o
  slot : ∀ b o, h.get? b = some o → H b = none → b ∈ fs → b ∉ ex → ∃ sl, h'.get? b = some { o with slots := sl }
  free : ∀ b o, h.get? b = some o → H b = none → b ∉ ex → H' b = none
  there : ∀ b o, h.get? b = some o → b ∉ ex → ∃ o', h'.get? b = some o'
  tups : ∀ b xs, H b = some (.tup xs) → H' b = some (.tup xs)
  frzs : ∀ b o u, H b = some (.frz o u) → H' b = some (.frz o u)
  tbls : ∀ b ps, H b = some (.tbl ps) → ∃ more, H' b = some (.tbl (ps ++ more))
section
variable {fs fs' ex ex' : List Addr} {H H1 H2 : Hp} {h h1 h2 h' : Heap} {a x e : Addr} {o : HO}
theorem Un.any (u : Un fs ex H H1 h h1) {b : Addr} {ob : Obj} (q : h.get? b = some ob) (n : H b = none) (hx : b ∉ ex) : ∃ sl, h1.get? b = some { ob with slots := sl } := by
  by_cases hb : b ∈ fs
  · exact u.slot b ob q n hb hx
  · exact ⟨ob.slots, u.keep b ob q n hb hx⟩
theorem Un.kept (k : ∀ b u, h.get? b = some u → h'.get? b = some u) : Un fs ex H H h h' :=
  ⟨fun b ob q _ _ _ => k b ob q, fun b ob q _ _ _ => ⟨ob.slots, k b ob q⟩, fun _ _ _ n _ => n, fun b ob q _ => ⟨ob, k b ob q⟩, fun _ _ q => q, fun _ _ _ q => q, fun _ ps q => ⟨#[], by rw [q]; simp⟩⟩
theorem Un.refl : Un fs ex H H h h := Un.kept fun _ _ q => q
theorem Un.laid (k : ∀ b u, h.get? b = some u → h'.get? b = some u) (hp : h.objs.size ≤ a) (hn : H a = none) : Un fs ex H (upd H a o) h h' where
  keep := fun b u q _ _ _ => k b u q
  slot := fun b u q _ _ _ => ⟨u.slots, k b u q⟩
  free := fun b u q n _ => by rw [upd_ne (Nat.ne_of_lt (Nat.lt_of_lt_of_le (Heap.lt_size q) hp))]; exact n
  there := fun b u q _ => ⟨u, k b u q⟩
  tups := fun b xs q => by rw [upd_ne (ne_of_none q hn)]; exact q
  frzs := fun b u xs q => by rw [upd_ne (ne_of_none q hn)]; exact q
  tbls := fun b ps q => ⟨#[], by rw [upd_ne (ne_of_none q hn), q]; simp⟩
theorem Un.write (mu : Mut (H x)) (he : e = x ∨ H e = some (.own x)) (k : ∀ b u, b ≠ e → h.get? b = some u → h'.get? b = some u) (heo : ∃ u, h'.get? e = some u) : Un fs ex H (upd H x o) h h' := by
  have hx : ∀ b, H b = none → b ≠ x := fun b n z => by subst z; rw [n] at mu; exact mu
  have hb : ∀ b, H b = none → b ≠ e := fun b n z => by
    subst z
    rcases he with r | r
    · exact hx b n r
    · rw [n] at r; cases r
  have hm : ∀ b u, H b = some u → ¬ Mut (some u) → b ≠ x := fun b u q nm z => by subst z; rw [q] at mu; exact nm mu
  refine ⟨fun b u q n _ _ => k b u (hb b n) q, fun b u q n _ _ => ⟨u.slots, k b u (hb b n) q⟩, fun b u q n _ => by rw [upd_ne (hx b n)]; exact n, fun b u q _ => ?_,
    fun b xs q => by rw [upd_ne (hm b _ q fun z => z)]; exact q, fun b u xs q => by rw [upd_ne (hm b _ q fun z => z)]; exact q, fun b ps q => ⟨#[], by rw [upd_ne (hm b _ q fun z => z), q]; simp⟩⟩
  by_cases hbe : b = e
  · subst hbe; exact heo
  · exact ⟨u, k b u hbe q⟩
end
noncomputable def trk (h : Heap) (H : Hp) : List Addr := (List.range h.objs.size).filter fun a => (H a).isSome
noncomputable def hidT (h : Heap) (H : Hp) : Heap := PySem.W.hideAll h (trk h H)
theorem hidT_size (h : Heap) (H : Hp) : (hidT h H).objs.size = h.objs.size := PySem.W.hideAll_size _ _
theorem hidT_get {h : Heap} {H : Hp} {b : Addr} {o : Obj} (e : h.get? b = some o) (n : H b = none) : (hidT h H).get? b = some o :=
  PySem.W.hideAll_get _ e fun hm => by
    have q : (H b).isSome = true := (List.mem_filter.mp hm).2
    rw [n] at q; simp at q
theorem of_hidT {h : Heap} {H : Hp} {b : Addr} {o : Obj} (e : (hidT h H).get? b = some o) : h.get? b = some o ∧ H b = none := by
  have e' : h.get? b = some o := PySem.W.of_hideAll (trk h H) e
  refine ⟨e', ?_⟩
  cases q : H b with
  | none => rfl
  | some x =>
    have hm : b ∈ trk h H := List.mem_filter.mpr ⟨List.mem_range.mpr (Heap.lt_size e'), by simp [q]⟩
    have z : (hidT h H).get? b = none := PySem.W.hideAll_none (trk h H) hm
    rw [z] at e; cases e
noncomputable def allNews (g h : Heap) (L : Addr) : List (Addr × Obj) := (List.range h.objs.size).filterMap fun a => if a = L ∨ (g.get? a).isSome = true then none else (h.get? a).map fun o => (a, o)
noncomputable def rest (g h : Heap) (L d : Addr) : List (Addr × Obj) := (allNews g h L).filter fun p => decide (p.1 ≠ d)
end L2
namespace L2
open PySem PySem.Spec PyProof.Rows
structure Mod (K : PySem.W.Frag) (mg : Str → Option Value) (base : Heap) : Prop where
  kin : K.In base
  glob : base.Ns mainGlobals mg
  blt : ∃ mb, base.Ns builtinsNs mb ∧ ∀ x : Str, x ≠ "__name__" → mb x = bootBuiltins x
  nolimit : base.NoLimit
structure Cx where
  prog : Program
  w : World
  K : PySem.W.Frag
  mg : Str → Option Value
  base : Heap
  A : Around
  N : List Str
  s₀ : Shared
  H₀ : Hp
  env : Env
  outer : List Env
  stack : List Env
  ex : List Addr
  fn : Str → Bool
  calm : Bool
  pn : List (Addr × Obj)
  xe : Value → Shared → Prop
noncomputable def frs (l : List Env) : List Addr := l.filterMap (·.frame)
noncomputable abbrev Cx.fs (X : Cx) : List Addr := frs X.outer
noncomputable def Vis (sc : Scope) (x : Str) : Prop := sc.names.lookup x = some .local ∨ sc.names.lookup x = some .cell ∨ sc.names.lookup x = some .free
noncomputable def Loc (sc : Scope) (x : Str) : Prop := sc.names.lookup x = some .local ∨ sc.names.lookup x = some .cell
noncomputable def Look (env : Env) (h : Heap) (m : Str → Option Value) (x : Str) (u : Value) : Prop :=
  (env.kindOf x = some .local ∧ m x = some u) ∨ ((env.kindOf x = some .cell ∨ env.kindOf x = some .free) ∧ ∃ c, env.cells.lookup x = some c ∧ h.IsCell c (some u))
structure Cx.Ok (X : Cx) : Prop where
  mod : Mod X.K X.mg X.base
  kind : X.env.scope.kind = .function
  glob : X.env.globals = mainGlobals
  blt : X.env.builtins = builtinsNs
  above : X.s₀.heap.objs.size ≤ X.env.locals
  inj : ∀ x y c, X.env.cells.lookup x = some c → X.env.cells.lookup y = some c → x = y
  has : ∀ x, (X.env.kindOf x = some .cell ∨ X.env.kindOf x = some .free) → ∃ c, X.env.cells.lookup x = some c
  cab : ∀ x c, X.fn x = true → X.env.cells.lookup x = some c → X.s₀.heap.objs.size ≤ c
  hd : X.calm = true → X.A.handled = none
  frames : X.A.frames = some X.stack
  stk : X.stack = X.outer ∨ (X.stack = X.env :: X.outer ∧ X.env.frame = some X.env.locals)
  exf : ∀ b ∈ X.ex, b ≠ X.env.locals ∧ ∀ x c, X.env.cells.lookup x = some c → c ≠ b
  bs : ∀ b o, X.base.get? b = some o → X.s₀.heap.get? b = some o ∧ X.H₀ b = none
  bsz : X.base.objs.size ≤ X.s₀.heap.objs.size
  noex : ∀ b o, X.base.get? b = some o → b ∉ X.ex
  exfs : ∀ b ∈ X.ex, b ∉ X.fs
  funs : X.s₀.heap.FunFrames X.base X.outer
  frf : ∀ b ∈ X.fs, X.H₀ b = none
structure Inv (X : Cx) (pins : List (Addr × Obj)) (σ : List (Option V)) (H : Hp) (s : Shared) : Prop where
  ok : X.Ok
  os : s.os = X.s₀.os
  bare : AllBare s.gens
  base : Un X.fs X.ex X.H₀ H X.s₀.heap s.heap
  loc : ∃ m, s.heap.Ns X.env.locals m ∧ ∀ (i : Nat) (x : Str) (v : V), X.N[i]? = some x → σ[i]? = some (some v) → Vis X.env.scope x → ∃ u, RelV v u ∧ Look X.env s.heap m x u
  cell : ∀ x c, X.env.cells.lookup x = some c → ∃ v, s.heap.IsCell c v
  free : H X.env.locals = none
  freeC : ∀ x c, X.env.cells.lookup x = some c → H c = none
  pin : ∀ p ∈ X.pn ++ pins, s.heap.get? p.1 = some p.2 ∧ H p.1 = none ∧ p.1 ≠ X.env.locals ∧ p.1 ∉ X.fs ∧ ∀ v, p.2.data ≠ .cell v
  hok : HOk X.prog X.w H s.heap
  len : σ.length = X.N.length
section
variable {X : Cx} {pins : List (Addr × Obj)} {σ : List (Option V)} {H H' : Hp} {s : Shared} {h' : Heap}
theorem Cx.Ok.nofr (ok : X.Ok) {b : Addr} {o : Obj} (e : X.base.get? b = some o) : b ∉ X.fs := fun hb => by
  have := (ok.funs.mem hb).1
  rw [e] at this; cases this
theorem Inv.bs (I : Inv X pins σ H s) : ∀ b o, X.base.get? b = some o → s.heap.get? b = some o ∧ H b = none := fun b o e =>
  ⟨I.base.keep b o (I.ok.bs b o e).1 (I.ok.bs b o e).2 (I.ok.nofr e) (I.ok.noex b o e), I.base.free b o (I.ok.bs b o e).1 (I.ok.bs b o e).2 (I.ok.noex b o e)⟩
theorem Inv.bk (I : Inv X pins σ H s) : ∀ b o, X.base.get? b = some o → s.heap.get? b = some o := fun b o e => (I.bs b o e).1
theorem Inv.mod (I : Inv X pins σ H s) : Mod X.K X.mg X.base := I.ok.mod
theorem Inv.kIn (I : Inv X pins σ H s) : X.K.In s.heap := I.ok.mod.kin.keeps I.bk
theorem Inv.lt (I : Inv X pins σ H s) : X.env.locals < s.heap.objs.size := let ⟨_, hn, _⟩ := I.loc; hn.lt
theorem Inv.sz (I : Inv X pins σ H s) : X.s₀.heap.objs.size ≤ s.heap.objs.size := Nat.le_trans I.ok.above (Nat.le_of_lt I.lt)
theorem Inv.nofs (I : Inv X pins σ H s) {a : Addr} (h : s.heap.objs.size ≤ a) : a ∉ X.fs := fun hb => by
  obtain ⟨_, o, ho, _⟩ := I.ok.funs.mem hb
  exact absurd (Nat.lt_of_lt_of_le (Heap.lt_size ho) (Nat.le_trans I.sz h)) (Nat.lt_irrefl _)
theorem Inv.cne (I : Inv X pins σ H s) : ∀ x c, X.env.cells.lookup x = some c → c ≠ X.env.locals := fun x c e z => by
  obtain ⟨v, o, ho, hd⟩ := I.cell x c e
  obtain ⟨m, ⟨o', es, ep, ho', hd', _⟩, _⟩ := I.loc
  rw [z, ho'] at ho; cases ho; rw [hd'] at hd; cases hd
theorem Inv.funs (I : Inv X pins σ H s) : s.heap.FunFrames X.base X.outer := by
  have all : ∀ (l : List Env), (∀ b ∈ frs l, b ∈ X.fs) → X.s₀.heap.FunFrames X.base l → s.heap.FunFrames X.base l := by
    intro l
    induction l with
    | nil => intro _ _; trivial
    | cons env r ih =>
      intro hs hl
      obtain ⟨hk, ⟨L, o, hf, hn, ho, hd⟩, hr⟩ := hl
      have hL : L ∈ X.fs := hs L (by unfold frs; rw [List.filterMap_cons, hf]; exact List.mem_cons_self)
      obtain ⟨sl, e⟩ := I.base.slot L o ho (I.ok.frf L hL) hL fun z => I.ok.exfs L z hL
      exact ⟨hk, ⟨L, _, hf, hn, e, hd⟩, ih (fun b hb => hs b (by unfold frs; rw [List.filterMap_cons, hf]; exact List.mem_cons_of_mem _ hb)) hr⟩
  exact all X.outer (fun _ hb => hb) I.ok.funs
theorem Inv.stack (I : Inv X pins σ H s) : s.heap.FunFrames X.base X.stack := by
  rcases I.ok.stk with e | ⟨e, hf⟩
  · rw [e]; exact I.funs
  · rw [e]
    obtain ⟨m, hn, _⟩ := I.loc
    refine .cons (by rw [I.ok.kind]; decide) hf hn ?_ I.funs
    exact Heap.get?_none_of_le (Nat.le_trans I.ok.bsz I.ok.above)
theorem Inv.stkSub (I : Inv X pins σ H s) : ∀ b ∈ frs X.stack, b ∈ X.env.locals :: X.fs := fun b hb => by
  rcases I.ok.stk with e | ⟨e, hf⟩
  · rw [e] at hb; exact List.mem_cons_of_mem _ hb
  · rw [e] at hb
    unfold frs at hb
    rw [List.filterMap_cons, hf] at hb
    exact hb
theorem Inv.stkFree (I : Inv X pins σ H s) : ∀ b ∈ frs X.stack, H b = none := fun b hb => by
  rcases List.mem_cons.mp (I.stkSub b hb) with e | hb
  · rw [e]; exact I.free
  · obtain ⟨_, o, ho, _⟩ := I.ok.funs.mem hb
    exact I.base.free b o ho (I.ok.frf b hb) fun z => I.ok.exfs b z hb
theorem Inv.step {g' : Array GenState} {t' : Nat} {d' : Drawn} {ch : List Addr} (I : Inv X pins σ H s)
    (hch : ∀ b ∈ ch, (b ∈ X.ex ∨ X.s₀.heap.objs.size ≤ b) ∧ b ≠ X.env.locals ∧ (∀ x c, X.env.cells.lookup x = some c → c ≠ b) ∧ ∀ p ∈ X.pn ++ pins, p.1 ≠ b)
    (keep : ∀ b o, b ≠ X.env.locals → b ∉ X.fs → b ∉ ch → s.heap.get? b = some o → H b = none → h'.get? b = some o)
    (slot : ∀ b o, b ≠ X.env.locals → b ∈ X.fs → b ∉ ch → s.heap.get? b = some o → H b = none → ∃ sl, h'.get? b = some { o with slots := sl }) (free : ∀ b o, b ∉ ch → s.heap.get? b = some o → H b = none → H' b = none)
    (there : ∀ b o, b ∉ ch → s.heap.get? b = some o → ∃ o', h'.get? b = some o')
    (tups : ∀ b xs, H b = some (.tup xs) → H' b = some (.tup xs)) (frzs : ∀ b o u, H b = some (.frz o u) → H' b = some (.frz o u)) (tbls : ∀ b ps, H b = some (.tbl ps) → ∃ more, H' b = some (.tbl (ps ++ more)))
    (ns : ∀ m, s.heap.Ns X.env.locals m → h'.Ns X.env.locals m) (hok : HOk X.prog X.w H' h') (hg : AllBare g') :
    Inv X pins σ H' { s with heap := h', gens := g', drawn := d', toks := t' } := by
  have neL : ∀ b o, X.s₀.heap.get? b = some o → b ≠ X.env.locals := fun b o e => Nat.ne_of_lt (Nat.lt_of_lt_of_le (Heap.lt_size e) I.ok.above)
  have neC : ∀ b o, X.s₀.heap.get? b = some o → b ∉ X.ex → b ∉ ch := fun b o e hx hb => by
    rcases (hch b hb).1 with z | z
    · exact hx z
    · exact absurd (Nat.lt_of_lt_of_le (Heap.lt_size e) z) (Nat.lt_irrefl _)
  have cellK : ∀ x c, X.env.cells.lookup x = some c → ∀ v, s.heap.IsCell c v → h'.IsCell c v := fun x c e v ⟨o, ho, hd⟩ => by
    have nch : c ∉ ch := fun z => (hch c z).2.2.1 x c e rfl
    by_cases hc : c ∈ X.fs
    · obtain ⟨sl, q⟩ := slot c o (I.cne x c e) hc nch ho (I.freeC x c e)
      exact ⟨_, q, hd⟩
    · exact ⟨o, keep c o (I.cne x c e) hc nch ho (I.freeC x c e), hd⟩
  refine ⟨I.ok, I.os, hg, ⟨fun b o e n hb hx => ?_, fun b o e n hb hx => ?_, fun b o e n hx => ?_, fun b o e hx => ?_, fun b xs e => tups b xs (I.base.tups b xs e), fun b o xs e => frzs b o xs (I.base.frzs b o xs e), fun b ps e => ?_⟩, ?_, fun x c e => ?_, ?_, fun x c e => ?_, fun p hp => ?_, hok, I.len⟩
  · exact keep b o (neL b o e) hb (neC b o e hx) (I.base.keep b o e n hb hx) (I.base.free b o e n hx)
  · obtain ⟨sl, e1⟩ := I.base.slot b o e n hb hx
    obtain ⟨sl', e2⟩ := slot b _ (neL b o e) hb (neC b o e hx) e1 (I.base.free b o e n hx)
    exact ⟨sl', e2⟩
  · obtain ⟨o', e1⟩ := I.base.there b o e hx
    exact free b o' (neC b o e hx) e1 (I.base.free b o e n hx)
  · obtain ⟨o', e1⟩ := I.base.there b o e hx
    exact there b o' (neC b o e hx) e1
  · obtain ⟨m1, e1⟩ := I.base.tbls b ps e
    obtain ⟨m2, e2⟩ := tbls b _ e1
    exact ⟨m1 ++ m2, by rw [e2, Array.append_assoc]⟩
  · obtain ⟨m, hn, hl⟩ := I.loc
    refine ⟨m, ns m hn, fun i x v e1 e2 e3 => ?_⟩
    obtain ⟨u, r, l⟩ := hl i x v e1 e2 e3
    refine ⟨u, r, ?_⟩
    rcases l with l | ⟨k, c, e, z⟩
    · exact .inl l
    · exact .inr ⟨k, c, e, cellK x c e _ z⟩
  · obtain ⟨v, z⟩ := I.cell x c e
    exact ⟨v, cellK x c e v z⟩
  · obtain ⟨m, ⟨o, _, _, ho, _⟩, _⟩ := I.loc
    exact free _ o (fun z => (hch _ z).2.1 rfl) ho I.free
  · obtain ⟨v, o, ho, hd⟩ := I.cell x c e
    exact free c o (fun z => (hch c z).2.2.1 x c e rfl) ho (I.freeC x c e)
  · obtain ⟨e, n, ne, nf, d⟩ := I.pin p hp
    have nch : p.1 ∉ ch := fun z => (hch p.1 z).2.2.2 p hp rfl
    exact ⟨keep p.1 p.2 ne nf nch e n, free p.1 p.2 nch e n, ne, nf, d⟩
theorem Inv.un {t' : Nat} (I : Inv X pins σ H s) (u : Un X.fs [] H H' s.heap h') (hok : HOk X.prog X.w H' h') : Inv X pins σ H' { s with heap := h', toks := t' } := by
  obtain ⟨m, ⟨o, es, ep, ho, r⟩, _⟩ := id I.loc
  obtain ⟨sl, hL⟩ := u.any ho I.free (by simp)
  exact I.step (g' := s.gens) (d' := s.drawn) (ch := []) (fun _ z => nomatch z) (fun b o _ hb _ e n => u.keep b o e n hb (by simp)) (fun b o _ hb _ e n => u.slot b o e n hb (by simp)) (fun b o _ e n => u.free b o e n (by simp)) (fun b o _ e => u.there b o e (by simp)) u.tups u.frzs u.tbls (fun m' hm => by
    obtain ⟨o', es', ep', ho', r'⟩ := hm
    rw [ho] at ho'; cases ho'
    exact ⟨_, es', ep', hL, r'⟩) hok I.bare
theorem Inv.call {g' : Array GenState} {t' : Nat} {d' : Drawn} {ch : List Addr} (I : Inv X pins σ H s) (u : Un (frs X.stack) ch H H' s.heap h') (hok : HOk X.prog X.w H' h') (hg : AllBare g')
    (hch : ∀ b ∈ ch, (b ∈ X.ex ∨ X.s₀.heap.objs.size ≤ b) ∧ b ≠ X.env.locals ∧ (∀ x c, X.env.cells.lookup x = some c → c ≠ b) ∧ ∀ p ∈ X.pn ++ pins, p.1 ≠ b) :
    Inv X pins σ H' { s with heap := h', gens := g', drawn := d', toks := t' } := by
  obtain ⟨m, ⟨o, es, ep, ho, r⟩, _⟩ := id I.loc
  obtain ⟨sl, hL⟩ := u.any ho I.free fun z => (hch _ z).2.1 rfl
  exact I.step (ch := ch) hch (fun b o hL hb hc e n => u.keep b o e n (fun z => (List.mem_cons.mp (I.stkSub b z)).elim hL hb) hc) (fun b o _ _ hc e n => u.any e n hc) (fun b o hc e n => u.free b o e n hc) (fun b o hc e => u.there b o e hc) u.tups u.frzs u.tbls (fun m' hm => by
    obtain ⟨o', es', ep', ho', r'⟩ := hm
    rw [ho] at ho'; cases ho'
    exact ⟨_, es', ep', hL, r'⟩) hok hg
theorem Inv.turned {t' : Nat} {it : Addr} (I : Inv X pins σ H s) (k : ∀ b o, b ≠ it → s.heap.get? b = some o → h'.get? b = some o) (hn : H it = none) (hL : it ≠ X.env.locals)
    (h1 : it ∈ X.ex ∨ X.s₀.heap.objs.size ≤ it) (h2 : ∀ x c, X.env.cells.lookup x = some c → c ≠ it) (h3 : ∀ p ∈ X.pn ++ pins, p.1 ≠ it) : Inv X pins σ H { s with heap := h', toks := t' } := by
  have nit : ∀ b u, H b = some u → b ≠ it := fun b u e z => by rw [z, hn] at e; cases e
  refine I.step (g' := s.gens) (d' := s.drawn) (ch := [it]) (fun b hb => ?_) (fun b o _ _ hc e _ => k b o (fun z => hc (by simp [z])) e) (fun b o _ _ hc e _ => ⟨o.slots, k b o (fun z => hc (by simp [z])) e⟩) (fun _ _ _ _ n => n)
    (fun b o hc e => ⟨o, k b o (fun z => hc (by simp [z])) e⟩) (fun _ _ e => e) (fun _ _ _ e => e) (fun b ps e => ⟨#[], by rw [e]; simp⟩) (fun m hm => ?_) (fun b u e => ?_) I.bare
  · have e : b = it := by simpa using hb
    subst e
    exact ⟨h1, hL, h2, h3⟩
  · obtain ⟨o, es, ep, ho, r⟩ := hm
    exact ⟨o, es, ep, k _ o (Ne.symm hL) ho, r⟩
  · refine (I.hok b u e).stay (fun c v hc q => k c v ?_ q) (fun _ q => q) fun _ _ q => q
    rcases hc with z | z
    · rw [z]; exact nit b u e
    · exact nit c _ z
theorem Inv.tok (I : Inv X pins σ H s) (t : Nat) : Inv X pins σ H { s with toks := t } := I.un (h' := s.heap) (t' := t) Un.refl I.hok
theorem Inv.kept {t' : Nat} (I : Inv X pins σ H s) (k : ∀ b u, s.heap.get? b = some u → h'.get? b = some u) : Inv X pins σ H { s with heap := h', toks := t' } := I.un (Un.kept k) (I.hok.kept k)
theorem Inv.laid {a : Addr} {o : HO} {t' : Nat} (I : Inv X pins σ H s) (k : ∀ b u, s.heap.get? b = some u → h'.get? b = some u) (hp : s.heap.objs.size ≤ a) (new : ObjOk X.prog X.w (upd H a o) h' a o) :
    Inv X pins σ (upd H a o) { s with heap := h', toks := t' } := I.un (Un.laid k hp (I.hok.fresh hp)) (I.hok.laid k hp new)
theorem Inv.write {x e : Addr} {o : HO} {t' : Nat} (I : Inv X pins σ H s) (mu : Mut (H x)) (he : e = x ∨ H e = some (.own x)) (k : ∀ b u, b ≠ e → s.heap.get? b = some u → h'.get? b = some u) (heo : ∃ u, h'.get? e = some u)
    (new : ObjOk X.prog X.w (upd H x o) h' x o) : Inv X pins σ (upd H x o) { s with heap := h', toks := t' } := I.un (Un.write mu he k heo) (I.hok.write mu he k heo new)
theorem Inv.pins_of {pins' : List (Addr × Obj)} (I : Inv X pins σ H s) (h : ∀ p ∈ pins', s.heap.get? p.1 = some p.2 ∧ H p.1 = none ∧ p.1 ≠ X.env.locals ∧ p.1 ∉ X.fs ∧ ∀ v, p.2.data ≠ .cell v) : Inv X pins' σ H s :=
  ⟨I.ok, I.os, I.bare, I.base, I.loc, I.cell, I.free, I.freeC, fun p hp => (List.mem_append.mp hp).elim (fun z => I.pin p (List.mem_append_left _ z)) (h p), I.hok, I.len⟩
theorem nodup_ix {N : List Str} (hN : N.Nodup) {i j : Nat} {x : Str} (a : N[i]? = some x) (b : N[j]? = some x) : i = j := by
  obtain ⟨h1, e1⟩ := List.getElem?_eq_some_iff.mp a
  obtain ⟨h2, e2⟩ := List.getElem?_eq_some_iff.mp b
  exact (List.getElem_inj hN).mp (e1.trans e2.symm)
theorem store_ok2 {M : Model} {A : Around} {E : Value → Shared → Prop} {i : Nat} {x : Str} {v : V} {u : Value} {Q : Unit → Shared → Prop} (I : Inv X pins σ H s) (hN : X.N.Nodup) (hi : X.N[i]? = some x) (hx : Loc X.env.scope x) (r : RelV v u)
    (h : ∀ s', Inv X pins (σ.set i (some v)) H s' → (∃ a, Heap.SameBut a s.heap s'.heap ∧ (a = X.env.locals ∨ X.env.cells.lookup x = some a)) → Q () s') (hf : X.fn x = true ∨ X.env.scope.names.lookup x = some .local := by first | exact .inl rfl | exact .inr rfl | assumption) : wpAny M A (storeName X.env x u) Q E s := by
  obtain ⟨m, hn, hl⟩ := id I.loc
  have hcls : (X.env.scope.kind == .class || (X.env.scope.kind == .module && X.env.locals != X.env.globals)) = false := by rw [I.ok.kind]; rfl
  have hiσ : i < σ.length := by rw [I.len]; exact (List.getElem?_eq_some_iff.mp hi).1
  have cne := I.cne
  have tracked : ∀ {a : Addr} {h' : Heap}, (∃ o, s.heap.get? a = some o ∧ H a = none) → Heap.SameBut a s.heap h' → HOk X.prog X.w H h' := fun {a h'} ha hs b ob e => by
    obtain ⟨_, _, hfree⟩ := ha
    refine (I.hok b ob e).stay (fun c w' hc q => (hs.2 c ?_).trans q) (fun _ q => q) fun _ _ q => q
    rintro rfl
    rcases hc with rfl | hc
    · rw [hfree] at e; cases e
    · rw [hfree] at hc; cases hc
  rcases hx with hk | hk
  · refine wpAny_storeName_local hk hn (fun h' hn' hs => ?_) hcls
    obtain ⟨oL, _, _, hoL, _⟩ := id hn
    refine h _ ⟨I.ok, I.os, I.bare, ⟨fun b o e n hb hx => ?_, fun b o e n hb hx => ?_, I.base.free, fun b o e hx => ?_, I.base.tups, I.base.frzs, I.base.tbls⟩, ⟨_, hn', fun j y v' e1 e2 e3 => ?_⟩, fun y c e => ?_, I.free, I.freeC, fun p hp => ?_, tracked ⟨oL, hoL, I.free⟩ hs, by simpa using I.len⟩ ⟨_, hs, .inl rfl⟩
    · exact (hs.2 b (Nat.ne_of_lt (Nat.lt_of_lt_of_le (Heap.lt_size e) I.ok.above))).trans (I.base.keep b o e n hb hx)
    · obtain ⟨sl, e1⟩ := I.base.slot b o e n hb hx
      exact ⟨sl, (hs.2 b (Nat.ne_of_lt (Nat.lt_of_lt_of_le (Heap.lt_size e) I.ok.above))).trans e1⟩
    · obtain ⟨o', e1⟩ := I.base.there b o e hx
      exact ⟨o', (hs.2 b (Nat.ne_of_lt (Nat.lt_of_lt_of_le (Heap.lt_size e) I.ok.above))).trans e1⟩
    · by_cases hj : j = i
      · subst hj
        rw [hi] at e1; cases e1
        rw [List.getElem?_set_self hiσ] at e2
        cases e2
        exact ⟨u, r, .inl ⟨hk, by simp⟩⟩
      · rw [List.getElem?_set_ne (Ne.symm hj)] at e2
        obtain ⟨u', r', q⟩ := hl j y v' e1 e2 e3
        refine ⟨u', r', ?_⟩
        rcases q with ⟨k, e⟩ | ⟨k, c, e, z⟩
        · refine .inl ⟨k, ?_⟩
          have : y ≠ x := fun e => hj (nodup_ix hN e1 (e ▸ hi))
          simp [this, e]
        · exact .inr ⟨k, c, e, z.sameBut hs (cne y c e)⟩
    · obtain ⟨w', z⟩ := I.cell y c e
      exact ⟨w', z.sameBut hs (cne y c e)⟩
    · obtain ⟨e, n, ne, nf, d⟩ := I.pin p hp
      exact ⟨(hs.2 p.1 ne).trans e, n, ne, nf, d⟩
  · have hfn : X.fn x = true := by
      rcases hf with z | z
      · exact z
      · rw [z] at hk; cases hk
    obtain ⟨c, hc⟩ := I.ok.has x (.inl hk)
    obtain ⟨w', z⟩ := I.cell x c hc
    refine wpAny_storeName_cell I.ok.kind hk hc z (fun h' hc' hs => ?_)
    obtain ⟨oc, hoc, hocd⟩ := id z
    refine h { s with heap := h' } ⟨I.ok, I.os, I.bare, ⟨fun b o e n hb hx => ?_, fun b o e n hb hx => ?_, I.base.free, fun b o e hx => ?_, I.base.tups, I.base.frzs, I.base.tbls⟩, ⟨m, hn.sameBut hs (Ne.symm (cne x c hc)), fun j y v' e1 e2 e3 => ?_⟩, fun y c' e => ?_, I.free, I.freeC, fun p hp => ?_, tracked ⟨oc, hoc, I.freeC x c hc⟩ hs, by simpa using I.len⟩ ⟨c, hs, .inr hc⟩
    · exact (hs.2 b (Nat.ne_of_lt (Nat.lt_of_lt_of_le (Heap.lt_size e) (I.ok.cab x c hfn hc)))).trans (I.base.keep b o e n hb hx)
    · obtain ⟨sl, e1⟩ := I.base.slot b o e n hb hx
      exact ⟨sl, (hs.2 b (Nat.ne_of_lt (Nat.lt_of_lt_of_le (Heap.lt_size e) (I.ok.cab x c hfn hc)))).trans e1⟩
    · obtain ⟨o', e1⟩ := I.base.there b o e hx
      exact ⟨o', (hs.2 b (Nat.ne_of_lt (Nat.lt_of_lt_of_le (Heap.lt_size e) (I.ok.cab x c hfn hc)))).trans e1⟩
    · by_cases hj : j = i
      · subst hj
        rw [hi] at e1; cases e1
        rw [List.getElem?_set_self hiσ] at e2
        cases e2
        exact ⟨u, r, .inr ⟨.inl hk, c, hc, hc'⟩⟩
      · rw [List.getElem?_set_ne (Ne.symm hj)] at e2
        obtain ⟨u', r', q⟩ := hl j y v' e1 e2 e3
        refine ⟨u', r', ?_⟩
        rcases q with q | ⟨k, c', e, z'⟩
        · exact .inl q
        · refine .inr ⟨k, c', e, z'.sameBut hs ?_⟩
          rintro rfl
          exact hj (nodup_ix hN e1 (I.ok.inj _ _ _ e hc ▸ hi))
    · by_cases hcc : c' = c
      · subst hcc; exact ⟨_, hc'⟩
      · obtain ⟨w2, z2⟩ := I.cell y c' e
        exact ⟨w2, z2.sameBut hs hcc⟩
    · obtain ⟨e, n, ne, nf, d⟩ := I.pin p hp
      refine ⟨(hs.2 p.1 ?_).trans e, n, ne, nf, d⟩
      intro q
      rw [q, hoc] at e
      have q' : oc = p.2 := Option.some.inj e
      exact d w' (by rw [← q']; exact hocd)
theorem store_ok {M : Model} {A : Around} {E : Value → Shared → Prop} {i : Nat} {x : Str} {v : V} {u : Value} {Q : Unit → Shared → Prop} (I : Inv X pins σ H s) (hN : X.N.Nodup) (hi : X.N[i]? = some x) (hx : Loc X.env.scope x) (r : RelV v u)
    (h : ∀ s', Inv X pins (σ.set i (some v)) H s' → Q () s') (hf : X.fn x = true ∨ X.env.scope.names.lookup x = some .local := by first | exact .inl rfl | exact .inr rfl | assumption) : wpAny M A (storeName X.env x u) Q E s :=
  store_ok2 I hN hi hx r (fun s' I' _ => h s' I') hf
theorem Inv.call' {s' : Shared} {ch : List Addr} (I : Inv X pins σ H s) (ho : s'.os = s.os) (u : Un (frs X.stack) ch H H' s.heap s'.heap) (hok : HOk X.prog X.w H' s'.heap) (hg : AllBare s'.gens)
    (hch : ∀ b ∈ ch, (b ∈ X.ex ∨ X.s₀.heap.objs.size ≤ b) ∧ b ≠ X.env.locals ∧ (∀ x c, X.env.cells.lookup x = some c → c ≠ b) ∧ ∀ p ∈ X.pn ++ pins, p.1 ≠ b) : Inv X pins σ H' s' := by
  obtain ⟨h', g', d', t', o'⟩ := s'
  have e : o' = s.os := ho
  subst e
  exact I.call (g' := g') (t' := t') (d' := d') u hok hg hch
end
noncomputable abbrev XK := Value → Option Addr → Hp → Prop
noncomputable abbrev St := List (Option V)
noncomputable abbrev VK := V → Hp → Prop
noncomputable abbrev TE := St → Hp → VK → Prop
noncomputable abbrev TT := St → Hp → (Bool → Hp → Prop) → Prop
noncomputable abbrev TA := St → Hp → (List V → Hp → Prop) → Prop
structure Ends where
  nx : St → Hp → Prop
  rt : VK
  bk : St → Hp → Prop := fun _ _ => False
  ct : St → Hp → Prop := fun _ _ => False
noncomputable abbrev TS := Ends → St → Hp → Prop
noncomputable def EP (X : Cx) (pins : List (Addr × Obj)) (σ : St) (Q : VK) (u : Value) (s' : Shared) : Prop := ∃ v H', Inv X pins σ H' s' ∧ RelV v u ∧ Q v H'
noncomputable def TP (X : Cx) (pins : List (Addr × Obj)) (σ : St) (Q : Bool → Hp → Prop) (b : Bool) (s' : Shared) : Prop := ∃ H', Inv X pins σ H' s' ∧ Q b H'
noncomputable def AP (X : Cx) (pins : List (Addr × Obj)) (σ : St) (Q : List V → Hp → Prop) (us : List Value) (s' : Shared) : Prop := ∃ vs H', Inv X pins σ H' s' ∧ Vals vs us ∧ Q vs H'
noncomputable def SP (X : Cx) (pins : List (Addr × Obj)) (D : Ends) (f : Flow) (s' : Shared) : Prop :=
  match f with
  | .next => ∃ σ' H', Inv X pins σ' H' s' ∧ D.nx σ' H'
  | .brk => ∃ σ' H', Inv X pins σ' H' s' ∧ D.bk σ' H'
  | .cont => ∃ σ' H', Inv X pins σ' H' s' ∧ D.ct σ' H'
  | .ret u => ∃ v σ' H', Inv X pins σ' H' s' ∧ RelV v u ∧ D.rt v H'
noncomputable def PE (X : Cx) (e : Expr) (t : TE) : Prop :=
  ∀ (pins : List (Addr × Obj)) (s : Shared) (σ : St) (H : Hp) (Q : VK), Inv X pins σ H s → t σ H Q → wpAny (model X.prog X.w) X.A (eval e X.env) (EP X pins σ Q) X.xe s
noncomputable def PT (X : Cx) (e : Expr) (t : TT) : Prop :=
  ∀ (pins : List (Addr × Obj)) (s : Shared) (σ : St) (H : Hp) (Q : Bool → Hp → Prop), Inv X pins σ H s → t σ H Q → wpAny (model X.prog X.w) X.A (isTrue e X.env (eval e X.env)) (TP X pins σ Q) X.xe s
noncomputable def PW (X : Cx) (e : Expr) (t : TT) : Prop :=
  ∀ (whole : Sem Value) (pins : List (Addr × Obj)) (s : Shared) (σ : St) (H : Hp) (Q : Bool → Hp → Prop), Inv X pins σ H s → t σ H Q → wpAny (model X.prog X.w) X.A (isTrue e X.env whole) (TP X pins σ Q) X.xe s
theorem PW.pt {X : Cx} {e : Expr} {t : TT} (h : PW X e t) : PT X e t := h _
noncomputable def PA (X : Cx) (es : List Expr) (t : TA) : Prop :=
  ∀ (pos : Pos) (pins : List (Addr × Obj)) (s : Shared) (σ : St) (H : Hp) (Q : List V → Hp → Prop), Inv X pins σ H s → t σ H Q → wpAny (model X.prog X.w) X.A (spliced (backTo pos (starEach es X.env))) (AP X pins σ Q) X.xe s
noncomputable def PS (X : Cx) (st : Stmt) (t : TS) : Prop :=
  ∀ (pins : List (Addr × Obj)) (s : Shared) (σ : St) (H : Hp) (D : Ends), Inv X pins σ H s → t D σ H → wpAny (model X.prog X.w) X.A (exec st X.env) (SP X pins D) X.xe s
noncomputable def PSs (X : Cx) (st : List Stmt) (t : TS) : Prop :=
  ∀ (pins : List (Addr × Obj)) (s : Shared) (σ : St) (H : Hp) (D : Ends), Inv X pins σ H s → t D σ H → wpAny (model X.prog X.w) X.A (execs st X.env) (SP X pins D) X.xe s
theorem thn {α : Type} {t : Sem α} {Q Q' : α → Shared → Prop} {M : Model} {A : Around} {E : Value → Shared → Prop} {s : Shared} (h : wpAny M A t Q E s) (hQ : ∀ a s, Q a s → Q' a s) : wpAny M A t Q' E s := wpAny_mono h hQ fun _ _ x => x
theorem exA {α : Sort _} {f g : α → Prop} {a : α} (h : f a) (k : g a) : ∃ x, f x ∧ g x := ⟨a, h, k⟩
theorem thnE {X : Cx} {pins : List (Addr × Obj)} {σ : St} {Q : VK} {t : Sem Value} {R : Value → Shared → Prop} {s : Shared} (h : wpAny (model X.prog X.w) X.A t (EP X pins σ Q) X.xe s) (k : ∀ u s1 x H1, Inv X pins σ H1 s1 → RelV x u → Q x H1 → R u s1) : wpAny (model X.prog X.w) X.A t R X.xe s := thn h fun u s1 z => by
  obtain ⟨x, H1, I1, r, q⟩ := z
  exact k u s1 x H1 I1 r q
end L2
namespace L2
open PySem PySem.Spec PyProof.Rows
section
variable {X : Cx}
theorem bin {a b : Expr} {ta tb : TE} (ha : PE X a ta) (hb : PE X b tb) {pins : List (Addr × Obj)} {s : Shared} {σ : St} {H : Hp} {R : V → V → Hp → Prop} (I : Inv X pins σ H s) (h : ta σ H fun x H1 => tb σ H1 fun y H2 => R x y H2)
    {α : Type} {Q : α → Shared → Prop} {f : Value → Value → Sem α}
    (hf : ∀ v u s2 x y H2, Inv X pins σ H2 s2 → RelV x v → RelV y u → R x y H2 → wpAny (model X.prog X.w) X.A (f v u) Q X.xe s2) :
    wpAny (model X.prog X.w) X.A (eval a X.env) (fun v s₁ => wpAny (model X.prog X.w) X.A (eval b X.env) (fun u s₂ => wpAny (model X.prog X.w) X.A (f v u) Q X.xe s₂) X.xe s₁) X.xe s := by
  refine thnE (ha pins s σ H _ I h) fun v s1 x H1 I1 r1 q1 => ?_
  refine thnE (hb pins s1 σ H1 _ I1 q1) fun u s2 y H2 I2 r2 q2 => ?_
  exact hf v u s2 x y H2 I2 r1 r2 q2
noncomputable def tVar (i : Nat) : TE := fun σ H Q => ∃ v, σ[i]? = some (some v) ∧ Q v H
noncomputable def tC (v : V) : TE := fun _ H Q => Q v H
theorem pe_var {i : Nat} {x : Str} {pos : Pos} (hN : X.N[i]? = some x) (hv : Vis X.env.scope x) (hd : (x == ("__debug__" : Str)) = false := by decide) (hcd : (x == ("__classdict__" : Str)) = false := by decide) : PE X (.Name x pos) (tVar i) := by
  intro pins s σ H Q I h
  obtain ⟨v, e, h⟩ := h
  obtain ⟨m, hn, hl⟩ := I.loc
  obtain ⟨u, r, l⟩ := hl i x v hN e hv
  have fin : EP X pins σ Q u s := ⟨v, H, I, r, h⟩
  rcases l with ⟨hk, hm⟩ | ⟨hk, c, hc, hcell⟩
  · exact wpAny_Name (wpAny_loadName_local I.ok.kind hk hn hm fin) hd
  · rcases hk with hk | hk
    · exact wpAny_Name (wpAny_loadName_cell I.ok.kind hk hc hcell fin) hd
    · exact wpAny_Name (wpAny_loadName_free I.ok.kind hk hc hcell fin hcd) hd
theorem pe_int {i j pos} : PE X (.Constant (.int i) j pos) (tC (.int i)) := fun _ _ _ H _ I h => wpAny_Constant_int ⟨.int i, H, I.tok _, ⟨_, rfl⟩, h⟩
theorem pe_bl {b j pos} : PE X (.Constant (.bool b) j pos) (tC (.bl b)) := fun _ _ _ H _ I h => Constant_bool ⟨.bl b, H, I, rfl, h⟩
theorem pe_non {j pos} : PE X (.Constant .none j pos) (tC .non) := fun _ _ _ H _ I h => Constant_none ⟨.non, H, I, rfl, h⟩
theorem pe_str {x j pos} : PE X (.Constant (.str x) j pos) (tC (.str x)) := fun _ _ _ H _ I h => Calls.Constant_str ⟨.str x, H, I.tok _, ⟨_, rfl⟩, h⟩
noncomputable def Gl (X : Cx) (x : Str) : Prop := X.env.kindOf x = some .globalImplicit
theorem ld_glob {E : Value → Shared → Prop} {pins : List (Addr × Obj)} {s : Shared} {σ : St} {H : Hp} {x : Str} {u : Value} {pos : Pos} {Q : Value → Shared → Prop} (I : Inv X pins σ H s) (hg : Gl X x) (hm : X.mg x = some u) (h : Q u s)
    (hd : (x == ("__debug__" : Str)) = false := by decide) : wpAny (model X.prog X.w) X.A (eval (.Name x pos) X.env) Q E s :=
  Calls.Name_function_global I.ok.kind hg (Calls.loadGlobal_global (by rw [I.ok.glob]; exact I.mod.glob.keeps I.bk) hm h) hd
theorem ld_blt {E : Value → Shared → Prop} {pins : List (Addr × Obj)} {s : Shared} {σ : St} {H : Hp} {x : Str} {u : Value} {pos : Pos} {Q : Value → Shared → Prop} (I : Inv X pins σ H s) (hg : Gl X x) (hm : X.mg x = none) (hv : bootBuiltins x = some u) (h : Q u s)
    (hn : x ≠ "__name__" := by decide) (hd : (x == ("__debug__" : Str)) = false := by decide) : wpAny (model X.prog X.w) X.A (eval (.Name x pos) X.env) Q E s := by
  obtain ⟨mb, h1, h2⟩ := I.mod.blt
  exact Calls.Name_function_global I.ok.kind hg (Calls.loadGlobal_builtin (by rw [I.ok.glob]; exact I.mod.glob.keeps I.bk) hm (by rw [I.ok.blt]; exact h1.keeps I.bk) ((h2 x hn).trans hv) h) hd
theorem pe_glob {x : Str} {v : V} {u : Value} {pos : Pos} (hg : Gl X x) (hm : X.mg x = some u) (r : RelV v u) (hd : (x == ("__debug__" : Str)) = false := by decide) : PE X (.Name x pos) (tC v) :=
  fun _ _ _ H _ I h => ld_glob I hg hm ⟨v, H, I, r, h⟩ hd
theorem pe_bltn {x : Str} {v : V} {u : Value} {pos : Pos} (hg : Gl X x) (hm : X.mg x = none) (hv : bootBuiltins x = some u) (r : RelV v u) (hn : x ≠ "__name__" := by decide) (hd : (x == ("__debug__" : Str)) = false := by decide) : PE X (.Name x pos) (tC v) :=
  fun _ _ _ H _ I h => ld_blt I hg hm hv ⟨v, H, I, r, h⟩ hn hd
noncomputable def t2I (ta tb : TE) (k : Int → Int → Hp → Prop) : St → Hp → Prop := fun σ H => ta σ H fun x H1 => tb σ H1 fun y H2 => ∃ i j, x = .int i ∧ y = .int j ∧ k i j H2
variable {a b : Expr} {ta tb : TE} {pos : Pos}
noncomputable def PC (X : Cx) (op : CmpOp) (a b : Expr) (t : TE) : Prop :=
  ∀ (pins : List (Addr × Obj)) (s : Shared) (σ : St) (H : Hp) (Q : VK), Inv X pins σ H s → t σ H Q →
    wpAny (model X.prog X.w) X.A (eval a X.env) (fun v s₁ => wpAny (model X.prog X.w) X.A (eval b X.env) (fun u s₂ => wpAny (model X.prog X.w) X.A (compareOp op v u) (EP X pins σ Q) X.xe s₂) X.xe s₁) X.xe s
theorem nobehind (b : Expr) {op : CmpOp} (h : op ≠ .In) (h2 : op ≠ .NotIn) : behindInMarks op b = false := by
  have e1 : (op == CmpOp.In) = false := by cases op <;> first | rfl | exact absurd rfl h
  have e2 : (op == CmpOp.NotIn) = false := by cases op <;> first | rfl | exact absurd rfl h2
  cases b <;> simp [behindInMarks, e1, e2]
noncomputable def tCmp (p : Int → Int → Bool) (ta tb : TE) : TE := fun σ H Q => t2I ta tb (fun i j H2 => Q (.bl (p i j)) H2) σ H
noncomputable abbrev tEqI : TE → TE → TE := tCmp fun i j => decide (i = j)
noncomputable abbrev tNeI : TE → TE → TE := tCmp fun i j => !decide (i = j)
theorem pc_int {op : CmpOp} {p : Int → Int → Bool} (ha : PE X a ta) (hb : PE X b tb)
    (rule : ∀ (i j : Int) (t u : Tok) (Q : Value → Shared → Prop) (s : Shared), Q (.bool (p i j)) s → wpAny (model X.prog X.w) X.A (compareOp op (.int i t) (.int j u)) Q X.xe s) : PC X op a b (tCmp p ta tb) := by
  intro pins s σ H Q I h
  refine bin ha hb I h fun v u s2 x y H2 I2 rx ry q => ?_
  obtain ⟨i, j, rfl, rfl, q⟩ := q
  obtain ⟨t, rfl⟩ := rx
  obtain ⟨t', rfl⟩ := ry
  exact rule i j t t' _ s2 ⟨.bl _, H2, I2, rfl, q⟩
theorem pc_eqI (ha : PE X a ta) (hb : PE X b tb) : PC X .Eq a b (tEqI ta tb) := pc_int ha hb fun _ _ _ _ _ _ h => eq_int (by rw [Bool.beq_eq_decide_eq]; exact h)
theorem pc_neI (ha : PE X a ta) (hb : PE X b tb) : PC X .NotEq a b (tNeI ta tb) := pc_int ha hb fun _ _ _ _ _ _ h => ne_int (by rw [bne, Bool.beq_eq_decide_eq]; exact h)
noncomputable def tB (t : TE) : TT := fun σ H Q => t σ H fun x H1 => ∃ c, x = .bl c ∧ Q c H1
theorem pt_cmp {op : CmpOp} {t : TE} (h : PC X op a b t) (h1 : behindInMarks op b = false := by first | exact nobehind _ (by decide) (by decide) | rfl) : PT X (.Compare a [op] [b] pos) (tB t) := by
  intro pins s σ H Q I hw
  refine wpAny_isTrue_Compare1 (thn (h pins s σ H _ I hw) fun v s1 h1 => thn h1 fun u s2 h2 => thn h2 fun c s3 hz8 => ?_) h1
  obtain ⟨x, H1, I1, r1, q1⟩ := hz8
  obtain ⟨d, rfl, q⟩ := q1
  cases r1
  exact wpAny_truthy_bool ⟨H1, I1, q⟩
theorem pt_val {e : Expr} {t : TE} (h : PE X e t) (he : ∀ whole, isTrue e X.env whole = (do let v ← whole; standAt e.pos; holding [v] (truthy v)) := by intro _; rfl) : PT X e (tB t) := by
  intro pins s σ H Q I hw
  refine isTrue_plain (thnE (h pins s σ H _ I hw) fun v s1 x H1 I1 r1 q1 => ?_) (he _)
  obtain ⟨d, rfl, q⟩ := q1
  cases r1
  exact wpAny_truthy_bool ⟨H1, I1, q⟩
variable {tA tB' : TT} {rest : List Expr}
noncomputable def tAnd (t u : TT) : TT := fun σ H Q => t σ H fun c H1 => if c = true then u σ H1 Q else Q false H1
noncomputable def tOr (t u : TT) : TT := fun σ H Q => t σ H fun c H1 => if c = true then Q true H1 else u σ H1 Q
noncomputable def tNot (t : TT) : TT := fun σ H Q => t σ H fun c H1 => Q (!c) H1
theorem pw_and1 (ha : PT X a tA) : PW X (.BoolOp .And [a] pos) tA := by
  intro wh pins s σ H Q I h
  refine isTrue_and (thn (ha pins s σ H Q I h) fun c s1 e => ?_)
  cases c with
  | true => exact isTrue_and_nil e
  | false => exact e
theorem pw_or1 (ha : PT X a tA) : PW X (.BoolOp .Or [a] pos) tA := by
  intro wh pins s σ H Q I h
  refine isTrue_or (thn (ha pins s σ H Q I h) fun c s1 e => ?_)
  cases c with
  | false => exact isTrue_or_nil e
  | true => exact e
theorem pw_and (ha : PT X a tA) (hb : PW X (.BoolOp .And (b :: rest) pos) tB') : PW X (.BoolOp .And (a :: b :: rest) pos) (tAnd tA tB') := by
  intro wh pins s σ H Q I h
  refine isTrue_and (thn (ha pins s σ H _ I h) fun c s1 hz8 => ?_)
  obtain ⟨H1, I1, q1⟩ := hz8
  cases c with
  | true => exact hb wh pins s1 σ H1 Q I1 q1
  | false => exact ⟨H1, I1, q1⟩
theorem pw_or (ha : PT X a tA) (hb : PW X (.BoolOp .Or (b :: rest) pos) tB') : PW X (.BoolOp .Or (a :: b :: rest) pos) (tOr tA tB') := by
  intro wh pins s σ H Q I h
  refine isTrue_or (thn (ha pins s σ H _ I h) fun c s1 hz8 => ?_)
  obtain ⟨H1, I1, q1⟩ := hz8
  cases c with
  | true => exact ⟨H1, I1, q1⟩
  | false => exact hb wh pins s1 σ H1 Q I1 q1
theorem pt_not (ha : PT X a tA) : PT X (.UnaryOp .Not a pos) (tNot tA) := by
  intro pins s σ H Q I h
  exact isTrue_not (ha pins s σ H (fun c H1 => Q (!c) H1) I h)
noncomputable def tAndV (ta tb : TE) : TE := fun σ H Q => ta σ H fun x H1 => ∃ c, x = .bl c ∧ if c = true then tb σ H1 Q else Q (.bl false) H1
noncomputable def tNotV (ta : TE) : TE := fun σ H Q => ta σ H fun x H1 => ∃ c, x = .bl c ∧ Q (.bl (!c)) H1
theorem pe_one {op} {t : TE} (h : PE X a t) : PE X (.BoolOp op [a] pos) t := fun pins s σ H Q I hw => BoolOp_one (h pins s σ H Q I hw)
theorem pe_and (ha : PE X a ta) (hb : PE X (.BoolOp .And (b :: rest) pos) tb) : PE X (.BoolOp .And (a :: b :: rest) pos) (tAndV ta tb) := by
  intro pins s σ H Q I h
  refine BoolOp_and (thnE (ha pins s σ H _ I h) fun v s1 x H1 I1 r1 q1 => ?_)
  obtain ⟨c, rfl, q1⟩ := q1
  cases r1
  refine wpAny_truthy_bool ?_
  cases c with
  | true => exact hb pins s1 σ H1 Q I1 q1
  | false => exact ⟨.bl false, H1, I1, rfl, q1⟩
theorem pe_not (ha : PE X a ta) : PE X (.UnaryOp .Not a pos) (tNotV ta) := by
  intro pins s σ H Q I h
  refine UnaryOp_ (thnE (ha pins s σ H _ I h) fun v s1 x H1 I1 r1 q1 => ?_)
  obtain ⟨c, rfl, q1⟩ := q1
  cases r1
  exact not_of (wpAny_truthy_bool ⟨.bl (!c), H1, I1, rfl, q1⟩)
noncomputable def tIf (t : TT) (ta tb : TE) : TE := fun σ H Q => t σ H fun c H1 => if c = true then ta σ H1 Q else tb σ H1 Q
theorem pe_ifExp {c : Expr} (hc : PT X c tA) (ha : PE X a ta) (hb : PE X b tb) : PE X (.IfExp c a b pos) (tIf tA ta tb) := by
  intro pins s σ H Q I h
  refine wpAny_IfExp (thn (hc pins s σ H _ I h) fun d s1 hz8 => ?_)
  obtain ⟨H1, I1, q1⟩ := hz8
  cases d with
  | true => exact ha pins s1 σ H1 Q I1 q1
  | false => exact hb pins s1 σ H1 Q I1 q1
end
end L2
namespace L2
open PySem PySem.Spec PyProof.Rows
noncomputable def SqL (K : PySem.W.Frag) (H : Hp) (a : Addr) (xs : List V) : Prop :=
  Rd H a (.lst xs) ∨
    ∃ (o : Obj) (its : Array Value) (n : Nat), K.lookup a = some o ∧ o.cls = .type "list" ∧ o.dict = none ∧ o.data = .seq its n ∧ its.size ≤ sizeLine ∧ Vals xs its.toList
noncomputable def SqT (K : PySem.W.Frag) (H : Hp) (a : Addr) (xs : List V) : Prop :=
  Rd H a (.tup xs) ∨
    ∃ (o : Obj) (its : Array Value) (n : Nat), K.lookup a = some o ∧ o.cls = .type "tuple" ∧ o.data = .seq its n ∧ its.size ≤ sizeLine ∧ Vals xs its.toList
noncomputable def absV : Value → Option V
  | .none => some .non
  | .bool b => some (.bl b)
  | .int i _ => some (.int i)
  | .str x _ => some (.str x)
  | .bytes b _ => some (.byt b)
  | .float b _ => some (.flt b)
  | .ref a => some (.ref a)
  | .type n => some (.ty n)
  | _ => none
theorem RelV.abs {x : V} {u : Value} (r : RelV x u) : absV u = some x := by
  cases x with
  | non => cases r; rfl
  | bl _ => cases r; rfl
  | int _ => obtain ⟨t, rfl⟩ := r; rfl
  | str _ => obtain ⟨t, rfl⟩ := r; rfl
  | byt _ => obtain ⟨t, rfl⟩ := r; rfl
  | flt _ => obtain ⟨t, rfl⟩ := r; rfl
  | ref _ => cases r; rfl
  | ty _ => cases r; rfl
theorem RelV.inj {x y : V} {u : Value} (r : RelV x u) (q : RelV y u) : x = y := Option.some.inj (r.abs.symm.trans q.abs)
theorem Vals.inj : ∀ {xs ys : List V} {us : List Value}, Vals xs us → Vals ys us → xs = ys
  | _, _, _, .nil, .nil => rfl
  | _, _, _, .cons r t, .cons r' t' => by rw [r.inj r', Vals.inj t t']
section
variable {X : Cx} {pins : List (Addr × Obj)} {σ : St} {H : Hp} {s : Shared} {a : Addr} {xs ys : List V}
theorem SqL.of {K : PySem.W.Frag} (h : H a = some (.lst xs)) : SqL K H a xs := .inl (.inl h)
theorem SqT.of {K : PySem.W.Frag} (h : H a = some (.tup xs)) : SqT K H a xs := .inl (.inl h)
theorem Inv.list (I : Inv X pins σ H s) (h : SqL X.K H a xs) : ∃ its : List Value, Vals xs its ∧ PlainL s.heap a its.toArray ∧ xs.length ≤ sizeLine := by
  rcases h with h | ⟨o, its, n, hk, hc, hd, hs, hz, r⟩
  · obtain ⟨z, its, n, r, e⟩ := h.ok I.hok
    exact ⟨its, r, ⟨_, n, e, rfl, rfl, rfl⟩, z⟩
  · refine ⟨its.toList, r, ⟨o, n, I.kIn a o hk, hc, hd, by simpa using hs⟩, ?_⟩
    have e := r.length
    simp only [Array.length_toList] at e
    lia
theorem Inv.tuple (I : Inv X pins σ H s) (h : SqT X.K H a xs) : ∃ its : List Value, Vals xs its ∧ IsTup s.heap a its.toArray ∧ xs.length ≤ sizeLine := by
  rcases h with h | ⟨o, its, n, hk, hc, hs, hz, r⟩
  · obtain ⟨z, its, n, r, e⟩ := h.ok I.hok
    exact ⟨its, r, ⟨_, e, rfl, n, rfl⟩, z⟩
  · refine ⟨its.toList, r, ⟨o, I.kIn a o hk, hc, n, by simpa using hs⟩, ?_⟩
    have e := r.length
    simp only [Array.length_toList] at e
    lia
theorem Inv.list_inj (I : Inv X pins σ H s) (h : SqL X.K H a xs) (h' : SqL X.K H a ys) : xs = ys := by
  obtain ⟨its, r, ⟨o, n, e, _, _, d⟩, _⟩ := I.list h
  obtain ⟨its', r', ⟨o', n', e', _, _, d'⟩, _⟩ := I.list h'
  rw [e] at e'; cases e'
  rw [d] at d'
  injection d' with d1 _
  have : its = its' := by simpa using congrArg Array.toList d1
  subst this
  exact r.inj r'
theorem Inv.tuple_inj (I : Inv X pins σ H s) (h : SqT X.K H a xs) (h' : SqT X.K H a ys) : xs = ys := by
  obtain ⟨its, r, ⟨o, e, _, n, d⟩, _⟩ := I.tuple h
  obtain ⟨its', r', ⟨o', e', _, n', d'⟩, _⟩ := I.tuple h'
  rw [e] at e'; cases e'
  rw [d] at d'
  injection d' with d1 _
  have : its = its' := by simpa using congrArg Array.toList d1
  subst this
  exact r.inj r'
end
noncomputable abbrev Cx.wish (X : Cx) (E : Value → Shared → Prop) : Cx := { X with xe := E }
noncomputable abbrev Cx.nox (X : Cx) : Cx := X.wish fun _ _ => False
theorem Cx.Ok.wish {X : Cx} (ok : X.Ok) (E : Value → Shared → Prop) : (X.wish E).Ok :=
  ⟨ok.mod, ok.kind, ok.glob, ok.blt, ok.above, ok.inj, ok.has, ok.cab, ok.hd, ok.frames, ok.stk, ok.exf, ok.bs, ok.bsz, ok.noex, ok.exfs, ok.funs, ok.frf⟩
theorem Cx.Ok.unwish {X : Cx} {E : Value → Shared → Prop} (ok : (X.wish E).Ok) : X.Ok :=
  ⟨ok.mod, ok.kind, ok.glob, ok.blt, ok.above, ok.inj, ok.has, ok.cab, ok.hd, ok.frames, ok.stk, ok.exf, ok.bs, ok.bsz, ok.noex, ok.exfs, ok.funs, ok.frf⟩
section
variable {X : Cx} {pins : List (Addr × Obj)} {σ : St} {H : Hp} {s : Shared} {E : Value → Shared → Prop}
theorem Inv.wish (I : Inv X pins σ H s) (E : Value → Shared → Prop) : Inv (X.wish E) pins σ H s := ⟨I.ok.wish E, I.os, I.bare, I.base, I.loc, I.cell, I.free, I.freeC, I.pin, I.hok, I.len⟩
theorem Inv.unwish (I : Inv (X.wish E) pins σ H s) : Inv X pins σ H s := ⟨I.ok.unwish, I.os, I.bare, I.base, I.loc, I.cell, I.free, I.freeC, I.pin, I.hok, I.len⟩
theorem SP.unwish {D : Ends} {f : Flow} {s' : Shared} (h : SP (X.wish E) pins D f s') : SP X pins D f s' := by
  cases f with
  | next => obtain ⟨σ', H', I, q⟩ := h; exact ⟨σ', H', I.unwish, q⟩
  | brk => obtain ⟨σ', H', I, q⟩ := h; exact ⟨σ', H', I.unwish, q⟩
  | cont => obtain ⟨σ', H', I, q⟩ := h; exact ⟨σ', H', I.unwish, q⟩
  | ret u => obtain ⟨v, σ', H', I, r, q⟩ := h; exact ⟨v, σ', H', I.unwish, r, q⟩
theorem PSs.nox {st : List Stmt} {t : TS} (h : PSs X.nox st t) : PSs X st t := fun pins s σ H D I hw =>
  wpAny_mono (h pins s σ H D (I.wish _) hw) (fun _ _ q => q.unwish) fun _ _ z => False.elim z
end
section
variable {X : Cx} {st : Stmt} {rest : List Stmt} {t u : TS} {e : Expr} {te : TE} {pos : Pos}
noncomputable def tNext : TS := fun D σ H => D.nx σ H
noncomputable def tSeq (t u : TS) : TS := fun D σ H => t { D with nx := u D } σ H
theorem pss_nil : PSs X [] tNext := fun _ _ σ H _ I h => wpAny_execs_nil ⟨σ, H, I, h⟩
theorem pss_cons (h1 : PS X st t) (h2 : PSs X rest u) : PSs X (st :: rest) (tSeq t u) := by
  intro pins s σ H D I h
  refine wpAny_execs_cons (thn (h1 pins s σ H { D with nx := u D } I h) fun f s1 q => ?_)
  cases f with
  | next =>
    obtain ⟨σ', H', I', q⟩ := q
    exact h2 pins s1 σ' H' D I' q
  | ret v => exact q
  | brk => exact q
  | cont => exact q
theorem pss_one (h1 : PS X st t) : PSs X [st] t := by
  intro pins s σ H D I h
  refine wpAny_execs_cons (thn (h1 pins s σ H D I h) fun f s1 q => ?_)
  cases f with
  | next => exact wpAny_execs_nil q
  | ret v => exact q
  | brk => exact q
  | cont => exact q
theorem Inv.quiet {pins : List (Addr × Obj)} {σ : St} {H : Hp} {s : Shared} (I : Inv X pins σ H s) : interactive X.env = false := by simp [interactive, I.ok.kind]
noncomputable def tDrop (te : TE) : TS := fun D σ H => te σ H fun _ H1 => D.nx σ H1
theorem ps_expr (he : PE X e te) (hs : swapsWith e none pos.line X.env = pure false := by rfl) : PS X (.Expr e pos) (tDrop te) := by
  intro pins s σ H D I h
  exact wpAny_Expr_any (thnE (he pins s σ H _ I h) fun v s1 x H1 I1 r1 q1 => ⟨σ, H1, I1, q1⟩) I.quiet hs
noncomputable def tRet (te : TE) : TS := fun D σ H => te σ H D.rt
theorem ps_ret (he : PE X e te) : PS X (.Return (some e) pos) (tRet te) := by
  intro pins s σ H D I h
  exact wpAny_Return_some (thnE (he pins s σ H _ I h) fun v s1 x H1 I1 r1 q1 => ⟨x, σ, H1, I1, r1, q1⟩)
noncomputable def tIfS (c : TT) (t u : TS) : TS := fun D σ H => c σ H fun b H1 => if b = true then t D σ H1 else u D σ H1
theorem ps_if {c : Expr} {a b : List Stmt} {tc : TT} (hc : PT X c tc) (ha : PSs X a t) (hb : PSs X b u) : PS X (.If c a b pos) (tIfS tc t u) := by
  intro pins s σ H D I h
  refine wpAny_If (thn (hc pins s σ H _ I h) fun d s1 hz8 => ?_)
  obtain ⟨H1, I1, q1⟩ := hz8
  cases d with
  | true => exact ha pins s1 σ H1 D I1 q1
  | false => exact hb pins s1 σ H1 D I1 q1
end
noncomputable abbrev TG := V → St → Hp → (St → Hp → Prop) → Prop
noncomputable abbrev TGs := List V → St → Hp → (St → Hp → Prop) → Prop
noncomputable def PG (X : Cx) (target : Expr) (t : TG) : Prop :=
  ∀ (pins : List (Addr × Obj)) (s : Shared) (σ : St) (H : Hp) (v : V) (u : Value) (Q : St → Hp → Prop), Inv X pins σ H s → RelV v u → t v σ H Q →
    wpAny (model X.prog X.w) X.A (assign target X.env u) (fun _ s' => ∃ σ' H', Inv X pins σ' H' s' ∧ Q σ' H') X.xe s
noncomputable def PGs (X : Cx) (ts : List Expr) (t : TGs) : Prop :=
  ∀ (pins : List (Addr × Obj)) (s : Shared) (σ : St) (H : Hp) (vs : List V) (us : List Value) (Q : St → Hp → Prop), Inv X pins σ H s → Vals vs us → t vs σ H Q →
    wpAny (model X.prog X.w) X.A (assignInOrder ((assignEach ts X.env).map (·.2)) us) (fun _ s' => ∃ σ' H', Inv X pins σ' H' s' ∧ Q σ' H') X.xe s
noncomputable abbrev TIp := V → V → Hp → VK → Prop
noncomputable def PIp (X : Cx) (op : Operator) (t : TIp) : Prop :=
  ∀ (pins : List (Addr × Obj)) (s : Shared) (σ : St) (H : Hp) (x y : V) (v u : Value) (Q : VK), Inv X pins σ H s → RelV x v → RelV y u → t x y H Q →
    wpAny (model X.prog X.w) X.A (inplaceOp op v u) (EP X pins σ Q) X.xe s
section
variable {X : Cx} {pos : Pos}
noncomputable def gName (i : Nat) : TG := fun v σ H Q => Q (σ.set i (some v)) H
theorem pg_name {i : Nat} {x : Str} (hN : X.N.Nodup) (hi : X.N[i]? = some x) (hx : Loc X.env.scope x) (hf : X.fn x = true ∨ X.env.scope.names.lookup x = some .local := by first | exact .inl rfl | exact .inr rfl | assumption) : PG X (.Name x pos) (gName i) := by
  intro pins s σ H v u Q I r h
  exact wpAny_assign_Name (store_ok I hN hi hx r (fun s' I' => ⟨_, H, I', h⟩) hf)
noncomputable def gNil : TGs := fun vs σ H Q => vs = [] ∧ Q σ H
noncomputable def gCons (t : TG) (u : TGs) : TGs := fun vs σ H Q => ∃ v r, vs = v :: r ∧ t v σ H fun σ' H' => u r σ' H' Q
theorem pgs_nil : PGs X [] gNil := by
  intro pins s σ H vs us Q I r h
  obtain ⟨e, h⟩ := h
  subst e
  cases r
  exact assignInOrder_nil ⟨σ, H, I, h⟩
theorem pgs_cons {e : Expr} {es : List Expr} {t : TG} {u : TGs} (h1 : PG X e t) (h2 : PGs X es u)
    (hs : (assignEach (e :: es) X.env).map (·.2) = assign e X.env :: (assignEach es X.env).map (·.2) := by rfl) : PGs X (e :: es) (gCons t u) := by
  intro pins s σ H vs us Q I r h
  obtain ⟨v, vr, e1, h⟩ := h
  subst e1
  cases r with
  | cons r rr =>
    rw [hs]
    refine assignInOrder_cons (thn (h1 pins s σ H _ _ _ I r h) fun _ s1 hz8 => ?_)
    obtain ⟨σ1, H1, I1, q1⟩ := hz8
    exact h2 pins s1 σ1 H1 _ _ Q I1 rr q1
noncomputable def gTup (K : PySem.W.Frag) (n : Nat) (t : TGs) : TG := fun v σ H Q => ∃ a xs, v = .ref a ∧ SqT K H a xs ∧ xs.length = n ∧ t xs σ H Q
theorem pg_tup {es : List Expr} {k : Nat} {t : TGs} {n : Nat} (hc : X.calm = true) (h : PGs X es t)
    (hn : (assignEach es X.env).length = n := by rfl) (hst : (assignEach es X.env).findIdx? (·.1) = none := by rfl) : PG X (.Tuple es k pos) (gTup X.K n t) := by
  intro pins s σ H v u Q I r hw
  obtain ⟨a, xs, e1, hq, hl, hw⟩ := hw
  subst e1
  cases r
  obtain ⟨its, rv, ht, hz⟩ := I.tuple hq
  refine assign_Tuple_tuple (I.ok.hd hc) ht (by simp [hn, ← hl, rv.length]) hst fun h' hx => ?_
  have I1 : Inv X pins σ H { s with heap := h' } := I.kept (t' := s.toks) fun b o e => hx b o (Nat.ne_of_lt (Heap.lt_size e)) e
  exact h pins _ σ H xs _ Q I1 (by simpa using rv) hw
noncomputable def tAsg (te : TE) (g : TG) : TS := fun D σ H => te σ H fun x H1 => g x σ H1 D.nx
theorem ps_asg {tg e : Expr} {te : TE} {g : TG} (he : PE X e te) (hg : PG X tg g) (hs : swapsWithSole [tg] e pos.line X.env = pure false := by rfl) (hw : swappedStores [tg] e X.env = pure none := by rfl)
    (h1 : (assignEach [tg] X.env).map (·.2) = [assign tg X.env] := by rfl) : PS X (.Assign [tg] e pos) (tAsg te g) := by
  intro pins s σ H D I h
  refine wpAny_Assign_stores (thnE (he pins s σ H _ I h) fun v s1 x H1 I1 r1 q1 => ?_) hs hw
  rw [h1]
  exact thn (hg pins s1 σ H1 x v _ I1 r1 q1) fun _ s2 q => q
theorem ps_set {i : Nat} {x : Str} {e : Expr} {te : TE} {pos' : Pos} (hN : X.N.Nodup) (hi : X.N[i]? = some x) (hx : Loc X.env.scope x) (he : PE X e te) (hs : swapsWith e (some (.Name x pos')) pos.line X.env = pure false := by rfl) (hf : X.fn x = true ∨ X.env.scope.names.lookup x = some .local := by first | exact .inl rfl | exact .inr rfl | assumption) :
    PS X (.Assign [.Name x pos'] e pos) (tAsg te (gName i)) := by
  intro pins s σ H D I h
  refine wpAny_Assign_Name (thnE (he pins s σ H _ I h) fun v s1 y H1 I1 r1 q1 => ?_) hs
  exact store_ok I1 hN hi hx r1 (fun s2 I2 => ⟨_, H1, I2, q1⟩) hf
noncomputable def tAug (i : Nat) (te : TE) (ti : TIp) : TS := fun D σ H => ∃ x, σ[i]? = some (some x) ∧ te σ H fun y H1 => ti x y H1 fun z H2 => D.nx (σ.set i (some z)) H2
theorem ps_aug {i : Nat} {x : Str} {e : Expr} {te : TE} {op : Operator} {ti : TIp} {pos' : Pos} (hN : X.N.Nodup) (hi : X.N[i]? = some x) (hx : Loc X.env.scope x) (he : PE X e te) (ho : PIp X op ti) (hf : X.fn x = true ∨ X.env.scope.names.lookup x = some .local := by first | exact .inl rfl | exact .inr rfl | assumption) :
    PS X (.AugAssign (.Name x pos') op e pos) (tAug i te ti) := by
  intro pins s σ H D I h
  obtain ⟨v, e1, h⟩ := h
  obtain ⟨m, hn, hl⟩ := I.loc
  have vis : Vis X.env.scope x := by rcases hx with k | k; exact .inl k; exact .inr (.inl k)
  obtain ⟨u, r, l⟩ := hl i x v hi e1 vis
  refine wpAny_AugAssign_Name ?_
  have go : wpAny (model X.prog X.w) X.A (eval e X.env) (fun w s₂ => wpAny (model X.prog X.w) X.A (inplaceOp op u w) (fun r s₃ => wpAny (model X.prog X.w) X.A (storeName X.env x r) (fun _ => SP X pins D .next) X.xe s₃) X.xe s₂) X.xe s := by
    refine thnE (he pins s σ H _ I h) fun w s1 y H1 I1 r1 q1 => ?_
    refine thnE (ho pins s1 σ H1 v y u w _ I1 r r1 q1) fun z s2 zv H2 I2 r2 q2 => ?_
    exact store_ok I2 hN hi hx r2 (fun s3 I3 => ⟨_, H2, I3, q2⟩) hf
  rcases l with ⟨hk, hm⟩ | ⟨hk, c, hc, hcell⟩
  · exact wpAny_loadName_local I.ok.kind hk hn hm go
  · rcases hk with hk | hk
    · exact wpAny_loadName_cell I.ok.kind hk hc hcell go
    · rcases hx with k | k
      · have : X.env.scope.names.lookup x = some .free := hk
        rw [k] at this; cases this
      · have : X.env.scope.names.lookup x = some .free := hk
        rw [k] at this; cases this
noncomputable def ipI (f : Int → Int → Int) : TIp := fun x y H Q => ∃ i j, x = .int i ∧ y = .int j ∧ Q (.int (f i j)) H
theorem ip_add : PIp X .Add (ipI fun i j => i + j) := by
  intro pins s σ H x y v u Q I r1 r2 h
  obtain ⟨i, j, e1, e2, q⟩ := h
  subst e1; subst e2
  obtain ⟨t, rfl⟩ := r1
  obtain ⟨t', rfl⟩ := r2
  exact iadd_int ⟨.int _, H, I.tok _, ⟨_, rfl⟩, q⟩
end
section
variable {X : Cx} {pos : Pos}
noncomputable def tWhile (c : TT) (tb : TS) : TS := fun D σ H => ∃ W : Nat → St → Hp → Prop, (∃ m, W m σ H) ∧ ∀ m σ H, W m σ H →
  c σ H fun b H1 => if b = true then ∃ N : St → Hp → Prop, (∀ σ' H', N σ' H' → ∃ m', m' < m ∧ W m' σ' H') ∧ tb { D with nx := N, ct := N, bk := D.nx } σ H1 else D.nx σ H1
theorem ps_while {c : Expr} {body : List Stmt} {tc : TT} {tb : TS} (hp : PassesOwn (model X.prog X.w) X.A X.env X.xe) (hc : PT X c tc) (hb : PSs X body tb) : PS X (.While c body [] pos) (tWhile tc tb) := by
  intro pins s σ H D I h
  obtain ⟨W, ⟨m0, w0⟩, turn⟩ := h
  refine wpAny_While (codeAny_whileLoop (fun n s' => ∃ σ' H', Inv X pins σ' H' s' ∧ W n σ' H') ?_ m0 ⟨σ, H, I, w0⟩)
  rintro n s1 ⟨σ1, H1, I1, w1⟩
  refine wpAny_passesOwn hp (thn (hc pins s1 σ1 H1 _ I1 (turn n σ1 H1 w1)) fun b s2 hz8 => ?_)
  obtain ⟨H2, I2, q2⟩ := hz8
  cases b with
  | true =>
    obtain ⟨N, hN, q2⟩ := q2
    rw [if_pos rfl]
    refine wpAny_passesOwn hp (thn (hb pins s2 σ1 H2 _ I2 q2) fun f s3 q3 => ?_)
    cases f with
    | next =>
      obtain ⟨σ3, H3, I3, n3⟩ := q3
      obtain ⟨m', hm, w3⟩ := hN σ3 H3 n3
      exact ⟨m', hm, σ3, H3, I3, w3⟩
    | cont =>
      obtain ⟨σ3, H3, I3, n3⟩ := q3
      obtain ⟨m', hm, w3⟩ := hN σ3 H3 n3
      exact ⟨m', hm, σ3, H3, I3, w3⟩
    | brk => exact q3
    | ret v => exact q3
  | false =>
    rw [if_neg Bool.false_ne_true]
    exact wpAny_execs_nil ⟨σ1, H2, I2, q2⟩
end
structure It where
  go : Nat → Hp → Prop
  yld : Nat → Hp → V → Hp → Prop
  stop : Nat → Hp → Prop
noncomputable def FpOk (X : Cx) (pins : List (Addr × Obj)) (H : Hp) (b : Addr) : Prop :=
  H b = none ∧ b ≠ X.env.locals ∧ b ∉ X.fs ∧ (b ∈ X.ex ∨ X.s₀.heap.objs.size ≤ b) ∧ (∀ x c, X.env.cells.lookup x = some c → c ≠ b) ∧ ∀ p ∈ X.pn ++ pins, p.1 ≠ b
theorem Inv.fpOk {X : Cx} {pins : List (Addr × Obj)} {σ : St} {H H' : Hp} {s : Shared} {b : Addr} (I : Inv X pins σ H s) (hb : s.heap.objs.size ≤ b) (hn : H' b = none) : FpOk X pins H' b := by
  refine ⟨hn, Nat.ne_of_gt (Nat.lt_of_lt_of_le I.lt hb), I.nofs hb, .inr (Nat.le_trans I.sz hb), fun x c e z => ?_, fun p hp z => ?_⟩
  · obtain ⟨v, q⟩ := I.cell x c e
    exact absurd (Nat.lt_of_lt_of_le q.lt (by rw [z]; exact hb)) (Nat.lt_irrefl _)
  · exact absurd (Nat.lt_of_lt_of_le (Heap.lt_size (I.pin p hp).1) (by rw [z]; exact hb)) (Nat.lt_irrefl _)
structure Turn (P : Program) (w : World) (K : PySem.W.Frag) (tg : Expr) (J : It) (fp : List Addr) (it : Addr) (tn : Nat → Heap → Prop) : Prop where
  mem : it ∈ fp
  obj : ∀ i h, tn i h → ∀ b ∈ fp, ∃ o, h.get? b = some o ∧ ∀ v, o.data ≠ .cell v
  keep : ∀ i h h', tn i h → (∀ b ∈ fp, ∀ o, h.get? b = some o → h'.get? b = some o) → tn i h'
  item : ∀ (X : Cx), X.prog = P → X.w = w → X.K = K → X.calm = true → ∀ (i : Nat) (pins : List (Addr × Obj)) (s : Shared) (σ : St) (H : Hp) (E : Value → Shared → Prop), Inv X pins σ H s → (∀ b ∈ fp, FpOk X pins H b) → tn i s.heap → J.go i H →
    wpAny (model P w) X.A (pyNext (.ref it)) (fun r s1 => ∃ u, r = some u ∧
      wpAny (model P w) X.A (letOwnedTupleGo tg (.ref it) u) (fun _ s2 => ∃ x H', Inv X pins σ H' s2 ∧ RelV x u ∧ J.yld i H x H' ∧ tn (i + 1) s2.heap ∧ ∀ b ∈ fp, H' b = none) E s1) E s
  done : ∀ (X : Cx), X.prog = P → X.w = w → X.K = K → X.calm = true → ∀ (i : Nat) (pins : List (Addr × Obj)) (s : Shared) (σ : St) (H : Hp) (E : Value → Shared → Prop), Inv X pins σ H s → (∀ b ∈ fp, FpOk X pins H b) → tn i s.heap → J.stop i H →
    wpAny (model P w) X.A (pyNext (.ref it)) (fun r s1 => r = none ∧ Inv X pins σ H s1) E s
  self : ∀ (A : Around) (i : Nat) (s : Shared) (Q : Value → Shared → Prop) (E : Value → Shared → Prop), tn i s.heap → Q (.ref it) s → wpAny (model P w) A (pyIter (.ref it)) Q E s
noncomputable abbrev TI := St → Hp → (It → Hp → Prop) → Prop
noncomputable def PIE (X : Cx) (pins : List (Addr × Obj)) (σ : St) (tg : Expr) (R : It → Hp → Prop) (itv : Value) (s2 : Shared) : Prop :=
  ∃ (it : Addr) (fp : List Addr) (tn : Nat → Heap → Prop) (J : It) (H' : Hp), itv = .ref it ∧ Inv X pins σ H' s2 ∧ Turn X.prog X.w X.K tg J fp it tn ∧ tn 0 s2.heap ∧ (∀ b ∈ fp, FpOk X pins H' b) ∧ R J H'
noncomputable def PI (X : Cx) (tg iter : Expr) (wi : TI) : Prop :=
  ∀ (pins : List (Addr × Obj)) (s : Shared) (σ : St) (H : Hp) (R : It → Hp → Prop), Inv X pins σ H s → wi σ H R →
    wpAny (model X.prog X.w) X.A (eval iter X.env) (fun v s1 => wpAny (model X.prog X.w) X.A (pyIter v) (PIE X pins σ tg R) X.xe s1) X.xe s
theorem go_of {M : Model} {A : Around} {E : Value → Shared → Prop} {s : Shared} {tg : Expr} {it : Addr} {u : Value} {o : Obj} {n : String} {vs : Array Value} {Q : Unit → Shared → Prop} (ho : s.heap.get? it = some o) (hc : o.cls = .type n) (hd : o.data = .fields vs)
    (hn : ["enumerate", "zip", "dict_itemiterator", "dict_reverseitemiterator", "odict_iterator", "itertools.zip_longest", "itertools.pairwise"].contains n = false) (hQ : Q () s) : wpAny M A (letOwnedTupleGo tg (.ref it) u) Q E s := by
  unfold letOwnedTupleGo
  cases tg <;> first
    | exact wpAny_pure hQ
    | (cases u <;> first
        | exact wpAny_pure hQ
        | (refine wpAny_bind (wpAny_load ho ?_)
           rw [hc, hd]
           show wpAny M A (if (["enumerate", "zip", "dict_itemiterator", "dict_reverseitemiterator", "odict_iterator", "itertools.zip_longest", "itertools.pairwise"].contains n && vs[0]? == some (rawInt _)) = true then _ else _) Q E s
           rw [if_neg (by intro h; rw [hn, Bool.false_and] at h; cases h)]
           exact wpAny_pure hQ))
noncomputable def Itl (K : PySem.W.Frag) (a : Addr) : It :=
  ⟨fun i H => ∃ xs x, SqL K H a xs ∧ xs[i]? = some x, fun i H x H' => H' = H ∧ ∀ xs, SqL K H a xs → xs[i]? = some x, fun i H => ∃ xs, SqL K H a xs ∧ xs.length ≤ i⟩
noncomputable def Itt (K : PySem.W.Frag) (a : Addr) : It :=
  ⟨fun i H => ∃ xs x, SqT K H a xs ∧ xs[i]? = some x, fun i H x H' => H' = H ∧ ∀ xs, SqT K H a xs → xs[i]? = some x, fun i H => ∃ xs, SqT K H a xs ∧ xs.length ≤ i⟩
noncomputable def Itr (lo : Int) (n : Nat) : It := ⟨fun i _ => i < n, fun i H x H' => H' = H ∧ x = .int (lo + i), fun i _ => n ≤ i⟩
theorem turn_list {P : Program} {w : World} {K : PySem.W.Frag} {tg : Expr} (a it : Addr) : Turn P w K tg (Itl K a) [it] it (fun i h => h.IsListIter it a i) where
  mem := by simp
  obj := fun i h st b hb => by
    have e : b = it := by simpa using hb
    subst e
    obtain ⟨o, e, c, d⟩ := st
    exact ⟨o, e, fun v z => by rw [d] at z; cases z⟩
  keep := fun i h h' st k => st.at fun o e => k it (by simp) o e
  item := by
    intro X hP hw hK hc i pins s σ H E I hf st hg
    subst hP hw hK
    obtain ⟨xs, x, hq, hx⟩ := hg
    obtain ⟨its, rv, p, hz⟩ := I.list hq
    obtain ⟨u, hu, ru⟩ := rv.get hx
    obtain ⟨f0, f1, f2, f3, f4, f5⟩ := hf it (by simp)
    refine wpAny_pyNext_list_item st p.isList (x := u) (by simpa using hu) fun h' st' sb => ?_
    have I1 : Inv X pins σ H { s with heap := h' } := I.turned (t' := s.toks) (fun b o hb e => (sb.2 b hb).trans e) f0 f1 f3 f4 f5
    obtain ⟨o, e, c, d⟩ := id st'
    exact ⟨u, rfl, go_of (s := { s with heap := h' }) e c d (by decide) ⟨x, H, I1, ru, ⟨rfl, fun ys hy => by rw [I.list_inj hy hq]; exact hx⟩, st', fun b hb => (hf b hb).1⟩⟩
  done := by
    intro X hP hw hK hc i pins s σ H E I hf st hg
    subst hP hw hK
    obtain ⟨xs, hq, hx⟩ := hg
    obtain ⟨its, rv, p, hz⟩ := I.list hq
    obtain ⟨f0, f1, f2, f3, f4, f5⟩ := hf it (by simp)
    have hl := rv.length
    exact wpAny_pyNext_list_end (I.ok.hd hc) st p.isList (by simp; lia) fun h' eb => ⟨rfl, I.turned (t' := s.toks) (fun b o hb e => eb b o hb e) f0 f1 f3 f4 f5⟩
  self := fun _ _ _ _ _ st h => wpAny_pyIter_listiter st h
theorem turn_tuple {P : Program} {w : World} {K : PySem.W.Frag} {tg : Expr} (a it : Addr) : Turn P w K tg (Itt K a) [it] it (fun i h => h.IsTupleIter it a i) where
  mem := by simp
  obj := fun i h st b hb => by
    have e : b = it := by simpa using hb
    subst e
    obtain ⟨o, e, c, d⟩ := st
    exact ⟨o, e, fun v z => by rw [d] at z; cases z⟩
  keep := fun i h h' st k => st.at fun o e => k it (by simp) o e
  item := by
    intro X hP hw hK hc i pins s σ H E I hf st hg
    subst hP hw hK
    obtain ⟨xs, x, hq, hx⟩ := hg
    obtain ⟨its, rv, p, hz⟩ := I.tuple hq
    obtain ⟨u, hu, ru⟩ := rv.get hx
    obtain ⟨f0, f1, f2, f3, f4, f5⟩ := hf it (by simp)
    refine wpAny_pyNext_tuple_item st (show s.heap.IsTuple a its.toArray from p) (x := u) (by simpa using hu) fun h' st' sb => ?_
    have I1 : Inv X pins σ H { s with heap := h' } := I.turned (t' := s.toks) (fun b o hb e => (sb.2 b hb).trans e) f0 f1 f3 f4 f5
    obtain ⟨o, e, c, d⟩ := id st'
    exact ⟨u, rfl, go_of (s := { s with heap := h' }) e c d (by decide) ⟨x, H, I1, ru, ⟨rfl, fun ys hy => by rw [I.tuple_inj hy hq]; exact hx⟩, st', fun b hb => (hf b hb).1⟩⟩
  done := by
    intro X hP hw hK hc i pins s σ H E I hf st hg
    subst hP hw hK
    obtain ⟨xs, hq, hx⟩ := hg
    obtain ⟨its, rv, p, hz⟩ := I.tuple hq
    obtain ⟨f0, f1, f2, f3, f4, f5⟩ := hf it (by simp)
    have hl := rv.length
    exact wpAny_pyNext_tuple_end (I.ok.hd hc) st (show s.heap.IsTuple a its.toArray from p) (by simp; lia) fun h' eb => ⟨rfl, I.turned (t' := s.toks) (fun b o hb e => eb b o hb e) f0 f1 f3 f4 f5⟩
  self := fun _ _ _ _ _ st h => wpAny_pyIter_tupleiter st h
theorem turn_range {P : Program} {w : World} {K : PySem.W.Frag} {tg : Expr} (it : Addr) (lo : Int) (n : Nat) : Turn P w K tg (Itr lo n) [it] it (fun i h => IsRangeIter h it (lo + (i : Nat) * 1) ((n : Int) - (i : Nat)) 1) where
  mem := by simp
  obj := fun i h st b hb => by
    have e : b = it := by simpa using hb
    subst e
    exact ⟨_, st, fun v z => by
      have z' : Data.fields _ = Data.cell v := z
      cases z'⟩
  keep := fun i h h' st k => k it (by simp) _ st
  item := by
    intro X hP hw hK hc i pins s σ H E I hf st hg
    subst hP hw hK
    obtain ⟨f0, f1, f2, f3, f4, f5⟩ := hf it (by simp)
    have W := Walks.range (prog := X.prog) (w := X.w) (I.ok.hd hc) it lo 1 n
    refine W.item i s _ _ hg st fun v h' tk hv st' kk => ?_
    obtain ⟨t, rfl⟩ := hv
    have I1 : Inv X pins σ H { s with heap := h', toks := tk } := I.turned (fun b o hb e => kk b o (by simpa using hb) e) f0 f1 f3 f4 f5
    refine ⟨_, rfl, go_of (s := { s with heap := h', toks := tk }) (n := "range_iterator") st' rfl rfl (by decide) ⟨.int (lo + i), H, I1, ⟨t, ?_⟩, ⟨rfl, rfl⟩, st', fun b hb => (hf b hb).1⟩⟩
    rw [Int.mul_one]
  done := by
    intro X hP hw hK hc i pins s σ H E I hf st hg
    subst hP hw hK
    obtain ⟨f0, f1, f2, f3, f4, f5⟩ := hf it (by simp)
    exact wpAny_pyNext_range_end (I.ok.hd hc) st (by have : n ≤ i := hg; lia) fun h' eb => ⟨rfl, I.turned (t' := s.toks) (fun b o hb e => eb b o hb e) f0 f1 f3 f4 f5⟩
  self := fun _ _ _ _ _ st h => wpAny_pyIter_rangeiter st h
end L2
namespace L2
open PySem PySem.Spec PyProof.Rows
section
variable {X : Cx} {tg : Expr}
noncomputable def iList (K : PySem.W.Frag) (tl : TE) : TI := fun σ H R => tl σ H fun x H1 => ∃ a, x = .ref a ∧ (∃ xs, SqL K H1 a xs) ∧ R (Itl K a) H1
noncomputable def iTup (K : PySem.W.Frag) (tl : TE) : TI := fun σ H R => tl σ H fun x H1 => ∃ a, x = .ref a ∧ (∃ xs, SqT K H1 a xs) ∧ R (Itt K a) H1
theorem pi_list {l : Expr} {tl : TE} (hl : PE X l tl) : PI X tg l (iList X.K tl) := by
  intro pins s σ H R I h
  refine thnE (hl pins s σ H _ I h) fun v s1 x H1 I1 r1 q1 => ?_
  obtain ⟨a, e, ⟨xs, hq⟩, q⟩ := q1
  subst e
  cases r1
  obtain ⟨its, rv, p, hz⟩ := I1.list hq
  refine wpAny_pyIter_list p.isList ?_
  refine ⟨s1.heap.objs.size, [s1.heap.objs.size], _, _, H1, rfl, I1.kept (t' := s1.toks) fun b o e => Heap.get?_push_of_some _ e, turn_list a _, ⟨_, Heap.get?_push_size _ rfl, rfl, rfl⟩, fun b hb => ?_, q⟩
  have e : b = s1.heap.objs.size := by simpa using hb
  subst e
  exact I1.fpOk (Nat.le_refl _) (I1.hok.fresh (Nat.le_refl _))
theorem pi_tup {l : Expr} {tl : TE} (hl : PE X l tl) : PI X tg l (iTup X.K tl) := by
  intro pins s σ H R I h
  refine thnE (hl pins s σ H _ I h) fun v s1 x H1 I1 r1 q1 => ?_
  obtain ⟨a, e, ⟨xs, hq⟩, q⟩ := q1
  subst e
  cases r1
  obtain ⟨its, rv, p, hz⟩ := I1.tuple hq
  refine wpAny_pyIter_tuple (show s1.heap.IsTuple a its.toArray from p) ?_
  refine ⟨s1.heap.objs.size, [s1.heap.objs.size], _, _, H1, rfl, I1.kept (t' := s1.toks) fun b o e => Heap.get?_push_of_some _ e, turn_tuple a _, ⟨_, Heap.get?_push_size _ rfl, rfl, rfl⟩, fun b hb => ?_, q⟩
  have e : b = s1.heap.objs.size := by simpa using hb
  subst e
  exact I1.fpOk (Nat.le_refl _) (I1.hok.fresh (Nat.le_refl _))
theorem range_it {pins : List (Addr × Obj)} {σ : St} {H : Hp} {s : Shared} {R : It → Hp → Prop} {E : Value → Shared → Prop} {lo hi : Int} {t u v : Tok} {tk : Nat} (I : Inv X pins σ H s) (h1 : -(2 ^ 62) ≤ lo) (h2 : lo < 2 ^ 62) (h3 : -(2 ^ 62) ≤ hi) (h4 : hi < 2 ^ 62)
    (q : R (Itr lo (hi - lo).toNat) H) : wpAny (model X.prog X.w) X.A (pyIter (.ref s.heap.objs.size)) (PIE X pins σ tg R) E { s with heap := s.heap.push { cls := .type "range", data := .fields #[.int lo t, .int hi u, .int 1 v] }, toks := tk } := by
  refine wpAny_pyIter_range (IsRange.new ..) (small_one h1 h2 h3 h4) ?_
  have I1 : Inv X pins σ H { s with heap := s.heap.push { cls := .type "range", data := .fields #[.int lo t, .int hi u, .int 1 v] }, toks := tk } := I.kept fun b o e => Heap.get?_push_of_some _ e
  refine ⟨(s.heap.push { cls := .type "range", data := .fields #[.int lo t, .int hi u, .int 1 v] }).objs.size, [(s.heap.push { cls := .type "range", data := .fields #[.int lo t, .int hi u, .int 1 v] }).objs.size], _, _, H, rfl,
    I1.kept (t' := tk) fun b o e => Heap.get?_push_of_some _ e, turn_range _ lo (hi - lo).toNat, ?_, fun b hb => ?_, q⟩
  · have e1 : lo + ((0 : Nat) : Int) * 1 = lo := by simp
    have e2 : (((hi - lo).toNat : Nat) : Int) - ((0 : Nat) : Int) = Builtin.Range.rangeSize lo hi 1 := by rw [rangeSize_one]; split <;> lia
    show IsRangeIter _ _ (lo + ((0 : Nat) : Int) * 1) ((((hi - lo).toNat : Nat) : Int) - ((0 : Nat) : Int)) 1
    rw [e1, e2]
    exact Heap.get?_push_size _ rfl
  · have e : b = (s.heap.push { cls := .type "range", data := .fields #[.int lo t, .int hi u, .int 1 v] }).objs.size := by simpa using hb
    subst e
    exact I1.fpOk (Nat.le_refl _) (I1.hok.fresh (Nat.le_refl _))
noncomputable def iRng1 (ta : TA) : TI := fun σ H R => ta σ H fun vs H1 => ∃ j : Int, vs = [.int j] ∧ -(2 ^ 62) ≤ j ∧ j < 2 ^ 62 ∧ R (Itr 0 j.toNat) H1
theorem pi_range1 {a : Expr} {ta : TA} {p pos : Pos} (hg : Gl X "range") (hm : X.mg "range" = none) (ha : PA X [a] ta) (hs : starEach [a] X.env = [(false, eval a X.env)] := by rfl) : PI X tg (.Call (.Name "range" p) [a] [] pos) (iRng1 ta) := by
  intro pins s σ H R I h
  refine Call_ (ld_blt I hg hm boot_range (PyProof.Rows.callWith_type1 (thn (ha pos pins s σ H _ I h) fun us s1 hz8 => ?_) hs rfl))
  obtain ⟨vs, H1, I1, r1, q1⟩ := hz8
  obtain ⟨j, e, q1, q2, q⟩ := q1
  subst e
  cases r1 with
  | cons r rr =>
    cases rr
    obtain ⟨t, rfl⟩ := r
    exact call_range_1 (range_it I1 (by lia) (by lia) q1 q2 (by simpa using q))
noncomputable def tFor (wi : TI) (g : TG) (tb : TS) : TS := fun D σ H => wi σ H fun J H1 => ∃ W : Nat → Nat → St → Hp → Prop, (∃ m, W 0 m σ H1) ∧ ∀ i m σ H, W i m σ H →
  (J.stop i H ∧ D.nx σ H) ∨ (J.go i H ∧ ∃ N : St → Hp → Prop, (∀ σ' H', N σ' H' → ∃ m', m' < m ∧ W (i + 1) m' σ' H') ∧ ∀ x H', J.yld i H x H' → g x σ H' fun σ2 H2 => tb { D with nx := N, ct := N, bk := D.nx } σ2 H2)
noncomputable def pinsAt (fp : List Addr) (h : Heap) : List (Addr × Obj) := fp.filterMap fun b => (h.get? b).map fun o => (b, o)
theorem mem_pinsAt {fp : List Addr} {h : Heap} {b : Addr} {o : Obj} (hb : b ∈ fp) (e : h.get? b = some o) : (b, o) ∈ pinsAt fp h := List.mem_filterMap.mpr ⟨b, hb, by rw [e]; rfl⟩
theorem of_pinsAt {fp : List Addr} {h : Heap} {p : Addr × Obj} (hp : p ∈ pinsAt fp h) : p.1 ∈ fp ∧ h.get? p.1 = some p.2 := by
  obtain ⟨b, hb, e⟩ := List.mem_filterMap.mp hp
  cases q : h.get? b with
  | none => rw [q] at e; cases e
  | some o =>
    rw [q] at e
    have e' : (b, o) = p := Option.some.inj e
    subst e'
    exact ⟨hb, q⟩
theorem Inv.pinned {pins : List (Addr × Obj)} {σ : St} {H : Hp} {s : Shared} {fp : List Addr} (I : Inv X pins σ H s) (hf : ∀ b ∈ fp, FpOk X pins H b) (ho : ∀ b ∈ fp, ∃ o, s.heap.get? b = some o ∧ ∀ v, o.data ≠ .cell v) : Inv X (pins ++ pinsAt fp s.heap) σ H s :=
  I.pins_of fun p hp => (List.mem_append.mp hp).elim (fun z => I.pin p (List.mem_append_right _ z)) fun z => by
    obtain ⟨hb, e⟩ := of_pinsAt z
    obtain ⟨f0, f1, f2, _⟩ := hf p.1 hb
    obtain ⟨o, e', d⟩ := ho p.1 hb
    rw [e] at e'; cases e'
    exact ⟨e, f0, f1, f2, d⟩
theorem Inv.unpinned {pins pl : List (Addr × Obj)} {σ : St} {H : Hp} {s : Shared} (I : Inv X (pins ++ pl) σ H s) : Inv X pins σ H s := I.pins_of fun p hp => I.pin p (List.mem_append_right _ (List.mem_append_left _ hp))
theorem ps_for {iter : Expr} {body : List Stmt} {wi : TI} {g : TG} {tb : TS} {pos : Pos} (hp : PassesOwn (model X.prog X.w) X.A X.env X.xe) (hc : X.calm = true) (hi : PI X tg iter wi) (hg : PG X tg g) (hb : PSs X body tb)
    (hs : ∀ x, foldedSetIterable iter X.env x = pure x := by intro _; rfl) : PS X (.For tg iter body [] pos) (tFor wi g tb) := by
  intro pins s σ H D I h
  refine wpAny_For (thn (hi pins s σ H _ I h) fun v s1 h1 => thn h1 fun itv s2 h2 => ?_) hs
  obtain ⟨it, fp, tn, J, H2, e, I2, T, st2, f2, W, ⟨m0, w0⟩, turn⟩ := h2
  subst e
  have stat : ∀ {H' : Hp}, (∀ b ∈ fp, H' b = none) → ∀ b ∈ fp, FpOk X pins H' b := fun hn b hb => ⟨hn b hb, (f2 b hb).2⟩
  refine codeAny_forLoop_any (fun n s' => ∃ i σ' H', Inv X pins σ' H' s' ∧ tn i s'.heap ∧ (∀ b ∈ fp, H' b = none) ∧ W i n σ' H') ?_ m0 ⟨0, σ, H2, I2, st2, fun b hb => (f2 b hb).1, w0⟩
  rintro n s3 ⟨i, σ3, H3, I3, st3, fr3, w3⟩
  rcases turn i n σ3 H3 w3 with ⟨stop, qn⟩ | ⟨go, N, hN, step⟩
  · refine wpAny_passesOwn hp (thn (T.done X rfl rfl rfl hc i pins s3 σ3 H3 X.xe I3 (stat fr3) st3 stop) fun r s4 hz8 => ?_)
    obtain ⟨hr, I4⟩ := hz8
    subst hr
    exact wpAny_execs_nil ⟨σ3, H3, I4, qn⟩
  · refine wpAny_passesOwn hp (thn (T.item X rfl rfl rfl hc i pins s3 σ3 H3 X.xe I3 (stat fr3) st3 go) fun r s4 hz8 => ?_)
    obtain ⟨u, hr, h4⟩ := hz8
    subst hr
    refine wpAny_passesOwn hp (thn h4 fun _ s5 hz8 => ?_)
    obtain ⟨x, H5, I5, r5, y5, st5, fr5⟩ := hz8
    have I5' := I5.pinned (stat fr5) (T.obj _ _ st5)
    refine wpAny_passesOwn hp (thn (hg _ s5 σ3 H5 x u _ I5' r5 (step x H5 y5)) fun _ s6 hz8 => ?_)
    obtain ⟨σ6, H6, I6, q6⟩ := hz8
    refine wpAny_passesOwn hp (thn (hb _ s6 σ6 H6 _ I6 q6) fun f s7 q7 => ?_)
    have again : ∀ {σ7 : St} {H7 : Hp}, Inv X (pins ++ pinsAt fp s5.heap) σ7 H7 s7 → N σ7 H7 → ∃ m, m < n ∧ ∃ i σ' H', Inv X pins σ' H' s7 ∧ tn i s7.heap ∧ (∀ b ∈ fp, H' b = none) ∧ W i m σ' H' := fun {σ7 H7} I7 n7 => by
      obtain ⟨m', hm, w7⟩ := hN σ7 H7 n7
      refine ⟨m', hm, i + 1, σ7, H7, I7.unpinned, T.keep _ _ _ st5 fun b hb o e => (I7.pin (b, o) (List.mem_append_right _ (List.mem_append_right _ (mem_pinsAt hb e)))).1, fun b hb => ?_, w7⟩
      obtain ⟨o, e, d⟩ := T.obj _ _ st5 b hb
      exact (I7.pin (b, o) (List.mem_append_right _ (List.mem_append_right _ (mem_pinsAt hb e)))).2.1
    cases f with
    | next => obtain ⟨σ7, H7, I7, n7⟩ := q7; exact again I7 n7
    | cont => obtain ⟨σ7, H7, I7, n7⟩ := q7; exact again I7 n7
    | brk => obtain ⟨σ7, H7, I7, q7⟩ := q7; exact ⟨σ7, H7, I7.unpinned, q7⟩
    | ret v => obtain ⟨x7, σ7, H7, I7, r7, q7⟩ := q7; exact ⟨x7, σ7, H7, I7.unpinned, r7, q7⟩
end
theorem for_list {K : PySem.W.Frag} {a : Addr} {xs : List V} {g : TG} {tb : TS} {D : Ends} {σ : St} {H : Hp} (Pv : Nat → St → Hp → Prop) (h0 : Pv 0 σ H) (hl : ∀ i σ H, i ≤ xs.length → Pv i σ H → SqL K H a xs)
    (hs : ∀ i x σ H, xs[i]? = some x → Pv i σ H → g x σ H fun σ2 H2 => tb { D with nx := Pv (i + 1), ct := Pv (i + 1), bk := D.nx } σ2 H2) (hd : ∀ σ H, Pv xs.length σ H → D.nx σ H) :
    ∃ W : Nat → Nat → St → Hp → Prop, (∃ m, W 0 m σ H) ∧ ∀ i m σ H, W i m σ H →
      ((Itl K a).stop i H ∧ D.nx σ H) ∨ ((Itl K a).go i H ∧ ∃ N : St → Hp → Prop, (∀ σ' H', N σ' H' → ∃ m', m' < m ∧ W (i + 1) m' σ' H') ∧ ∀ x H', (Itl K a).yld i H x H' → g x σ H' fun σ2 H2 => tb { D with nx := N, ct := N, bk := D.nx } σ2 H2) := by
  refine ⟨fun i m σ H => m = xs.length - i ∧ i ≤ xs.length ∧ Pv i σ H, ⟨xs.length, by simp, Nat.zero_le _, h0⟩, ?_⟩
  rintro i m σ H ⟨rfl, hi, p⟩
  have q := hl i σ H hi p
  by_cases hlt : i < xs.length
  · refine .inr ⟨⟨xs, xs[i], q, by simp [hlt]⟩, Pv (i + 1), fun σ' H' p' => ⟨xs.length - (i + 1), by lia, rfl, hlt, p'⟩, fun x H' y => ?_⟩
    obtain ⟨e, y⟩ := y
    subst e
    exact hs i x σ _ (y xs q) p
  · have e : i = xs.length := by lia
    subst e
    exact .inl ⟨⟨xs, q, Nat.le_refl _⟩, hd σ H p⟩
theorem for_tup {K : PySem.W.Frag} {a : Addr} {xs : List V} {g : TG} {tb : TS} {D : Ends} {σ : St} {H : Hp} (Pv : Nat → St → Hp → Prop) (h0 : Pv 0 σ H) (hl : ∀ i σ H, i ≤ xs.length → Pv i σ H → SqT K H a xs)
    (hs : ∀ i x σ H, xs[i]? = some x → Pv i σ H → g x σ H fun σ2 H2 => tb { D with nx := Pv (i + 1), ct := Pv (i + 1), bk := D.nx } σ2 H2) (hd : ∀ σ H, Pv xs.length σ H → D.nx σ H) :
    ∃ W : Nat → Nat → St → Hp → Prop, (∃ m, W 0 m σ H) ∧ ∀ i m σ H, W i m σ H →
      ((Itt K a).stop i H ∧ D.nx σ H) ∨ ((Itt K a).go i H ∧ ∃ N : St → Hp → Prop, (∀ σ' H', N σ' H' → ∃ m', m' < m ∧ W (i + 1) m' σ' H') ∧ ∀ x H', (Itt K a).yld i H x H' → g x σ H' fun σ2 H2 => tb { D with nx := N, ct := N, bk := D.nx } σ2 H2) := by
  refine ⟨fun i m σ H => m = xs.length - i ∧ i ≤ xs.length ∧ Pv i σ H, ⟨xs.length, by simp, Nat.zero_le _, h0⟩, ?_⟩
  rintro i m σ H ⟨rfl, hi, p⟩
  have q := hl i σ H hi p
  by_cases hlt : i < xs.length
  · refine .inr ⟨⟨xs, xs[i], q, by simp [hlt]⟩, Pv (i + 1), fun σ' H' p' => ⟨xs.length - (i + 1), by lia, rfl, hlt, p'⟩, fun x H' y => ?_⟩
    obtain ⟨e, y⟩ := y
    subst e
    exact hs i x σ _ (y xs q) p
  · have e : i = xs.length := by lia
    subst e
    exact .inl ⟨⟨xs, q, Nat.le_refl _⟩, hd σ H p⟩
theorem for_range {lo : Int} {n : Nat} {g : TG} {tb : TS} {D : Ends} {σ : St} {H : Hp} (Pv : Nat → St → Hp → Prop) (h0 : Pv 0 σ H)
    (hs : ∀ i σ H, i < n → Pv i σ H → g (.int (lo + i)) σ H fun σ2 H2 => tb { D with nx := Pv (i + 1), ct := Pv (i + 1), bk := D.nx } σ2 H2) (hd : ∀ σ H, Pv n σ H → D.nx σ H) :
    ∃ W : Nat → Nat → St → Hp → Prop, (∃ m, W 0 m σ H) ∧ ∀ i m σ H, W i m σ H →
      ((Itr lo n).stop i H ∧ D.nx σ H) ∨ ((Itr lo n).go i H ∧ ∃ N : St → Hp → Prop, (∀ σ' H', N σ' H' → ∃ m', m' < m ∧ W (i + 1) m' σ' H') ∧ ∀ x H', (Itr lo n).yld i H x H' → g x σ H' fun σ2 H2 => tb { D with nx := N, ct := N, bk := D.nx } σ2 H2) := by
  refine ⟨fun i m σ H => m = n - i ∧ i ≤ n ∧ Pv i σ H, ⟨n, by simp, Nat.zero_le _, h0⟩, ?_⟩
  rintro i m σ H ⟨rfl, hi, p⟩
  by_cases hlt : i < n
  · refine .inr ⟨hlt, Pv (i + 1), fun σ' H' p' => ⟨n - (i + 1), by lia, rfl, hlt, p'⟩, fun x H' y => ?_⟩
    obtain ⟨e, y⟩ := y
    subst e y
    exact hs i σ _ hlt p
  · have e : i = n := by lia
    subst e
    exact .inl ⟨Nat.le_refl _, hd σ H p⟩
end L2
namespace L2
open PySem PySem.Spec PyProof.Rows
noncomputable abbrev R2 := V → V → Hp → VK → Prop
noncomputable def OpR (X : Cx) (f : Value → Value → Sem Value) (r : R2) : Prop :=
  ∀ (pins : List (Addr × Obj)) (s : Shared) (σ : St) (H : Hp) (x y : V) (v u : Value) (Q : VK), Inv X pins σ H s → RelV x v → RelV y u → r x y H Q →
    wpAny (model X.prog X.w) X.A (f v u) (EP X pins σ Q) X.xe s
noncomputable def UnR (X : Cx) (f : Value → Sem Value) (r : V → Hp → VK → Prop) : Prop :=
  ∀ (pins : List (Addr × Obj)) (s : Shared) (σ : St) (H : Hp) (x : V) (v : Value) (Q : VK), Inv X pins σ H s → RelV x v → r x H Q →
    wpAny (model X.prog X.w) X.A (f v) (EP X pins σ Q) X.xe s
noncomputable def CallR (X : Cx) (f : Value) (r : List V → Hp → VK → Prop) : Prop :=
  ∀ (pins : List (Addr × Obj)) (s : Shared) (σ : St) (H : Hp) (xs : List V) (us : List Value) (Q : VK), Inv X pins σ H s → Vals xs us → r xs H Q →
    wpAny (model X.prog X.w) X.A (call f us) (EP X pins σ Q) X.xe s
noncomputable def tOp (r : R2) (ta tb : TE) : TE := fun σ H Q => ta σ H fun x H1 => tb σ H1 fun y H2 => r x y H2 Q
noncomputable def tUn (r : V → Hp → VK → Prop) (ta : TE) : TE := fun σ H Q => ta σ H fun x H1 => r x H1 Q
noncomputable def rI (C : Int → Int → Prop) (g : Int → Int → V) : R2 := fun x y H Q => ∃ i j, x = .int i ∧ y = .int j ∧ C i j ∧ Q (g i j) H
noncomputable def rI0 (g : Int → Int → V) : R2 := fun x y H Q => ∃ i j, x = .int i ∧ y = .int j ∧ Q (g i j) H
noncomputable def rU (g : Int → V) : V → Hp → VK → Prop := fun x H Q => ∃ i, x = .int i ∧ Q (g i) H
section
variable {X : Cx} {a b c : Expr} {ta tb tc : TE} {pos : Pos}
theorem binT (ha : PE X a ta) (hb : PE X b tb) {pins : List (Addr × Obj)} {s : Shared} {σ : St} {H : Hp} {R : V → V → Hp → Prop} (I : Inv X pins σ H s)
    (h : ta σ H fun x H1 => tb σ H1 fun y H2 => R x y H2) {Q : Value → Shared → Prop} {f : Value → Value → Sem Value}
    (hf : ∀ v u s2 x y H2, Inv X pins σ H2 s2 → RelV x v → RelV y u → R x y H2 → wpAny (model X.prog X.w) X.A (f v u) Q X.xe s2) :
    wpAny (model X.prog X.w) X.A (eval a X.env) (fun v s₁ => wpAny (model X.prog X.w) X.A (eval b X.env) (fun u s₂ => wpAny (model X.prog X.w) X.A (f v u) Q X.xe s₂) X.xe s₁) X.xe s := by
  refine thnE (ha pins s σ H _ I h) fun v s1 x H1 I1 r1 q1 => ?_
  refine thnE (hb pins s1 σ H1 _ I1 q1) fun u s2 y H2 I2 r2 q2 => ?_
  exact hf v u s2 x y H2 I2 r1 r2 q2
theorem pe_op {op : Operator} {r : R2} (ho : OpR X (binaryOp op) r) (ha : PE X a ta) (hb : PE X b tb) : PE X (.BinOp a op b pos) (tOp r ta tb) := by
  intro pins s σ H Q I h
  exact wpAny_BinOp (binT ha hb I h fun v u s2 x y H2 I2 rx ry q => ho pins s2 σ H2 x y v u Q I2 rx ry q)
theorem pe_un {op : UnaryOp} {r : V → Hp → VK → Prop} (ho : UnR X (unaryOp op) r) (ha : PE X a ta) : PE X (.UnaryOp op a pos) (tUn r ta) := by
  intro pins s σ H Q I h
  exact UnaryOp_ (thnE (ha pins s σ H _ I h) fun v s1 x H1 I1 r1 q1 => ho pins s1 σ H1 x v Q I1 r1 q1)
theorem opI {f : Value → Value → Sem Value} {C : Int → Int → Prop} {g : Int → Int → Int}
    (rule : ∀ (i j : Int) (t u : Tok) (s : Shared) (Q : Value → Shared → Prop) (E : Value → Shared → Prop), C i j → Q (.int (g i j) s.toks) { s with toks := s.toks + 1 } → wpAny (model X.prog X.w) X.A (f (.int i t) (.int j u)) Q E s) :
    OpR X f (rI C fun i j => .int (g i j)) := by
  intro pins s σ H x y v u Q I rx ry h
  obtain ⟨i, j, rfl, rfl, hc, q⟩ := h
  obtain ⟨t, rfl⟩ := rx
  obtain ⟨t', rfl⟩ := ry
  exact rule i j t t' s _ _ hc ⟨.int (g i j), H, I.tok _, ⟨_, rfl⟩, q⟩
theorem opI0 {f : Value → Value → Sem Value} {g : Int → Int → Int}
    (rule : ∀ (i j : Int) (t u : Tok) (s : Shared) (Q : Value → Shared → Prop) (E : Value → Shared → Prop), Q (.int (g i j) s.toks) { s with toks := s.toks + 1 } → wpAny (model X.prog X.w) X.A (f (.int i t) (.int j u)) Q E s) :
    OpR X f (rI0 fun i j => .int (g i j)) := by
  intro pins s σ H x y v u Q I rx ry h
  obtain ⟨i, j, rfl, rfl, q⟩ := h
  obtain ⟨t, rfl⟩ := rx
  obtain ⟨t', rfl⟩ := ry
  exact rule i j t t' s _ _ ⟨.int (g i j), H, I.tok _, ⟨_, rfl⟩, q⟩
theorem opB0 {f : Value → Value → Sem Value} {g : Int → Int → Bool}
    (rule : ∀ (i j : Int) (t u : Tok) (s : Shared) (Q : Value → Shared → Prop) (E : Value → Shared → Prop), Q (.bool (g i j)) s → wpAny (model X.prog X.w) X.A (f (.int i t) (.int j u)) Q E s) :
    OpR X f (rI0 fun i j => .bl (g i j)) := by
  intro pins s σ H x y v u Q I rx ry h
  obtain ⟨i, j, rfl, rfl, q⟩ := h
  obtain ⟨t, rfl⟩ := rx
  obtain ⟨t', rfl⟩ := ry
  exact rule i j t t' s _ _ ⟨.bl (g i j), H, I, rfl, q⟩
noncomputable def CDiv (i j : Int) : Prop := 0 < j ∧ j < 1073741824
noncomputable def CPow (i j : Int) : Prop := 0 ≤ j ∧ j ≤ 1000000 ∧ i.natAbs < 2 ^ 64
noncomputable def CMul (i j : Int) : Prop := (-(2 ^ 64) < i ∧ i < 2 ^ 64) ∨ (-(2 ^ 64) < j ∧ j < 2 ^ 64)
theorem CMul.ok {i j : Int} (h : CMul i j) : IntMulOk i j := by
  rcases h with ⟨h1, h2⟩ | ⟨h1, h2⟩
  · exact .of_left (intBits_le_64 h1 h2)
  · exact .of_right (intBits_le_64 h1 h2)
theorem op_add : OpR X (binaryOp .Add) (rI0 fun i j => .int (i + j)) := opI0 fun _ _ _ _ _ _ _ q => add_int q
theorem op_sub : OpR X (binaryOp .Sub) (rI0 fun i j => .int (i - j)) := opI0 fun _ _ _ _ _ _ _ q => sub_int q
theorem op_mul : OpR X (binaryOp .Mult) (rI CMul fun i j => .int (i * j)) := opI fun _ _ _ _ _ _ _ hc q => mul_int q hc.ok
theorem op_fdiv : OpR X (binaryOp .FloorDiv) (rI CDiv fun i j => .int (i / j)) := opI fun i j _ _ _ _ _ hc q => by
  have h1 : (0 : Int) < j := hc.1
  have h2 : j < 1073741824 := hc.2
  exact floordiv_int (by lia) (by rw [Int.fdiv_eq_ediv_of_nonneg i (by lia)]; exact q) (.inl (PyProof.noPylong_small (by lia)))
theorem op_mod : OpR X (binaryOp .Mod) (rI (fun _ j => 0 < j) fun i j => .int (i % j)) := opI fun i j _ _ _ _ _ hc q => by
  have h1 : (0 : Int) < j := hc
  exact mod_int' (by lia) (by rw [Int.fmod_eq_emod_of_nonneg i (by lia)]; exact q)
theorem op_pow : OpR X (binaryOp .Pow) (rI CPow fun i j => .int (i ^ j.toNat)) := opI fun _ _ _ _ _ _ _ hc q => pow_int_small hc.1 hc.2.1 hc.2.2 q
theorem unI {f : Value → Sem Value} {g : Int → Int}
    (rule : ∀ (i : Int) (t : Tok) (s : Shared) (Q : Value → Shared → Prop) (E : Value → Shared → Prop), Q (.int (g i) s.toks) { s with toks := s.toks + 1 } → wpAny (model X.prog X.w) X.A (f (.int i t)) Q E s) :
    UnR X f (rU fun i => .int (g i)) := by
  intro pins s σ H x v Q I rx h
  obtain ⟨i, rfl, q⟩ := h
  obtain ⟨t, rfl⟩ := rx
  exact rule i t s _ _ ⟨.int (g i), H, I.tok _, ⟨_, rfl⟩, q⟩
theorem un_neg : UnR X (unaryOp .USub) (rU fun i => .int (-i)) := unI fun _ _ _ _ _ q => neg_int q
end
noncomputable def scal : V → V → Bool
  | .non, .non => true | .non, .int _ => true | .int _, .non => true | .non, .bl _ => true | .bl _, .non => true | .non, .str _ => true | .str _, .non => true
  | .int _, .int _ => true | .bl _, .bl _ => true | .str _, .str _ => true | .byt _, .byt _ => true
  | .int _, .str _ => true | .str _, .int _ => true | .bl _, .str _ => true | .str _, .bl _ => true
  | _, _ => false
noncomputable def rEq : R2 := fun x y H Q => scal x y = true ∧ Q (.bl (decide (x = y))) H
noncomputable def rNe : R2 := fun x y H Q => scal x y = true ∧ Q (.bl (!decide (x = y))) H
theorem dec_int {i j : Int} : decide (V.int i = V.int j) = (i == j) := by
  rw [Bool.eq_iff_iff]
  simp
theorem dec_bl {i j : Bool} : decide (V.bl i = V.bl j) = (i == j) := by
  rw [Bool.eq_iff_iff]
  simp
theorem dec_str {i j : Str} : decide (V.str i = V.str j) = (i == j) := by
  rw [Bool.eq_iff_iff]
  simp
theorem dec_byt {i j : Array UInt8} : decide (V.byt i = V.byt j) = (i.toList == j.toList) := by
  rw [Bool.eq_iff_iff]
  cases i
  cases j
  simp
section
variable {X : Cx} {a b c : Expr} {ta tb tc : TE} {pos : Pos}
theorem fin_bl {pins : List (Addr × Obj)} {σ : St} {H : Hp} {s : Shared} {Q : VK} {k k' : Bool} (I : Inv X pins σ H s) (q : Q (.bl k) H) (e : k = k') : EP X pins σ Q (.bool k') s := by
  subst e
  exact ⟨.bl k, H, I, rfl, q⟩
theorem op_eq : OpR X (compareOp .Eq) rEq := by
  intro pins s σ H x y v u Q I rx ry h
  obtain ⟨hs, q⟩ := h
  cases x with
  | non =>
    cases rx
    cases y with
    | non => cases ry; exact PySem.EqNone.eq_none_none (fin_bl I q (by simp))
    | bl j => cases ry; exact PySem.EqNone.eq_none_bool (fin_bl I q (by simp))
    | int j => obtain ⟨t', rfl⟩ := ry; exact PySem.EqNone.eq_none_int (fin_bl I q (by simp))
    | str j => obtain ⟨t', rfl⟩ := ry; exact PySem.EqNone.eq_none_str (fin_bl I q (by simp))
    | _ => exact absurd (show false = true from hs) Bool.false_ne_true
  | bl i =>
    cases rx
    cases y with
    | non => cases ry; exact PySem.EqNone.eq_bool_none (fin_bl I q (by simp))
    | bl j => cases ry; exact eq_bool (fin_bl I q dec_bl)
    | str j => obtain ⟨t', rfl⟩ := ry; exact PySem.EqMixed.eq_bool_str (fin_bl I q (by simp))
    | _ => exact absurd (show false = true from hs) Bool.false_ne_true
  | int i =>
    obtain ⟨t, rfl⟩ := rx
    cases y with
    | non => cases ry; exact PySem.EqNone.eq_int_none (fin_bl I q (by simp))
    | int j => obtain ⟨t', rfl⟩ := ry; exact eq_int (fin_bl I q dec_int)
    | str j => obtain ⟨t', rfl⟩ := ry; exact PySem.EqMixed.eq_int_str (fin_bl I q (by simp))
    | _ => exact absurd (show false = true from hs) Bool.false_ne_true
  | str i =>
    obtain ⟨t, rfl⟩ := rx
    cases y with
    | non => cases ry; exact PySem.EqNone.eq_str_none (fin_bl I q (by simp))
    | bl j => cases ry; exact PySem.EqMixed.eq_str_bool (fin_bl I q (by simp))
    | int j => obtain ⟨t', rfl⟩ := ry; exact PySem.EqMixed.eq_str_int (fin_bl I q (by simp))
    | str j => obtain ⟨t', rfl⟩ := ry; exact eq_str (fin_bl I q dec_str)
    | _ => exact absurd (show false = true from hs) Bool.false_ne_true
  | byt i =>
    obtain ⟨t, rfl⟩ := rx
    cases y with
    | byt j => obtain ⟨t', rfl⟩ := ry; exact PySem.W.eq_bytes (fin_bl I q dec_byt)
    | _ => exact absurd (show false = true from hs) Bool.false_ne_true
  | _ => cases y <;> exact absurd (show false = true from hs) Bool.false_ne_true
theorem op_ne : OpR X (compareOp .NotEq) rNe := by
  intro pins s σ H x y v u Q I rx ry h
  obtain ⟨hs, q⟩ := h
  cases x with
  | non =>
    cases rx
    cases y with
    | non => cases ry; exact PySem.EqNone.ne_none_none (fin_bl I q (by simp))
    | bl j => cases ry; exact PySem.EqNone.ne_none_bool (fin_bl I q (by simp))
    | int j => obtain ⟨t', rfl⟩ := ry; exact PySem.EqNone.ne_none_int (fin_bl I q (by simp))
    | str j => obtain ⟨t', rfl⟩ := ry; exact PySem.EqNone.ne_none_str (fin_bl I q (by simp))
    | _ => exact absurd (show false = true from hs) Bool.false_ne_true
  | bl i =>
    cases rx
    cases y with
    | non => cases ry; exact PySem.EqNone.ne_bool_none (fin_bl I q (by simp))
    | bl j => cases ry; exact ne_bool (fin_bl I q (congrArg not dec_bl))
    | str j => obtain ⟨t', rfl⟩ := ry; exact PySem.EqMixed.ne_bool_str (fin_bl I q (by simp))
    | _ => exact absurd (show false = true from hs) Bool.false_ne_true
  | int i =>
    obtain ⟨t, rfl⟩ := rx
    cases y with
    | non => cases ry; exact PySem.EqNone.ne_int_none (fin_bl I q (by simp))
    | int j => obtain ⟨t', rfl⟩ := ry; exact ne_int (fin_bl I q (congrArg not dec_int))
    | str j => obtain ⟨t', rfl⟩ := ry; exact PySem.EqMixed.ne_int_str (fin_bl I q (by simp))
    | _ => exact absurd (show false = true from hs) Bool.false_ne_true
  | str i =>
    obtain ⟨t, rfl⟩ := rx
    cases y with
    | non => cases ry; exact PySem.EqNone.ne_str_none (fin_bl I q (by simp))
    | bl j => cases ry; exact PySem.EqMixed.ne_str_bool (fin_bl I q (by simp))
    | int j => obtain ⟨t', rfl⟩ := ry; exact PySem.EqMixed.ne_str_int (fin_bl I q (by simp))
    | str j => obtain ⟨t', rfl⟩ := ry; exact ne_str (fin_bl I q (congrArg not dec_str))
    | _ => exact absurd (show false = true from hs) Bool.false_ne_true
  | byt i =>
    obtain ⟨t, rfl⟩ := rx
    cases y with
    | byt j => obtain ⟨t', rfl⟩ := ry; exact PySem.W.ne_bytes (fin_bl I q (congrArg not dec_byt))
    | _ => exact absurd (show false = true from hs) Bool.false_ne_true
  | _ => cases y <;> exact absurd (show false = true from hs) Bool.false_ne_true
theorem op_lt : OpR X (compareOp .Lt) (rI0 fun i j => .bl (decide (i < j))) := opB0 fun _ _ _ _ _ _ _ q => lt_int q
theorem op_le : OpR X (compareOp .LtE) (rI0 fun i j => .bl (decide (i ≤ j))) := opB0 fun _ _ _ _ _ _ _ q => le_int q
theorem op_gt : OpR X (compareOp .Gt) (rI0 fun i j => .bl (decide (j < i))) := opB0 fun _ _ _ _ _ _ _ q => gt_int q
theorem op_isN : OpR X (compareOp .Is) (fun x y H Q => y = .non ∧ Q (.bl (decide (x = .non))) H) := by
  intro pins s σ H x y v u Q I rx ry h
  obtain ⟨rfl, q⟩ := h
  cases ry
  refine is_none_gen (fin_bl I q ?_)
  cases x <;> first
    | (cases rx; rfl)
    | (obtain ⟨t, rfl⟩ := rx; rfl)
theorem nomark (b : Expr) {op : CmpOp} (h : op ≠ .In := by decide) (h2 : op ≠ .NotIn := by decide) : behindInMarks op b = false := by
  have e1 : (op == CmpOp.In) = false := by cases op <;> first | rfl | exact absurd rfl h
  have e2 : (op == CmpOp.NotIn) = false := by cases op <;> first | rfl | exact absurd rfl h2
  cases b <;> simp [behindInMarks, e1, e2]
theorem pe_cmpR {op : CmpOp} {r : R2} (ho : OpR X (compareOp op) r) (ha : PE X a ta) (hb : PE X b tb) (hm : behindInMarks op b = false) : PE X (.Compare a [op] [b] pos) (tOp r ta tb) := by
  intro pins s σ H Q I h
  exact wpAny_Compare1 (binT ha hb I h fun v u s2 x y H2 I2 rx ry q => ho pins s2 σ H2 x y v u Q I2 rx ry q) hm
noncomputable def tTest (t : TE) : TT := fun σ H Q => t σ H fun x H' => ∃ k, x = .bl k ∧ Q k H'
theorem pt_cmpR {op : CmpOp} {r : R2} (ho : OpR X (compareOp op) r) (ha : PE X a ta) (hb : PE X b tb) (hm : behindInMarks op b = false) : PT X (.Compare a [op] [b] pos) (tTest (tOp r ta tb)) := by
  intro pins s σ H Q I h
  refine wpAny_isTrue_Compare1 (thnE (ha pins s σ H _ I h) fun v s1 x H1 I1 r1 q1 => thnE (hb pins s1 σ H1 _ I1 q1) fun u s2 y H2 I2 r2 q2 =>
    thn (ho pins s2 σ H2 x y v u _ I2 r1 r2 q2) fun c s3 ⟨z, H3, I3, r3, k, e, q3⟩ => ?_) hm
  subst e
  cases r3
  exact wpAny_truthy_bool ⟨H3, I3, q3⟩
noncomputable def tChain (r r' : R2) (ta tb tc : TE) : TE := fun σ H Q => ta σ H fun x H1 => tb σ H1 fun y H2 => r x y H2 fun z H3 => ∃ k, z = .bl k ∧
  (if k = true then tc σ H3 fun w' H4 => r' y w' H4 Q else Q (.bl false) H3)
theorem pe_chain {op op' : CmpOp} {r r' : R2} (ho : OpR X (compareOp op) r) (ho' : OpR X (compareOp op') r') (ha : PE X a ta) (hb : PE X b tb) (hc : PE X c tc)
    (hm : lastMarks [op, op'] [b, c] = false := by with_unfolding_all rfl) : PE X (.Compare a [op, op'] [b, c] pos) (tChain r r' ta tb tc) := by
  intro pins s σ H Q I h
  refine Compare_chain (thnE (ha pins s σ H _ I h) fun v s1 x H1 I1 r1 q1 => chain_link (thnE (hb pins s1 σ H1 _ I1 q1) fun u s2 y H2 I2 r2 q2 =>
    thn (ho pins s2 σ H2 x y v u _ I2 r1 r2 q2) fun d s3 ⟨z, H3, I3, r3, k, e, q3⟩ => ?_)) hm
  subst e
  cases r3
  refine wpAny_truthy_bool ?_
  cases k with
  | false => exact ite_ff ⟨.bl false, H3, I3, rfl, q3⟩
  | true => exact ite_tt (chain_last (thn (hc pins s3 σ H3 _ I3 q3) fun w' s4 ⟨z', H4, I4, r4, q4⟩ => ho' pins s4 σ H4 y z' u w' Q I4 r2 r4 q4))
theorem pt_chain {op op' : CmpOp} {r r' : R2} (ho : OpR X (compareOp op) r) (ho' : OpR X (compareOp op') r') (ha : PE X a ta) (hb : PE X b tb) (hc : PE X c tc)
    (hm : lastMarks [op, op'] [b, c] = false := by with_unfolding_all rfl) : PT X (.Compare a [op, op'] [b, c] pos) (tTest (tChain r r' ta tb tc)) := by
  intro pins s σ H Q I h
  refine isTrue_chain (thnE (ha pins s σ H _ I h) fun v s1 x H1 I1 r1 q1 => test_link (thnE (hb pins s1 σ H1 _ I1 q1) fun u s2 y H2 I2 r2 q2 =>
    thn (ho pins s2 σ H2 x y v u _ I2 r1 r2 q2) fun d s3 ⟨z, H3, I3, r3, k, e, q3⟩ => ?_)) hm
  subst e
  cases r3
  refine wpAny_truthy_bool ?_
  cases k with
  | false =>
    obtain ⟨k', e', q'⟩ := q3
    cases e'
    exact ite_ff ⟨H3, I3, q'⟩
  | true =>
    refine ite_tt (test_last (thnE (hc pins s3 σ H3 _ I3 q3) fun w' s4 z' H4 I4 r4 q4 => thnE (ho' pins s4 σ H4 y z' u w' _ I4 r2 r4 q4) fun d' s5 z2 H5 I5 r5 hz9 => ?_))
    obtain ⟨k2, e2, q5⟩ := hz9
    subst e2
    cases r5
    exact wpAny_truthy_bool ⟨H5, I5, q5⟩
theorem line63 : (sizeLine : Nat) < 2 ^ 63 := by rw [sizeLine_eq]; decide
theorem vals1 {x : V} {us : List Value} (r : Vals [x] us) : ∃ u, us = [u] ∧ RelV x u := by
  cases r with
  | cons r1 r2 => cases r2; exact ⟨_, rfl, r1⟩
theorem vals2 {x y : V} {us : List Value} (r : Vals [x, y] us) : ∃ u w', us = [u, w'] ∧ RelV x u ∧ RelV y w' := by
  cases r with
  | cons r1 r2 =>
    cases r2 with
    | cons r3 r4 => cases r4; exact ⟨_, _, rfl, r1, r3⟩
theorem call_min2 (hc : X.calm = true) : CallR X (.builtin "min") (fun xs H Q => ∃ i j, xs = [.int i, .int j] ∧ Q (.int (if j < i then j else i)) H) := by
  intro pins s σ H xs us Q I r h
  obtain ⟨i, j, rfl, q⟩ := h
  obtain ⟨u, w', rfl, ⟨t, rfl⟩, ⟨t', rfl⟩⟩ := vals2 r
  refine min_two_ints (I.ok.hd hc) fun h' tk k => ⟨_, H, I.kept k, ?_, q⟩
  by_cases hj : j < i
  · rw [if_pos hj, if_pos hj]; exact ⟨_, rfl⟩
  · rw [if_neg hj, if_neg hj]; exact ⟨_, rfl⟩
theorem call_divmod : CallR X (.builtin "divmod") (fun xs H Q => ∃ i j, xs = [.int i, .int j] ∧ CDiv i j ∧ ∀ p, H p = none → Q (.ref p) (upd H p (.tup [.int (i / j), .int (i % j)]))) := by
  intro pins s σ H xs us Q I r h
  obtain ⟨i, j, rfl, ⟨h1, h2⟩, q⟩ := h
  obtain ⟨u, w', rfl, ⟨t, rfl⟩, ⟨t', rfl⟩⟩ := vals2 r
  refine divmod_int (by lia) ?_ (.inl (PyProof.noPylong_small (by lia)))
  rw [Int.fdiv_eq_ediv_of_nonneg i (by lia), Int.fmod_eq_emod_of_nonneg i (by lia)]
  have hn : H s.heap.objs.size = none := I.hok.fresh (Nat.le_refl _)
  refine ⟨.ref s.heap.objs.size, _, ?_, rfl, q _ hn⟩
  refine I.laid (fun b o e => Heap.get?_push_of_some _ e) (Nat.le_refl _) ⟨by simp only [List.length_cons, List.length_nil]; rw [sizeLine_eq]; decide, [.int (i / j) s.toks, .int (i % j) (s.toks + 1)], 0, .cons ⟨_, rfl⟩ (.cons ⟨_, rfl⟩ .nil), ?_⟩
  exact Heap.get?_push_size s.heap rfl
end
end L2
namespace L2
open PySem PySem.Spec PyProof.Rows
structure ObjM (h : Heap) (x dx C : Addr) (mA : Str → Option Value) : Prop where
  obj : h.get? x = some (PySem.W.instObj C dx)
  ns : h.Ns1 dx mA
  ne : dx ≠ x
theorem lookIn_ns {h : Heap} {dx : Addr} {mA : Str → Option Value} (n : h.Ns1 dx mA) : ∃ od, h.get? dx = some od ∧ ∀ name, PySem.W.lookIn name od = some (mA name) := by
  obtain ⟨o, es, ep, ho, hd, hk, _, hm⟩ := n
  refine ⟨o, ho, fun name => ?_⟩
  have e := hm name
  unfold nsFind findBy at e
  rw [← Array.find?_toList] at e
  unfold PySem.W.lookIn
  rw [hd]
  dsimp only
  split
  · rename_i y q
    rw [q] at e
    exact congrArg some e
  · rename_i q
    rw [q] at e
    have a : es.toList.any (·.refKey) = false := by
      rw [List.any_eq_false]
      intro y hy
      obtain ⟨z, t, hkey⟩ := hk y (Array.mem_toList_iff.mp hy)
      simp [DictEntry.refKey, hkey]
    have a' : ¬ es.toList.any (·.refKey) = true := by rw [a]; exact Bool.false_ne_true
    rw [if_neg a']
    exact congrArg some e
theorem ObjM.look {h : Heap} {x dx C : Addr} {mA : Str → Option Value} (I : ObjM h x dx C mA) : ∃ od, PySem.W.InstAt h x (PySem.W.instObj C dx) C (some od) ∧ ∀ name, PySem.W.lookIn name od = some (mA name) :=
  let ⟨od, ho, hl⟩ := lookIn_ns I.ns
  ⟨od, ⟨I.obj, rfl, rfl, ho⟩, hl⟩
section
variable {prog : Program} {w : World} {A : Around} {E : Value → Shared → Prop} {s : Shared} {K : PySem.W.Frag} {x dx C f : Addr} {mA : Str → Option Value} {name : Str} {v : Value}
end
theorem RelO.some_of {v : V} {o : Option Value} (r : RelO (some v) o) : ∃ u, o = some u ∧ RelV v u := by
  cases o with
  | none => exact (show False from r).elim
  | some u => exact ⟨u, rfl, r⟩
section
variable {P : Program} {w : World} {H H' : Hp} {h h' : Heap} {a C dx : Addr} {fs fs' : List (Str × V)}
theorem ins_get (hok : HOk P w H h) (e : H a = some (.ins C dx fs)) : ∃ mA, ObjM h a dx C mA ∧ (∀ f, RelO (fs.lookup f) (mA f)) ∧ PySem.Within mA (fs.map (·.1)) ∧ fs.length ≤ 1000 ∧ H dx = some (.own a) := by
  obtain ⟨d, z, ne, ob, mA, n, r, q⟩ := (show ObjOk P w H h a (.ins C dx fs) from hok a _ e)
  exact ⟨mA, ⟨ob, n, ne⟩, r, q, z, d⟩
end
structure Cls (K : PySem.W.Frag) (C : Addr) : Prop where
  pg : PySem.W.plainGet K C Str.empty = true
  hd : PySem.W.hasDictIn K C = true
  po : PySem.W.plainOver K C = true
  sa : PySem.W.findIn K (.ref C) "__setattr__" = some (some (.builtin "object.__setattr__"))
theorem Cls.get {K : PySem.W.Frag} {C : Addr} (c : Cls K C) (f : Str) : PySem.W.plainGet K C f = true := c.pg
section
variable {X : Cx} {pins : List (Addr × Obj)} {σ : St} {H : Hp} {s : Shared} {a C dx : Addr} {fs : List (Str × V)} {f : Str} {v : V} {A : Around} {E : Value → Shared → Prop}
end
section
variable {X : Cx} {o e value : Expr} {f : Str} {pos pos' tpos : Pos} {ta tv : TE}
end
section
variable {X : Cx} {pins : List (Addr × Obj)} {σ : St} {H : Hp} {s : Shared} {A : Around} {E : Value → Shared → Prop} {Q : Value → Shared → Prop} {c : Value} {b : Bool}
inductive TyOf (K : PySem.W.Frag) (H : Hp) : V → Value → Prop where
  | non : TyOf K H .non (.type "NoneType")
  | bl (x : Bool) : TyOf K H (.bl x) (.type "bool")
  | int (i : Int) : TyOf K H (.int i) (.type "int")
  | str (x : Str) : TyOf K H (.str x) (.type "str")
  | flt (x : UInt64) : TyOf K H (.flt x) (.type "float")
  | lst {a : Addr} {xs : List V} (e : H a = some (.lst xs)) : TyOf K H (.ref a) (.type "list")
  | frz {a : Addr} {o : Obj} {xs : List V} (e : H a = some (.frz o (.lst xs))) : TyOf K H (.ref a) (.type "list")
  | tup {a : Addr} {xs : List V} (e : H a = some (.tup xs)) : TyOf K H (.ref a) (.type "tuple")
  | dK {a : Addr} {kvs : List (Key × V)} (e : H a = some (.dK kvs)) : TyOf K H (.ref a) (.type "dict")
  | dT {a : Addr} {kvs : List (List Key × V)} (e : H a = some (.dT kvs)) : TyOf K H (.ref a) (.type "dict")
  | ins {a C dx : Addr} {fs : List (Str × V)} (e : H a = some (.ins C dx fs)) (cl : Cls K C) (ha : PySem.W.findIn K (.ref C) "__class__" = some (some (.builtin "object.__class__")))
      (hn : PySem.W.specialIn K (.builtin "object.__class__") "__get__" = some (some (.builtin "getset_descriptor.__get__"))) (htk : PySem.W.takesIn K (.builtin "object.__class__") = some true)
      (hm : PySem.W.mroIn K C (.type "object") = some true) : TyOf K H (.ref a) (.ref C)
theorem isinst_ok {x : V} {u t : Value} (I : Inv X pins σ H s) (rx : RelV x u) (ty : TyOf X.K H x t) (e : PySem.W.kitOne X.K t c = some b) (h : ∀ tk, Q (.bool b) { s with toks := tk }) :
    wpAny (model X.prog X.w) A (call (.builtin "isinstance") [u, c]) Q E s := by
  cases ty with
  | non => cases (show u = Value.none from rx); exact PySem.W.kia_one PySem.W.kitx_none I.kIn True.intro e (fun z => nomatch z) h
  | bl y => cases (show u = Value.bool y from rx); exact PySem.W.kia_one PySem.W.kitx_bool I.kIn True.intro e (fun z => nomatch z) h
  | int i => obtain ⟨t, q⟩ := (show ∃ t, u = Value.int i t from rx); cases q; exact PySem.W.kia_one PySem.W.kitx_int I.kIn True.intro e (fun z => nomatch z) h
  | str y => obtain ⟨t, q⟩ := (show ∃ t, u = Value.str y t from rx); cases q; exact PySem.W.kia_one PySem.W.kitx_str I.kIn True.intro e (fun z => nomatch z) h
  | flt y => obtain ⟨t, q⟩ := (show ∃ t, u = Value.float y t from rx); cases q; exact PySem.W.kia_one PySem.W.kitx_float I.kIn True.intro e (fun z => nomatch z) h
  | @lst a xs ea =>
    cases (show u = Value.ref a from rx)
    obtain ⟨_, _, n, _, h1⟩ := (show ObjOk X.prog X.w H s.heap a (.lst xs) from I.hok a _ ea)
    exact PySem.W.kia_one PySem.W.kitx_list I.kIn ⟨_, h1, rfl⟩ e (fun z => nomatch z) h
  | @frz a ob xs ea =>
    cases (show u = Value.ref a from rx)
    obtain ⟨_, _, _, n, _, h1⟩ := (show ObjOk X.prog X.w H s.heap a (.frz ob (.lst xs)) from I.hok a _ ea)
    exact PySem.W.kia_one PySem.W.kitx_list I.kIn ⟨_, h1, rfl⟩ e (fun z => nomatch z) h
  | @tup a xs ea =>
    cases (show u = Value.ref a from rx)
    obtain ⟨_, _, n, _, h1⟩ := (show ObjOk X.prog X.w H s.heap a (.tup xs) from I.hok a _ ea)
    exact PySem.W.kia_one PySem.W.kitx_tuple I.kIn ⟨_, h1, rfl⟩ e (fun z => nomatch z) h
  | @dK a kvs ea =>
    cases (show u = Value.ref a from rx)
    obtain ⟨_, _, vs, _, p⟩ := (show ObjOk X.prog X.w H s.heap a (.dK kvs) from I.hok a _ ea)
    obtain ⟨o, es, ep, h1, h2, _⟩ := p
    exact PySem.W.kia_one PySem.W.kitx_dict I.kIn ⟨o, h1, h2.1⟩ e (fun z => nomatch z) h
  | @dT a kvs ea =>
    cases (show u = Value.ref a from rx)
    obtain ⟨_, _, xs, _, o, es, ep, h1, h2, _⟩ := (show ObjOk X.prog X.w H s.heap a (.dT kvs) from I.hok a _ ea)
    exact PySem.W.kia_one PySem.W.kitx_dict I.kIn ⟨o, h1, h2.1⟩ e (fun z => nomatch z) h
  | @ins a C dx fs ea cl ha hn htk hm =>
    cases (show u = Value.ref a from rx)
    obtain ⟨mA, O, _⟩ := ins_get I.hok ea
    obtain ⟨od, J, _⟩ := O.look
    exact PySem.W.kia_one (PySem.W.kitx_own (cl.get _) cl.hd ha hn htk hm) I.kIn J e (fun z => nomatch z) h
end
end L2
namespace L2
open PySem PySem.Spec PyProof.Rows
structure Room (k : Nat) (A : Around) : Prop where
  hd : A.handled = none
  dp : A.depth + 3 * k + 5 < recursionLimit
  un : A.units + 16 * k + 200 < cLine
theorem Room.mono {j k : Nat} {A : Around} (r : Room k A) (h : j ≤ k) : Room j A := ⟨r.hd, by have := r.dp; lia, by have := r.un; lia⟩
theorem Room.deeper {k : Nat} {A : Around} (r : Room (k + 1) A) (env : Env) : Room k (A.deeper env) :=
  ⟨r.hd, by have := r.dp; show A.depth + 1 + 3 * k + 5 < _; lia, by have := r.un; show A.units + 3 + 16 * k + 200 < _; lia⟩
theorem Room.depth {k : Nat} {A : Around} (r : Room k A) : A.depth < recursionLimit := by have := r.dp; lia
theorem Room.units {k : Nat} {A : Around} (r : Room k A) : A.units + 64 < cLine := by have := r.un; lia
noncomputable def tNil : TA := fun _ H Q => Q [] H
noncomputable def tCons (ta : TE) (tr : TA) : TA := fun σ H Q => ta σ H fun x H1 => tr σ H1 fun xs H2 => Q (x :: xs) H2
section
variable {X : Cx} {e : Expr} {es : List Expr} {te : TE} {t : TA} {pos : Pos}
theorem pa_nil : PA X [] tNil := fun _ _ _ _ H Q I h => Calls.spliced_nil ⟨[], H, I, .nil, h⟩
theorem pa_cons (ha : PE X e te) (hr : PA X es t) (hs : starEach (e :: es) X.env = (false, eval e X.env) :: starEach es X.env := by rfl) : PA X (e :: es) (tCons te t) := by
  intro pos pins s σ H Q I h
  rw [hs]
  show wpAny _ _ (spliced ((false, eval e X.env) :: backTo pos (starEach es X.env))) _ _ s
  refine Calls.spliced_cons (thnE (ha pins s σ H _ I h) fun u s1 x H1 I1 r1 q1 => ?_)
  exact thn (hr pos pins s1 σ H1 _ I1 q1) fun us s2 ⟨xs, H2, I2, r2, q2⟩ => ⟨x :: xs, H2, I2, .cons r1 r2, q2⟩
noncomputable def tTup (t : TA) : TE := fun σ H Q => t σ H fun xs H1 => xs.length ≤ sizeLine ∧ ∀ p, H1 p = none → Q (.ref p) (upd H1 p (.tup xs))
noncomputable def tLst (t : TA) : TE := fun σ H Q => t σ H fun xs H1 => xs.length ≤ sizeLine ∧ ∀ p, H1 p = none → Q (.ref p) (upd H1 p (.lst xs))
theorem pe_tup {x1} (h : PA X es t) : PE X (.Tuple es x1 pos) (tTup t) := by
  intro pins s σ H Q I hq
  refine wpAny_Tuple_spliced (thn (h pos pins s σ H _ I hq) fun us s1 ⟨xs, H1, I1, r, z, q⟩ => ⟨by rw [← r.length]; exact z, ?_⟩)
  have hf : H1 s1.heap.objs.size = none := I1.hok.fresh (Nat.le_refl _)
  refine ⟨.ref s1.heap.objs.size, upd H1 s1.heap.objs.size (.tup xs), I1.laid (t' := s1.toks) (fun b u e => Heap.get?_push_of_some _ e) (Nat.le_refl _) ?_, rfl, q _ hf⟩
  exact ⟨z, us, 0, r, Heap.get?_push_size _ rfl⟩
theorem pe_lst (h : PA X es t) : PE X (.List es pos) (tLst t) := by
  intro pins s σ H Q I hq
  refine wpAny_List_spliced (thn (h pos pins s σ H _ I hq) fun us s1 ⟨xs, H1, I1, r, z, q⟩ => ⟨by rw [← r.length]; exact z, ?_⟩)
  have hf : H1 s1.heap.objs.size = none := I1.hok.fresh (Nat.le_refl _)
  refine ⟨.ref s1.heap.objs.size, upd H1 s1.heap.objs.size (.lst xs), I1.laid (t' := s1.toks) (fun b u e => Heap.get?_push_of_some _ e) (Nat.le_refl _) ?_, rfl, q _ hf⟩
  exact ⟨z, us, 0, r, Heap.get?_push_size _ rfl⟩
end
noncomputable abbrev Sp := List V → Hp → VK → XK → Prop
noncomputable abbrev CXT := List Env → Hp → Shared → XK → Value → Shared → Prop
structure Env0 (P : Program) (w : World) (K : PySem.W.Frag) (mg : Str → Option Value) (base : Heap) (A : Around) (outer : List Env) (s : Shared) (H : Hp) : Prop where
  frames : A.frames = some outer
  mod : Mod K mg base
  bs : ∀ b o, base.get? b = some o → s.heap.get? b = some o ∧ H b = none
  bsz : base.objs.size ≤ s.heap.objs.size
  funs : s.heap.FunFrames base outer
  frf : ∀ b ∈ frs outer, H b = none
  hok : HOk P w H s.heap
  bare : AllBare s.gens
noncomputable def CE (outer : List Env) (P : Program) (w : World) (H : Hp) (s : Shared) (Q : VK) (u : Value) (s' : Shared) : Prop :=
  ∃ v H', s'.os = s.os ∧ AllBare s'.gens ∧ Un (frs outer) [] H H' s.heap s'.heap ∧ HOk P w H' s'.heap ∧ RelV v u ∧ Q v H'
noncomputable def CR (CX : CXT) (outer : List Env) (P : Program) (w : World) (H : Hp) (s : Shared) (Q : VK) (E : XK) (r : Result) (s' : Shared) : Prop :=
  match r with
  | .ok (.ret u) => CE outer P w H s Q u s'
  | .ok _ => False
  | .error e => CX outer H s E e s'
structure FnOk (P : Program) (w : World) (K : PySem.W.Frag) (mg : Str → Option Value) (base : Heap) (CX : CXT) (k : Nat) (f : Addr) (fd : FuncData) (ps : List Str) (sp : Sp) : Prop where
  len : ∀ vs H Q E, sp vs H Q E → vs.length = ps.length
  run : ∀ (A : Around) (outer : List Env) (s : Shared) (H : Hp) (args : Args) (us : List Value) (vs : List V) (Q : VK) (E : XK), Room k A → Env0 P w K mg base A outer s H → BindsTo s fd args (ps.zip us) → Vals vs us → sp vs H Q E →
    codeAny (model P w) A (.call (.ref f) args) (CR CX outer P w H s Q E) s
theorem FnOk.mono {P : Program} {w : World} {K : PySem.W.Frag} {mg : Str → Option Value} {base : Heap} {CX : CXT} {j k : Nat} {f : Addr} {fd : FuncData} {ps : List Str} {sp : Sp} (F : FnOk P w K mg base CX j f fd ps sp) (h : j ≤ k) :
    FnOk P w K mg base CX k f fd ps sp := ⟨F.len, fun A outer s H args us vs Q E hr => F.run A outer s H args us vs Q E (hr.mono h)⟩
section
variable {X : Cx} {pins : List (Addr × Obj)} {σ : St} {H : Hp} {s s' : Shared}
theorem Inv.env0 (I : Inv X pins σ H s) : Env0 X.prog X.w X.K X.mg X.base X.A X.stack s H :=
  ⟨I.ok.frames, I.ok.mod, I.bs, Nat.le_trans I.ok.bsz I.sz, I.stack, I.stkFree, I.hok, I.bare⟩
theorem Inv.after {Q : VK} {u : Value} (I : Inv X pins σ H s) (h : CE X.stack X.prog X.w H s Q u s') : EP X pins σ Q u s' := by
  obtain ⟨v, H', os, bare, un, hok, r, q⟩ := h
  obtain ⟨hh, g, d, t, os'⟩ := s'
  obtain rfl : os' = s.os := os
  exact ⟨v, H', I.call (h' := hh) (g' := g) (d' := d) (t' := t) (ch := []) un hok bare (fun b z => absurd z (by simp)), r, q⟩
end
noncomputable def tCall (sp : Sp) (dvs : List V) (E : XK) (t : TA) : TE := fun σ H Q => t σ H fun vs H1 => sp (vs ++ dvs) H1 Q E
noncomputable def Binds (K : PySem.W.Frag) (fd : FuncData) (ps : List Str) (ds : List Value) : Prop :=
  ∀ (s : Shared) (us : List Value), K.In s.heap → (us ++ ds).length = ps.length → BindsTo s fd ⟨us, []⟩ (ps.zip (us ++ ds))
theorem Binds.all {K : PySem.W.Frag} {fd : FuncData} {ps : List Str} (h : ∀ us : List Value, us.length = ps.length → bindArgs fd ⟨us, []⟩ = pure (ps.zip us)) : Binds K fd ps [] := fun s us _ hl => by
  rw [List.append_nil] at hl ⊢
  exact .of_eq (h us hl)
noncomputable def Passes (CX : CXT) (X : Cx) (E : XK) : Prop := ∀ (pins : List (Addr × Obj)) (σ : St) (H : Hp) (s : Shared) (e : Value) (s' : Shared), Inv X pins σ H s → CX X.stack H s E e s' → X.xe e s'
section
variable {X : Cx} {CX : CXT} {k : Nat} {f C : Addr} {fd : FuncData} {ps : List Str} {sp : Sp} {dvs : List V} {ds : List Value} {E : XK} {x m : Str} {p pos apos : Pos} {e o : Expr} {es : List Expr} {ta : TE} {t : TA}
theorem run_fn {pins : List (Addr × Obj)} {σ : St} {H : Hp} {s : Shared} {Q : VK} {us : List Value} {vs : List V} (F : FnOk X.prog X.w X.K X.mg X.base CX k f fd ps sp) (hr : Room k X.A) (hb : Binds X.K fd ps ds) (hd : Vals dvs ds) (hx : Passes CX X E)
    (I : Inv X pins σ H s) (r : Vals vs us) (h : sp (vs ++ dvs) H Q E) : wpAny (model X.prog X.w) X.A (call (.ref f) us) (EP X pins σ Q) X.xe s := by
  have r2 : Vals (vs ++ dvs) (us ++ ds) := r.append hd
  have hl : (us ++ ds).length = ps.length := by rw [← r2.length]; exact F.len _ _ _ _ h
  refine wpAny_call (codeAny_mono (F.run X.A X.stack s H ⟨us, []⟩ (us ++ ds) (vs ++ dvs) Q E hr I.env0 (hb s us I.kIn hl) r2 h) fun r s' hq => ?_)
  cases r with
  | error e => exact hx pins σ H s e s' I hq
  | ok fl =>
    cases fl with
    | ret u => exact I.after hq
    | next => exact False.elim hq
    | brk => exact False.elim hq
    | cont => exact False.elim hq
theorem pe_call (F : FnOk X.prog X.w X.K X.mg X.base CX k f fd ps sp) (hr : Room k X.A) (hg : Gl X x) (hm : X.mg x = some (.ref f)) (hk : PySem.W.keepIn X.K (.ref f) = true) (hb : Binds X.K fd ps ds) (hd : Vals dvs ds) (hx : Passes CX X E)
    (ha : PA X (e :: es) t) (hdb : (x == ("__debug__" : Str)) = false := by decide) (he : starEach (e :: es) X.env = (false, eval e X.env) :: starEach es X.env := by rfl) (hpl : (backTo pos (starEach es X.env)).any (·.1) = false := by rfl) :
    PE X (.Call (.Name x p) (e :: es) [] pos) (tCall sp dvs E t) := by
  intro pins s σ H Q I h
  refine wpAny_Call_Name_kw (ld_glob I hg hm ?_ hdb)
  refine PySem.W.callWith_K (h₀ := X.base) I.ok.mod.kin hk (thn (ha pos pins s σ H _ I h) fun us s1 ⟨vs, H1, I1, r, q⟩ => ⟨I1.kIn, ?_⟩) he hpl
  exact run_fn F hr hb hd hx I1 r q
end
section
variable {X : Cx} {CX : CXT} {k : Nat} {f C : Addr} {fd : FuncData} {ps ks : List Str} {sp : Sp} {E : XK} {x m : Str} {p pos apos kpos : Pos} {e o : Expr} {es : List Expr} {kws : List Keyword} {te ta : TE} {t tk : TA} {nm : Option Str}
variable {g : List Value → List Value → List Value} {gV : List V → List V → List V}
end
structure FnScope (N P : List Str) (sc : Scope) : Prop where
  kind : sc.kind = .function
  co : sc.isCoroutine = false
  gen : sc.isGenerator = false
  nd : N.Nodup
  pre : N.take P.length = P
  par : ∀ x ∈ P, sc.names.lookup x = some .local ∨ sc.names.lookup x = some .cell
  nofree : ∀ y ∈ sc.names, y.2 ≠ .free
theorem bindL_out {kindOf : Str → Option NameKind} {x : Str} : ∀ {binds : List (Str × Value)} {m : Str → Option Value}, (∀ v, (x, v) ∉ binds) → bindL kindOf binds m x = m x
  | [], _, _ => rfl
  | (n, v) :: r, m, h => by
    unfold bindL
    rw [bindL_out fun w hw => h w (List.mem_cons_of_mem _ hw)]
    split
    · have : x ≠ n := by rintro rfl; exact h v List.mem_cons_self
      simp [this]
    · rfl
theorem bindC_out {kindOf : Str → Option NameKind} {x : Str} : ∀ {binds : List (Str × Value)} {m : Str → Option Value}, (∀ v, (x, v) ∉ binds) → bindC kindOf binds m x = m x
  | [], _, _ => rfl
  | (n, v) :: r, m, h => by
    unfold bindC
    rw [bindC_out fun w hw => h w (List.mem_cons_of_mem _ hw)]
    split
    · rfl
    · have : x ≠ n := by rintro rfl; exact h v List.mem_cons_self
      simp [this]
theorem bindL_get {kindOf : Str → Option NameKind} {x : Str} {v : Value} : ∀ {P : List Str} {vs : List Value} {i : Nat} {m : Str → Option Value}, P.Nodup → P[i]? = some x → vs[i]? = some v → kindOf x = some .local →
    bindL kindOf (P.zip vs) m x = some v
  | [], _, _, _, _, h, _, _ => by simp at h
  | _ :: _, [], _, _, _, _, h, _ => by simp at h
  | p :: P, w :: vs, 0, m, nd, h1, h2, hk => by
    simp at h1 h2; subst h1; subst h2
    show bindL kindOf ((p, w) :: P.zip vs) m p = _
    unfold bindL
    rw [bindL_out fun v hv => (List.nodup_cons.mp nd).1 (List.of_mem_zip hv).1, if_pos hk]
    simp
  | p :: P, w :: vs, i + 1, m, nd, h1, h2, hk => by
    show bindL kindOf ((p, w) :: P.zip vs) m x = _
    unfold bindL
    exact bindL_get (i := i) (List.nodup_cons.mp nd).2 (by simpa using h1) (by simpa using h2) hk
theorem bindC_get {kindOf : Str → Option NameKind} {x : Str} {v : Value} : ∀ {P : List Str} {vs : List Value} {i : Nat} {m : Str → Option Value}, P.Nodup → P[i]? = some x → vs[i]? = some v → kindOf x ≠ some .local →
    bindC kindOf (P.zip vs) m x = some v
  | [], _, _, _, _, h, _, _ => by simp at h
  | _ :: _, [], _, _, _, _, h, _ => by simp at h
  | p :: P, w :: vs, 0, m, nd, h1, h2, hk => by
    simp at h1 h2; subst h1; subst h2
    show bindC kindOf ((p, w) :: P.zip vs) m p = _
    unfold bindC
    rw [bindC_out fun v hv => (List.nodup_cons.mp nd).1 (List.of_mem_zip hv).1, if_neg hk]
    simp
  | p :: P, w :: vs, i + 1, m, nd, h1, h2, hk => by
    show bindC kindOf ((p, w) :: P.zip vs) m x = _
    unfold bindC
    exact bindC_get (i := i) (List.nodup_cons.mp nd).2 (by simpa using h1) (by simpa using h2) hk
noncomputable def start (N : List Str) (vs : List V) : St := vs.map some ++ List.replicate (N.length - vs.length) none
noncomputable def cxOf (CX : CXT) (P : Program) (w : World) (K : PySem.W.Frag) (mg : Str → Option Value) (base : Heap) (N : List Str) (qual : Str) (scope : Scope) (f : Addr) (cd : Value) (A : Around) (outer : List Env) (s : Shared) (H : Hp) (E : XK) : Cx where
  prog := P
  w := w
  K := K
  mg := mg
  base := base
  A := A.deeper (envOfC qual scope s.heap.objs.size f cd)
  N := N
  s₀ := s
  H₀ := H
  env := envOfC qual scope s.heap.objs.size f cd
  outer := outer
  stack := envOfC qual scope s.heap.objs.size f cd :: outer
  ex := []
  calm := true
  fn := fun _ => true
  pn := []
  xe := fun e s' => wpAny (model P w) (A.deeper (envOfC qual scope s.heap.objs.size f cd)) (leaving (envOfC qual scope s.heap.objs.size f cd) e) (fun _ s'' => CX outer H s E e s'') (fun e' s'' => CX outer H s E e' s'') s'
theorem cell_has {sc : Scope} {n : Nat} {x : Str} (h : sc.names.lookup x = some .cell) : ∃ c, (cellsFrom n sc.names []).lookup x = some c := by
  have q := PySem.W.cellsFrom_some sc.names n [] (.inl h)
  exact Option.isSome_iff_exists.mp q
theorem inv_start {CX : CXT} {P : Program} {w : World} {K : PySem.W.Frag} {mg : Str → Option Value} {base : Heap} {N ps : List Str} {qual : Str} {scope : Scope} {f : Addr} {cd : Value} {A : Around} {outer : List Env} {s s1 : Shared} {H : Hp} {E : XK} {us : List Value} {vs : List V}
    (S : FnScope N ps scope) (hd : A.handled = none) (e0 : Env0 P w K mg base A outer s H) (hl : vs.length = ps.length) (r : Vals vs us)
    (x : InCallC s s.heap.objs.size (bindL (envOfC qual scope s.heap.objs.size f cd).kindOf (ps.zip us) fun _ => none) (cellsFrom (s.heap.objs.size + 1) scope.names []) (bindC (envOfC qual scope s.heap.objs.size f cd).kindOf (ps.zip us) fun _ => none) s1) :
    Inv (cxOf CX P w K mg base N qual scope f cd A outer s H E) [] (start N vs) H s1 := by
  have hpl : ps.length ≤ N.length := by have := congrArg List.length S.pre; rw [List.length_take] at this; lia
  obtain ⟨h1, tk, rfl, hk⟩ := x.done
  have noA : ∀ b : Addr, b ∉ (cxOf CX P w K mg base N qual scope f cd A outer s H E).ex := fun b z => absurd (show b ∈ ([] : List Addr) from z) (by simp)
  refine ⟨⟨e0.mod, S.kind, rfl, rfl, Nat.le_refl _, fun y z c h1 h2 => ?_, fun y hy => ?_, fun y c _ h => ?_, fun _ => hd, Around.frames_deeper e0.frames, .inr ⟨rfl, rfl⟩, fun b z => absurd z (noA b), e0.bs, e0.bsz, fun b _ _ => noA b, fun b z => absurd z (noA b), e0.funs, e0.frf⟩,
    rfl, e0.bare, Un.kept hk, ⟨_, x.toInCall.ns, fun i y v h1 h2 h3 => ?_⟩, fun y c h => ⟨_, x.cell y c h⟩, e0.hok.fresh (Nat.le_refl _), fun y c h => ?_, fun p hp => absurd (show p ∈ ([] : List (Addr × Obj)) from hp) (by simp), e0.hok.kept hk, ?_⟩
  · exact name_of_addr x.apart (PySem.mem_of_lookup h1) (PySem.mem_of_lookup h2)
  · have hy : scope.names.lookup y = some .cell ∨ scope.names.lookup y = some .free := hy
    rcases hy with hy | hy
    · exact cell_has hy
    · exact absurd rfl (S.nofree _ (PySem.mem_of_lookup hy))
  · exact Nat.le_of_lt (x.above y c (PySem.mem_of_lookup h))
  · have hi : i < vs.length := by
      unfold start at h2
      by_cases hi : i < vs.length
      · exact hi
      · rw [List.getElem?_append_right (by simpa using hi)] at h2
        rw [List.getElem?_replicate] at h2
        split at h2 <;> cases h2
    have ha : vs[i]? = some v := by
      unfold start at h2
      rw [List.getElem?_append_left (by simpa using hi), List.getElem?_map] at h2
      cases e : vs[i]? with
      | none => rw [e] at h2; cases h2
      | some a => rw [e] at h2; cases h2; rfl
    obtain ⟨u, hu, rv⟩ := r.get ha
    have hp : ps[i]? = some y := by
      rw [← S.pre, List.getElem?_take_of_lt (by lia)]; exact h1
    have ndP : ps.Nodup := by rw [← S.pre]; exact S.nd.sublist (List.take_sublist _ _)
    refine ⟨u, rv, ?_⟩
    rcases S.par y (List.mem_of_getElem? hp) with k | k
    · exact .inl ⟨k, bindL_get ndP hp hu k⟩
    · obtain ⟨c, e⟩ := cell_has (n := s.heap.objs.size + 1) k
      refine .inr ⟨.inl k, c, e, ?_⟩
      have q := x.cell y c e
      rw [bindC_get ndP hp hu (by show scope.names.lookup y ≠ _; rw [k]; decide)] at q
      exact q
  · exact e0.hok.fresh (Nat.le_of_lt (x.above y c (PySem.mem_of_lookup h)))
  · unfold start
    show _ = N.length
    rw [List.length_append, List.length_map, List.length_replicate]
    lia
theorem fn_of {CX : CXT} {P : Program} {w : World} {K : PySem.W.Frag} {mg : Str → Option Value} {base : Heap} {k : Nat} {f : Addr} {name qual : Str} {params : Arguments} {body : List Stmt} {scope : Scope} {dV kV doc pm cdv ct oc : Value} {an od : Option Addr}
    {osl : Array (Option Value)} {N ps : List Str} {sp : Sp} (lk : K.lookup f = some ⟨oc, od, .func (PySem.W.fnOf name qual params body scope dV kV doc pm an cdv ct), osl⟩) (hcd : PySem.W.codeIn K cdv qual = true) (S : FnScope N ps scope)
    (len : ∀ vs H Q E, sp vs H Q E → vs.length = ps.length)
    (hbody : ∀ (A : Around) (outer : List Env) (s : Shared) (H : Hp) (vs : List V) (Q : VK) (E : XK), Room k (A.deeper (envOfC qual scope s.heap.objs.size f cdv)) → sp vs H Q E →
      ∃ t, PSs (cxOf CX P w K mg base N qual scope f cdv A outer s H E) body t ∧ t { nx := fun _ H' => Q .non H', rt := Q } (start N vs) H) :
    FnOk P w K mg base CX (k + 1) f (PySem.W.fnOf name qual params body scope dV kV doc pm an cdv ct) ps sp := by
  refine ⟨len, fun A outer s H args us vs Q E hr e0 hb r hsp => ?_⟩
  have hl := len _ _ _ _ hsp
  have KX : K.In s.heap := e0.mod.kin.keeps fun b o e => (e0.bs b o e).1
  have lim : s.heap.NoLimit := e0.mod.nolimit.keeps fun b o e => (e0.bs b o e).1
  have hkind : ∀ y ∈ ps.zip us, scope.names.lookup y.1 = some .local ∨ (scope.names.lookup y.1 = some .cell ∧ ((cellsFrom (s.heap.objs.size + 1) scope.names []).lookup y.1).isSome = true) := fun ⟨n, v⟩ hy => by
    rcases S.par n (List.of_mem_zip hy).1 with q | q
    · exact .inl q
    · exact .inr ⟨q, PySem.W.cellsFrom_some _ _ _ (.inl q)⟩
  refine codeAny_call_function hr.depth (KX _ _ lk) rfl S.co S.gen rfl (PySem.W.codeRec_of KX hcd) (hb _ _ _ _ ?_)
  refine wpAny_newFunctionEnv_cells S.kind hkind fun env he s1 x => ?_
  subst he
  refine ⟨lim.keeps x.toInCall.keep, codeAny_func ?_⟩
  obtain ⟨t, ht, hq⟩ := hbody A outer s H vs Q E (hr.deeper _) hsp
  have I : Inv (cxOf CX P w K mg base N qual scope f cdv A outer s H E) [] (start N vs) H s1 := inv_start S hr.hd e0 hl r x
  refine wpAny_mono (ht [] s1 (start N vs) H _ I hq) (fun fl s' hs => ?_) fun e s' hs => hs
  have fin : ∀ {σ' : St} {H' : Hp} {v : V} {u : Value}, Inv (cxOf CX P w K mg base N qual scope f cdv A outer s H E) [] σ' H' s' → RelV v u → Q v H' → CE outer P w H s Q u s' :=
    fun {σ' H' v u} J rv q => ⟨v, H', J.os, J.bare, J.base, J.hok, rv, q⟩
  cases fl with
  | ret u =>
    obtain ⟨v, σ', H', J, rv, q⟩ := hs
    exact fin J rv q
  | next =>
    obtain ⟨σ', H', J, q⟩ := hs
    exact fin (v := V.non) (u := Value.none) J rfl q
  | brk =>
    obtain ⟨_, _, _, q⟩ := hs
    exact False.elim q
  | cont =>
    obtain ⟨_, _, _, q⟩ := hs
    exact False.elim q
end L2
namespace L2
open PySem PySem.Spec PyProof.Rows
section
variable {X : Cx} {x : Str} {p pos : Pos} {e : Expr} {es : List Expr} {t : TA} {id T : String} {r : List V → Hp → VK → Prop}
noncomputable def tCB (r : List V → Hp → VK → Prop) (t : TA) : TE := fun σ H Q => t σ H fun vs H1 => r vs H1 Q
theorem pe_callB (hc : CallR X (.builtin id) r) (hg : Gl X x) (hm : X.mg x = none) (hv : bootBuiltins x = some (.builtin id)) (ha : PA X (e :: es) t) (hn : x ≠ "__name__" := by decide) (hdb : (x == ("__debug__" : Str)) = false := by decide)
    (he : starEach (e :: es) X.env = (false, eval e X.env) :: starEach es X.env := by rfl) (hpl : (backTo pos (starEach es X.env)).any (·.1) = false := by rfl) : PE X (.Call (.Name x p) (e :: es) [] pos) (tCB r t) := by
  intro pins s σ H Q I h
  refine wpAny_Call_Name_kw (ld_blt I hg hm hv ?_ hn hdb)
  exact PyProof.Rows.callWith_builtin1 (thn (ha pos pins s σ H _ I h) fun us s1 ⟨vs, H1, I1, r1, q1⟩ => hc pins s1 σ H1 vs us Q I1 r1 q1) he hpl
theorem pe_callTy (hc : CallR X (.type T) r) (hg : Gl X x) (hm : X.mg x = none) (hv : bootBuiltins x = some (.type T)) (ha : PA X (e :: es) t) (hn : x ≠ "__name__" := by decide) (hdb : (x == ("__debug__" : Str)) = false := by decide)
    (he : starEach (e :: es) X.env = (false, eval e X.env) :: starEach es X.env := by rfl) (hpl : (backTo pos (starEach es X.env)).any (·.1) = false := by rfl) : PE X (.Call (.Name x p) (e :: es) [] pos) (tCB r t) := by
  intro pins s σ H Q I h
  refine wpAny_Call_Name_kw (ld_blt I hg hm hv ?_ hn hdb)
  exact PyProof.Rows.callWith_type1 (thn (ha pos pins s σ H _ I h) fun us s1 ⟨vs, H1, I1, r1, q1⟩ => hc pins s1 σ H1 vs us Q I1 r1 q1) he hpl
end
end L2
namespace HT
open PySem PyProof.Rows
section
open PySem.SeqAt
open PySem.AutoSeq1 (wpAny_loadPart')
open PySem.MeetsSeq PySem.MeetsSeq2 PySem.MeetsSeq3
end
section
variable {prog : Program} {w : World} {A : Around} {E : Value → Shared → Prop} {s : Shared}
theorem cat_tup {t b : Addr} {vs ws : List Value} {Q : Value → Shared → Prop} (ht : IsTup s.heap t vs.toArray) (hb : IsTup s.heap b ws.toArray) (hv : vs ≠ [])
    (h1 : ws = [] → Q (.ref t) s) (h2 : ws ≠ [] → Q (.ref s.heap.objs.size) { s with heap := s.heap.push { cls := .type "tuple", data := .seq (vs ++ ws).toArray } })
    (hsz : vs.length + ws.length ≤ sizeLine) : wpAny (model prog w) A (binaryOp .Add (.ref t) (.ref b)) Q E s := by
  obtain ⟨⟨cls, dd, data, sl⟩, ho, hc, n, hd⟩ := id ht
  obtain ⟨⟨cls2, dd2, data2, sl2⟩, ho2, hc2, n2, hd2⟩ := id hb
  simp only at hc hd hc2 hd2
  subst hc hd hc2 hd2
  have e : vs.toArray ++ ws.toArray = (vs ++ ws).toArray := by simp
  by_cases hw : ws = []
  · exact concat_meets ⟨_, ho, rfl⟩ ⟨_, ho2, rfl⟩ noFill_tuple_add seq_tuple_add PySem.F.slot_tuple_add PySem.F.entry_tuple_add (PySem.F.args_tuple_add_2 _ _)
      (tuple_addW1 t b vs.toArray ws.toArray n n2 dd dd2 sl sl2 (by simpa using hv) (by simp [hw])) ⟨ho, ho2, h1 hw⟩
  · refine concat_meets ⟨_, ho, rfl⟩ ⟨_, ho2, rfl⟩ noFill_tuple_add seq_tuple_add PySem.F.slot_tuple_add PySem.F.entry_tuple_add (PySem.F.args_tuple_add_2 _ _)
      (tuple_addW2 t b vs.toArray ws.toArray n n2 dd dd2 sl sl2 (by simpa using hv) (by simpa using hw) (by rw [List.size_toArray, List.size_toArray]; exact hsz)) ⟨ho, ho2, ?_⟩
    rw [e]
    exact h2 hw
noncomputable def sIx (n d : Nat) : Option Int → Nat
  | none => d
  | some v => if v < 0 then (v + (n : Int)).toNat else min v.toNat n
theorem sIx_nat (n d k : Nat) : sIx n d (some (k : Int)) = min k n := by
  show (if (k : Int) < 0 then ((k : Int) + (n : Int)).toNat else min (k : Int).toNat n) = min k n
  rw [if_neg (by lia), Int.toNat_natCast]
end
end HT
namespace L2
open PySem PySem.Spec PyProof.Rows
noncomputable abbrev TO := St → Hp → (Option Int → Hp → Prop) → Prop
noncomputable def PO (X : Cx) (e : Option Expr) (t : TO) : Prop :=
  ∀ (pins : List (Addr × Obj)) (s : Shared) (σ : St) (H : Hp) (Q : Option Int → Hp → Prop), Inv X pins σ H s → t σ H Q →
    wpAny (model X.prog X.w) X.A (evalPart e X.env) (fun u s' => ∃ o H', Inv X pins σ H' s' ∧ IsPart u o ∧ Q o H') X.xe s
noncomputable def tPart (t : TE) : TO := fun σ H Q => t σ H fun x H1 => ∃ i, x = .int i ∧ Q (some i) H1
section
variable {X : Cx} {e : Expr} {te : TE} {lo hi : Option Expr} {tl th : TO} {pos p2 : Pos}
theorem po_some (h : PE X e te) : PO X (some e) (tPart te) := by
  intro pins s σ H Q I hw
  rw [evalPart_some]
  refine thnE (h pins s σ H _ I hw) fun u s1 x H1 I1 r1 q1 => ?_
  obtain ⟨i, rfl, q⟩ := q1
  obtain ⟨t, rfl⟩ := r1
  exact ⟨some i, H1, I1, .int i t, q⟩
noncomputable def SlR (X : Cx) (r : V → Option Int → Option Int → Hp → VK → Prop) : Prop :=
  ∀ (pins : List (Addr × Obj)) (s : Shared) (σ : St) (H : Hp) (x : V) (v vl vu : Value) (lo hi : Option Int) (sl : Addr) (Q : VK), Inv X pins σ H s → RelV x v → s.heap.IsSliceOf sl vl vu .none → IsPart vl lo → IsPart vu hi → r x lo hi H Q →
    ∃ T id, typeLookup (.type T) "__getitem__" = pure (some (.builtin id)) ∧ s.TypeIs v T ∧ wpAny (model X.prog X.w) X.A (getItem v (.ref sl)) (EP X pins σ Q) X.xe s
noncomputable def tSl (r : V → Option Int → Option Int → Hp → VK → Prop) (te : TE) (tl th : TO) : TE := fun σ H Q => te σ H fun x H1 => tl σ H1 fun l H2 => th σ H2 fun u H3 => r x l u H3 Q
theorem pe_slice {r : V → Option Int → Option Int → Hp → VK → Prop} (hr : SlR X r) (he : PE X e te) (hl : PO X lo tl) (hu : PO X hi th) : PE X (.Subscript e (.Slice lo hi none p2) pos) (tSl r te tl th) := by
  intro pins s σ H Q I h
  refine Subscript_ (thnE (he pins s σ H _ I h) fun v s1 x H1 I1 r1 q1 => ?_)
  refine wpAny_Slice (thn (hl pins s1 σ H1 _ I1 q1) fun vl s2 ⟨l, H2, I2, pl, q2⟩ => thn (hu pins s2 σ H2 _ I2 q2) fun vu s3 hz8 => ?_)
  obtain ⟨u, H3, I3, pu, q3⟩ := hz8
  rw [evalPart_none]
  refine wpAny_pure ?_
  have I4 : Inv X pins σ H3 { s3 with heap := s3.heap.push { cls := .type "slice", data := .fields #[vl, vu, .none] } } := I3.kept (t' := s3.toks) fun b ob q => Heap.get?_push_of_some _ q
  obtain ⟨T, id, hT, ht, hg⟩ := hr pins { s3 with heap := s3.heap.push { cls := .type "slice", data := .fields #[vl, vu, .none] } } σ H3 x v vl vu l u s3.heap.objs.size Q I4 r1 (Heap.IsSliceOf.new ..) pl pu q3
  show wpAny (model X.prog X.w) X.A (subscriptTail e (.Slice lo hi none p2) v (.ref s3.heap.objs.size)) (EP X pins σ Q) X.xe { s3 with heap := s3.heap.push { cls := .type "slice", data := .fields #[vl, vu, .none] } }
  exact tail_any (ops := [.ref s3.heap.objs.size, v]) ht hT hg (by with_unfolding_all rfl)
noncomputable def cutV (xs : List V) (lo hi : Option Int) : List V := (xs.drop (HT.sIx xs.length 0 lo)).take (HT.sIx xs.length xs.length hi - HT.sIx xs.length 0 lo)
theorem cutV_length (xs : List V) (lo hi : Option Int) : (cutV xs lo hi).length ≤ xs.length := by
  unfold cutV
  rw [List.length_take, List.length_drop]
  lia
noncomputable def rCatT (K : PySem.W.Frag) : R2 := fun x y H Q => ∃ a b xs ys, x = .ref a ∧ y = .ref b ∧ SqT K H a xs ∧ SqT K H b ys ∧ xs ≠ [] ∧ xs.length + ys.length ≤ sizeLine ∧
  (ys = [] → Q (.ref a) H) ∧ (ys ≠ [] → ∀ p, H p = none → Q (.ref p) (upd H p (.tup (xs ++ ys))))
theorem Vals.nil_iff {xs : List V} {us : List Value} (r : Vals xs us) : us = [] ↔ xs = [] := by
  cases r with
  | nil => simp
  | cons _ _ => simp
theorem op_catT : OpR X (binaryOp .Add) (rCatT X.K) := by
  intro pins s σ H x y v u Q I rx ry h
  obtain ⟨a, b, xs, ys, rfl, rfl, ha, hb, hx, hz, q1, q2⟩ := h
  cases rx
  cases ry
  obtain ⟨its, r1, p1, _⟩ := I.tuple ha
  obtain ⟨its2, r2, p2, _⟩ := I.tuple hb
  refine HT.cat_tup p1 p2 (fun z => hx (r1.nil_iff.mp z)) (fun z => ⟨.ref a, H, I, rfl, q1 (r2.nil_iff.mp z)⟩) (fun z => ?_) (by rw [← r1.length, ← r2.length]; exact hz)
  refine ⟨.ref s.heap.objs.size, _, I.laid (t' := s.toks) (o := .tup (xs ++ ys)) (fun b ob q => Heap.get?_push_of_some _ q) (Nat.le_refl _) ?_, rfl, q2 (fun w => z (r2.nil_iff.mpr w)) _ (I.hok.fresh (Nat.le_refl _))⟩
  exact ⟨by rw [List.length_append]; exact hz, _, 0, r1.append r2, Heap.get?_push_size _ rfl⟩
end
end L2
namespace L2
open PySem PySem.Spec PyProof.Rows
noncomputable def ixN (n : Nat) (i : Int) : Option Nat := if 0 ≤ i then (if i < n then some i.toNat else none) else if -(n : Int) ≤ i then some (i + n).toNat else none
noncomputable def atI {α : Type} (xs : List α) (i : Int) : Option α := (ixN xs.length i).bind fun j => xs[j]?
theorem ixN_seq {n : Nat} {i : Int} {j : Nat} (h : ixN n i = some j) : seqIndex? i n = some j ∧ j < n ∧ -(n : Int) ≤ i ∧ i < n := by
  unfold ixN at h
  by_cases h0 : 0 ≤ i
  · rw [if_pos h0] at h
    by_cases h1 : i < n
    · rw [if_pos h1] at h
      have e : i.toNat = j := Option.some.inj h
      exact ⟨by rw [seqIndex_of h0 h1, e], by lia, by lia, h1⟩
    · rw [if_neg h1] at h; cases h
  · rw [if_neg h0] at h
    by_cases h1 : -(n : Int) ≤ i
    · rw [if_pos h1] at h
      have e : (i + n).toNat = j := Option.some.inj h
      exact ⟨by rw [seqIndex_neg (by lia) h1, e], by lia, h1, by lia⟩
    · rw [if_neg h1] at h; cases h
theorem atI_get {α : Type} {xs : List α} {i : Int} {v : α} (h : atI xs i = some v) : ∃ j, seqIndex? i xs.length = some j ∧ xs[j]? = some v ∧ j < xs.length ∧ -(xs.length : Int) ≤ i ∧ i < xs.length := by
  unfold atI at h
  cases e : ixN xs.length i with
  | none => rw [e] at h; cases h
  | some j =>
    rw [e] at h
    obtain ⟨h1, h2, h3, h4⟩ := ixN_seq e
    exact ⟨j, h1, h, h2, h3, h4⟩
theorem atI_nat {α : Type} {xs : List α} {j : Nat} {v : α} (h : xs[j]? = some v) : atI xs (j : Int) = some v := by
  have hj : j < xs.length := (List.getElem?_eq_some_iff.mp h).1
  have e : ixN xs.length (j : Int) = some j := by
    unfold ixN
    rw [if_pos (by lia), if_pos (by lia)]; simp
  unfold atI; rw [e]; exact h
noncomputable def PlainIx (b : Expr) : Prop := ∀ o i, subscripted b false o i = operate [o, i] (getItem o i)
noncomputable def IxR (X : Cx) (r : R2) : Prop :=
  ∀ (value slice : Expr) (pins : List (Addr × Obj)) (s : Shared) (σ : St) (H : Hp) (x y : V) (v u : Value) (Q : VK), Inv X pins σ H s → RelV x v → RelV y u → r x y H Q →
    subscripted slice false v u = operate [v, u] (getItem v u) → wpAny (model X.prog X.w) X.A (subscriptTail value slice v u) (EP X pins σ Q) X.xe s
noncomputable def MtR (X : Cx) (id : String) (r : V → List V → Hp → VK → Prop) : Prop :=
  ∀ (pins : List (Addr × Obj)) (s : Shared) (σ : St) (H : Hp) (x : V) (xs : List V) (v : Value) (us : List Value) (Q : VK), Inv X pins σ H s → RelV x v → Vals xs us → r x xs H Q →
    wpAny (model X.prog X.w) X.A (call (.builtin id) (v :: us)) (EP X pins σ Q) X.xe s
section
variable {X : Cx} {a b : Expr} {ta tb : TE} {pos : Pos}
theorem IxR.or {r r' : R2} (h : IxR X r) (h' : IxR X r') : IxR X (fun x y H Q => r x y H Q ∨ r' x y H Q) := by
  intro value slice pins s σ H x y v u Q I rx ry q hs
  rcases q with q | q
  · exact h value slice pins s σ H x y v u Q I rx ry q hs
  · exact h' value slice pins s σ H x y v u Q I rx ry q hs
theorem pe_ix {r : R2} (hr : IxR X r) (ha : PE X a ta) (hb : PE X b tb) (hs : PlainIx b) : PE X (.Subscript a b pos) (tOp r ta tb) := by
  intro pins s σ H Q I h
  exact Subscript_ (binT ha hb I h fun v u s2 x y H2 I2 rx ry q => hr a b pins s2 σ H2 x y v u Q I2 rx ry q (hs _ _))
noncomputable def rIxL (K : PySem.W.Frag) : R2 := fun x y H Q => ∃ p xs i v, x = .ref p ∧ y = .int i ∧ SqL K H p xs ∧ atI xs i = some v ∧ Q v H
noncomputable def rIxT (K : PySem.W.Frag) : R2 := fun x y H Q => ∃ p xs i v, x = .ref p ∧ y = .int i ∧ SqT K H p xs ∧ atI xs i = some v ∧ Q v H
theorem ix_list : IxR X (rIxL X.K) := by
  intro value slice pins s σ H x y v u Q I rx ry h hs
  obtain ⟨p, xs, i, z, rfl, rfl, hq, he, q⟩ := h
  cases rx
  obtain ⟨t, rfl⟩ := ry
  obtain ⟨its, r, pl, hz⟩ := I.list hq
  obtain ⟨j, h1, h2, h3, h4, h5⟩ := atI_get he
  obtain ⟨w, ew, rw'⟩ := r.get h2
  have hl := r.length
  have hn := line63
  have fin : EP X pins σ Q w s := ⟨z, H, I, rw', q⟩
  by_cases h0 : 0 ≤ i
  · have hj : i.toNat = j := by
      rw [seqIndex_of h0 h5] at h1
      exact Option.some.inj h1
    exact item_listR pl.isList h0 (by lia) (by rw [hj]; simpa using ew) fin hs
  · have hj : (i + (its.toArray.size : Int)).toNat = j := by
      rw [seqIndex_neg (by lia) h4] at h1
      rw [List.size_toArray, ← hl]
      exact Option.some.inj h1
    exact subscriptTail_builtinR (x := w) pl.isList.typeIs slot_list_getitem.lookup
      (wpAny_getItem_list_neg (Q := fun r s' => r = w ∧ EP X pins σ Q r s') pl.isList (by lia) (by rw [List.size_toArray] <;> lia) (by lia) (by rw [hj]; simpa using ew) ⟨rfl, fin⟩) hs
theorem ix_tup : IxR X (rIxT X.K) := by
  intro value slice pins s σ H x y v u Q I rx ry h hs
  obtain ⟨p, xs, i, z, rfl, rfl, hq, he, q⟩ := h
  cases rx
  obtain ⟨t, rfl⟩ := ry
  obtain ⟨its, r, pl, hz⟩ := I.tuple hq
  obtain ⟨j, h1, h2, h3, h4, h5⟩ := atI_get he
  obtain ⟨w, ew, rw'⟩ := r.get h2
  have hl := r.length
  have hn := line63
  have fin : EP X pins σ Q w s := ⟨z, H, I, rw', q⟩
  exact subscriptTail_builtinR (x := w) pl.typeIs slot_tuple_getitem.lookup
    (getItem_tuple (j := j) (Q := fun r s' => r = w ∧ EP X pins σ Q r s') pl (by lia) (by lia) (by rw [List.size_toArray, ← hl]; exact h1) (by simpa using ew) ⟨rfl, fin⟩) hs
theorem slice_bounds (lo hi : Option Int) (n : Nat) : (sliceBounds lo hi none n).1 = ((HT.sIx n 0 lo : Nat) : Int) ∧ (sliceBounds lo hi none n).2.1 = ((HT.sIx n n hi : Nat) : Int) ∧ (sliceBounds lo hi none n).2.2 = 1 := by
  refine ⟨?_, ?_, rfl⟩
  · cases lo with
    | none => simp [sliceBounds, HT.sIx]
    | some i =>
      simp only [sliceBounds, HT.sIx, Option.getD_none, show (1 : Int) > 0 by decide, if_true]
      by_cases h : i < 0
      · simp only [h, if_true] <;> lia
      · simp only [h, if_false] <;> lia
  · cases hi with
    | none => simp [sliceBounds, HT.sIx]
    | some i =>
      simp only [sliceBounds, HT.sIx, Option.getD_none, show (1 : Int) > 0 by decide, if_true]
      by_cases h : i < 0
      · simp only [h, if_true] <;> lia
      · simp only [h, if_false] <;> lia
theorem slicePick_cut (its : List Value) (lo hi : Option Int) : slicePick its.toArray lo hi none = ((its.drop (HT.sIx its.length 0 lo)).take (HT.sIx its.length its.length hi - HT.sIx its.length 0 lo)).toArray := by
  obtain ⟨h1, h2, h3⟩ := slice_bounds lo hi its.toArray.size
  unfold slicePick
  rw [h1, h2, h3]
  simp only [sliceRange_one, pick_run, List.size_toArray] <;> rfl
noncomputable def rSlL (K : PySem.W.Frag) : V → Option Int → Option Int → Hp → VK → Prop := fun x lo hi H Q => ∃ a xs, x = .ref a ∧ SqL K H a xs ∧ ∀ p, H p = none → Q (.ref p) (upd H p (.lst (cutV xs lo hi)))
theorem sl_list : SlR X (rSlL X.K) := by
  intro pins s σ H x v vl vu lo hi sl Q I rx hs pl pu h
  obtain ⟨a, xs, rfl, hx, q⟩ := h
  cases rx
  obtain ⟨its, r, ht, hz⟩ := I.list hx
  have hlen := r.length
  refine ⟨"list", _, slot_list_getitem.lookup, ht.isList.typeIs, ?_⟩
  refine wpAny_getItem_list_slice ht.isList hs pl pu .none (by simp) ?_ (by rw [List.size_toArray] <;> lia)
  rw [slicePick_cut, ← hlen]
  refine ⟨.ref s.heap.objs.size, _, I.laid (t' := s.toks) (o := .lst (cutV xs lo hi)) (fun b ob q => Heap.get?_push_of_some _ q) (Nat.le_refl _) ?_, rfl, q _ (I.hok.fresh (Nat.le_refl _))⟩
  exact ⟨Nat.le_trans (cutV_length xs lo hi) hz, _, 0, (r.drop (HT.sIx xs.length 0 lo)).take (HT.sIx xs.length xs.length hi - HT.sIx xs.length 0 lo), Heap.get?_push_size _ rfl⟩
theorem call_len_seq : CallR X (.builtin "len") (fun xs H Q => ∃ p ys, xs = [.ref p] ∧ (SqL X.K H p ys ∨ SqT X.K H p ys) ∧ Q (.int ys.length) H) := by
  intro pins s σ H xs us Q I r h
  obtain ⟨p, ys, rfl, hq, q⟩ := h
  obtain ⟨u, rfl, rx⟩ := vals1 r
  cases rx
  have hn := line63
  rcases hq with hq | hq
  · obtain ⟨its, r', pl, hz⟩ := I.list hq
    have hlen := r'.length
    exact Calls.call_len_list pl.isList (by simp only [List.size_toArray] <;> lia) ⟨.int ys.length, H, I.tok _, ⟨s.toks + 1, by rw [List.size_toArray, hlen]⟩, q⟩
  · obtain ⟨its, r', pl, hz⟩ := I.tuple hq
    have hlen := r'.length
    exact len_tuple pl (by simp only [List.size_toArray] <;> lia) ⟨.int ys.length, H, I.tok _, ⟨s.toks + 1, by rw [List.size_toArray, hlen]⟩, q⟩
theorem call_tuple_of : CallR X (.type "tuple") (fun xs H Q => ∃ p ys, xs = [.ref p] ∧ ((SqL X.K H p ys ∧ ∀ l, H l = none → Q (.ref l) (upd H l (.tup ys))) ∨ (SqT X.K H p ys ∧ Q (.ref p) H))) := by
  intro pins s σ H xs us Q I r h
  obtain ⟨p, ys, rfl, h⟩ := h
  obtain ⟨u, rfl, rx⟩ := vals1 r
  cases rx
  rcases h with ⟨hq, q⟩ | ⟨hq, q⟩
  · obtain ⟨its, r', pl, hz⟩ := I.list hq
    have hlen := r'.length
    refine call_tuple_list pl.isList (fun h' kp => ?_) (by simp only [List.size_toArray] <;> lia)
    have I1 : Inv X pins σ H { s with heap := h' } := I.kept (t' := s.toks) kp
    have I2 : Inv X pins σ (upd H h'.objs.size (.tup ys)) { s with heap := h'.push { cls := .type "tuple", data := .seq its.toArray } } :=
      I1.laid (t' := s.toks) (fun b o e => Heap.get?_push_of_some _ e) (Nat.le_refl _) (show ObjOk X.prog X.w _ _ _ (.tup ys) from ⟨hz, its, 0, r', Heap.get?_push_size _ rfl⟩)
    exact ⟨.ref h'.objs.size, _, I2, rfl, q _ (I1.hok.fresh (Nat.le_refl _))⟩
  · obtain ⟨its, r', pl, hz⟩ := I.tuple hq
    exact call_tuple_same pl ⟨.ref p, H, I, rfl, q⟩
noncomputable def tyV (K : PySem.W.Frag) (T : String) (x : V) (H : Hp) : Prop := match x with
  | .str _ => T = "str"
  | .int _ => T = "int"
  | .ref p => (T = "list" ∧ ∃ xs, SqL K H p xs) ∨ (T = "tuple" ∧ ((∃ o, K.lookup p = some o ∧ o.cls = .type "tuple" ∧ o.dict = none) ∨ ∃ xs, H p = some (.tup xs))) ∨
      (T = "dict" ∧ ((∃ kvs, H p = some (.dK kvs)) ∨ ∃ kvs, H p = some (.dT kvs))) ∨ (T = "set" ∧ ∃ S n, H p = some (.set S n))
  | _ => False
theorem tyV_is {pins : List (Addr × Obj)} {σ : St} {H : Hp} {s : Shared} {T : String} {x : V} {v : Value} (I : Inv X pins σ H s) (r : RelV x v) (ty : tyV X.K T x H) :
    s.TypeIs v T ∧ ∀ a, v = .ref a → ∃ ob, s.heap.get? a = some ob ∧ ob.dict = none := by
  cases x with
  | str z =>
    obtain ⟨t, rfl⟩ := r
    cases (show T = "str" from ty)
    exact ⟨typeIs_str s z t, fun _ e => nomatch e⟩
  | int i =>
    obtain ⟨t, rfl⟩ := r
    cases (show T = "int" from ty)
    exact ⟨typeIs_int s i t, fun _ e => nomatch e⟩
  | ref p =>
    cases r
    rcases ty with ⟨rfl, xs, hq⟩ | ⟨rfl, ⟨o, hk, hc, hd⟩ | ⟨xs, hq⟩⟩ | ⟨rfl, hk⟩ | ⟨rfl, S, n, hk⟩
    · obtain ⟨its, _, pl, _⟩ := I.list hq
      refine ⟨pl.isList.typeIs, fun a e => ?_⟩
      cases e
      obtain ⟨o, n, e, c, hd, _⟩ := pl
      exact ⟨o, e, hd⟩
    · refine ⟨⟨o, I.kIn p o hk, hc⟩, fun a e => ?_⟩
      cases e
      exact ⟨o, I.kIn _ o hk, hd⟩
    · obtain ⟨_, its, n, _, h1⟩ := (show ObjOk X.prog X.w H s.heap p (.tup xs) from I.hok p _ hq)
      refine ⟨⟨_, h1, rfl⟩, fun a e => ?_⟩
      cases e
      exact ⟨_, h1, rfl⟩
    · have z : ∃ o, s.heap.get? p = some o ∧ o.ExactDict := by
        rcases hk with ⟨kvs, hk⟩ | ⟨kvs, hk⟩
        · obtain ⟨_, _, _, _, o, _, _, e, ex, _⟩ := I.hok p _ hk
          exact ⟨o, e, ex⟩
        · obtain ⟨_, _, _, _, o, _, _, e, ex, _⟩ := I.hok p _ hk
          exact ⟨o, e, ex⟩
      obtain ⟨o, e, ex⟩ := z
      refine ⟨⟨o, e, ex.1⟩, fun a e2 => ?_⟩
      cases e2
      exact ⟨o, e, ex.2.1⟩
    · obtain ⟨o, _, _, _, e, ex, _⟩ := I.hok p _ hk
      refine ⟨⟨o, e, ex.1⟩, fun a e2 => ?_⟩
      cases e2
      exact ⟨o, e, ex.2.1⟩
  | _ => exact False.elim ty
noncomputable def tBM (K : PySem.W.Frag) (T : String) (r : V → List V → Hp → VK → Prop) (to : TE) (t : TA) : TE := fun σ H Q => to σ H fun x H1 => tyV K T x H1 ∧ t σ H1 fun xs H2 => r x xs H2 Q
variable {o e : Expr} {es : List Expr} {to : TE} {t : TA} {name : Str} {apos cpos : Pos} {T id : String} {r : V → List V → Hp → VK → Prop}
theorem pe_bm (pa : PlainAttrs T) (slot : Slot T name id) (hty : typeOf (.builtin id) = pure (.type "method_descriptor")) (hm : MtR X id r) (ho : PE X o to) (ha : PA X (e :: es) t)
    (hbase : attributeBase o name X.env (eval o X.env) = eval o X.env := by rfl)
    (hfew : ((backTo cpos (starEach (e :: es) X.env)).all (fun x => !x.1) && (backToKw cpos (keywordEach [] X.env)).all (fun x => x.1.isSome)
      && decide ((e :: es).length + ([] : List Keyword).length + (if ([] : List Keyword).isEmpty then 0 else 1) < 30)) = true := by rfl)
    (hline : (apos.endLine == cpos.line) = true := by rfl) (hs : starEach (e :: es) X.env = (false, eval e X.env) :: starEach es X.env := by rfl) (hplain : (backTo cpos (starEach es X.env)).any (·.1) = false := by rfl) :
    PE X (.Call (.Attribute o name apos) (e :: es) [] cpos) (tBM X.K T r to t) := by
  intro pins s σ H Q I h
  refine wpAny_Call_method_late hbase hfew hline rfl (thnE (ho pins s σ H _ I h) fun v s1 x H1 I1 r1 hz9 => ?_)
  obtain ⟨ty, q1⟩ := hz9
  obtain ⟨h1, h2⟩ := tyV_is I1 r1 ty
  refine ⟨T, id, pa, slot, hty, h1, h2, ?_⟩
  have hA := ha cpos pins s1 σ H1 _ I1 q1
  rw [hs] at hA ⊢
  refine Calls.callWith_builtin (by show (false || (backTo cpos (starEach es X.env)).any (·.1)) = false; rw [hplain] <;> rfl) (Calls.evalArgs_plain ?_)
  exact thn hA fun us s2 ⟨vs, H2, I2, r2, q2⟩ => hm pins s2 σ H2 x vs v us Q I2 r1 r2 q2
end
end L2
namespace L2
open PySem PySem.Spec PyProof.Rows
noncomputable def MtM (X : Cx) (id : String) (r : V → List V → Hp → VK → Prop) : Prop :=
  ∀ (pins : List (Addr × Obj)) (s : Shared) (σ : St) (H : Hp) (x : V) (xs : List V) (v : Value) (us : List Value) (Q : VK), Inv X pins σ H s → RelV x v → Vals xs us → r x xs H Q →
    wpAny (model X.prog X.w) X.A (call (.builtin id) (v :: us)) (EP X pins σ Q) X.xe s
theorem Vals.one : ∀ {x : V} {us : List Value}, Vals [x] us → ∃ u, us = [u] ∧ RelV x u
  | _, _, .cons r .nil => ⟨_, rfl, r⟩
theorem Vals.eraseIdx : ∀ {xs : List V} {us : List Value} (i : Nat), Vals xs us → Vals (xs.eraseIdx i) (us.eraseIdx i)
  | _, _, _, .nil => .nil
  | _, _, 0, .cons _ t => t
  | _, _, i + 1, .cons r t => .cons r (Vals.eraseIdx i t)
theorem Vals.reverse {xs : List V} {us : List Value} (h : Vals xs us) : Vals xs.reverse us.reverse := by
  induction h with
  | nil => exact .nil
  | cons r t ih => rw [List.reverse_cons, List.reverse_cons]; exact Vals.append ih (.cons r .nil)
theorem Vals.rep {xs : List V} {us : List Value} (h : Vals xs us) : ∀ k : Nat, Vals (List.replicate k xs).flatten (List.replicate k us).flatten
  | 0 => .nil
  | k + 1 => by
    rw [List.replicate_succ, List.replicate_succ, List.flatten_cons, List.flatten_cons]
    exact Vals.append h (Vals.rep h k)
theorem len_erase {α : Type} : ∀ (l : List α) (i : Nat), (l.eraseIdx i).length ≤ l.length
  | [], _ => Nat.le_refl _
  | _ :: _, 0 => Nat.le_succ _
  | _ :: r, i + 1 => Nat.succ_le_succ (len_erase r i)
theorem foldl_rep (its : List Value) : ∀ (k : Nat) (acc : List Value),
    List.foldl (fun x1 x2 => x1 ++ x2) acc.toArray (List.replicate k its.toArray) = (acc ++ (List.replicate k its).flatten).toArray
  | 0, acc => by simp
  | k + 1, acc => by
    have e : acc.toArray ++ its.toArray = (acc ++ its).toArray := by simp
    have e2 : (acc ++ its) ++ (List.replicate k its).flatten = acc ++ (List.replicate (k + 1) its).flatten := by
      rw [List.replicate_succ, List.flatten_cons, List.append_assoc]
    rw [← e2, ← foldl_rep its k (acc ++ its), ← e, List.replicate_succ, List.foldl_cons]
section
variable {X : Cx} {pins : List (Addr × Obj)} {σ : St} {H : Hp} {s : Shared} {l b : Addr} {xs ys zs : List V}
theorem Inv.lset {its its' : List Value} {n : Nat} {f : Array Value → Array Value} {t' : Nat} (I : Inv X pins σ H s) (hH : H l = some (.lst xs))
    (e : s.heap.get? l = some { cls := .type "list", data := .seq its.toArray n }) (hf : f its.toArray = its'.toArray) (hv : Vals ys its') (hz : ys.length ≤ sizeLine) :
    Inv X pins σ (upd H l (.lst ys)) { s with heap := s.heap.update l (Obj.mapSeq f), toks := t' } := by
  have q := PySem.IsL.update e f
  rw [hf] at q
  refine I.write (x := l) (e := l) (by rw [hH]; exact trivial) (.inl rfl) (fun b' u hb hu => (Heap.get?_update_other s.heap (Obj.mapSeq f) (Ne.symm hb)).trans hu) ⟨_, q⟩ ?_
  exact ⟨hz, its', _, hv, q⟩
theorem Inv.lnew {its : List Value} {t' : Nat} (I : Inv X pins σ H s) (hv : Vals ys its) (hz : ys.length ≤ sizeLine) :
    Inv X pins σ (upd H s.heap.objs.size (.lst ys)) { s with heap := s.heap.push { cls := .type "list", data := .seq its.toArray }, toks := t' } :=
  I.laid (fun _ _ q => Heap.get?_push_of_some _ q) (Nat.le_refl _) ⟨hz, its, 0, hv, Heap.get?_push_size _ rfl⟩
theorem Inv.fresh (I : Inv X pins σ H s) : H s.heap.objs.size = none := I.hok.fresh (Nat.le_refl _)
theorem Inv.lstM (I : Inv X pins σ H s) (hH : H l = some (.lst xs)) : xs.length ≤ sizeLine ∧ ∃ (its : List Value) (n : Nat), Vals xs its ∧ xs.length = its.length ∧ s.heap.get? l = some { cls := .type "list", data := .seq its.toArray n } := by
  obtain ⟨z, its, n, r, e⟩ := I.hok l _ hH
  exact ⟨z, its, n, r, r.length, e⟩
theorem notLongL {n : Nat} (h : n ≤ sizeLine) : Builtin.List.listTooLong n = false := by
  unfold Builtin.List.listTooLong
  exact decide_eq_false (by lia)
end
section
variable {X : Cx}
noncomputable def rAppend : V → List V → Hp → VK → Prop := fun x vs H Q => ∃ l xs y, x = .ref l ∧ vs = [y] ∧ H l = some (.lst xs) ∧ xs.length < sizeLine ∧ Q .non (upd H l (.lst (xs ++ [y])))
theorem mt_append : MtM X "list.append" rAppend := by
  intro pins s σ H x vs v us Q I rx rv h
  obtain ⟨l, xs, y, rfl, rfl, hH, hz, q⟩ := h
  cases rx
  obtain ⟨u, rfl, ru⟩ := rv.one
  obtain ⟨z, its, n, r, hl, e⟩ := I.lstM hH
  refine call_meets F.slot_list_append ⟨_, e, rfl⟩ F.entry_list_append (F.args_list_append_2 _ _) (PySem.list_append l its.toArray n u (by rw [List.size_toArray]; lia)) ⟨e, ?_⟩
  refine ⟨.non, _, I.lset (its' := its ++ [u]) hH e (by simp) (r.append (.cons ru .nil)) ?_, rfl, q⟩
  rw [List.length_append, List.length_singleton]
  lia
noncomputable def rPopAt : V → List V → Hp → VK → Prop := fun x vs H Q => ∃ l xs i k y, x = .ref l ∧ vs = [.int i] ∧ H l = some (.lst xs) ∧ -(2 ^ 63) ≤ i ∧ i < 2 ^ 63 ∧ seqIndex? i xs.length = some k ∧ xs[k]? = some y ∧ Q y (upd H l (.lst (xs.eraseIdx k)))
theorem mt_popAt : MtM X "list.pop" rPopAt := by
  intro pins s σ H x vs v us Q I rx rv h
  obtain ⟨l, xs, i, k, y, rfl, rfl, hH, h1, h2, hk, hy, q⟩ := h
  cases rx
  obtain ⟨u, rfl, ru⟩ := rv.one
  obtain ⟨t, rfl⟩ := ru
  obtain ⟨z, its, n, r, hl, e⟩ := I.lstM hH
  obtain ⟨w, hw, rw'⟩ := r.get hy
  refine call_meets F.slot_list_pop ⟨_, e, rfl⟩ F.entry_list_pop (F.args_list_pop_2 _ _)
    (MeetsSeq.list_pop_at l its.toArray n i t k w (fitsIndex_both h1 h2) (by rw [List.size_toArray, ← hl]; exact hk) (by rw [← Array.getElem?_toList]; exact hw) (by rw [List.size_toArray]; lia)) ⟨e, ?_⟩
  refine ⟨y, _, I.lset (its' := its.eraseIdx k) hH e ?_ (r.eraseIdx k) ?_, rw', q⟩
  · show its.toArray.eraseIdxIfInBounds k = (its.eraseIdx k).toArray
    rw [List.eraseIdxIfInBounds_toArray]
  · have := len_erase xs k
    lia
noncomputable def rRep : R2 := fun x y H Q => ∃ l k xs, x = .ref l ∧ y = .int k ∧ H l = some (.lst xs) ∧ -(2 ^ 63) ≤ k ∧ k < 2 ^ 63 ∧ xs.length * k.toNat ≤ sizeLine ∧
  ∀ p, H p = none → Q (.ref p) (upd H p (.lst (List.replicate k.toNat xs).flatten))
theorem len_rep {α : Type} (xs : List α) (k : Nat) : (List.replicate k xs).flatten.length = k * xs.length := by
  induction k with
  | zero => simp
  | succ k ih => rw [List.replicate_succ, List.flatten_cons, List.length_append, ih, Nat.succ_mul, Nat.add_comm]
theorem op_rep : OpR X (binaryOp .Mult) rRep := by
  intro pins s σ H x y v u Q I rx ry h
  obtain ⟨l, k, xs, rfl, rfl, hH, h1, h2, hz, q⟩ := h
  cases rx
  obtain ⟨t, rfl⟩ := ry
  obtain ⟨z, its, n, r, hl, e⟩ := I.lstM hH
  have hlen : its.toArray.size * k.toNat ≤ sizeLine := by rw [List.size_toArray, ← hl]; exact hz
  have hcap : ¬ its.toArray.size * k.toNat > (2 ^ 63 - 1) / 8 := by
    have : (sizeLine : Nat) ≤ (2 ^ 63 - 1) / 8 := by decide
    lia
  have hfit : ¬ (!Builtin.List.listFitsIndex k) = true := by
    rw [fitsIndex_both h1 h2]
    exact Bool.false_ne_true
  have hlong : ¬ Builtin.List.listTooLong (its.toArray.size * k.toNat) = true := by
    rw [notLongL hlen]
    exact Bool.false_ne_true
  have hnew : List.foldl (fun x1 x2 => x1 ++ x2) #[] (List.replicate (if its.toArray.isEmpty = true then 0 else k.toNat) its.toArray) = (List.replicate k.toNat its).flatten.toArray := by
    have f0 : ∀ m : Nat, List.foldl (fun x1 x2 => x1 ++ x2) #[] (List.replicate m its.toArray) = (List.replicate m its).flatten.toArray := fun m => by
      have := foldl_rep its m []
      rw [List.nil_append] at this
      exact this
    rw [f0]
    cases its with
    | nil => simp
    | cons a r' => rw [if_neg (by simp)]
  refine wpAny_binaryOp_repeat_ref (T := "list") (U := "int") (by decide) ⟨_, e, rfl⟩ (fun s' => typeIs_int s' k t) noFill_list_mul F.fills_int_mul F.slot_int_rmul repeat_list F.slot_int_index.lookup
    (call_meets F.slot_int_rmul (typeIs_int s k t) F.entry_int_rmul (F.args_int_rmul_2 _ _) (int___rmul___int_list k t l its.toArray n)
      ⟨e, rfl, ⟨_, e, rfl⟩, call_meets F.slot_list_mul ⟨_, e, rfl⟩ F.entry_list_mul (F.args_list_mul_2 _ _) (AutoListH.list___mul___list_int_3 l its.toArray n k t hfit hcap hlong) ⟨e, ?_⟩⟩)
  rw [hnew]
  exact ⟨.ref _, _, I.lnew (t' := s.toks) (r.rep k.toNat) (by rw [len_rep, Nat.mul_comm]; exact hz), rfl, q _ I.fresh⟩
end
section
variable {prog : Program} {w : World} {A : Around} {E : Value → Shared → Prop} {s : Shared}
end
section
variable {X : Cx}
end
end L2
namespace L2
open PySem PySem.Spec PyProof.Rows
section
variable {κ : Type} [DecidableEq κ]
noncomputable def valV (kvs : List (κ × V)) (k : κ) : Option V := (kvs.find? fun kv => decide (kv.1 = k)).map (·.2)
noncomputable def putK (kvs : List (κ × V)) (k : κ) (v : V) : List (κ × V) :=
  if (kvs.any fun kv => decide (kv.1 = k)) = true then kvs.map (fun kv => if kv.1 = k then (kv.1, v) else kv) else kvs ++ [(k, v)]
theorem valV_pos {p : κ × V} {r : List (κ × V)} {k : κ} (e : p.1 = k) : valV (p :: r) k = some p.2 := by simp [valV, List.find?_cons, e]
theorem valV_neg {p : κ × V} {r : List (κ × V)} {k : κ} (e : ¬ p.1 = k) : valV (p :: r) k = valV r k := by simp [valV, List.find?_cons, e]
theorem valV_any (k : κ) : ∀ kvs : List (κ × V), (kvs.any fun kv => decide (kv.1 = k)) = (valV kvs k).isSome
  | [] => rfl
  | p :: r => by
    rw [List.any_cons]
    by_cases e : p.1 = k
    · simp only [valV_pos e, decide_eq_true e, Bool.true_or, Option.isSome_some]
    · rw [valV_neg e, decide_eq_false e, Bool.false_or]; exact valV_any k r
theorem length_putK (kvs : List (κ × V)) (k : κ) (v : V) : (putK kvs k v).length ≤ kvs.length + 1 := by
  unfold putK
  split
  · rw [List.length_map]; lia
  · rw [List.length_append, List.length_cons, List.length_nil]; lia
theorem putK_new {kvs : List (κ × V)} {k : κ} (v : V) (h : valV kvs k = none) : putK kvs k v = kvs ++ [(k, v)] := by
  unfold putK
  rw [valV_any, h]
  exact if_neg (by decide)
theorem RelO.isSome_eq {o : Option V} {u : Option Value} (r : RelO o u) : o.isSome = u.isSome := by
  cases o with
  | none => cases u with
    | none => rfl
    | some _ => exact (show False from r).elim
  | some _ => cases u with
    | none => exact (show False from r).elim
    | some _ => rfl
theorem RelO.getD {o : Option V} {u : Option Value} {d : V} {d' : Value} (r : RelO o u) (rd : RelV d d') : RelV (o.getD d) (u.getD d') := by
  cases o with
  | none => cases u with
    | none => exact rd
    | some _ => exact (show False from r).elim
  | some _ => cases u with
    | none => exact (show False from r).elim
    | some _ => exact r
theorem KV.val {kvs : List (κ × V)} {vs : List (κ × Value)} (r : KV kvs vs) (k : κ) : RelO (valV kvs k) (valueAt vs k) := by
  unfold KV at r
  induction r with
  | nil => exact True.intro
  | @cons p q ps qs h t ih =>
    obtain ⟨h1, h2⟩ := h
    by_cases e : p.1 = k
    · have e' : q.1 = k := h1.symm.trans e
      have b : valueAt (q :: qs) k = some q.2 := by simp [valueAt, List.find?_cons, e']
      rw [valV_pos e, b]; exact h2
    · have e' : ¬ q.1 = k := fun z => e (h1.trans z)
      have b : valueAt (q :: qs) k = valueAt qs k := by simp [valueAt, List.find?_cons, e']
      rw [valV_neg e, b]; exact ih
theorem KV.any {kvs : List (κ × V)} {vs : List (κ × Value)} (r : KV kvs vs) (k : κ) : (kvs.any fun kv => decide (kv.1 = k)) = vs.any fun kv => decide (kv.1 = k) := by
  unfold KV at r
  induction r with
  | nil => rfl
  | cons h t ih => rw [List.any_cons, List.any_cons, ih, h.1]
theorem KV.repl {kvs : List (κ × V)} {vs : List (κ × Value)} (r : KV kvs vs) (k : κ) {y : V} {u : Value} (ry : RelV y u) :
    KV (kvs.map fun kv => if kv.1 = k then (kv.1, y) else kv) (vs.map fun kv => if kv.1 = k then (kv.1, u) else kv) := by
  unfold KV at r ⊢
  induction r with
  | nil => exact .nil
  | @cons p q ps qs h t ih =>
    rw [List.map_cons, List.map_cons]
    refine .cons ?_ ih
    obtain ⟨h1, h2⟩ := h
    by_cases e : p.1 = k
    · rw [if_pos e, if_pos (h1.symm.trans e)]; exact ⟨h1, ry⟩
    · rw [if_neg e, if_neg (fun z => e (h1.trans z))]; exact ⟨h1, h2⟩
theorem KV.put {kvs : List (κ × V)} {vs : List (κ × Value)} (r : KV kvs vs) (k : κ) {y : V} {u : Value} (ry : RelV y u) : KV (putK kvs k y) (stored vs k u) := by
  unfold putK stored
  rw [r.any k]
  by_cases e : (vs.any fun kv => decide (kv.1 = k)) = true
  · rw [if_pos e, if_pos e]; exact r.repl k ry
  · rw [if_neg e, if_neg e]; exact Paired.snoc r ⟨rfl, ry⟩
theorem KV.length {kvs : List (κ × V)} {vs : List (κ × Value)} (r : KV kvs vs) : kvs.length = vs.length := Paired.length r
end
theorem kV_is {P : Program} {w : World} {k : Key} {u : Value} (r : RelV (kV k) u) : (mixKind P w).is k u = true := by
  cases k with
  | inl i => obtain ⟨t, e⟩ := (show ∃ t, u = Value.int i t from r); subst e; exact mixKind_int P w i t
  | inr x => obtain ⟨t, e⟩ := (show ∃ t, u = Value.str x t from r); subst e; exact mixKind_str P w x t
theorem items_are {P : Program} {w : World} : ∀ {ks : List Key} {us : List Value}, Vals (ks.map kV) us → ItemsAre (mixKind P w) ks us
  | [], _, r => by rw [List.map_nil] at r; cases r; exact .nil
  | k :: ks, _, r => by
    rw [List.map_cons] at r
    cases r with
    | cons h t => exact .cons (kV_is h) (items_are t)
noncomputable abbrev KT (H : Hp) : List (List Key × V) → List (List Key × Addr × Value) → Prop := Paired fun p q => p.1 = q.1 ∧ H q.2.1 = some (.tup (p.1.map kV)) ∧ RelV p.2 q.2.2
theorem KT.val {H : Hp} {kvs : List (List Key × V)} {xs : List (List Key × Addr × Value)} (r : KT H kvs xs) (k : List Key) : RelO (valV kvs k) ((atKey xs k).map (·.2)) := by
  induction r with
  | nil => exact True.intro
  | @cons p q ps qs h t ih =>
    obtain ⟨h1, _, h2⟩ := h
    by_cases e : p.1 = k
    · have e' : q.1 = k := h1.symm.trans e
      have b : atKey (q :: qs) k = some q.2 := by simp [atKey, List.find?_cons, e']
      rw [valV_pos e, b]; exact h2
    · have e' : ¬ q.1 = k := fun z => e (h1.trans z)
      have b : atKey (q :: qs) k = atKey qs k := by simp [atKey, List.find?_cons, e']
      rw [valV_neg e, b]; exact ih
theorem KT.repl {H : Hp} {kvs : List (List Key × V)} {xs : List (List Key × Addr × Value)} (r : KT H kvs xs) (k : List Key) {y : V} {u : Value} (ry : RelV y u) :
    KT H (kvs.map fun kv => if kv.1 = k then (kv.1, y) else kv) (xs.map (putAt k u)) := by
  induction r with
  | nil => exact .nil
  | @cons p q ps qs h t ih =>
    rw [List.map_cons, List.map_cons]
    refine .cons ?_ ih
    obtain ⟨h1, h2, h3⟩ := h
    unfold putAt
    by_cases e : p.1 = k
    · rw [if_pos e, if_pos (h1.symm.trans e)]; exact ⟨h1, h2, ry⟩
    · rw [if_neg e, if_neg (fun z => e (h1.trans z))]; exact ⟨h1, h2, h3⟩
theorem KT.put {H : Hp} {kvs : List (List Key × V)} {xs : List (List Key × Addr × Value)} (r : KT H kvs xs) (k : List Key) {b : Addr} {y : V} {u : Value} (hb : H b = some (.tup (k.map kV))) (ry : RelV y u) :
    KT H (putK kvs k y) (storedH xs k b u) := by
  have e : (kvs.any fun kv => decide (kv.1 = k)) = (atKey xs k).isSome := by
    rw [valV_any, (r.val k).isSome_eq, Option.isSome_map]
  unfold putK storedH
  rw [e]
  by_cases q : (atKey xs k).isSome = true
  · rw [if_pos q, if_pos q]; exact r.repl k ry
  · rw [if_neg q, if_neg q]; exact Paired.snoc r ⟨rfl, hb, ry⟩
theorem KT.keeps {H H' : Hp} {kvs : List (List Key × V)} {xs : List (List Key × Addr × Value)} (r : KT H kvs xs) (ht : ∀ b ys, H b = some (.tup ys) → H' b = some (.tup ys)) : KT H' kvs xs :=
  Paired.mapP r fun _ _ z => ⟨z.1, ht _ _ z.2.1, z.2.2⟩
section
variable {P : Program} {w : World} {H : Hp} {h : Heap} {a : Addr}
theorem rd_of {u : HO} (ok : HOk P w H h) (e : Rd H a u) : ObjOk P w H h a u := e.ok ok
theorem dk_rd {kvs : List (Key × V)} (ok : HOk P w H h) (e : Rd H a (.dK kvs)) : kvs.length ≤ sizeLine ∧ (a == sysModules) = false ∧ ∃ vs, KV kvs vs ∧ h.DictOf (mixKind P w) a vs :=
  show ObjOk P w H h a (.dK kvs) from rd_of ok e
theorem dk_of {kvs : List (Key × V)} (ok : HOk P w H h) (e : H a = some (.dK kvs)) : kvs.length ≤ sizeLine ∧ (a == sysModules) = false ∧ ∃ vs, KV kvs vs ∧ h.DictOf (mixKind P w) a vs := dk_rd ok (.inl e)
theorem key_of {ks : List Key} (ok : HOk P w H h) (e : H a = some (.tup (ks.map kV))) : (tupleKind (mixKind P w)).is h ks a := by
  obtain ⟨_, its, n, r, h1⟩ := (show ObjOk P w H h a (.tup (ks.map kV)) from ok a _ e)
  exact ⟨_, its.toArray, n, h1, rfl, rfl, by simpa using items_are r⟩
theorem dt_rd {kvs : List (List Key × V)} (ok : HOk P w H h) (e : Rd H a (.dT kvs)) : kvs.length ≤ sizeLine ∧ (a == sysModules) = false ∧
    ∃ xs, KT H kvs xs ∧ h.DictOfH (tupleKind (mixKind P w)) a xs := by
  obtain ⟨z, y, xs, r, o, es, ep, h1, h2, h3, h4, h5⟩ := (show ObjOk P w H h a (.dT kvs) from rd_of ok e)
  refine ⟨z, y, xs, r, o, es, ep, h1, h2, h3, h4, fun x hx => ?_, h5⟩
  have all : ∀ {l : List (List Key × V)} {m : List (List Key × Addr × Value)}, KT H l m → ∀ x ∈ m, (tupleKind (mixKind P w)).is h x.1 x.2.1 := by
    intro l m q
    induction q with
    | nil => intro x hx; exact nomatch hx
    | @cons p q ps qs hq t ih =>
      intro x hx
      rcases List.mem_cons.mp hx with e | hx
      · subst e
        exact key_of ok (by rw [← hq.1]; exact hq.2.1)
      · exact ih x hx
  exact all r x hx
theorem dt_of {kvs : List (List Key × V)} (ok : HOk P w H h) (e : H a = some (.dT kvs)) : kvs.length ≤ sizeLine ∧ (a == sysModules) = false ∧
    ∃ xs, KT H kvs xs ∧ h.DictOfH (tupleKind (mixKind P w)) a xs := dt_rd ok (.inl e)
end
noncomputable def DGet (H : Hp) (a : Addr) (y : V) (r : Option V) : Prop :=
  (∃ kvs k, Rd H a (.dK kvs) ∧ y = kV k ∧ r = valV kvs k) ∨ ∃ kvs k b, Rd H a (.dT kvs) ∧ y = .ref b ∧ H b = some (.tup (k.map kV)) ∧ r = valV kvs k
noncomputable def DPut (H : Hp) (a : Addr) (y v : V) (H' : Hp) : Prop :=
  (∃ kvs k, H a = some (.dK kvs) ∧ y = kV k ∧ kvs.length < sizeLine ∧ H' = upd H a (.dK (putK kvs k v))) ∨
  ∃ kvs k b, H a = some (.dT kvs) ∧ y = .ref b ∧ H b = some (.tup (k.map kV)) ∧ kvs.length < sizeLine ∧ H' = upd H a (.dT (putK kvs k v))
theorem DGet.k {H : Hp} {a : Addr} {kvs : List (Key × V)} {k : Key} (e : H a = some (.dK kvs)) : DGet H a (kV k) (valV kvs k) := .inl ⟨kvs, k, .inl e, rfl, rfl⟩
theorem DPut.k {H : Hp} {a : Addr} {kvs : List (Key × V)} {k : Key} {v : V} (e : H a = some (.dK kvs)) (hl : kvs.length < sizeLine) : DPut H a (kV k) v (upd H a (.dK (putK kvs k v))) := .inl ⟨kvs, k, e, rfl, hl, rfl⟩
section
variable {X : Cx} {pins : List (Addr × Obj)} {σ : St} {H : Hp} {s : Shared} {a : Addr} {y v : V} {u r : Value} {o : Option V} {A : Around} {E : Value → Shared → Prop}
theorem Inv.big (I : Inv X pins σ H s) : sysModules < s.heap.objs.size := by
  have h : mainGlobals < s.heap.objs.size := (I.mod.glob.keeps I.bk).lt
  exact Nat.lt_trans (by decide) h
theorem d_getItem {Q : Value → Shared → Prop} (hu : A.units + 1 < cLine) (I : Inv X pins σ H s) (g : DGet H a y (some v)) (ry : RelV y u) (h : ∀ w' s', Inv X pins σ H s' → RelV v w' → Q w' s') :
    wpAny (model X.prog X.w) A (getItem (.ref a) u) Q E s := by
  rcases g with ⟨kvs, k, e, ey, l⟩ | ⟨kvs, k, b, e, ey, eb, l⟩
  · subst ey
    obtain ⟨z, hd, vs, rel, dd⟩ := dk_rd I.hok e
    obtain ⟨w', hw, rw'⟩ := RelO.some_of (v := v) (o := valueAt vs k) (by rw [l]; exact rel.val k)
    exact wpAny_getItem_of (kV_is ry) dd.mapOf hw (h w' _ (I.tok _) rw')
  · subst ey
    cases (show u = Value.ref b from ry)
    obtain ⟨z, hd, xs, rel, dd⟩ := dt_rd I.hok e
    obtain ⟨w', hw, rw'⟩ := RelO.some_of (v := v) (o := (atKey xs k).map (·.2)) (by rw [l]; exact rel.val k)
    obtain ⟨p, hp, hp2⟩ := Option.map_eq_some_iff.mp hw
    refine wpAny_getItem_heap (tupleKind_room_in1 hu) (key_of I.hok eb) dd hp ?_
    rw [hp2]
    exact h w' _ (I.tok _) rw'
theorem d_notIn {Q : Value → Shared → Prop} (hu : A.units + 1 < cLine) (I : Inv X pins σ H s) (g : DGet H a y o) (ry : RelV y u) (h : ∀ s', Inv X pins σ H s' → Q (.bool (!o.isSome)) s') :
    wpAny (model X.prog X.w) A (compareOp .NotIn u (.ref a)) Q E s := by
  rcases g with ⟨kvs, k, e, ey, l⟩ | ⟨kvs, k, b, e, ey, eb, l⟩
  · subst ey
    obtain ⟨z, hd, vs, rel, dd⟩ := dk_rd I.hok e
    refine wpAny_notIn_of (kV_is ry) hd dd.mapOf ?_
    rw [← (rel.val k).isSome_eq, ← l]
    exact h _ (I.tok _)
  · subst ey
    cases (show u = Value.ref b from ry)
    obtain ⟨z, hd, xs, rel, dd⟩ := dt_rd I.hok e
    refine wpAny_notIn_heap (tupleKind_room_in1 hu) (key_of I.hok eb) hd dd ?_
    have q := (rel.val k).isSome_eq
    rw [Option.isSome_map] at q
    rw [← q, ← l]
    exact h _ (I.tok _)
theorem d_write {h' : Heap} {t' : Nat} {ob : HO} (I : Inv X pins σ H s) (mu : Mut (H a)) (hs : Heap.SameBut a s.heap h') (he : ∃ q, h'.get? a = some q) (new : ObjOk X.prog X.w (upd H a ob) h' a ob) :
    Inv X pins σ (upd H a ob) { s with heap := h', toks := t' } :=
  I.write (x := a) (e := a) mu (.inl rfl) (fun b q hb z => (hs.2 b hb).trans z) he new
theorem dk_new {P : Program} {w : World} {H' : Hp} {h' : Heap} {kvs : List (Key × V)} {vs : List (Key × Value)} (z : kvs.length ≤ sizeLine) (hd : (a == sysModules) = false) (rel : KV kvs vs) (dd : h'.DictOf (mixKind P w) a vs) :
    ObjOk P w H' h' a (.dK kvs) := ⟨z, hd, vs, rel, dd⟩
theorem d_setItem {H' : Hp} {Q : Unit → Shared → Prop} (hu : A.units + 1 < cLine) (I : Inv X pins σ H s) (g : DPut H a y v H') (ry : RelV y u) (rv : RelV v r) (h : ∀ s', Inv X pins σ H' s' → Q () s') :
    wpAny (model X.prog X.w) A (setItem (.ref a) u r) Q E s := by
  rcases g with ⟨kvs, k, e, ey, l, eH⟩ | ⟨kvs, k, b, e, ey, eb, l, eH⟩
  · subst ey eH
    obtain ⟨z, hd, vs, rel, dd⟩ := dk_of I.hok e
    have hz : vs.length ≤ sizeLine := by rw [← rel.length]; exact z
    have hl : (putK kvs k v).length ≤ sizeLine := by have := length_putK kvs k v; lia
    refine wpAny_setItem_pairs (hsz := hz) (kV_is ry) dd fun h' dd' hs => h _ ?_
    have he : ∃ q, h'.get? a = some q := let ⟨q, _, _, hq, _⟩ := dd'; ⟨q, hq⟩
    exact d_write I (by rw [e]; exact True.intro) hs he (dk_new hl hd (rel.put k rv) dd')
  · subst ey eH
    cases (show u = Value.ref b from ry)
    obtain ⟨z, hd, xs, rel, dd⟩ := dt_of I.hok e
    have hz : xs.length ≤ sizeLine := by rw [← Paired.length rel]; exact z
    have hl : (putK kvs k v).length ≤ sizeLine := by have := length_putK kvs k v; lia
    refine wpAny_setItem_heap (hsz := hz) (tupleKind_room_in1 hu) (key_of I.hok eb) dd fun h' dd' hs => h _ ?_
    obtain ⟨q, es, ep, hq, h2, h3, h4, _, h5⟩ := dd'
    refine d_write I (by rw [e]; exact True.intro) hs ⟨q, hq⟩ ⟨hl, hd, _, (rel.put k eb rv).keeps fun c ys ec => ?_, q, es, ep, hq, h2, h3, h4, h5⟩
    rw [upd_ne (ne_of ec e (fun z => nomatch z))]
    exact ec
end
section
variable {X : Cx} {pins : List (Addr × Obj)} {σ : St} {H : Hp} {s : Shared} {a : Addr} {kvs : List (Key × V)} {k : Key} {u : Value} {A : Around} {E : Value → Shared → Prop}
end
noncomputable def NoSl (i : Expr) : Prop := ∀ ov iv, subscripted i false ov iv = operate [ov, iv] (getItem ov iv)
theorem subD_of {prog : Program} {w : World} {A : Around} {E : Value → Shared → Prop} {s : Shared} {env : Env} {value slice : Expr} {pos : Pos} {T id : String} {Q : Value → Shared → Prop}
    (hl : typeLookup (.type T) "__getitem__" = pure (some (.builtin id))) (hs : NoSl slice)
    (h : wpAny (model prog w) A (eval value env) (fun o s₁ => wpAny (model prog w) A (eval slice env) (fun i s₂ => s₂.TypeIs o T ∧ wpAny (model prog w) A (getItem o i) Q E s₂) E s₁) E s) :
    wpAny (model prog w) A (eval (.Subscript value slice pos) env) Q E s := by
  refine Subscript_ (wpAny_mono h (fun o s₁ h₁ => wpAny_mono h₁ (fun i s₂ h₂ => ?_) fun _ _ x => x) fun _ _ x => x)
  obtain ⟨hT, h₂⟩ := h₂
  unfold subscriptTail
  refine wpAny_bind ?_
  rw [getitemInPython_of_ne hT.not_modules]
  refine wpAny_bind (wpAny_specialOf hT hl ?_)
  have fin : wpAny (model prog w) A (subscripted slice false o i) (fun r s₃ => wpAny (model prog w) A (letTemporaryGo value o r >>= fun _ => pure r) Q E s₃) E s₂ := by
    rw [hs o i]
    exact wpAny_operating (wpAny_mono h₂ (fun r s₃ h₃ => wpAny_bind (wpAny_letTemporaryGo (wpAny_pure h₃))) fun _ _ x => x)
  first
    | exact wpAny_pure (wpAny_bind fin)
    | exact wpAny_bind (wpAny_pure (wpAny_bind fin))
    | exact wpAny_bind fin
theorem dict_typeIs {X : Cx} {pins : List (Addr × Obj)} {σ : St} {H : Hp} {s : Shared} {a : Addr} {y : V} {o : Option V} (I : Inv X pins σ H s) (g : DGet H a y o) : s.TypeIs (.ref a) "dict" := by
  rcases g with ⟨kvs, k, e, _, _⟩ | ⟨kvs, k, b, e, _, _, _⟩
  · obtain ⟨_, _, vs, _, dd⟩ := dk_rd I.hok e
    exact dd.typeIs
  · obtain ⟨_, _, xs, _, dd⟩ := dt_rd I.hok e
    exact dd.typeIs
noncomputable def tDGet (td ty : TE) : TE := fun σ H Q => td σ H fun x H1 => ty σ H1 fun y H2 => ∃ a v, x = .ref a ∧ DGet H2 a y (some v) ∧ Q v H2
noncomputable def tDNotIn (ty td : TE) : TE := fun σ H Q => ty σ H fun y H1 => td σ H1 fun x H2 => ∃ a o, x = .ref a ∧ DGet H2 a y o ∧ Q (.bl (!o.isSome)) H2
noncomputable def sDPut (td ty tv : TE) : TS := fun D σ H => tv σ H fun v H1 => td σ H1 fun x H2 => ty σ H2 fun y H3 => ∃ a H4, x = .ref a ∧ DPut H3 a y v H4 ∧ D.nx σ H4
section
variable {X : Cx} {o i e value : Expr} {pos pos' tpos : Pos} {td ty tv : TE}
theorem pe_dget (hu : X.A.units + 1 < cLine) (ho : PE X o td) (hi : PE X i ty) (hs : NoSl i) : PE X (.Subscript o i pos) (tDGet td ty) := by
  intro pins s σ H Q I h
  refine subD_of PySem.F.slot_dict_getitem.lookup hs (thnE (ho pins s σ H _ I h) fun u s1 x H1 I1 rx q1 => thnE (hi pins s1 σ H1 _ I1 q1) fun iv s2 y H2 I2 ry hz9 => ?_)
  obtain ⟨a, v, ex, g, q2⟩ := hz9
  subst ex
  obtain rfl : u = Value.ref a := rx
  exact ⟨dict_typeIs I2 g, d_getItem hu I2 g ry fun w' s3 I3 rw' => ⟨v, H2, I3, rw', q2⟩⟩
theorem pc_dnotin (hu : X.A.units + 1 < cLine) (hi : PE X i ty) (ho : PE X o td) : PC X .NotIn i o (tDNotIn ty td) := by
  intro pins s σ H Q I h
  refine thnE (hi pins s σ H _ I h) fun iv s1 y H1 I1 ry q1 => thnE (ho pins s1 σ H1 _ I1 q1) fun u s2 x H2 I2 rx hz9 => ?_
  obtain ⟨a, ov, ex, g, q2⟩ := hz9
  subst ex
  obtain rfl : u = Value.ref a := rx
  exact d_notIn hu I2 g ry fun s3 I3 => ⟨.bl (!ov.isSome), H2, I3, rfl, q2⟩
theorem ps_dput (hu : X.A.units + 1 < cLine) (ho : PE X o td) (hi : PE X i ty) (hv : PE X value tv) (hs : swapsWith value (some (.Subscript o i pos')) pos.line X.env = pure false) :
    PS X (.Assign [.Subscript o i pos'] value pos) (sDPut td ty tv) := by
  intro pins s σ H D I h
  refine wpAny_Assign_Subscript (thnE (hv pins s σ H _ I h) fun r s1 v H1 I1 rv q1 => thnE (ho pins s1 σ H1 _ I1 q1) fun u s2 x H2 I2 rx q2 => thnE (hi pins s2 σ H2 _ I2 q2) fun iv s3 y H3 I3 ry hz9 => ?_) hs
  obtain ⟨a, H4, ex, g, q3⟩ := hz9
  subst ex
  obtain rfl : u = Value.ref a := rx
  exact d_setItem hu I3 g ry rv fun s4 I4 => ⟨σ, H4, I4, q3⟩
end
theorem dk_empty {P : Program} {w : World} {H : Hp} (h : Heap) (hb : sysModules < h.objs.size) : ObjOk P w H (h.push { cls := .type "dict", data := .dict #[] }) h.objs.size (.dK []) :=
  ⟨Nat.zero_le _, beq_eq_false_iff_ne.mpr (Ne.symm (Nat.ne_of_lt hb)), [], .nil, Heap.DictOf.new h⟩
noncomputable def tDNewK : TE := fun _ H Q => ∀ p, H p = none → Q (.ref p) (upd H p (.dK []))
section
variable {X : Cx} {pos : Pos}
theorem pe_dnewK : PE X (.Dict [] [] pos) tDNewK := fun pins s σ H Q I h =>
  wpAny_Dict_empty ⟨.ref s.heap.objs.size, _, I.laid (a := s.heap.objs.size) (o := .dK []) (t' := s.toks) (fun _ _ q => Heap.get?_push_of_some _ q) (Nat.le_refl _) (dk_empty s.heap I.big), rfl, h _ (I.hok.fresh (Nat.le_refl _))⟩
end
noncomputable def tPairs : List (TE × TE) → St → Hp → (List (V × V) → Hp → Prop) → Prop
  | [], _, H, Q => Q [] H
  | (tk, tv) :: r, σ, H, Q => tk σ H fun x H1 => tv σ H1 fun y H2 => tPairs r σ H2 fun ps H3 => Q ((x, y) :: ps) H3
noncomputable abbrev VV : List (V × V) → List (Value × Value) → Prop := Paired fun p q => RelV p.1 q.1 ∧ RelV p.2 q.2
noncomputable def PPs (X : Cx) (pos : Pos) (keys : List (Option Expr)) (values : List Expr) (trs : List (TE × TE)) : Prop :=
  ∀ (pins : List (Addr × Obj)) (s : Shared) (σ : St) (H : Hp) (Q : List (V × V) → Hp → Prop), Inv X pins σ H s → tPairs trs σ H Q →
    wpAny (model X.prog X.w) X.A (evalPairs (pairTrees keys values X.env pos)) (fun vs s' => ∃ ps H', Inv X pins σ H' s' ∧ VV ps vs ∧ Q ps H') X.xe s
theorem pps_nil {X : Cx} {pos : Pos} : PPs X pos [] [] [] := fun pins s σ H Q I h => pairTrees_nil_walk ⟨[], H, I, .nil, h⟩
theorem pps_cons {X : Cx} {pos : Pos} {k v : Expr} {ks : List (Option Expr)} {vs : List Expr} {tk tv : TE} {trs : List (TE × TE)} (hk : PE X k tk) (hv : PE X v tv) (hr : PPs X pos ks vs trs) :
    PPs X pos (some k :: ks) (v :: vs) ((tk, tv) :: trs) := fun pins s σ H Q I h =>
  pairTrees_cons_walk (thn (hk pins s σ H _ I h) fun u s1 ⟨x, H1, I1, rx, q1⟩ => thn (hv pins s1 σ H1 _ I1 q1) fun w2 s2 ⟨y, H2, I2, ry, q2⟩ =>
    thn (hr pins s2 σ H2 _ I2 q2) fun ws s3 ⟨ps, H3, I3, rel, q3⟩ => ⟨(x, y) :: ps, H3, I3, .cons ⟨rx, ry⟩ rel, q3⟩)
noncomputable def mergeK (kvs more : List (Key × V)) : List (Key × V) := more.foldl (fun acc kv => putK acc kv.1 kv.2) kvs
theorem KV.merge : ∀ {more : List (Key × V)} {rs : List (Key × Value)} {kvs : List (Key × V)} {vs : List (Key × Value)}, KV more rs → KV kvs vs → KV (mergeK kvs more) (merged vs rs) := by
  intro more rs kvs vs r
  unfold KV at r
  induction r generalizing kvs vs with
  | nil => intro q; exact q
  | @cons p q ps qs h t ih =>
    intro r0
    have e : KV (putK kvs p.1 p.2) (stored vs q.1 q.2) := by
      have := r0.put p.1 h.2
      rw [← h.1]; exact this
    exact ih e
theorem length_mergeK : ∀ (more kvs : List (Key × V)), (mergeK kvs more).length ≤ kvs.length + more.length
  | [], kvs => by show kvs.length ≤ kvs.length + 0; lia
  | p :: r, kvs => by
    have h1 := length_mergeK r (putK kvs p.1 p.2)
    have h2 := length_putK kvs p.1 p.2
    show (mergeK (putK kvs p.1 p.2) r).length ≤ _
    rw [List.length_cons]; lia
theorem carries_of {P : Program} {w : World} : ∀ {kvs : List (Key × V)} {ws : List (Value × Value)}, VV (kvs.map fun kv => (kV kv.1, kv.2)) ws → ∃ rs, Carries (mixKind P w) ws rs ∧ KV kvs rs
  | [], _, r => by rw [List.map_nil] at r; cases r; exact ⟨[], True.intro, .nil⟩
  | p :: kvs, _, r => by
    rw [List.map_cons] at r
    cases r with
    | @cons a b as bs h t =>
      obtain ⟨rs, c, q⟩ := carries_of (P := P) (w := w) t
      obtain ⟨b1, b2⟩ := b
      exact ⟨(p.1, b2) :: rs, ⟨kV_is h.1, rfl, c⟩, .cons ⟨rfl, h.2⟩ q⟩
noncomputable def tDisp (trs : List (TE × TE)) : TE := fun σ H Q => ∀ p, H p = none → tPairs trs σ (upd H p (.dK [])) fun ps H2 => H2 p = some (.dK []) ∧ ∃ kvs : List (Key × V), ps = kvs.map (fun kv => (kV kv.1, kv.2)) ∧ kvs.length ≤ 15 ∧ Q (.ref p) (upd H2 p (.dK (mergeK [] kvs)))
theorem pe_disp {X : Cx} {pos : Pos} {keys : List (Option Expr)} {values : List Expr} {trs : List (TE × TE)} (h : PPs X pos keys values trs) (hall : keys.all (·.isSome) = true) (hl : keys.length = values.length) (h0 : keys ≠ [])
    (h15 : keys.length ≤ 15) : PE X (.Dict keys values pos) (tDisp trs) := by
  intro pins s σ H Q I q
  have hn := I.hok.fresh (Nat.le_refl s.heap.objs.size)
  have I1 := I.laid (a := s.heap.objs.size) (o := .dK []) (h' := s.heap.push { cls := .type "dict", data := .dict #[] }) (t' := s.toks) (fun _ _ q => Heap.get?_push_of_some _ q) (Nat.le_refl _) (dk_empty s.heap I.big)
  refine wpAny_Dict_walk (knd := mixKind X.prog X.w) hall hl h0 h15 (thn (h pins _ σ _ _ I1 (q _ hn)) fun ws s2 hz8 => ?_)
  obtain ⟨ps, H2, I2, rel, e, kvs, ep, lk, q2⟩ := hz8
  subst ep
  obtain ⟨rs, c, rk⟩ := carries_of (P := X.prog) (w := X.w) rel
  obtain ⟨z, hd, vs0, r0, dd⟩ := dk_of I2.hok e
  cases r0
  refine ⟨rs, c, dd, fun h' dd' hs => ⟨.ref s.heap.objs.size, _, ?_, rfl, q2⟩⟩
  have hz : (mergeK [] kvs).length ≤ sizeLine := by
    have h1 := length_mergeK kvs []
    rw [List.length_nil] at h1
    rw [sizeLine_eq]; lia
  have he : ∃ q, h'.get? s.heap.objs.size = some q := let ⟨q, _, _, hq, _⟩ := dd'; ⟨q, hq⟩
  exact d_write I2 (by rw [e]; exact True.intro) hs he (dk_new hz hd (rk.merge .nil) dd')
structure M2 (X : Cx) (o : Expr) (m : Str) (apos : Pos) (e f : Expr) (cpos : Pos) : Prop where
  base : attributeBase o m X.env (eval o X.env) = eval o X.env
  few : ((backTo cpos (starEach [e, f] X.env)).all (fun x => !x.1) && (backToKw cpos (keywordEach [] X.env)).all (fun x => x.1.isSome)
    && decide (([e, f] : List Expr).length + ([] : List Keyword).length + (if ([] : List Keyword).isEmpty then 0 else 1) < 30)) = true
  line : (apos.endLine == cpos.line) = true
  trees : backTo cpos (starEach [e, f] X.env) = [(false, eval e X.env), (false, eval f X.env)]
section
variable {X : Cx} {pins : List (Addr × Obj)} {σ : St} {H : Hp} {s : Shared} {a : Addr} {y d : V} {u r : Value} {o : Option V} {A : Around} {E : Value → Shared → Prop}
end
section
variable {X : Cx} {o e f : Expr} {apos cpos : Pos} {td ty tx : TE}
end
section
variable {X : Cx} {pins : List (Addr × Obj)} {σ : St} {H : Hp} {s : Shared} {a : Addr} {kvs : List (Key × V)} {A : Around} {E : Value → Shared → Prop}
end
section
variable {X : Cx} {pins : List (Addr × Obj)} {σ : St} {H : Hp} {s : Shared} {a : Addr} {y : V} {u : Value} {A : Around} {E : Value → Shared → Prop}
end
end L2
namespace Att
open PySem PySem.W PySem.Calls PyProof.Rows
theorem ints_of_wellAll {P : Params} {h : Heap} : ∀ (ns : List Int) (vs : List Value), WellAll P h vs (ns.map WData.int) → IntsAre vs ns := by
  intro ns
  induction ns with
  | nil =>
    intro vs w
    rw [List.map_nil] at w
    cases w
    exact .nil
  | cons n ns ih =>
    intro vs w
    rw [List.map_cons] at w
    cases w with
    | cons a b =>
      cases a
      exact .cons _ _ (ih _ b)
theorem script_of {l : OpenLaw} {n : Nat} (hn : l.most = some n) {P : Params} {h : Heap} {args : List WData} {vals : List Value}
    (hpre : l.row.toRowW.claim.pre args = true) (hwl : WellAll P h vals args) :
    ∃ a vs ns, vals = [Value.ref a] ∧ args = [WData.list (ns.map WData.int)] ∧ h.get? a = some { cls := .type "list", data := .seq vs.toArray } ∧ IntsAre vs ns ∧ ns.length ≤ n := by
  have hsh : WShape.hasAll [] args [.list .int] = true := (pre_splitW hpre).1
  have hc : l.pre.holds [] { args := args } = true := (pre_splitW hpre).2
  obtain ⟨d, r, rfl, h1, h2⟩ := hasAllW_cons hsh
  obtain rfl := hasAllW_nil h2
  obtain ⟨xs, rfl, h3⟩ := hasW_list h1
  obtain ⟨ns, rfl⟩ := items_int h3
  have hlen : ns.length ≤ n := by
    unfold OpenLaw.pre at hc
    have h4 : (WTm.not (.lt (.lit (.int (n : Int))) (.len (.arg 0)))).holds [] { args := [.list (ns.map .int)] } = true := by
      have h4 := (holds_andW hc).1
      rw [hn] at h4
      exact h4
    have h5 := condW_of h4 (w_not (w_lt w_lit (w_len_list (w_arg rfl))))
    rw [List.length_map] at h5
    refine Nat.le_of_not_lt fun q => ?_
    have q' : (n : Int) < ((ns.length : Nat) : Int) := by lia
    first
      | (rw [decide_eq_true q'] at h5; exact absurd h5 (by decide))
      | (simp at h5; lia)
  cases hwl with
  | cons w1 w2 =>
    cases w2
    cases w1 with
    | list ho hall => exact ⟨_, _, ns, rfl, rfl, ho, ints_of_wellAll ns _ hall, hlen⟩
theorem post_true (l : OpenLaw) (args : List WData) : l.row.toRowW.claim.post args (.bool true) args = true :=
  postW_of (r := l.row.toRowW) (X := (true == true))
    (show WShape.has [] (.bool true) .bool = true by first | rfl | decide | simp [WShape.has, WShape.arms, WShape.armsAll])
    (show (WTm.eq .res (.lit (.bool true))).value [] { args := args, res := some (.bool true), after := args } = some (.bool (true == true)) from w_eq_bool (w_res rfl) w_lit) rfl
theorem attach_call {l : OpenLaw} {n : Nat} {q : Program} {loose : List Str} {XP : (Str → Option Value) → Heap → Prop} {YP : World → Heap → Prop} {d : DefRec}
    (hn : l.most = some n) (hdf : d.params.defaults = [])
    (call : ∀ (w : World) (s₀ s₁ : Shared) (mg mb : Str → Option Value) (fa : Addr) (o : Obj) (pm cd doc : Value) (a : Addr) (vs : List Value) (ns : List Int),
      Ground q loose [] XP w s₀ mg mb s₁.heap → YP w s₁.heap →
      s₁.heap.get? fa = some o → o.data = .func (docDef d.name d.params d.body d.scope pm cd doc) → s₁.heap.CodeRec cd d.name → mg d.name = some (.ref fa) →
      s₁.heap.get? a = some { cls := .type "list", data := .seq vs.toArray } → IntsAre vs ns → ns.length ≤ n → s₁.gens = #[] →
      codeAny (model l.prog w) callerA (.call (.ref fa) ⟨[.ref a], []⟩) (fun r s' => r = .ok (.ret (.bool true)) ∧ OldK s₁.heap s'.heap ∧ s'.os = s₁.os ∧ AllBare s'.gens) s₁) :
    WalkO q loose XP YP l.row.toRowW d [] (fun f vs => PySem.call f vs) := by
  intro w s₀ s₁ mg mb G Y fa o pm cd doc dV kV ho hd hcd hD hmg hg args vals as hpre hlay hrd hwl hlo
  obtain rfl : dV = .none := Dflts.none hD hdf
  obtain rfl : kV = .none := Dflts.noKw hD
  obtain ⟨a, vs, ns, rfl, rfl, hobj, hints, hlen⟩ := script_of hn hpre hwl
  refine enter_call (codeAny_mono (call w s₀ s₁ mg mb fa o pm cd doc a vs ns G Y ho (fd_plain hd) hcd hmg hobj hints hlen hg) fun r s' hq => ?_)
  obtain ⟨rfl, h2, h3, h4⟩ := hq
  exact ⟨.inl ⟨.bool true, .bool true, [], rfl, fun _ => rfl, .bool true, post_true l _, fun _ => ⟨List.Pairwise.nil, fun _ hm => (nomatch hm)⟩⟩, h2, h3, h4⟩
section
variable {prog : Program} {w : World} {A : Around} {E : Value → Shared → Prop} {s : Shared} {K : Frag}
noncomputable def ledger (h : Heap) (L d : Addr) : List (Addr × Obj) := (List.range h.objs.size).filterMap fun a => if a = L ∨ a = d then none else (h.get? a).map fun o => (a, o)
end
end Att
namespace L2
open PySem PySem.Spec PyProof.Rows
theorem vals_ints : ∀ {vs : List Value} {ns : List Int}, IntsAre vs ns → Vals (ns.map V.int) vs
  | _, _, .nil => .nil
  | _, _, .cons n t h => .cons ⟨t, rfl⟩ (vals_ints h)
end L2
namespace L2
open PySem PySem.Spec PyProof.Rows
end L2
namespace L2
open PySem PySem.Spec PyProof.Rows
noncomputable def defArgs (s : Stmt) : Arguments := match s with
  | .FunctionDef _ a _ _ _ _ _ _ _ _ => a
  | _ => { posonlyargs := [], args := [], vararg := none, kwonlyargs := [], kw_defaults := [], kwarg := none, defaults := [] }
noncomputable def defBody (s : Stmt) : List Stmt := match s with
  | .FunctionDef _ _ b _ _ _ _ _ _ _ => b
  | _ => []
noncomputable def defScope (s : Stmt) : Scope := match s with
  | .FunctionDef _ _ _ _ _ _ sc _ _ _ => sc
  | _ => { kind := .function, names := [], isGenerator := false, isCoroutine := false }
noncomputable abbrev E0 : XK := fun _ _ _ => False
structure Fun (K : PySem.W.Frag) (x qual : Str) (st : Stmt) (f : Addr) (fd : FuncData) : Prop where
  ex : ∃ (oc : Value) (od : Option Addr) (kV doc pm : Value) (an : Option Addr) (cdv ct : Value) (osl : Array (Option Value)),
    fd = PySem.W.fnOf x qual (defArgs st) (defBody st) (defScope st) .none kV doc pm an cdv ct ∧ K.lookup f = some ⟨oc, od, .func fd, osl⟩ ∧ PySem.W.codeIn K cdv qual = true
  kp : PySem.W.keepIn K (.ref f) = true
section
variable {P : Program} {w : World} {K : PySem.W.Frag} {mg : Str → Option Value} {base : Heap}
theorem Fun.binds {x qual : Str} {st : Stmt} {f : Addr} {fd : FuncData} {ps : List Str} (F : Fun K x qual st f fd)
    (h : ∀ (kV doc pm : Value) (an : Option Addr) (cdv ct : Value) (us : List Value), us.length = ps.length → bindArgs (PySem.W.fnOf x qual (defArgs st) (defBody st) (defScope st) .none kV doc pm an cdv ct) ⟨us, []⟩ = pure (ps.zip us)) : Binds K fd ps [] := by
  obtain ⟨oc, od, kV, doc, pm, an, cdv, ct, osl, rfl, lk, hcd⟩ := F.ex
  exact .all (h kV doc pm an cdv ct)
theorem fun_mk {x qual : Str} {st : Stmt} {f : Addr} {oc : Value} {od an : Option Addr} {osl : Array (Option Value)} {kV doc pm cdv ct : Value} (l : K.lookup f = some ⟨oc, od, .func (PySem.W.fnOf x qual (defArgs st) (defBody st) (defScope st) .none kV doc pm an cdv ct), osl⟩)
    (c : PySem.W.codeIn K cdv qual = true) (k : PySem.W.keepIn K (.ref f) = true) : Fun K x qual st f (PySem.W.fnOf x qual (defArgs st) (defBody st) (defScope st) .none kV doc pm an cdv ct) := ⟨⟨oc, od, kV, doc, pm, an, cdv, ct, osl, rfl, l, c⟩, k⟩
end
theorem hu_of {A : Around} {k : Nat} (hr : Room k A) : A.units + 1 < cLine := Nat.lt_of_le_of_lt (Nat.add_le_add_left (by decide : 1 ≤ 64) _) hr.units
theorem small1000 {n : Nat} (h : n ≤ 1000) : n < sizeLine := Nat.lt_of_le_of_lt h (by decide)
section
variable {X : Cx}
theorem pv (i : Nat) {x : Str} {pos : Pos} (hN : X.N[i]? = some x := by rfl) (hv : Vis X.env.scope x := by first | exact Or.inl rfl | exact Or.inr (Or.inl rfl) | exact Or.inr (Or.inr rfl)) (hd : (x == ("__debug__" : Str)) = false := by decide)
    (hcd : (x == ("__classdict__" : Str)) = false := by decide) : PE X (.Name x pos) (tVar i) := pe_var hN hv hd hcd
end
theorem iteF {A B : Prop} (h : B) : if false = true then A else B := by
  rw [if_neg Bool.false_ne_true]
  exact h
theorem iteT {A B : Prop} (h : A) : if true = true then A else B := by
  rw [if_pos rfl]
  exact h
theorem ite2 {c A B : Prop} [Decidable c] (h1 : c → A) (h2 : ¬ c → B) : if c then A else B := by
  by_cases h : c
  · rw [if_pos h]
    exact h1 h
  · rw [if_neg h]
    exact h2 h
noncomputable def Same (H H' : Hp) : Prop := ∀ b o, H b = some o → H' b = some o
theorem Same.refl (H : Hp) : Same H H := fun _ _ h => h
theorem Same.trans {H H1 H2 : Hp} (a : Same H H1) (b : Same H1 H2) : Same H H2 := fun c o h => b c o (a c o h)
theorem Same.free {H H' : Hp} (e : Same H H') {l : Addr} (h : H' l = Option.none) : H l = Option.none := by
  cases q : H l with
  | none => rfl
  | some o =>
    rw [e l o q] at h
    cases h
theorem Same.seq {K : PySem.W.Frag} {H H' : Hp} {a : Addr} {xs : List V} (e : Same H H') (h : SqL K H a xs) : SqL K H' a xs := by
  rcases h with (h | ⟨o, h⟩) | h
  · exact .inl (.inl (e _ _ h))
  · exact .inl (.inr ⟨o, e _ _ h⟩)
  · exact .inr h
section
variable {κ : Type} [DecidableEq κ]
theorem nd_snoc : ∀ {l : List κ} {k : κ}, l.Nodup → ¬ k ∈ l → (l ++ [k]).Nodup
  | [], k, _, _ => by simp
  | a :: r, k, h, hk => by
    obtain ⟨h1, h2⟩ := List.nodup_cons.mp h
    show (a :: (r ++ [k])).Nodup
    refine List.nodup_cons.mpr ⟨fun m => ?_, nd_snoc h2 fun m => hk (List.mem_cons.mpr (Or.inr m))⟩
    rcases List.mem_append.mp m with q | q
    · exact h1 q
    · exact hk (List.mem_cons.mpr (Or.inl (List.mem_singleton.mp q).symm))
end
end L2
namespace L2
open PySem PySem.Spec PyProof.Rows
noncomputable def closeL (cells : List (Str × Addr)) : List (Str × NameKind) → List (Str × Addr) → List (Str × Addr)
  | [], cs => cs
  | (n, k) :: r, cs => closeL cells r (if k = .free then (n, (cells.lookup n).getD 0) :: cs else cs)
theorem closeL_in {cells : List (Str × Addr)} : ∀ (l : List (Str × NameKind)) (cs : List (Str × Addr)) (x : Str), (∀ y, (y, NameKind.free) ∈ l → ∃ c, cells.lookup y = some c) → ((x, NameKind.free) ∈ l ∨ cs.lookup x = cells.lookup x) → (closeL cells l cs).lookup x = cells.lookup x
  | [], cs, x, _, h => by
    rcases h with h | h
    · cases h
    · exact h
  | (n, k) :: r, cs, x, hc, h => by
    refine closeL_in r _ x (fun y hy => hc y (List.mem_cons_of_mem _ hy)) ?_
    by_cases hk : k = .free
    · subst hk
      rw [if_pos rfl]
      by_cases e : x = n
      · subst e
        obtain ⟨c, hcx⟩ := hc x List.mem_cons_self
        right
        rw [List.lookup_cons, hcx]
        simp
      · rcases h with h | h
        · rcases List.mem_cons.mp h with h | h
          · exact absurd (congrArg Prod.fst h) e
          · exact .inl h
        · right
          have : (x == n) = false := by simpa using e
          rw [List.lookup_cons, this]
          exact h
    · rw [if_neg hk]
      rcases h with h | h
      · rcases List.mem_cons.mp h with h | h
        · exact absurd (congrArg Prod.snd h).symm hk
        · exact .inl h
      · exact .inr h
theorem closeL_out {cells : List (Str × Addr)} : ∀ (l : List (Str × NameKind)) (cs : List (Str × Addr)) (x : Str), (x, NameKind.free) ∉ l → (closeL cells l cs).lookup x = cs.lookup x
  | [], cs, x, _ => rfl
  | (n, k) :: r, cs, x, h => by
    refine (closeL_out r _ x (fun hy => h (List.mem_cons_of_mem _ hy))).trans ?_
    by_cases hk : k = .free
    · subst hk
      rw [if_pos rfl]
      have e : x ≠ n := fun e => h (by subst e; exact List.mem_cons_self)
      have : (x == n) = false := by simpa using e
      rw [List.lookup_cons, this]
    · rw [if_neg hk]
theorem closureFor_run {scope : Scope} {env : Env} (h : ∀ y, (y, NameKind.free) ∈ scope.names → ∃ c, env.cells.lookup y = some c) : closureFor scope env = pure (closeL env.cells scope.names []) := by
  have key : ∀ (l : List (Str × NameKind)) (cs : List (Str × Addr)), (∀ y, (y, NameKind.free) ∈ l → ∃ c, env.cells.lookup y = some c) →
      (forIn l cs (fun (x : Str × NameKind) (r : List (Str × Addr)) => if (x.2 == NameKind.free) = true then (do let c ← cellOf env x.1; pure (ForInStep.yield ((x.1, c) :: r)) : Sem _) else pure (ForInStep.yield r)) : Sem (List (Str × Addr))) = pure (closeL env.cells l cs) := by
    intro l
    induction l with
    | nil => intro cs _; rfl
    | cons x r ih =>
      intro cs hc
      obtain ⟨n, k⟩ := x
      rw [List.forIn_cons]
      by_cases hk : k = .free
      · subst hk
        obtain ⟨c, e⟩ := hc n List.mem_cons_self
        have e1 : cellOf env n = pure c := by unfold cellOf; rw [e]
        have e2 : closeL env.cells ((n, NameKind.free) :: r) cs = closeL env.cells r ((n, c) :: cs) := by
          show closeL env.cells r (if NameKind.free = NameKind.free then (n, (env.cells.lookup n).getD 0) :: cs else cs) = _
          rw [if_pos rfl, e]
          all_goals rfl
        rw [e2, ← ih _ (fun y hy => hc y (List.mem_cons_of_mem _ hy))]
        simp only [beq_self_eq_true, if_true, e1]
        rfl
      · have hb : (k == NameKind.free) = false := by simpa using hk
        have e2 : closeL env.cells ((n, k) :: r) cs = closeL env.cells r cs := by
          show closeL env.cells r (if k = NameKind.free then _ else cs) = _
          rw [if_neg hk]
        rw [e2, ← ih _ (fun y hy => hc y (List.mem_cons_of_mem _ hy))]
        simp only [hb, Bool.false_eq_true, if_false]
        rfl
  have := key scope.names [] h
  unfold closureFor
  simp only [] at this ⊢
  exact (congrArg (fun m => m >>= pure) this).trans rfl
end L2
namespace L2
open PySem PySem.Spec PyProof.Rows
noncomputable def noE : Value → Shared → Prop := fun _ _ => False
section
variable {prog : Program} {w : World} {A : Around} {R : Result → Shared → Prop} {s : Shared}
theorem comp_turns {elt tg iter : Expr} {scope : Scope} {pos : Pos} {it acc : Value} {env : Env} (I : Nat → Shared → Prop)
    (turn : ∀ n s, I n s → wpAny (model prog w) A (pyNext it) (fun r s1 => match r with
      | none => R (.ok .next) s1
      | some v => wpAny (model prog w) A (letOwnedTupleGo tg it v) (fun _ s2 => wpAny (model prog w) A (assign tg env v) (fun _ s3 => wpAny (model prog w) A (eval elt env) (fun x s4 =>
          wpAny (model prog w) A (call (.builtin "list.append") [acc, x]) (fun _ s5 => ∃ m, m < n ∧ I m s5) noE s4) noE s3) noE s2) noE s1) noE s)
    (n : Nat) (h : I n s) : codeAny (model prog w) A (.compLoop (.ListComp elt [⟨tg, iter, [], 0⟩] scope pos) 0 it acc env) R s := by
  have no : ∀ (P : Value → Shared → Prop) (a : Value) (b : Shared), noE a b → P a b := fun _ _ _ z => False.elim z
  refine codeAny_loop rfl I (fun n s hI => ?_) n h
  show wpAny _ _ ((compTurn (.ListComp elt [⟨tg, iter, [], 0⟩] scope pos) 0 it acc env).onRaise
    (fun x => do noteFrame x env; theTreesLotGoes x)) _ _ s
  refine wpAny_noted ?_
  rw [compTurn_list1]
  refine wpAny_bind (wpAny_standAt (wpAny_bind (wpAny_mono (turn n s hI) (fun r s1 h1 => ?_) (no _))))
  cases r with
  | none => exact wpAny_pure h1
  | some v =>
    refine wpAny_bind (wpAny_mono h1 (fun _ s2 h2 => ?_) (no _))
    refine wpAny_bind (wpAny_mono h2 (fun _ s3 h3 => ?_) (no _))
    refine wpAny_bind (wpAny_bind (wpAny_mono h3 (fun x s4 h4 => ?_) (no _)))
    exact wpAny_bind (wpAny_mono h4 (fun _ s5 h5 => wpAny_pure (wpAny_pure ⟨rfl, h5⟩)) (no _))
end
noncomputable def relF (env : Env) (p : Str × NameKind) : Str × NameKind := if (p.2 == NameKind.free && env.scope.kind == .function && env.kindOf p.1 == some .cell) = true then (p.1, NameKind.cell) else p
theorem relF_pos {env : Env} {p : Str × NameKind} (h : (p.2 == NameKind.free && env.scope.kind == .function && env.kindOf p.1 == some .cell) = true) : relF env p = (p.1, NameKind.cell) := if_pos h
theorem relF_neg {env : Env} {p : Str × NameKind} (h : ¬ (p.2 == NameKind.free && env.scope.kind == .function && env.kindOf p.1 == some .cell) = true) : relF env p = p := if_neg h
theorem relabel_free {env : Env} {x : Str} : ∀ {l : List (Str × NameKind)}, l.lookup x = some .free → (l.map (relF env)).lookup x = some .cell ∨ (l.map (relF env)).lookup x = some .free
  | [], h => by simp at h
  | (n, k) :: r, h => by
    rw [List.map_cons]
    by_cases hc : (k == NameKind.free && env.scope.kind == .function && env.kindOf n == some .cell) = true
    · rw [relF_pos (p := (n, k)) hc]
      cases hx : x == n with
      | true => left; rw [List.lookup_cons, hx]
      | false =>
        rw [List.lookup_cons, hx] at h
        rw [List.lookup_cons, hx]
        exact relabel_free h
    · rw [relF_neg (p := (n, k)) hc]
      cases hx : x == n with
      | true => right; rw [List.lookup_cons, hx] at h; rw [List.lookup_cons, hx]; exact h
      | false =>
        rw [List.lookup_cons, hx] at h
        rw [List.lookup_cons, hx]
        exact relabel_free h
theorem relabel_only {env : Env} {x : Str} {kd : NameKind} (hkd : kd = .cell ∨ kd = .free) : ∀ {l : List (Str × NameKind)}, (∀ y ∈ l, y.2 ≠ .cell) → (l.map (relF env)).lookup x = some kd → (x, NameKind.free) ∈ l
  | [], _, h => by simp at h
  | (n, k) :: r, hn, h => by
    rw [List.map_cons] at h
    have hk : k ≠ .cell := hn (n, k) List.mem_cons_self
    have up : (r.map (relF env)).lookup x = some kd → (x, NameKind.free) ∈ (n, k) :: r := fun h2 => List.mem_cons_of_mem _ (relabel_only hkd (fun y hy => hn y (List.mem_cons_of_mem _ hy)) h2)
    by_cases hc : (k == NameKind.free && env.scope.kind == .function && env.kindOf n == some .cell) = true
    · rw [relF_pos (p := (n, k)) hc] at h
      cases hx : x == n with
      | true =>
        have hxn : x = n := by simpa using hx
        subst hxn
        have z := hc
        simp only [Bool.and_eq_true, beq_iff_eq] at z
        rw [z.1.1]
        exact List.mem_cons_self
      | false => rw [List.lookup_cons, hx] at h; exact up h
    · rw [relF_neg (p := (n, k)) hc] at h
      cases hx : x == n with
      | true =>
        have hxn : x = n := by simpa using hx
        subst hxn
        rw [List.lookup_cons, hx] at h
        have e : k = kd := Option.some.inj h
        rcases hkd with z | z
        · exact absurd (e.trans z) hk
        · rw [e, z]; exact List.mem_cons_self
      | false => rw [List.lookup_cons, hx] at h; exact up h
noncomputable def cxComp (X : Cx) (N : List Str) (scope : Scope) (cl : List (Str × Addr)) (C : Addr) (ex : List Addr) (s : Shared) (H : Hp) : Cx where
  prog := X.prog
  w := X.w
  K := X.K
  mg := X.mg
  base := X.base
  A := X.A
  N := N
  s₀ := s
  H₀ := H
  env := compEnvC scope cl C X.env
  outer := X.stack
  stack := X.stack
  ex := ex
  fn := fun _ => false
  calm := X.calm
  pn := []
  xe := noE
structure CompS (XN : List Str) (xsc : Scope) (N : List Str) (ix : List (Option Nat)) (scope : Scope) : Prop where
  kind : scope.kind = .function
  nocell : ∀ y ∈ scope.names, y.2 ≠ .cell
  names : ∀ y ∈ scope.names, y.2 = .local → scope.names.lookup y.1 = some .local
  frees : ∀ y ∈ scope.names, y.2 = .free → xsc.names.lookup y.1 = some .cell ∨ xsc.names.lookup y.1 = some .free
  len : ix.length = N.length
  has : ((ix.zip N).all fun p => match p.1 with | none => true | some j => XN[j]? == some p.2 && scope.names.lookup p.2 == some .free) = true
  nd : N.Nodup
noncomputable def compSt (ix : List (Option Nat)) (σ : St) : St := ix.map fun o => o.bind fun j => (σ[j]?).join
theorem CompS.at_ {XN : List Str} {xsc : Scope} {N : List Str} {ix : List (Option Nat)} {scope : Scope} (S : CompS XN xsc N ix scope) {i : Nat} {x : Str} {v : V} {σ : St} (hi : N[i]? = some x) (hv : (compSt ix σ)[i]? = some (some v)) :
    ∃ j : Nat, XN[j]? = some x ∧ scope.names.lookup x = some .free ∧ σ[j]? = some (some v) := by
  unfold compSt at hv
  rw [List.getElem?_map] at hv
  cases e : ix[i]? with
  | none => rw [e] at hv; cases hv
  | some o =>
    rw [e] at hv
    cases o with
    | none => cases hv
    | some j =>
      have hv' : (σ[j]?).join = some v := Option.some.inj hv
      have hm : ((some j : Option Nat), x) ∈ ix.zip N := by
        have : (ix.zip N)[i]? = some (some j, x) := by rw [List.getElem?_zip_eq_some]; exact ⟨e, hi⟩
        exact List.mem_of_getElem? this
      have q := List.all_eq_true.mp S.has _ hm
      simp only [Bool.and_eq_true, beq_iff_eq] at q
      refine ⟨j, q.1, q.2, ?_⟩
      cases z : σ[j]? with
      | none => rw [z] at hv'; cases hv'
      | some u => rw [z] at hv'; exact congrArg some hv'
section
variable {X : Cx} {pins : List (Addr × Obj)} {σ : St} {H : Hp} {s s1 : Shared} {N : List Str} {ix : List (Option Nat)} {scope : Scope} {fp : List Addr} {C : Addr}
theorem comp_cells (I : Inv X pins σ H s) (S : CompS X.N X.env.scope N ix scope) : ∀ y, (y, NameKind.free) ∈ scope.names → ∃ c, X.env.cells.lookup y = some c := fun y hy => I.ok.has y (S.frees _ hy rfl)
theorem comp_look (I : Inv X pins σ H s) (S : CompS X.N X.env.scope N ix scope) {x : Str} {c : Addr} (h : (closeL X.env.cells scope.names []).lookup x = some c) : X.env.cells.lookup x = some c := by
  by_cases hm : (x, NameKind.free) ∈ scope.names
  · rw [← closeL_in scope.names [] x (comp_cells I S) (.inl hm)]; exact h
  · rw [closeL_out scope.names [] x hm] at h; cases h
theorem comp_inv (I : Inv X pins σ H s) (S : CompS X.N X.env.scope N ix scope) (hC : C = s.heap.objs.size) (hf : ∀ b ∈ fp, FpOk X pins H b) (hfl : ∀ b ∈ fp, b < s.heap.objs.size) {h1 : Heap} {m : Str → Option Value} {tk : Nat} (hn : h1.Ns C m)
    (hk : ∀ b o, s.heap.get? b = some o → h1.get? b = some o) :
    Inv (cxComp X N scope (closeL X.env.cells scope.names []) C fp s H) [] (compSt ix σ) H { s with heap := h1, toks := tk } := by
  have hne : ∀ {b : Addr} {o : Obj}, X.base.get? b = some o → b ∉ fp := fun {b o} e hb => by
    obtain ⟨_, _, _, hx, _⟩ := hf b hb
    rcases hx with hx | hx
    · exact I.ok.noex b o e hx
    · exact absurd (Nat.lt_of_lt_of_le (Heap.lt_size (I.ok.bs b o e).1) hx) (Nat.lt_irrefl _)
  refine ⟨⟨I.ok.mod, S.kind, I.ok.glob, I.ok.blt, Nat.le_of_eq hC.symm, ?_, ?_, ?_, I.ok.hd, I.ok.frames, .inl rfl, ?_, I.bs, Nat.le_trans I.ok.bsz I.sz, fun b o e => hne e, ?_, I.stack, I.stkFree⟩,
    rfl, I.bare, Un.kept hk, ⟨m, hn, ?_⟩, ?_, I.hok.fresh (Nat.le_of_eq hC.symm), ?_, fun p hp => absurd (show p ∈ ([] : List (Addr × Obj)) from hp) (by simp), I.hok.kept hk, ?_⟩
  · intro x y c h1 h2
    exact I.ok.inj x y c (comp_look I S h1) (comp_look I S h2)
  · intro x hx
    have hm : (x, NameKind.free) ∈ scope.names := by
      rcases hx with hx | hx
      · exact relabel_only (.inl rfl) S.nocell hx
      · exact relabel_only (.inr rfl) S.nocell hx
    obtain ⟨c, e⟩ := comp_cells I S x hm
    exact ⟨c, (closeL_in scope.names [] x (comp_cells I S) (.inl hm)).trans e⟩
  · intro x c hx; cases hx
  · intro b hb
    obtain ⟨_, _, _, _, f4, _⟩ := hf b hb
    refine ⟨fun e => ?_, fun x c e => f4 x c (comp_look I S e)⟩
    have z := hfl b hb
    have e' : b = C := e
    rw [e', hC] at z
    exact Nat.lt_irrefl _ z
  · intro b hb hb2
    obtain ⟨_, f1, f2, _⟩ := hf b hb
    exact (List.mem_cons.mp (I.stkSub b hb2)).elim f1 f2
  · intro i x v e1 e2 e3
    obtain ⟨j, g1, g2, g3⟩ := S.at_ e1 e2
    have hm : (x, NameKind.free) ∈ scope.names := PySem.mem_of_lookup g2
    have hk2 := S.frees _ hm rfl
    obtain ⟨m0, hn0, hl0⟩ := id I.loc
    obtain ⟨u, r, l⟩ := hl0 j x v g1 g3 (hk2.elim (fun z => .inr (.inl z)) (fun z => .inr (.inr z)))
    refine ⟨u, r, .inr ⟨relabel_free g2, ?_⟩⟩
    rcases l with ⟨k, _⟩ | ⟨k, c, e, z⟩
    · have k' : X.env.scope.names.lookup x = some .local := k
      rcases hk2 with z | z <;> (rw [k'] at z; cases z)
    · refine ⟨c, (closeL_in scope.names [] x (comp_cells I S) (.inl hm)).trans e, ?_⟩
      obtain ⟨o, ho, hd⟩ := z
      exact ⟨o, hk _ _ ho, hd⟩
  · intro x c e
    obtain ⟨v, o, ho, hd⟩ := I.cell x c (comp_look I S e)
    exact ⟨v, o, hk _ _ ho, hd⟩
  · intro x c e
    exact I.freeC x c (comp_look I S e)
  · unfold compSt
    rw [List.length_map]
    exact S.len
end
end L2
namespace L2
open PySem PySem.Spec PyProof.Rows
noncomputable def compW (ix : List (Option Nat)) (J : It) (g : TG) (te : TE) (σ : St) (l : Addr) (H0 : Hp) (Qe : Hp → Prop) : Prop :=
  ∃ W : Nat → Nat → List V → Hp → Prop, (∃ m, W 0 m [] H0) ∧ ∀ i m ys H, W i m ys H → H l = some (.lst ys) →
    (J.stop i H ∧ Qe H) ∨ (J.go i H ∧ ys.length < sizeLine ∧ ∃ N : List V → Hp → Prop, (∀ zs H', N zs H' → ∃ m', m' < m ∧ W (i + 1) m' zs H') ∧ ∀ x H', J.yld i H x H' → g x (compSt ix σ) H' fun σ2 H2 => te σ2 H2 fun v H3 =>
      H3 l = some (.lst ys) ∧ N (ys ++ [v]) (upd H3 l (.lst (ys ++ [v]))))
noncomputable def tComp (ix : List (Option Nat)) (wi : TI) (g : TG) (te : TE) : TE := fun σ H Q => wi σ H fun J H1 => ∀ l, H1 l = none → compW ix J g te σ l (upd H1 l (.lst [])) fun H' => Q (.ref l) H'
section
variable {X : Cx} {pins : List (Addr × Obj)} {σ : St} {H : Hp} {s : Shared} {N : List Str} {ix : List (Option Nat)} {scope : Scope} {elt iter tg : Expr} {pos : Pos} {g : TG} {te : TE} {E : Value → Shared → Prop}
theorem comp_again {C : Addr} {fp : List Addr} {pins' : List (Addr × Obj)} {σ' : St} {Hc : Hp} {s' : Shared} (I : Inv X pins σ H s) (S : CompS X.N X.env.scope N ix scope)
    (J : Inv (cxComp X N scope (closeL X.env.cells scope.names []) C fp s H) pins' σ' Hc s') : Inv (cxComp X N scope (closeL X.env.cells scope.names []) C fp s H) [] (compSt ix σ) Hc s' := by
  obtain ⟨m, hn, _⟩ := J.loc
  refine ⟨J.ok, J.os, J.bare, J.base, ⟨m, hn, ?_⟩, J.cell, J.free, J.freeC, fun p hp => absurd (show p ∈ ([] : List (Addr × Obj)) from hp) (by simp), J.hok, ?_⟩
  · intro i x v e1 e2 e3
    obtain ⟨j, g1, g2, g3⟩ := S.at_ e1 e2
    have hm : (x, NameKind.free) ∈ scope.names := PySem.mem_of_lookup g2
    have hk2 := S.frees _ hm rfl
    obtain ⟨m0, hn0, hl0⟩ := id I.loc
    obtain ⟨u, r, l⟩ := hl0 j x v g1 g3 (hk2.elim (fun z => .inr (.inl z)) (fun z => .inr (.inr z)))
    refine ⟨u, r, .inr ⟨relabel_free g2, ?_⟩⟩
    rcases l with ⟨k, _⟩ | ⟨k, c, e, z⟩
    · have k' : X.env.scope.names.lookup x = some .local := k
      rcases hk2 with z | z <;> (rw [k'] at z; cases z)
    · have ec : (closeL X.env.cells scope.names []).lookup x = some c := (closeL_in scope.names [] x (comp_cells I S) (.inl hm)).trans e
      refine ⟨c, ec, ?_⟩
      obtain ⟨o, ho, hd⟩ := z
      obtain ⟨sl, q⟩ := J.base.any ho (I.freeC x c e) (fun hx => (J.ok.exf c hx).2 x c ec rfl)
      exact ⟨_, q, hd⟩
  · unfold compSt
    rw [List.length_map]
    exact S.len
theorem comp_block {it : Addr} {fp : List Addr} {tn : Nat → Heap → Prop} {J : It} {Qe : Addr → Hp → Prop} {RR : Value → Addr → Result → Shared → Prop} (hc : X.calm = true) (S : CompS X.N X.env.scope N ix scope)
    (hg : ∀ cl C ex s H, PG (cxComp X N scope cl C ex s H) tg g) (he : ∀ cl C ex s H, PE (cxComp X N scope cl C ex s H) elt te)
    (I : Inv X pins σ H s) (T : Turn X.prog X.w X.K tg J fp it tn) (st : tn 0 s.heap) (hf : ∀ b ∈ fp, FpOk X pins H b)
    (hw : ∀ l, H l = none → compW ix J g te σ l (upd H l (.lst [])) (Qe l))
    (hRR : ∀ l C s' H' m, s'.heap.Ns C m → Inv X pins σ H' s' → FpOk X pins H' C → Qe l H' → RR (.ref l) C (.ok .next) s') :
    wpAny (model X.prog X.w) X.A (newList []) (fun acc s3 => wpAny (model X.prog X.w) X.A (newFunctionEnv scope X.env.globals (closeL X.env.cells scope.names []) [] X.env.qual none .none (some X.env)) (fun cenv s4 =>
      codeAny (model X.prog X.w) X.A (.compStart (.ListComp elt [⟨tg, iter, [], 0⟩] scope pos) 0 (.ref it) acc { cenv with scope := relabel scope X.env }) (RR acc cenv.locals) s4) E s3) E s := by
  have hlt : ∀ b ∈ fp, b < s.heap.objs.size := fun b hb => by
    obtain ⟨o, e, _⟩ := T.obj 0 s.heap st b hb
    exact Heap.lt_size e
  have hl0 : H s.heap.objs.size = none := I.fresh
  obtain ⟨W, ⟨m0, w0⟩, turn⟩ := hw s.heap.objs.size hl0
  refine wpAny_newObj_type ?_
  generalize hs3 : ({ s with heap := s.heap.push { cls := .type "list", dict := none, data := .seq ([] : List Value).toArray } } : Shared) = s3
  have I3 : Inv X pins σ (upd H s.heap.objs.size (.lst [])) s3 := by
    rw [← hs3]
    exact I.lnew (its := []) (t' := s.toks) .nil (Nat.zero_le _)
  have k3 : ∀ b o, s.heap.get? b = some o → s3.heap.get? b = some o := fun b o e => by
    rw [← hs3]; exact Heap.get?_push_of_some _ e
  have sz3 : s3.heap.objs.size = s.heap.objs.size + 1 := by rw [← hs3]; exact Heap.size_push ..
  have lnfp : s.heap.objs.size ∉ fp := fun hb => Nat.lt_irrefl _ (hlt _ hb)
  have st3 : tn 0 s3.heap := T.keep 0 _ _ st fun b _ o e => k3 b o e
  have hf3 : ∀ b ∈ fp, FpOk X pins (upd H s.heap.objs.size (.lst [])) b := fun b hb => by
    obtain ⟨f0, f⟩ := hf b hb
    have nb : b ≠ s.heap.objs.size := fun e => lnfp (by rw [← e]; exact hb)
    exact ⟨by rw [upd_ne nb]; exact f0, f⟩
  have hlt3 : ∀ b ∈ fp, b < s3.heap.objs.size := fun b hb => by rw [sz3]; exact Nat.lt_succ_of_lt (hlt b hb)
  clear hs3
  refine wpAny_newFunctionEnv S.nocell (by intro y hy; simp at hy) (fun h1 hn1 hb1 => ?_) S.kind
  have hk1 : ∀ b o, s3.heap.get? b = some o → h1.get? b = some o := fun b o e =>
    (hb1.2 b (Nat.ne_of_lt (Heap.lt_size e))).trans (Heap.get?_push_of_some _ e)
  have J0 : Inv (cxComp X N scope (closeL X.env.cells scope.names []) s3.heap.objs.size fp s3 (upd H s.heap.objs.size (.lst []))) [] (compSt ix σ) (upd H s.heap.objs.size (.lst [])) { s3 with heap := h1, toks := s3.toks + ([] : List (Str × Value)).length } :=
    comp_inv I3 S rfl hf3 hlt3 hn1 hk1
  have st1 : tn 0 h1 := T.keep 0 _ _ st3 fun b _ o e => hk1 b o e
  have fpY : ∀ {Hc : Hp}, (∀ b ∈ fp, Hc b = none) → ∀ b ∈ fp, FpOk (cxComp X N scope (closeL X.env.cells scope.names []) s3.heap.objs.size fp s3 (upd H s.heap.objs.size (.lst []))) [] Hc b := fun {Hc} hn b hb => by
    obtain ⟨_, f1, f2, _, f4, _⟩ := hf3 b hb
    refine ⟨hn b hb, Nat.ne_of_lt (hlt3 b hb), fun hb2 => (List.mem_cons.mp (I3.stkSub b hb2)).elim f1 f2, .inl hb, fun x c e => f4 x c (comp_look I3 S e), fun p hp => absurd (show p ∈ ([] : List (Addr × Obj)) from hp) (by simp)⟩
  have loop : ∀ s4 : Shared, s4 = ({ s3 with heap := h1, toks := s3.toks + ([] : List (Str × Value)).length } : Shared) → codeAny (model X.prog X.w) X.A (.compLoop (.ListComp elt [⟨tg, iter, [], 0⟩] scope pos) 0 (.ref it) (.ref s.heap.objs.size)
      (compEnvC scope (closeL X.env.cells scope.names []) s3.heap.objs.size X.env)) (RR (.ref s.heap.objs.size) s3.heap.objs.size) s4 := by
    intro s4 hs4
    subst hs4
    refine comp_turns (fun n s' => ∃ i ys Hc, Inv (cxComp X N scope (closeL X.env.cells scope.names []) s3.heap.objs.size fp s3 (upd H s.heap.objs.size (.lst []))) [] (compSt ix σ) Hc s' ∧ tn i s'.heap ∧ (∀ b ∈ fp, Hc b = none) ∧ Hc s.heap.objs.size = some (.lst ys) ∧ W i n ys Hc) ?_ m0 ⟨0, [], _, J0, st1, fun b hb => (hf3 b hb).1, upd_same, w0⟩
    rintro n s5 ⟨i, ys, Hc, J5, st5, fr5, hl5, w5⟩
    rcases turn i n ys Hc w5 hl5 with ⟨stop, qe⟩ | ⟨go, hz, NN, hNN, step⟩
    · refine thn (T.done (cxComp X N scope (closeL X.env.cells scope.names []) s3.heap.objs.size fp s3 (upd H s.heap.objs.size (.lst []))) rfl rfl rfl hc i [] s5 _ Hc noE J5 (fpY fr5) st5 stop) fun r s6 hz8 => ?_
      obtain ⟨hr, J6⟩ := hz8
      subst hr
      have I6 : Inv X pins σ Hc s6 := I3.call' (ch := fp) J6.os J6.base J6.hok J6.bare fun b hb => by
        obtain ⟨_, f1, f2, f3, f4, f5⟩ := hf3 b hb
        exact ⟨f3, f1, f4, f5⟩
      obtain ⟨m6, hn6, _⟩ := J6.loc
      exact hRR _ _ s6 Hc m6 hn6 I6 (I3.fpOk (Nat.le_refl _) J6.free) qe
    · refine thn (T.item (cxComp X N scope (closeL X.env.cells scope.names []) s3.heap.objs.size fp s3 (upd H s.heap.objs.size (.lst []))) rfl rfl rfl hc i [] s5 _ Hc noE J5 (fpY fr5) st5 go) fun r s6 hz8 => ?_
      obtain ⟨u, hr, h6⟩ := hz8
      subst hr
      refine thn h6 fun _ s7 hz8 => ?_
      obtain ⟨x, H7, J7, r7, y7, st7, fr7⟩ := hz8
      have J7' := J7.pinned (fpY fr7) (T.obj _ _ st7)
      refine thn (hg _ _ _ _ _ _ s7 _ H7 x u _ J7' r7 (step x H7 y7)) fun _ s8 hz8 => ?_
      obtain ⟨σ8, H8, J8, q8⟩ := hz8
      refine thnE (he _ _ _ _ _ _ s8 σ8 H8 _ J8 q8) fun y s9 v H9 J9 r9 hz9 => ?_
      obtain ⟨hl9, n9⟩ := hz9
      obtain ⟨m', hm', w9⟩ := hNN _ _ n9
      refine thn (mt_append (X := cxComp X N scope (closeL X.env.cells scope.names []) s3.heap.objs.size fp s3 (upd H s.heap.objs.size (.lst []))) _ s9 σ8 H9 (.ref s.heap.objs.size) [v] (.ref s.heap.objs.size) [y]
        (fun z Hz => z = .non ∧ Hz = upd H9 s.heap.objs.size (.lst (ys ++ [v]))) J9 rfl (.cons r9 .nil) ⟨_, ys, v, rfl, rfl, hl9, hz, rfl, rfl⟩) fun _ s10 ⟨_, H10, J10, _, _, e10⟩ => ?_
      subst e10
      have len8 : (compSt ix σ).length = σ8.length := by
        rw [J10.len]
        unfold compSt
        rw [List.length_map]
        exact S.len
      refine ⟨m', hm', i + 1, ys ++ [v], _, ?_, T.keep _ _ _ st7 fun b hb o e => (J10.pin (b, o) (List.mem_append_right _ (List.mem_append_right _ (mem_pinsAt hb e)))).1, fun b hb => ?_, upd_same, w9⟩
      · exact comp_again I3 S J10
      · obtain ⟨o, e, d⟩ := T.obj _ _ st7 b hb
        exact (J10.pin (b, o) (List.mem_append_right _ (List.mem_append_right _ (mem_pinsAt hb e)))).2.1
  exact codeAny_compStart_list (loop _ rfl) (T.self _ 0 _ _ _ st1 (loop _ rfl))
theorem pe_comp {wi : TI} (hc : X.calm = true) (S : CompS X.N X.env.scope N ix scope) (hi : PI X tg iter wi)
    (hg : ∀ cl C ex s H, PG (cxComp X N scope cl C ex s H) tg g) (he : ∀ cl C ex s H, PE (cxComp X N scope cl C ex s H) elt te)
    (hs : ∀ x, foldedSetIterable iter X.env x = pure x := by intro _; rfl) : PE X (.ListComp elt [⟨tg, iter, [], 0⟩] scope pos) (tComp ix wi g te) := by
  intro pins s σ H Q I h
  rw [eval_ListComp]
  refine wpAny_comprehension_free (use := none) rfl hs (closureFor_run (comp_cells I S)) S.kind S.names (thn (hi pins s σ H _ I h) fun v s1 h1 => thn h1 fun itv s2 h2 => ?_)
  obtain ⟨it, fp, tn, J, H2, e, I2, T, st2, f2, hw⟩ := h2
  subst e
  refine comp_block (RR := fun acc C => compPost (model X.prog X.w) X.A X.xe none (EP X pins σ Q) acc C) hc S hg he I2 T st2 f2 hw fun l C s' H' m hn I' fC q => ⟨m, hn, fun h' hs' => ?_⟩
  obtain ⟨c0, c1, _, c3, c4, c5⟩ := fC
  exact ⟨.ref l, H', I'.turned (t' := s'.toks) (fun b o hb e => (hs'.2 b hb).trans e) c0 c1 c3 c4 c5, rfl, q⟩
end
theorem comp_by {J : It} {n : Nat} {l : Addr} {ix : List (Option Nat)} {g : TG} {te : TE} {σ : St} {H0 : Hp} {Qe : Hp → Prop} (Pv : Nat → List V → Hp → Prop) (h0 : Pv 0 [] H0)
    (hs : ∀ i ys H, i < n → Pv i ys H → H l = some (.lst ys) → J.go i H ∧ ys.length < sizeLine ∧ ∀ x H', J.yld i H x H' → g x (compSt ix σ) H' fun σ2 H2 => te σ2 H2 fun v H3 => H3 l = some (.lst ys) ∧ Pv (i + 1) (ys ++ [v]) (upd H3 l (.lst (ys ++ [v]))))
    (hd : ∀ ys H, Pv n ys H → H l = some (.lst ys) → J.stop n H ∧ Qe H) : compW ix J g te σ l H0 Qe := by
  refine ⟨fun i m ys H => m = n - i ∧ i ≤ n ∧ Pv i ys H, ⟨n, by simp, Nat.zero_le _, h0⟩, ?_⟩
  rintro i m ys H ⟨rfl, hi, p⟩ hl
  by_cases hlt : i < n
  · obtain ⟨h1, h2, h3⟩ := hs i ys H hlt p hl
    exact .inr ⟨h1, h2, Pv (i + 1), fun zs H' q => ⟨n - (i + 1), by lia, rfl, hlt, q⟩, h3⟩
  · have e : i = n := by lia
    subst e
    exact .inl (hd ys H p hl)
theorem comp_list {K : PySem.W.Frag} {a l : Addr} {xs : List V} {ix : List (Option Nat)} {g : TG} {te : TE} {σ : St} {H0 : Hp} {Qe : Hp → Prop} (Pv : Nat → List V → Hp → Prop) (h0 : Pv 0 [] H0) (hl : ∀ i ys H, i ≤ xs.length → Pv i ys H → SqL K H a xs) (hz : xs.length ≤ sizeLine)
    (hn : ∀ i ys H, Pv i ys H → ys.length = i)
    (hs : ∀ i x ys H, xs[i]? = some x → Pv i ys H → H l = some (.lst ys) → g x (compSt ix σ) H fun σ2 H2 => te σ2 H2 fun v H3 => H3 l = some (.lst ys) ∧ Pv (i + 1) (ys ++ [v]) (upd H3 l (.lst (ys ++ [v]))))
    (hd : ∀ ys H, Pv xs.length ys H → H l = some (.lst ys) → Qe H) : compW ix (Itl K a) g te σ l H0 Qe := by
  refine comp_by (n := xs.length) Pv h0 (fun i ys H hi p hy => ?_) fun ys H p hy => ⟨⟨xs, hl _ ys H (Nat.le_refl _) p, Nat.le_refl _⟩, hd ys H p hy⟩
  have q := hl i ys H (Nat.le_of_lt hi) p
  refine ⟨⟨xs, xs[i], q, by simp [hi]⟩, by rw [hn i ys H p]; exact Nat.lt_of_lt_of_le hi hz, fun x H' y => ?_⟩
  obtain ⟨e, y⟩ := y
  subst e
  exact hs i x ys _ (y xs q) p hy
theorem comp_tup {K : PySem.W.Frag} {a l : Addr} {xs : List V} {ix : List (Option Nat)} {g : TG} {te : TE} {σ : St} {H0 : Hp} {Qe : Hp → Prop} (Pv : Nat → List V → Hp → Prop) (h0 : Pv 0 [] H0) (hl : ∀ i ys H, i ≤ xs.length → Pv i ys H → SqT K H a xs) (hz : xs.length ≤ sizeLine)
    (hn : ∀ i ys H, Pv i ys H → ys.length = i)
    (hs : ∀ i x ys H, xs[i]? = some x → Pv i ys H → H l = some (.lst ys) → g x (compSt ix σ) H fun σ2 H2 => te σ2 H2 fun v H3 => H3 l = some (.lst ys) ∧ Pv (i + 1) (ys ++ [v]) (upd H3 l (.lst (ys ++ [v]))))
    (hd : ∀ ys H, Pv xs.length ys H → H l = some (.lst ys) → Qe H) : compW ix (Itt K a) g te σ l H0 Qe := by
  refine comp_by (n := xs.length) Pv h0 (fun i ys H hi p hy => ?_) fun ys H p hy => ⟨⟨xs, hl _ ys H (Nat.le_refl _) p, Nat.le_refl _⟩, hd ys H p hy⟩
  have q := hl i ys H (Nat.le_of_lt hi) p
  refine ⟨⟨xs, xs[i], q, by simp [hi]⟩, by rw [hn i ys H p]; exact Nat.lt_of_lt_of_le hi hz, fun x H' y => ?_⟩
  obtain ⟨e, y⟩ := y
  subst e
  exact hs i x ys _ (y xs q) p hy
theorem comp_range {lo : Int} {n : Nat} {l : Addr} {ix : List (Option Nat)} {g : TG} {te : TE} {σ : St} {H0 : Hp} {Qe : Hp → Prop} (Pv : Nat → List V → Hp → Prop) (h0 : Pv 0 [] H0) (hz : n ≤ sizeLine)
    (hn : ∀ i ys H, Pv i ys H → ys.length = i)
    (hs : ∀ i ys H, i < n → Pv i ys H → H l = some (.lst ys) → g (.int (lo + i)) (compSt ix σ) H fun σ2 H2 => te σ2 H2 fun v H3 => H3 l = some (.lst ys) ∧ Pv (i + 1) (ys ++ [v]) (upd H3 l (.lst (ys ++ [v]))))
    (hd : ∀ ys H, Pv n ys H → H l = some (.lst ys) → Qe H) : compW ix (Itr lo n) g te σ l H0 Qe := by
  refine comp_by (n := n) Pv h0 (fun i ys H hi p hy => ⟨hi, by rw [hn i ys H p]; exact Nat.lt_of_lt_of_le hi hz, fun x H' y => ?_⟩) fun ys H p hy => ⟨Nat.le_refl _, hd ys H p hy⟩
  obtain ⟨e, y⟩ := y
  subst e y
  exact hs i ys _ hi p hy
end L2
namespace L2
open PySem PySem.Spec PyProof.Rows
open PySem.AutoSeq1 (wpAny_loadPart')
noncomputable def rint (lo : Int) (n : Nat) : List V := (List.range n).map fun i => V.int (lo + (i : Nat))
theorem rint_length (lo : Int) (n : Nat) : (rint lo n).length = n := by unfold rint; simp
theorem vals_of_items {lo c : Int} {acc : Array Value} {n : Nat} (hc : c = 1) (h : ItemsOf (fun i v => ∃ t, v = .int (lo + i * c) t) acc n) : Vals (rint lo n) acc.toList := by
  subst hc
  obtain ⟨hs, hi⟩ := h
  have key : ∀ (k : Nat) (i : Nat), i + k = n → Vals (((List.range n).drop i).map fun j => V.int (lo + (j : Nat))) (acc.toList.drop i) := by
    intro k
    induction k with
    | zero =>
      intro i hk
      rw [List.drop_of_length_le (by simp; lia), List.drop_of_length_le (by simp; lia)]
      exact .nil
    | succ k ih =>
      intro i hk
      have h1 : i < acc.size := by lia
      have e1 : (List.range n).drop i = i :: (List.range n).drop (i + 1) := by
        rw [List.drop_eq_getElem_cons (by simp; lia)]; simp
      have e2 : acc.toList.drop i = acc[i] :: acc.toList.drop (i + 1) := by
        rw [List.drop_eq_getElem_cons (by simpa using h1)]; simp
      rw [e1, e2, List.map_cons]
      refine .cons ?_ (ih (i + 1) (by lia))
      obtain ⟨t, e⟩ := hi i acc[i] (by simp [h1])
      exact ⟨t, by rw [e, Int.mul_one]⟩
  have := key n 0 (by lia)
  simpa [rint] using this
section
variable {X : Cx}
theorem call_rng : CallR X (.type "range") (fun xs H Q => ∃ j : Int, xs = [.int j] ∧ -(2 ^ 62) ≤ j ∧ j < 2 ^ 62 ∧ ∀ p, H p = none → Q (.ref p) (upd H p (.rng 0 j))) := by
  intro pins s σ H xs us Q I r h
  obtain ⟨j, rfl, h1, h2, q⟩ := h
  obtain ⟨u, rfl, ru⟩ := vals1 r
  obtain ⟨t, rfl⟩ := ru
  refine call_range_1 ?_
  exact ⟨.ref s.heap.objs.size, upd H s.heap.objs.size (.rng 0 j), I.laid (o := .rng 0 j) (fun b u e => Heap.get?_push_of_some _ e) (Nat.le_refl _) ⟨_, _, _, Heap.get?_push_size _ rfl⟩, rfl, q _ I.fresh⟩
theorem Inv.rng {pins : List (Addr × Obj)} {σ : St} {H : Hp} {s : Shared} {p : Addr} {lo hi : Int} (I : Inv X pins σ H s) (h : H p = some (.rng lo hi)) : ∃ t u v, IsRange s.heap p lo hi 1 t u v := by
  obtain ⟨t, u, v, e⟩ := I.hok p _ h
  exact ⟨t, u, v, e⟩
theorem rng_size {lo hi : Int} : Builtin.Range.rangeSize lo hi 1 = (((hi - lo).toNat : Nat) : Int) := by
  rw [rangeSize_one]; split <;> lia
theorem call_list_rng (hc : X.calm = true) : CallR X (.type "list") (fun xs H Q => ∃ p lo hi, xs = [.ref p] ∧ H p = some (.rng lo hi) ∧ (-(2 ^ 62) ≤ lo ∧ lo < 2 ^ 62 ∧ -(2 ^ 62) ≤ hi ∧ hi < 2 ^ 62) ∧ (hi - lo).toNat ≤ 2 ^ 24 ∧
    ∀ l, H l = none → Q (.ref l) (upd H l (.lst (rint lo (hi - lo).toNat)))) := by
  intro pins s σ H xs us Q I r h
  obtain ⟨p, lo, hi, rfl, hp, ⟨b1, b2, b3, b4⟩, hn, q⟩ := h
  obtain ⟨u, rfl, ru⟩ := vals1 r
  cases ru
  obtain ⟨t, u, v, hr⟩ := I.rng hp
  refine call_list_range (I.ok.hd hc) hr (small_one b1 b2 b3 b4) rng_size hn fun h' tk acc c' hk hl hacc => ?_
  have hv := vals_of_items rfl hacc
  exact ⟨.ref _, _, I.laid (o := .lst (rint lo (hi - lo).toNat)) (fun b u e => hk b u e) (Nat.le_refl _) ⟨by rw [rint_length, sizeLine_eq]; lia, acc.toList, c', hv, by simpa using hl⟩, rfl, q _ I.fresh⟩
end
section
variable {prog : Program} {w : World} {A : Around} {E : Value → Shared → Prop} {s : Shared}
theorem collect_rng {Q : List Value → Shared → Prop} {r : Addr} {a b c : Int} {t u v : Tok} {n : Nat} (hh : A.handled = none) (hr : IsRange s.heap r a b c t u v) (hsmall : Builtin.Range.small a b c = true)
    (hn : Builtin.Range.rangeSize a b c = n) (hlen : n ≤ 2 ^ 24)
    (hQ : ∀ h' tk acc, (∀ b o, s.heap.get? b = some o → h'.get? b = some o) → s.heap.objs.size ≤ h'.objs.size → ItemsOf (fun i v => ∃ t, v = .int (a + i * c) t) acc n → Q acc.toList { s with heap := h', toks := tk }) :
    wpAny (model prog w) A (collect (.ref r)) Q E s := by
  unfold collect
  refine wpAny_bind (wpAny_runValue (codeAny_builtin F.entry_proto_collect ?_))
  rw [Around.under_plainId F.plain_proto_collect _]
  show wpAny _ A.in1 (newList [] >>= fun l =>
    again (.builtin "list.__iadd__" ⟨[l, .ref r], []⟩)) _ _ s
  refine wpAny_bind (wpAny_newObj_type ?_)
  refine wpAny_pure ⟨plainId_quiet F.plain_list_iadd _, codeAny_builtin F.entry_list_iadd ?_⟩
  rw [Around.under_plainId F.plain_list_iadd _]
  show wpAny _ A.in1 (Builtin.List.listExtendWith (.ref s.heap.objs.size) (.ref r)
    (.ref s.heap.objs.size)) _ _ _
  have hS : (s.heap.push { cls := .type "list", data := .seq ([] : List Value).toArray }).get? s.heap.objs.size = some
    { cls := .type "list", data := .seq #[] 0 } := Heap.get?_push_size _ rfl
  have fin' : ∀ (h' : Heap) (tk : Nat) (acc : Array Value) (c' : Nat), (∀ b o, b ≠ s.heap.objs.size → (s.heap.push { cls := .type "list", data := .seq ([] : List Value).toArray }).get? b = some o → h'.get? b = some o) →
      h'.get? s.heap.objs.size = some { cls := .type "list", dict := none, data := .seq acc c', slots := #[] } → ItemsOf (fun i v => ∃ t, v = .int (a + i * c) t) acc n →
      wpAny (model prog w) A (match Value.ref s.heap.objs.size with
        | Value.ref a => do
          match (← load a).data with
            | Data.seq xs _ => pure xs.toList
            | _ => unsupported "internal:collect"
        | _ => unsupported "internal:collect") Q E { s with heap := h', toks := tk } := fun h' tk acc c' hk hS' hacc => by
    show wpAny _ A (load s.heap.objs.size >>= _) _ _ _
    refine wpAny_bind (wpAny_load hS' (wpAny_pure ?_))
    exact hQ h' tk acc (fun b o e => hk b o (Nat.ne_of_lt (Heap.lt_size e)) (Heap.get?_push_of_some _ e)) (Nat.le_of_lt (Heap.lt_size hS')) hacc
  refine wpAny_mono (wpAny_extend_range (A := A) (R := fun r s' => r = .ok (.ret (.ref s.heap.objs.size)) ∧ wpAny (model prog w) A (match Value.ref s.heap.objs.size with
        | Value.ref a => do
          match (← load a).data with
            | Data.seq xs _ => pure xs.toList
            | _ => unsupported "internal:collect"
        | _ => unsupported "internal:collect") Q E s') (s := { s with heap := s.heap.push { cls := .type "list", data := .seq ([] : List Value).toArray } }) hh (Heap.get?_push_of_some _ hr) hsmall hn hlen _ (.ref s.heap.objs.size) 0 hS
    fun h' tk acc c' hk hS' hacc => ⟨rfl, fin' h' tk acc c' hk hS' hacc⟩) (fun fin s' h => ?_) (fun e s' h => ?_)
  · cases fin with
    | done f =>
      obtain ⟨e, h⟩ := h
      cases e
      exact h
    | again c' => exact ⟨h.1, codeAny_mono h.2 fun r s'' hr => by obtain ⟨rfl, h2⟩ := hr; exact h2⟩
  · exact absurd h.1 (by simp)
end
theorem meets_tuple_rng (r : Addr) {a b c : Int} {t u v : Tok} {n : Nat} (hsmall : Builtin.Range.small a b c = true) (hn : Builtin.Range.rangeSize a b c = n) (hlen : n ≤ 2 ^ 24) :
    Meets (Builtin.«tuple.__new__» ⟨[.type "tuple", .ref r], []⟩)
      (fun A R s => A.handled = none ∧ IsRange s.heap r a b c t u v ∧ ∀ (h' : Heap) (tk : Nat) (acc : Array Value), (∀ b o, s.heap.get? b = some o → h'.get? b = some o) → s.heap.objs.size ≤ h'.objs.size → ItemsOf (fun i v => ∃ t, v = .int (a + i * c) t) acc n →
        R (.ok (.ret (.ref h'.objs.size))) { s with heap := h'.push { cls := .type "tuple", data := .seq acc }, toks := tk }) :=
  .of_wp fun prog w A R s h => by
    obtain ⟨hh, hr, h⟩ := h
    have hsub := sub_tuple_self
    have hinit := init_tuple_lookup
    have hmh := madeHere_tuple
    have hT : s.TypeIs (.ref r) "range" := ⟨_, hr, rfl⟩
    have hh1 : A.in1.handled = none := hh
    wp_walk using wpAny_typeOf hT, collect_rng hh1 hr hsmall hn hlen
    intro h' tk acc hk hz hacc
    show wpAny _ _ (Builtin.Tuple.tupleExact acc.toList.toArray >>=
      fun v => ret v) _ _ _
    unfold Builtin.Tuple.tupleExact
    refine wpAny_bind (wpAny_newObj_type ?_ (show acc.toList.toArray.size ≤ sizeLine by simp only [Array.toArray_toList]; rw [hacc.1, sizeLine_eq]; lia))
    refine wpAny_pure ⟨_, rfl, ?_⟩
    have e : acc.toList.toArray = acc := by simp
    rw [e]
    exact h h' tk acc hk hz hacc
section
variable {X : Cx}
theorem call_tuple_rng (hc : X.calm = true) : CallR X (.type "tuple") (fun xs H Q => ∃ p lo hi, xs = [.ref p] ∧ H p = some (.rng lo hi) ∧ (-(2 ^ 62) ≤ lo ∧ lo < 2 ^ 62 ∧ -(2 ^ 62) ≤ hi ∧ hi < 2 ^ 62) ∧ (hi - lo).toNat ≤ 2 ^ 24 ∧
    ∀ l, H l = none → Q (.ref l) (upd H l (.tup (rint lo (hi - lo).toNat)))) := by
  intro pins s σ H xs us Q I r h
  obtain ⟨p, lo, hi, rfl, hp, ⟨b1, b2, b3, b4⟩, hn, q⟩ := h
  obtain ⟨u, rfl, ru⟩ := vals1 r
  cases ru
  obtain ⟨t, u, v, hr⟩ := I.rng hp
  refine callType_new F.called_tuple (by decide) (F.typeCall_tuple_1 _) (F.newCall_tuple_1 _) (fun obj => F.args_object_init_2 obj _) F.entry_tuple_new
    (meets_tuple_rng p (t := t) (u := u) (v := v) (small_one b1 b2 b3 b4) rng_size hn) ⟨I.ok.hd hc, hr, fun h' tk acc hk hz hacc => ⟨⟨_, Heap.get?_push_size _ rfl, rfl⟩, ?_⟩⟩
  have hv := vals_of_items rfl hacc
  have hf : H h'.objs.size = none := I.hok.fresh hz
  refine ⟨.ref _, _, I.laid (o := .tup (rint lo (hi - lo).toNat)) (fun b u e => Heap.get?_push_of_some _ (hk b u e)) hz ⟨by rw [rint_length, sizeLine_eq]; lia, acc.toList, 0, hv, by rw [show acc.toList.toArray = acc by simp]; exact Heap.get?_push_size _ rfl⟩, rfl, q _ hf⟩
end
section
variable {X : Cx}
theorem truth_bools {prog : Program} {w : World} {A : Around} {its : Array Value} {bs : List Bool} (r : Vals (bs.map V.bl) its.toList) : TruthOf prog w A (fun i v => its[i]? = some v) (fun i => bs.getD i false) := by
  intro i v s Q E hi hq
  have hl := r.length
  rw [List.length_map] at hl
  have hlt : i < bs.length := by
    have : i < its.size := by
      rcases Nat.lt_or_ge i its.size with z | z
      · exact z
      · rw [Array.getElem?_eq_none z] at hi; cases hi
    simp at hl; lia
  have h1 : (bs.map V.bl)[i]? = some (.bl bs[i]) := by simp [hlt]
  obtain ⟨u, hu, ru⟩ := r.get h1
  have : u = v := by
    have e : its.toList[i]? = some v := by simpa using hi
    rw [e] at hu
    exact (Option.some.inj hu).symm
  subst this
  cases ru
  refine wpAny_truthy_bool ?_
  have e : bs.getD i false = bs[i] := by simp [hlt]
  have hq' : Q (bs.getD i false) s := hq
  rw [e] at hq'
  exact hq'
theorem range_all {n : Nat} {bs : List Bool} (h : bs.length = n) : (List.range n).all (fun i => bs.getD i false) = bs.all id := by
  subst h
  rw [Bool.eq_iff_iff, List.all_eq_true, List.all_eq_true]
  constructor
  · intro h b hb
    obtain ⟨i, hi, e⟩ := List.getElem_of_mem hb
    have := h i (by simpa using hi)
    simp [hi, e] at this
    exact this
  · intro h i hi
    have hi : i < bs.length := by simpa using hi
    have := h bs[i] (List.getElem_mem hi)
    simp [hi]
    exact this
theorem range_any {n : Nat} {bs : List Bool} (h : bs.length = n) : (List.range n).any (fun i => bs.getD i false) = bs.any id := by
  subst h
  rw [Bool.eq_iff_iff, List.any_eq_true, List.any_eq_true]
  constructor
  · rintro ⟨i, hi, e⟩
    have hi : i < bs.length := by simpa using hi
    refine ⟨bs[i], List.getElem_mem hi, ?_⟩
    simp [hi] at e
    exact e
  · rintro ⟨b, hb, e⟩
    obtain ⟨i, hi, e'⟩ := List.getElem_of_mem hb
    refine ⟨i, by simpa using hi, ?_⟩
    simp [hi, e']
    exact e
theorem call_all (hc : X.calm = true) : CallR X (.builtin "all") (fun xs H Q => ∃ (p : Addr) (bs : List Bool), xs = [.ref p] ∧ SqL X.K H p (bs.map V.bl) ∧ Q (.bl (bs.all id)) H) := by
  intro pins s σ H xs us Q I r h
  obtain ⟨p, bs, rfl, hp, q⟩ := h
  obtain ⟨u, rfl, ru⟩ := vals1 r
  cases ru
  obtain ⟨its, rv, pl, hz⟩ := I.list hp
  have hlt : p < s.heap.objs.size := by obtain ⟨o, n, e, _⟩ := pl; exact Heap.lt_size e
  have hl := rv.length
  rw [List.length_map] at hl
  refine call_all_walk (wpAny_pyIter_list pl.isList ?_)
  refine ⟨s.heap.objs.size, _, _, _, _, _, fun i => bs.getD i false, rfl, Walks.list (A := X.A.in1) (show X.A.in1.handled = none from I.ok.hd hc) s.heap.objs.size p (Nat.ne_of_lt hlt) its.toArray, ⟨⟨_, Heap.get?_push_size _ rfl, rfl, rfl⟩, Heap.IsList.push pl.isList _⟩, truth_bools (by simpa using rv), fun h' tk hk => ?_⟩
  rw [range_all (by simpa using hl)]
  exact ⟨.bl _, H, I.kept (t' := tk) (fun b o e => hk b o (by simpa using (Nat.ne_of_lt (Heap.lt_size e))) (Heap.get?_push_of_some _ e)), rfl, q⟩
theorem call_any (hc : X.calm = true) : CallR X (.builtin "any") (fun xs H Q => ∃ (p : Addr) (bs : List Bool), xs = [.ref p] ∧ SqL X.K H p (bs.map V.bl) ∧ Q (.bl (bs.any id)) H) := by
  intro pins s σ H xs us Q I r h
  obtain ⟨p, bs, rfl, hp, q⟩ := h
  obtain ⟨u, rfl, ru⟩ := vals1 r
  cases ru
  obtain ⟨its, rv, pl, hz⟩ := I.list hp
  have hlt : p < s.heap.objs.size := by obtain ⟨o, n, e, _⟩ := pl; exact Heap.lt_size e
  have hl := rv.length
  rw [List.length_map] at hl
  refine call_any_walk (wpAny_pyIter_list pl.isList ?_)
  refine ⟨s.heap.objs.size, _, _, _, _, _, fun i => bs.getD i false, rfl, Walks.list (A := X.A.in1) (show X.A.in1.handled = none from I.ok.hd hc) s.heap.objs.size p (Nat.ne_of_lt hlt) its.toArray, ⟨⟨_, Heap.get?_push_size _ rfl, rfl, rfl⟩, Heap.IsList.push pl.isList _⟩, truth_bools (by simpa using rv), fun h' tk hk => ?_⟩
  rw [range_any (by simpa using hl)]
  exact ⟨.bl _, H, I.kept (t' := tk) (fun b o e => hk b o (by simpa using (Nat.ne_of_lt (Heap.lt_size e))) (Heap.get?_push_of_some _ e)), rfl, q⟩
end
end L2
namespace L2
open PySem PySem.Spec PyProof.Rows
open PySem.AutoSeq1 (wpAny_loadPart')
section
variable {prog : Program} {w : World} {A : Around} {E : Value → Shared → Prop} {s : Shared}
end
theorem Inv.turnedNew {X : Cx} {pins : List (Addr × Obj)} {σ : St} {H : Hp} {s : Shared} {ch : List Addr} {p : Addr} {o : HO} {h' : Heap} {t' : Nat} (I : Inv X pins σ H s) (k : ∀ b u, b ∉ ch → s.heap.get? b = some u → h'.get? b = some u)
    (hp : s.heap.objs.size ≤ p) (new : ObjOk X.prog X.w (upd H p o) h' p o) (hf : ∀ b ∈ ch, FpOk X pins H b) : Inv X pins σ (upd H p o) { s with heap := h', toks := t' } := by
  have hn : H p = none := I.hok.fresh hp
  have nc : ∀ b u, H b = some u → b ∉ ch := fun b u e z => by rw [(hf b z).1] at e; cases e
  refine I.step (g' := s.gens) (d' := s.drawn) (ch := ch) (fun b hb => ?_) (fun b u _ _ hc e _ => k b u hc e) (fun b u _ _ hc e _ => ⟨u.slots, k b u hc e⟩) (fun b u _ e n => ?_) (fun b u hc e => ⟨u, k b u hc e⟩)
    (fun b xs e => ?_) (fun b u xs e => ?_) (fun b ps e => ⟨#[], ?_⟩) (fun m hm => ?_) (fun b u e => ?_) I.bare
  · obtain ⟨_, f1, _, f3, f4, f5⟩ := hf b hb
    exact ⟨f3, f1, f4, f5⟩
  · rw [upd_ne (Nat.ne_of_lt (Nat.lt_of_lt_of_le (Heap.lt_size e) hp))]; exact n
  · rw [upd_ne (ne_of_none e hn)]; exact e
  · rw [upd_ne (ne_of_none e hn)]; exact e
  · rw [upd_ne (ne_of_none e hn), e]; simp
  · obtain ⟨ob, es, ep, ho, r⟩ := hm
    exact ⟨ob, es, ep, k _ ob (fun z => (hf _ z).2.1 rfl) ho, r⟩
  · by_cases hb : b = p
    · subst hb; rw [upd_same] at e; cases e; exact new
    · rw [upd_ne hb] at e
      refine (I.hok b u e).stay (fun c v hc q => k c v ?_ q) (fun c q => by rw [upd_ne (ne_of_none q hn)]; exact q) fun c xs q => by rw [upd_ne (ne_of_none q hn)]; exact q
      rcases hc with z | z
      · rw [z]; exact nc b u e
      · exact nc c _ z
theorem Inv.turnedL {X : Cx} {pins : List (Addr × Obj)} {σ : St} {H : Hp} {s : Shared} {ch : List Addr} {h' : Heap} {t' : Nat} (I : Inv X pins σ H s) (k : ∀ b u, b ∉ ch → s.heap.get? b = some u → h'.get? b = some u)
    (hf : ∀ b ∈ ch, FpOk X pins H b) : Inv X pins σ H { s with heap := h', toks := t' } := by
  have nc : ∀ b u, H b = some u → b ∉ ch := fun b u e z => by rw [(hf b z).1] at e; cases e
  refine I.step (g' := s.gens) (d' := s.drawn) (ch := ch) (fun b hb => ?_) (fun b u _ _ hc e _ => k b u hc e) (fun b u _ _ hc e _ => ⟨u.slots, k b u hc e⟩) (fun b u _ e n => n) (fun b u hc e => ⟨u, k b u hc e⟩)
    (fun b xs e => e) (fun b u xs e => e) (fun b ps e => ⟨#[], by rw [e]; simp⟩) (fun m hm => ?_) (fun b u e => ?_) I.bare
  · obtain ⟨_, f1, _, f3, f4, f5⟩ := hf b hb
    exact ⟨f3, f1, f4, f5⟩
  · obtain ⟨ob, es, ep, ho, r⟩ := hm
    exact ⟨ob, es, ep, k _ ob (fun z => (hf _ z).2.1 rfl) ho, r⟩
  · refine (I.hok b u e).stay (fun c v hc q => k c v ?_ q) (fun c q => q) fun c xs q => q
    rcases hc with z | z
    · rw [z]; exact nc b u e
    · exact nc c _ z
end L2
namespace L2
open PySem PySem.Spec PyProof.Rows
section
variable {X : Cx} {elts : List Expr} {tk : Nat} {tp : Pos}
noncomputable def Itz (K : PySem.W.Frag) (a b : Addr) : It :=
  ⟨fun i H => ∃ xs ys x y, SqL K H a xs ∧ SqL K H b ys ∧ xs[i]? = some x ∧ ys[i]? = some y,
   fun i H v H' => ∃ p x y, v = .ref p ∧ H p = none ∧ (∀ xs, SqL K H a xs → xs[i]? = some x) ∧ (∀ ys, SqL K H b ys → ys[i]? = some y) ∧ H' = upd H p (.tup [x, y]),
   fun i H => ∃ xs ys, SqL K H a xs ∧ SqL K H b ys ∧ (xs.length ≤ i ∨ ys.length ≤ i)⟩
theorem ne_cls {h : Heap} {a b : Addr} {o u : Obj} {x y : String} (ha : h.get? a = some o) (hb : h.get? b = some u) (hx : o.cls = .type x) (hy : u.cls = .type y) (hxy : x ≠ y) : a ≠ b := by
  intro e
  subst e
  rw [ha] at hb
  cases hb
  rw [hx] at hy
  injection hy with hy
  exact hxy hy
theorem turn_zip {P : Program} {w : World} {K : PySem.W.Frag} (a b z TI TO i1 i2 : Addr) (D : TI ≠ z ∧ TO ≠ z ∧ i1 ≠ z ∧ i2 ≠ z ∧ TI ≠ TO ∧ TI ≠ i1 ∧ TI ≠ i2 ∧ TO ≠ i1 ∧ TO ≠ i2 ∧ i1 ≠ i2) :
    Turn P w K (.Tuple elts tk tp) (Itz K a b) [z, TI, TO, i1, i2] z (fun i h => IsZip h z TI TO .none ∧ IsPair h TI (.ref i1) (.ref i2) ∧ (∃ u v, IsPair h TO u v) ∧ h.IsListIter i1 a i ∧ h.IsListIter i2 b i) where
  mem := by simp
  obj := fun i h st c hc => by
    obtain ⟨hz, hTI, ⟨u, v, hTO⟩, ⟨o1, e1, c1, d1⟩, ⟨o2, e2, c2, d2⟩⟩ := st
    simp at hc
    rcases hc with q | q | q | q | q
    · rw [q]; exact ⟨_, hz, fun v z => by cases z⟩
    · rw [q]; exact ⟨_, hTI, fun v z => by cases z⟩
    · rw [q]; exact ⟨_, hTO, fun v z => by cases z⟩
    · rw [q]; exact ⟨_, e1, fun v z => by rw [d1] at z; cases z⟩
    · rw [q]; exact ⟨_, e2, fun v z => by rw [d2] at z; cases z⟩
  keep := fun i h h' st k => by
    obtain ⟨hz, hTI, ⟨u, v, hTO⟩, ⟨o1, e1, c1⟩, ⟨o2, e2, c2⟩⟩ := st
    exact ⟨k z (by simp) _ hz, k TI (by simp) _ hTI, ⟨u, v, k TO (by simp) _ hTO⟩, ⟨o1, k i1 (by simp) _ e1, c1⟩, ⟨o2, k i2 (by simp) _ e2, c2⟩⟩
  item := by
    intro X hP hw hK hc i pins s σ H E I hf st hg
    subst hP hw hK
    obtain ⟨hz, hTI, ⟨u, v, hTO⟩, h1, h2⟩ := st
    obtain ⟨xs, ys, x, y, hxs, hys, hx, hy⟩ := hg
    obtain ⟨its, rv, p, _⟩ := I.list hxs
    obtain ⟨itt, rw', p', _⟩ := I.list hys
    obtain ⟨ux, hux, rux⟩ := rv.get hx
    obtain ⟨uy, huy, ruy⟩ := rw'.get hy
    obtain ⟨d1, d2, d3, d4, d5, d6, d7, d8, d9, d10⟩ := D
    have Da : ∀ {l : Addr} {its : Array Value}, s.heap.IsList l its → l ≠ z ∧ l ≠ TO ∧ l ≠ i1 ∧ l ≠ i2 := fun {l its} hl => by
      obtain ⟨o, e, c, _⟩ := hl
      obtain ⟨o1, e1, c1, _⟩ := id h1
      obtain ⟨o2, e2, c2, _⟩ := id h2
      exact ⟨ne_cls e hz c rfl (by decide), ne_cls e hTO c rfl (by decide), ne_cls e e1 c c1 (by decide), ne_cls e e2 c c2 (by decide)⟩
    obtain ⟨a1, a2, a3, a4⟩ := Da p.isList
    obtain ⟨b1, b2, b3, b4⟩ := Da p'.isList
    refine wpAny_pyNext_zip_item ⟨d1, d2, d3, d4, d5, d6, d7, d8, d9, d10, a1, a2, a3, a4, b1, b2, b3, b4⟩ hz hTI hTO h1 h2 p.isList p'.isList (x := ux) (y := uy) (by simpa using hux) (by simpa using huy) fun h' q1 q2 q3 q4 q5 q6 hk => ?_
    refine ⟨_, rfl, wpAny_letOwnedTupleGo_zip q1 fun h2' hz2 hs2 => ?_⟩
    have zlt : z < s.heap.objs.size := Heap.lt_size hz
    have kk : ∀ c o, c ∉ [z, TO, i1, i2] → s.heap.get? c = some o → h2'.get? c = some o := fun c o hc q => by
      simp at hc
      exact (hs2.2 c hc.1).trans (hk c o hc.1 hc.2.1 hc.2.2.1 hc.2.2.2 q)
    have sub : ∀ c ∈ [z, TO, i1, i2], c ∈ [z, TI, TO, i1, i2] := fun c hc => by simp at hc ⊢; rcases hc with q | q | q | q <;> simp [q]
    have I1 : Inv X pins σ (upd H s.heap.objs.size (.tup [x, y])) { s with heap := h2', toks := s.toks } := by
      refine I.turnedNew (ch := [z, TO, i1, i2]) kk (Nat.le_refl _) ?_ (fun c hc => hf c (sub c hc))
      exact ⟨by show 2 ≤ sizeLine; decide, [ux, uy], 0, .cons rux (.cons ruy .nil), (hs2.2 _ (Nat.ne_of_gt zlt)).trans q5⟩
    have up : ∀ {c : Addr} {o : Obj}, c ≠ z → h'.get? c = some o → h2'.get? c = some o := fun {c o} hc q => (hs2.2 c hc).trans q
    obtain ⟨o3, e3, c3⟩ := q3
    obtain ⟨o4, e4, c4⟩ := q4
    refine ⟨.ref s.heap.objs.size, _, I1, rfl, ⟨s.heap.objs.size, x, y, rfl, I.fresh, fun zs hz' => by rw [I.list_inj hz' hxs]; exact hx, fun zs hz' => by rw [I.list_inj hz' hys]; exact hy, rfl⟩, ⟨hz2, ?_, ⟨_, _, up d2 q2⟩, ⟨o3, up d3 e3, c3⟩, ⟨o4, up d4 e4, c4⟩⟩, fun c hc => ?_⟩
    · exact up d1 (hk TI _ d1 d5 d6 d7 hTI)
    · have c0 := (hf c hc).1
      have lt : c < s.heap.objs.size := by
        obtain ⟨o1, e1, _⟩ := id h1
        obtain ⟨o2, e2, _⟩ := id h2
        simp at hc
        rcases hc with q | q | q | q | q
        · rw [q]; exact zlt
        · rw [q]; exact Heap.lt_size hTI
        · rw [q]; exact Heap.lt_size hTO
        · rw [q]; exact Heap.lt_size e1
        · rw [q]; exact Heap.lt_size e2
      rw [upd_ne (Nat.ne_of_lt lt)]; exact c0
  done := by
    intro X hP hw hK hc i pins s σ H E I hf st hg
    subst hP hw hK
    obtain ⟨hz, hTI, ⟨u, v, hTO⟩, h1, h2⟩ := st
    obtain ⟨xs, ys, hxs, hys, hx⟩ := hg
    obtain ⟨its, rv, p, _⟩ := I.list hxs
    obtain ⟨itt, rw', p', _⟩ := I.list hys
    obtain ⟨d1, d2, d3, d4, d5, d6, d7, d8, d9, d10⟩ := D
    have Da : ∀ {l : Addr} {its : Array Value}, s.heap.IsList l its → l ≠ z ∧ l ≠ TO ∧ l ≠ i1 ∧ l ≠ i2 := fun {l its} hl => by
      obtain ⟨o, e, c, _⟩ := hl
      obtain ⟨o1, e1, c1, _⟩ := id h1
      obtain ⟨o2, e2, c2, _⟩ := id h2
      exact ⟨ne_cls e hz c rfl (by decide), ne_cls e hTO c rfl (by decide), ne_cls e e1 c c1 (by decide), ne_cls e e2 c c2 (by decide)⟩
    obtain ⟨a1, a2, a3, a4⟩ := Da p.isList
    obtain ⟨b1, b2, b3, b4⟩ := Da p'.isList
    have l1 := rv.length
    have l2 := rw'.length
    refine wpAny_pyNext_zip_end (I.ok.hd hc) ⟨d1, d2, d3, d4, d5, d6, d7, d8, d9, d10, a1, a2, a3, a4, b1, b2, b3, b4⟩ hz hTI hTO h1 h2 p.isList p'.isList ?_ fun h' hk => ⟨rfl, ?_⟩
    · rcases hx with q | q
      · left; simp; lia
      · right; simp; lia
    · refine I.turnedL (ch := [z, TO, i1, i2]) (t' := s.toks) (fun c o hcc q => ?_) (fun c hcc => hf c ?_)
      · simp at hcc
        exact hk c o hcc.1 hcc.2.1 hcc.2.2.1 hcc.2.2.2 q
      · simp at hcc ⊢; rcases hcc with q | q | q | q <;> simp [q]
  self := fun A i s Q E st h => wpAny_pyIter_zip st.1 h
noncomputable def iZip (K : PySem.W.Frag) (ta : TA) : TI := fun σ H R => ta σ H fun vs H1 => ∃ a b : Addr, vs = [.ref a, .ref b] ∧ (∃ xs, SqL K H1 a xs) ∧ (∃ ys, SqL K H1 b ys) ∧ R (Itz K a b) H1
theorem pi_zip {a b : Expr} {ta : TA} {p pos : Pos} (hg : Gl X "zip") (hm : X.mg "zip" = none) (ha : PA X [a, b] ta) (hs : starEach [a, b] X.env = [(false, eval a X.env), (false, eval b X.env)] := by rfl) (hs2 : starEach [b] X.env = [(false, eval b X.env)] := by rfl) :
    PI X (.Tuple elts tk tp) (.Call (.Name "zip" p) [a, b] [] pos) (iZip X.K ta) := by
  intro pins s σ H R I h
  refine Call_ (ld_blt I hg hm boot_zip (PyProof.Rows.callWith_type1 (thn (ha pos pins s σ H _ I h) fun us s1 hz8 => ?_) (by rw [hs, hs2]) (by rw [hs2]; rfl)))
  obtain ⟨vs, H1, I1, r1, q1⟩ := hz8
  obtain ⟨a, b, e, ⟨xs, hq⟩, ⟨ys, hq'⟩, q⟩ := q1
  subst e
  obtain ⟨u, v, rfl, ru, rv'⟩ := vals2 r1
  cases ru
  cases rv'
  obtain ⟨its, rv, pl, hz⟩ := I1.list hq
  obtain ⟨its2, rv2, pl2, hz2⟩ := I1.list hq'
  refine call_zip_2 pl.isList pl2.isList fun h' z1 z2 z3 z4 z5 z6 hk => wpAny_pyIter_zip z1 ?_
  have I2 : Inv X pins σ H1 { s1 with heap := h' } := I1.kept (t' := s1.toks) hk
  refine ⟨s1.heap.objs.size + 4, [s1.heap.objs.size + 4, s1.heap.objs.size + 2, s1.heap.objs.size + 3, s1.heap.objs.size, s1.heap.objs.size + 1], _, _, H1, rfl, I2,
    turn_zip a b (s1.heap.objs.size + 4) (s1.heap.objs.size + 2) (s1.heap.objs.size + 3) s1.heap.objs.size (s1.heap.objs.size + 1) (by refine ⟨?_, ?_, ?_, ?_, ?_, ?_, ?_, ?_, ?_, ?_⟩ <;> (show @Ne Nat _ _; lia)), ⟨z1, z2, ⟨_, _, z3⟩, z4, z5⟩, fun c hb => ?_, q⟩
  have hb' : s1.heap.objs.size ≤ c := by
    simp only [List.mem_cons, List.not_mem_nil, or_false] at hb
    rcases hb with q | q | q | q | q <;> (have q : @Eq Nat c _ := q; lia)
  exact I1.fpOk hb' (I1.hok.fresh hb')
end
theorem for_zip {K : PySem.W.Frag} {a b : Addr} {xs ys : List V} {g : TG} {tb : TS} {D : Ends} {σ : St} {H : Hp} (hlen : xs.length = ys.length) (Pv : Nat → St → Hp → Prop) (h0 : Pv 0 σ H) (hl : ∀ i σ H, i ≤ xs.length → Pv i σ H → SqL K H a xs ∧ SqL K H b ys)
    (hs : ∀ i x y p σ H, xs[i]? = some x → ys[i]? = some y → Pv i σ H → H p = none → g (.ref p) σ (upd H p (.tup [x, y])) fun σ2 H2 => tb { D with nx := Pv (i + 1), ct := Pv (i + 1), bk := D.nx } σ2 H2) (hd : ∀ σ H, Pv xs.length σ H → D.nx σ H) :
    ∃ W : Nat → Nat → St → Hp → Prop, (∃ m, W 0 m σ H) ∧ ∀ i m σ H, W i m σ H →
      ((Itz K a b).stop i H ∧ D.nx σ H) ∨ ((Itz K a b).go i H ∧ ∃ N : St → Hp → Prop, (∀ σ' H', N σ' H' → ∃ m', m' < m ∧ W (i + 1) m' σ' H') ∧ ∀ x H', (Itz K a b).yld i H x H' → g x σ H' fun σ2 H2 => tb { D with nx := N, ct := N, bk := D.nx } σ2 H2) := by
  refine ⟨fun i m σ H => m = xs.length - i ∧ i ≤ xs.length ∧ Pv i σ H, ⟨xs.length, by simp, Nat.zero_le _, h0⟩, ?_⟩
  rintro i m σ H ⟨rfl, hi, p⟩
  obtain ⟨q, q'⟩ := hl i σ H hi p
  by_cases hlt : i < xs.length
  · refine .inr ⟨⟨xs, ys, xs[i], ys[i]'(by lia), q, q', by simp [hlt], by simp [show i < ys.length by lia]⟩, Pv (i + 1), fun σ' H' p' => ⟨xs.length - (i + 1), by lia, rfl, hlt, p'⟩, fun x H' y => ?_⟩
    obtain ⟨c, z, z', rfl, hb, hz, hz', rfl⟩ := y
    exact hs i z z' c σ H (hz xs q) (hz' ys q') p hb
  · have e : i = xs.length := by lia
    subst e
    exact .inl ⟨⟨xs, ys, q, q', .inl (Nat.le_refl _)⟩, hd σ H p⟩
theorem comp_zip {K : PySem.W.Frag} {a b l : Addr} {xs zs : List V} {ix : List (Option Nat)} {g : TG} {te : TE} {σ : St} {H0 : Hp} {Qe : Hp → Prop} (hlen : xs.length = zs.length) (Pv : Nat → List V → Hp → Prop) (h0 : Pv 0 [] H0) (hl : ∀ i ys H, i ≤ xs.length → Pv i ys H → SqL K H a xs ∧ SqL K H b zs) (hz : xs.length ≤ sizeLine)
    (hn : ∀ i ys H, Pv i ys H → ys.length = i)
    (hs : ∀ i x y p ys H, xs[i]? = some x → zs[i]? = some y → Pv i ys H → H l = some (.lst ys) → H p = none → g (.ref p) (compSt ix σ) (upd H p (.tup [x, y])) fun σ2 H2 => te σ2 H2 fun v H3 => H3 l = some (.lst ys) ∧ Pv (i + 1) (ys ++ [v]) (upd H3 l (.lst (ys ++ [v]))))
    (hd : ∀ ys H, Pv xs.length ys H → H l = some (.lst ys) → Qe H) : compW ix (Itz K a b) g te σ l H0 Qe := by
  refine comp_by (n := xs.length) Pv h0 (fun i ys H hi p hy => ?_) fun ys H p hy => ⟨⟨xs, zs, (hl _ ys H (Nat.le_refl _) p).1, (hl _ ys H (Nat.le_refl _) p).2, .inl (Nat.le_refl _)⟩, hd ys H p hy⟩
  obtain ⟨q, q'⟩ := hl i ys H (Nat.le_of_lt hi) p
  refine ⟨⟨xs, zs, xs[i], zs[i]'(by lia), q, q', by simp [hi], by simp [show i < zs.length by lia]⟩, by rw [hn i ys H p]; exact Nat.lt_of_lt_of_le hi hz, fun x H' y => ?_⟩
  obtain ⟨c, z, z', rfl, hb, hz, hz', rfl⟩ := y
  exact hs i z z' c ys H (hz xs q) (hz' zs q') p hy hb
end L2
namespace L2
open PySem PySem.Spec PyProof.Rows
open PySem.AutoSeq1 (wpAny_loadPart')
inductive D where
  | non | bl (b : Bool) | int (i : Int) | str (x : Str) | tup (ds : List D) | lst (ds : List D)
mutual
noncomputable def Dr (K : PySem.W.Frag) (H : Hp) : D → V → Prop
  | .non, v => v = .non
  | .bl b, v => v = .bl b
  | .int i, v => v = .int i
  | .str x, v => v = .str x
  | .tup ds, v => ∃ (a : Addr) (vs : List V), v = .ref a ∧ H a = some (.tup vs) ∧ DrL K H ds vs
  | .lst ds, v => ∃ (a : Addr) (vs : List V), v = .ref a ∧ SqL K H a vs ∧ DrL K H ds vs
noncomputable def DrL (K : PySem.W.Frag) (H : Hp) : List D → List V → Prop
  | [], vs => vs = []
  | d :: ds, vs => ∃ v r, vs = v :: r ∧ Dr K H d v ∧ DrL K H ds r
end
theorem Same.tupl {K : PySem.W.Frag} {H H' : Hp} {a : Addr} {xs : List V} (s : Same H H') (h : SqT K H a xs) : SqT K H' a xs := by
  rcases h with (h | ⟨o, h⟩) | h
  · exact .inl (.inl (s _ _ h))
  · exact .inl (.inr ⟨o, s _ _ h⟩)
  · exact .inr h
mutual
theorem Dr.mono {K : PySem.W.Frag} {H H' : Hp} (s : Same H H') : ∀ {d : D} {v : V}, Dr K H d v → Dr K H' d v
  | .non, _, h => by simp only [Dr] at h ⊢; exact h
  | .bl _, _, h => by simp only [Dr] at h ⊢; exact h
  | .int _, _, h => by simp only [Dr] at h ⊢; exact h
  | .str _, _, h => by simp only [Dr] at h ⊢; exact h
  | .tup ds, _, h => by
    simp only [Dr] at h ⊢
    obtain ⟨a, vs, e, q, r⟩ := h
    exact ⟨a, vs, e, s _ _ q, DrL.mono s r⟩
  | .lst ds, _, h => by
    simp only [Dr] at h ⊢
    obtain ⟨a, vs, e, q, r⟩ := h
    exact ⟨a, vs, e, s.seq q, DrL.mono s r⟩
theorem DrL.mono {K : PySem.W.Frag} {H H' : Hp} (s : Same H H') : ∀ {ds : List D} {vs : List V}, DrL K H ds vs → DrL K H' ds vs
  | [], _, h => by simp only [DrL] at h ⊢; exact h
  | d :: ds, _, h => by
    simp only [DrL] at h ⊢
    obtain ⟨v, r, e, q, q'⟩ := h
    exact ⟨v, r, e, Dr.mono s q, DrL.mono s q'⟩
end
theorem DrL.length {K : PySem.W.Frag} {H : Hp} : ∀ {ds : List D} {vs : List V}, DrL K H ds vs → ds.length = vs.length
  | [], _, h => by simp only [DrL] at h; subst h; rfl
  | d :: ds, _, h => by
    simp only [DrL] at h
    obtain ⟨v, r, rfl, _, q⟩ := h
    rw [List.length_cons, List.length_cons, DrL.length q]
theorem DrL.get {K : PySem.W.Frag} {H : Hp} : ∀ {ds : List D} {vs : List V} {i : Nat} {d : D}, DrL K H ds vs → ds[i]? = some d → ∃ v, vs[i]? = some v ∧ Dr K H d v
  | [], _, _, _, _, e => by simp at e
  | d :: ds, _, 0, _, h, e => by
    simp only [DrL] at h
    obtain ⟨v, r, rfl, q, _⟩ := h
    simp at e; subst e
    exact ⟨v, rfl, q⟩
  | d :: ds, _, i + 1, d', h, e => by
    simp only [DrL] at h
    obtain ⟨v, r, rfl, _, q⟩ := h
    obtain ⟨v', h1, h2⟩ := DrL.get (i := i) q (by simpa using e)
    exact ⟨v', by simpa using h1, h2⟩
theorem DrL.append {K : PySem.W.Frag} {H : Hp} : ∀ {ds es : List D} {vs us : List V}, DrL K H ds vs → DrL K H es us → DrL K H (ds ++ es) (vs ++ us)
  | [], _, _, _, h, h' => by simp only [DrL] at h; subst h; exact h'
  | d :: ds, es, _, us, h, h' => by
    simp only [DrL] at h
    obtain ⟨v, r, rfl, q, q'⟩ := h
    show DrL K H (d :: (ds ++ es)) (v :: (r ++ us))
    simp only [DrL]
    exact ⟨v, _, rfl, q, DrL.append q' h'⟩
theorem DrL.one {K : PySem.W.Frag} {H : Hp} {d : D} {v : V} (h : Dr K H d v) : DrL K H [d] [v] := by
  simp only [DrL]; exact ⟨v, [], rfl, h, rfl⟩
theorem DrL.nil {K : PySem.W.Frag} {H : Hp} : DrL K H [] [] := by simp only [DrL]
theorem DrL.cons {K : PySem.W.Frag} {H : Hp} {d : D} {v : V} {ds : List D} {vs : List V} (h : Dr K H d v) (h' : DrL K H ds vs) : DrL K H (d :: ds) (v :: vs) := by
  simp only [DrL]; exact ⟨v, vs, rfl, h, h'⟩
theorem DrL.ints {K : PySem.W.Frag} {H : Hp} : ∀ (ns : List Int), DrL K H (ns.map D.int) (ns.map V.int)
  | [] => DrL.nil
  | n :: r => DrL.cons (by simp only [Dr]) (DrL.ints r)
theorem DrL.ints_inv {K : PySem.W.Frag} {H : Hp} : ∀ {ns : List Int} {vs : List V}, DrL K H (ns.map D.int) vs → vs = ns.map V.int
  | [], _, h => by simp only [List.map_nil, DrL] at h; rw [h]; rfl
  | n :: r, _, h => by
    simp only [List.map_cons, DrL] at h
    obtain ⟨v, w, rfl, q, q'⟩ := h
    simp only [Dr] at q
    subst q
    rw [DrL.ints_inv q', List.map_cons]
theorem Dr.tup {K : PySem.W.Frag} {H : Hp} {a : Addr} {ds : List D} {vs : List V} (h : H a = some (.tup vs)) (r : DrL K H ds vs) : Dr K H (.tup ds) (.ref a) := by
  simp only [Dr]; exact ⟨a, vs, rfl, h, r⟩
theorem Dr.lst {K : PySem.W.Frag} {H : Hp} {a : Addr} {ds : List D} {vs : List V} (h : H a = some (.lst vs)) (r : DrL K H ds vs) : Dr K H (.lst ds) (.ref a) := by
  simp only [Dr]; exact ⟨a, vs, rfl, SqL.of h, r⟩
theorem Dr.int {K : PySem.W.Frag} {H : Hp} (i : Int) : Dr K H (.int i) (.int i) := by simp only [Dr]
noncomputable abbrev D.its (ns : List Int) : D := .tup (ns.map D.int)
end L2
namespace L2
open PySem PySem.Spec PyProof.Rows
open PySem.SeqAt
mutual
noncomputable def D.eq : D → D → Bool
  | .non, .non => true
  | .bl a, .bl b => a == b
  | .int i, .int j => i == j
  | .str x, .str y => decide (x = y)
  | .tup a, .tup b => D.eqL a b
  | .lst a, .lst b => D.eqL a b
  | _, _ => false
noncomputable def D.eqL : List D → List D → Bool
  | [], [] => true
  | d :: ds, e :: es => D.eq d e && D.eqL ds es
  | _, _ => false
end
mutual
noncomputable def D.ok : D → D → Prop
  | .non, .non => True
  | .bl _, .bl _ => True
  | .int _, .int _ => True
  | .str _, .str _ => True
  | .tup a, .tup b => D.okL a b
  | .lst a, .lst b => D.okL a b
  | _, _ => False
noncomputable def D.okL : List D → List D → Prop
  | d :: ds, e :: es => D.ok d e ∧ D.okL ds es
  | _, _ => True
end
mutual
noncomputable def D.dep : D → Nat
  | .tup a => D.depL a + 1
  | .lst a => D.depL a + 1
  | _ => 0
noncomputable def D.depL : List D → Nat
  | [] => 0
  | d :: ds => max (D.dep d) (D.depL ds)
end
mutual
theorem D.eq_refl : ∀ d : D, D.eq d d = true
  | .non => by simp only [D.eq]
  | .bl b => by simp only [D.eq, beq_self_eq_true]
  | .int i => by simp only [D.eq, beq_self_eq_true]
  | .str x => by simp only [D.eq, decide_true]
  | .tup a => by simp only [D.eq]; exact D.eqL_refl a
  | .lst a => by simp only [D.eq]; exact D.eqL_refl a
theorem D.eqL_refl : ∀ ds : List D, D.eqL ds ds = true
  | [] => by simp only [D.eqL]
  | d :: ds => by simp only [D.eqL, D.eq_refl d, D.eqL_refl ds, Bool.and_self]
end
mutual
theorem D.eq_of : ∀ {d e : D}, D.eq d e = true → d = e
  | .non, e, h => by cases e <;> simp only [D.eq, Bool.false_eq_true] at h <;> rfl
  | .bl b, e, h => by cases e <;> simp only [D.eq, Bool.false_eq_true, beq_iff_eq] at h; rw [h]
  | .int b, e, h => by cases e <;> simp only [D.eq, Bool.false_eq_true, beq_iff_eq] at h; rw [h]
  | .str b, e, h => by cases e <;> simp only [D.eq, Bool.false_eq_true, decide_eq_true_eq] at h; rw [h]
  | .tup b, e, h => by
    cases e <;> simp only [D.eq, Bool.false_eq_true] at h
    rw [D.eqL_of h]
  | .lst b, e, h => by
    cases e <;> simp only [D.eq, Bool.false_eq_true] at h
    rw [D.eqL_of h]
theorem D.eqL_of : ∀ {d e : List D}, D.eqL d e = true → d = e
  | [], e, h => by cases e <;> simp only [D.eqL, Bool.false_eq_true] at h; rfl
  | d :: ds, e, h => by
    cases e <;> simp only [D.eqL, Bool.false_eq_true, Bool.and_eq_true] at h
    rw [D.eq_of h.1, D.eqL_of h.2]
end
theorem D.depL_get : ∀ {ds : List D} {j : Nat} {d : D}, ds[j]? = some d → D.dep d ≤ D.depL ds
  | [], _, _, h => by simp at h
  | _ :: _, 0, _, h => by
    simp at h; subst h; simp only [D.depL]; exact Nat.le_max_left _ _
  | _ :: ds, j + 1, _, h => by
    simp only [D.depL]
    exact Nat.le_trans (D.depL_get (ds := ds) (j := j) (by simpa using h)) (Nat.le_max_right _ _)
noncomputable def D.at_ (ds es : List D) (j : Nat) : Bool := match ds[j]?, es[j]? with | some d, some e => D.eq d e | _, _ => true
theorem D.all_eqL : ∀ (ds es : List D), (((List.range (min ds.length es.length)).all (D.at_ ds es)) && ds.length == es.length) = D.eqL ds es
  | [], [] => by simp [D.eqL]
  | [], e :: es => by simp [D.eqL]
  | d :: ds, [] => by simp [D.eqL]
  | d :: ds, e :: es => by
    have ih := D.all_eqL ds es
    simp only [D.eqL]
    rw [← ih]
    have e1 : min (d :: ds).length (e :: es).length = min ds.length es.length + 1 := by simp only [List.length_cons]; lia
    rw [e1, List.range_succ_eq_map, List.all_cons, List.all_map, Bool.and_assoc]
    have e2 : D.at_ (d :: ds) (e :: es) 0 = D.eq d e := by simp [D.at_]
    have e3 : (D.at_ (d :: ds) (e :: es) ∘ Nat.succ) = D.at_ ds es := by funext j; simp [D.at_]
    have e4 : ((d :: ds).length == (e :: es).length) = (ds.length == es.length) := by simp
    rw [e2, e3, e4]
section
variable {X : Cx} {pins : List (Addr × Obj)} {σ : St} {H : Hp} {s : Shared}
end
end L2
namespace L2
open PySem PySem.Spec PyProof.Rows PySem.SeqAt
open PySem.AutoSeq1 (wpAny_loadPart')
section
variable {X : Cx}
end
end L2
namespace L2
open PySem PySem.Spec PyProof.Rows
section
variable {X : Cx} (K : PySem.W.Frag)
theorem ixL (h : X.K = K) : IxR X (rIxL K) := h ▸ ix_list
theorem ixT (h : X.K = K) : IxR X (rIxT K) := h ▸ ix_tup
theorem cTup (h : X.K = K) : CallR X (.type "tuple") (fun xs H Q => ∃ p ys, xs = [.ref p] ∧ ((SqL K H p ys ∧ ∀ l, H l = none → Q (.ref l) (upd H l (.tup ys))) ∨ (SqT K H p ys ∧ Q (.ref p) H))) := h ▸ call_tuple_of
theorem piT {tg l : Expr} {tl : TE} (h : X.K = K) (hl : PE X l tl) : PI X tg l (iTup K tl) := h ▸ pi_tup hl
variable {o e : Expr} {es : List Expr} {to : TE} {t : TA} {name : Str} {apos cpos : Pos} {T id : String} {r : V → List V → Hp → VK → Prop}
theorem cAll (h : X.K = K) (hc : X.calm = true) : CallR X (.builtin "all") (fun xs H Q => ∃ (p : Addr) (bs : List Bool), xs = [.ref p] ∧ SqL K H p (bs.map V.bl) ∧ Q (.bl (bs.all _root_.id)) H) := h ▸ call_all hc
theorem cAny (h : X.K = K) (hc : X.calm = true) : CallR X (.builtin "any") (fun xs H Q => ∃ (p : Addr) (bs : List Bool), xs = [.ref p] ∧ SqL K H p (bs.map V.bl) ∧ Q (.bl (bs.any _root_.id)) H) := h ▸ call_any hc
theorem pgT {es : List Expr} {k : Nat} {t : TGs} {n : Nat} {pos : Pos} (h : X.K = K) (hc : X.calm = true) (hp : PGs X es t)
    (hn : (assignEach es X.env).length = n := by rfl) (hst : (assignEach es X.env).findIdx? (·.1) = none := by rfl) : PG X (.Tuple es k pos) (gTup K n t) := h ▸ pg_tup hc hp hn hst
theorem piZip {elts : List Expr} {tk : Nat} {tp : Pos} {a b : Expr} {ta : TA} {p pos : Pos} (h : X.K = K) (hg : Gl X "zip") (hm : X.mg "zip" = none) (ha : PA X [a, b] ta) (hs : starEach [a, b] X.env = [(false, eval a X.env), (false, eval b X.env)] := by rfl) (hs2 : starEach [b] X.env = [(false, eval b X.env)] := by rfl) :
    PI X (.Tuple elts tk tp) (.Call (.Name "zip" p) [a, b] [] pos) (iZip K ta) := h ▸ pi_zip hg hm ha hs hs2
inductive TyS (K : PySem.W.Frag) (H : Hp) : V → Value → Prop where
  | of {x : V} {t : Value} (h : TyOf K H x t) : TyS K H x t
  | tup {a : Addr} {xs : List V} (h : SqT K H a xs) : TyS K H (.ref a) (.type "tuple")
  | lst {a : Addr} {xs : List V} (h : SqL K H a xs) : TyS K H (.ref a) (.type "list")
theorem cIsS (c : String) (hK : X.K = K) : CallR X (.builtin "isinstance") (fun xs H Q => ∃ x t b, xs = [x, .ty c] ∧ TyS K H x t ∧ PySem.W.kitOne K t (.type c) = some b ∧ Q (.bl b) H) := by
  subst hK
  intro pins s σ H xs us Q I r h
  obtain ⟨x, t, b, rfl, ty, k, q⟩ := h
  obtain ⟨u, w', rfl, ru, rw'⟩ := vals2 r
  cases rw'
  cases ty with
  | of ty => exact isinst_ok I ru ty k fun tk => ⟨.bl b, H, I.tok tk, rfl, q⟩
  | tup ht =>
    cases ru
    obtain ⟨_, _, ⟨o, h1, h2, _⟩, _⟩ := I.tuple ht
    exact PySem.W.kia_one PySem.W.kitx_tuple I.kIn ⟨o, h1, h2⟩ k (fun z => nomatch z) fun tk => ⟨.bl b, H, I.tok tk, rfl, q⟩
  | lst ht =>
    cases ru
    obtain ⟨_, _, ⟨o, n, h1, h2, _⟩, _⟩ := I.list ht
    exact PySem.W.kia_one PySem.W.kitx_list I.kIn ⟨o, h1, h2⟩ k (fun z => nomatch z) fun tk => ⟨.bl b, H, I.tok tk, rfl, q⟩
noncomputable def tIsi (K : PySem.W.Frag) (c : String) (te : TE) : TE := tCB (fun xs H Q => ∃ x t b, xs = [x, .ty c] ∧ TyS K H x t ∧ PySem.W.kitOne K t (.type c) = some b ∧ Q (.bl b) H) (tCons te (tCons (tC (.ty c)) tNil))
theorem pIsi {x : Str} {c : String} {p q cpos : Pos} {te : TE} (hK : X.K = K) (he : PE X e te) (mi : X.mg "isinstance" = none) (mc : X.mg x = none) (hb : bootBuiltins x = some (.type c)) (hg : Gl X "isinstance" := by rfl) (hgc : Gl X x := by rfl)
    (hn : x ≠ "__name__" := by decide) (hd : (x == ("__debug__" : Str)) = false := by decide)
    (hs : starEach [e, .Name x q] X.env = (false, eval e X.env) :: starEach [.Name x q] X.env := by rfl) (hpl : (backTo cpos (starEach [.Name x q] X.env)).any (·.1) = false := by rfl) :
    PE X (.Call (.Name "isinstance" p) [e, .Name x q] [] cpos) (tIsi K c te) :=
  pe_callB (cIsS K c hK) hg mi boot_isinstance (pa_cons he (pa_cons (pe_bltn (v := .ty c) hgc mc hb rfl hn hd) pa_nil) hs) (by decide) (by decide) hs hpl
end
mutual
noncomputable def D.few : D → Prop
  | .tup a => a.length ≤ 5000 ∧ D.fewL a
  | .lst a => a.length ≤ 5000 ∧ D.fewL a
  | _ => True
noncomputable def D.fewL : List D → Prop
  | [] => True
  | d :: ds => D.few d ∧ D.fewL ds
end
theorem D.fewL_get : ∀ {ds : List D} {j : Nat} {d : D}, D.fewL ds → ds[j]? = some d → D.few d
  | [], _, _, _, h => by simp at h
  | _ :: _, 0, _, h, e => by
    simp only [D.fewL] at h
    simp at e; subst e; exact h.1
  | _ :: _, j + 1, _, h, e => by
    simp only [D.fewL] at h
    exact D.fewL_get h.2 (by simpa using e)
theorem D.fewL_ints : ∀ ns : List Int, D.fewL (ns.map D.int)
  | [] => by simp only [List.map_nil, D.fewL]
  | n :: r => by simp only [List.map_cons, D.fewL, D.few]; exact ⟨trivial, D.fewL_ints r⟩
theorem D.depL_ints : ∀ ns : List Int, D.depL (ns.map D.int) = 0
  | [] => by simp only [List.map_nil, D.depL]
  | n :: r => by simp only [List.map_cons, D.depL, D.dep, D.depL_ints r]; rfl
end L2
namespace Gu
open PySem L2
noncomputable def cell (ns : List Int) (i : Nat) : Int := if i < ns.length then ns.getD i 0 else if ns.length = 0 then 29 * i + 5 else ns.getD (i % ns.length) 0 % 1000003 + 103 * i
noncomputable def letters (ns : List Int) (i : Nat) : Int := 2 + cell ns i % 4
theorem letters_ge (ns : List Int) (i : Nat) : 2 ≤ letters ns i := by unfold letters; have := Int.emod_nonneg (cell ns i) (show (4 : Int) ≠ 0 by decide); lia
theorem letters_le (ns : List Int) (i : Nat) : letters ns i ≤ 5 := by unfold letters; have := Int.emod_lt_of_pos (cell ns i) (show (0 : Int) < 4 by decide); lia
noncomputable def letN (ns : List Int) (i : Nat) : Nat := (letters ns i).toNat
theorem letN_ge (ns : List Int) (i : Nat) : 2 ≤ letN ns i := by unfold letN; have := letters_ge ns i; lia
theorem letN_le (ns : List Int) (i : Nat) : letN ns i ≤ 5 := by unfold letN; have := letters_le ns i; lia
theorem letN_int (ns : List Int) (i : Nat) : ((letN ns i : Nat) : Int) = 2 + cell ns i % 4 := by unfold letN; have := letters_ge ns i; unfold letters at *; lia
noncomputable def iota (n : Nat) : List Int := (List.range n).map fun (i : Nat) => (i : Int)
theorem iota_len (n : Nat) : (iota n).length = n := by simp [iota]
theorem iota_get {n i : Nat} (h : i < n) : (iota n)[i]? = some (i : Int) := by simp [iota, h]
theorem mem_iota {n : Nat} {x : Int} : x ∈ iota n ↔ 0 ≤ x ∧ x < n := by
  constructor
  · intro h
    obtain ⟨i, hi, rfl⟩ := List.mem_map.mp h
    have := List.mem_range.mp hi
    lia
  · intro ⟨h0, h1⟩
    exact List.mem_map.mpr ⟨x.toNat, List.mem_range.mpr (by lia), by lia⟩
theorem iota_nodup (n : Nat) : (iota n).Nodup := by
  unfold iota
  rw [List.nodup_iff_pairwise_ne, List.pairwise_map]
  exact List.Pairwise.imp (fun h => by lia) List.nodup_range
theorem rint_iota (n : Nat) : rint 0 n = (iota n).map V.int := by
  unfold rint iota
  rw [List.map_map]
  refine List.map_congr_left fun i _ => ?_
  simp
theorem cons_erase_perm : ∀ (l : List Int) (i : Nat) (h : i < l.length), (l[i] :: l.eraseIdx i).Perm l
  | [], _, h => by simp at h
  | a :: r, 0, _ => List.Perm.refl _
  | a :: r, i + 1, h => by
    have ih := cons_erase_perm r i (by simpa using h)
    show (r[i]'(by simpa using h) :: a :: r.eraseIdx i).Perm (a :: r)
    exact (List.Perm.swap _ _ _).trans (ih.cons a)
noncomputable def rear : Nat → Int → List Int → List Int
  | 0, _, _ => []
  | k + 1, p, left => left.getD (p % (left.length : Int)).toNat 0 :: rear k (p / (left.length : Int)) (left.eraseIdx (p % (left.length : Int)).toNat)
noncomputable def rearr (pick : Int) (n : Nat) : List Int := rear n pick (iota n)
theorem rear_perm : ∀ (k : Nat) (p : Int) (left : List Int), left.length = k → (rear k p left).Perm left
  | 0, _, left, h => by
    have : left = [] := List.length_eq_zero_iff.mp h
    subst this
    exact List.Perm.refl _
  | k + 1, p, left, h => by
    have hpos : (0 : Int) < left.length := by lia
    have h0 := Int.emod_nonneg p (show (left.length : Int) ≠ 0 by lia)
    have h1 := Int.emod_lt_of_pos p hpos
    have hi : (p % (left.length : Int)).toNat < left.length := by lia
    unfold rear
    have e : left.getD (p % (left.length : Int)).toNat 0 = left[(p % (left.length : Int)).toNat] := by simp [hi]
    rw [e]
    have ih := rear_perm k (p / (left.length : Int)) (left.eraseIdx (p % (left.length : Int)).toNat) (by rw [List.length_eraseIdx_of_lt hi]; lia)
    exact (ih.cons _).trans (cons_erase_perm _ _ hi)
theorem rearr_perm (pick : Int) (n : Nat) : (rearr pick n).Perm (iota n) := rear_perm n pick (iota n) (iota_len n)
noncomputable def IsP (n : Nat) (p : List Int) : Prop := p.Perm (iota n)
theorem IsP.len {n : Nat} {p : List Int} (h : IsP n p) : p.length = n := by rw [List.Perm.length_eq h, iota_len]
noncomputable def turn (one other : List Int) : List Int := one.map fun x => other.getD x.toNat 0
noncomputable def back (p : List Int) : List Int := (iota p.length).map fun k => ((p.idxOf k : Nat) : Int)
end Gu
namespace L2
open PySem PySem.Spec PyProof.Rows PySem.SeqAt
noncomputable instance : DecidableEq D := fun a b => if h : D.eq a b = true then isTrue (D.eq_of h) else isFalse fun e => h (by rw [e]; exact D.eq_refl b)
theorem D.dec (a b : D) : decide (a = b) = D.eq a b := by
  by_cases h : D.eq a b = true
  · rw [decide_eq_true (D.eq_of h), h]
  · rw [decide_eq_false (fun e => h (by rw [e]; exact D.eq_refl b)), Bool.eq_false_iff.mpr h]
mutual
noncomputable def Hd (h : Heap) : D → Value → Prop
  | .int i, v => ∃ t, v = .int i t
  | .tup ds, v => ∃ (a : Addr) (o : Obj) (its : Array Value) (n : Nat), v = .ref a ∧ h.get? a = some o ∧ o.cls = .type "tuple" ∧ o.data = .seq its n ∧ HdL h ds its.toList
  | _, _ => False
noncomputable def HdL (h : Heap) : List D → List Value → Prop
  | [], vs => vs = []
  | d :: ds, vs => ∃ v r, vs = v :: r ∧ Hd h d v ∧ HdL h ds r
end
mutual
noncomputable def D.hash : D → Int
  | .int i => hashInt i
  | .tup ds => reduceHash (Builtin.Tuple.tupleHashOf (D.hashL ds))
  | _ => 0
noncomputable def D.hashL : List D → List Int
  | [] => []
  | d :: ds => D.hash d :: D.hashL ds
end
mutual
noncomputable def D.draws : D → Nat
  | .tup ds => D.drawsL ds + 1
  | _ => 1
noncomputable def D.drawsL : List D → Nat
  | [] => 0
  | d :: ds => D.draws d + D.drawsL ds
end
theorem D.hashL_app : ∀ a b : List D, D.hashL (a ++ b) = D.hashL a ++ D.hashL b
  | [], b => by simp only [List.nil_append, D.hashL]
  | d :: a, b => by simp only [List.cons_append, D.hashL, D.hashL_app a b]
theorem D.drawsL_app : ∀ a b : List D, D.drawsL (a ++ b) = D.drawsL a + D.drawsL b
  | [], b => by simp only [List.nil_append, D.drawsL, Nat.zero_add]
  | d :: a, b => by simp only [List.cons_append, D.drawsL, D.drawsL_app a b, Nat.add_assoc]
theorem HdL.length {h : Heap} : ∀ {ds : List D} {vs : List Value}, HdL h ds vs → ds.length = vs.length
  | [], _, h => by simp only [HdL] at h; subst h; rfl
  | d :: ds, _, h => by
    simp only [HdL] at h
    obtain ⟨v, r, rfl, _, q⟩ := h
    rw [List.length_cons, List.length_cons, HdL.length q]
theorem HdL.get {h : Heap} : ∀ {ds : List D} {vs : List Value} {i : Nat} {d : D}, HdL h ds vs → ds[i]? = some d → ∃ v, vs[i]? = some v ∧ Hd h d v
  | [], _, _, _, _, e => by simp at e
  | d :: ds, _, 0, _, h, e => by
    simp only [HdL] at h
    obtain ⟨v, r, rfl, q, _⟩ := h
    simp at e; subst e
    exact ⟨v, rfl, q⟩
  | d :: ds, _, i + 1, d', h, e => by
    simp only [HdL] at h
    obtain ⟨v, r, rfl, _, q⟩ := h
    obtain ⟨v', h1, h2⟩ := HdL.get (i := i) q (by simpa using e)
    exact ⟨v', by simpa using h1, h2⟩
mutual
theorem Hd.keep {h h' : Heap} (k : ∀ a o its n, h.get? a = some o → o.cls = .type "tuple" → o.data = .seq its n → h'.get? a = some o) : ∀ {d : D} {v : Value}, Hd h d v → Hd h' d v
  | .int _, _, q => by simp only [Hd] at q ⊢; exact q
  | .tup ds, _, q => by
    simp only [Hd] at q ⊢
    obtain ⟨a, o, its, n, e, h1, h2, h3, h4⟩ := q
    exact ⟨a, o, its, n, e, k a o its n h1 h2 h3, h2, h3, HdL.keep k h4⟩
  | .non, _, q => by simp only [Hd] at q
  | .bl _, _, q => by simp only [Hd] at q
  | .str _, _, q => by simp only [Hd] at q
  | .lst _, _, q => by simp only [Hd] at q
theorem HdL.keep {h h' : Heap} (k : ∀ a o its n, h.get? a = some o → o.cls = .type "tuple" → o.data = .seq its n → h'.get? a = some o) : ∀ {ds : List D} {vs : List Value}, HdL h ds vs → HdL h' ds vs
  | [], _, q => by simp only [HdL] at q ⊢; exact q
  | d :: ds, _, q => by
    simp only [HdL] at q ⊢
    obtain ⟨v, r, e, q1, q2⟩ := q
    exact ⟨v, r, e, Hd.keep k q1, HdL.keep k q2⟩
end
mutual
theorem Hd.inj {h : Heap} : ∀ {d e : D} {v : Value}, Hd h d v → Hd h e v → d = e
  | .int _, e, v, p, q => by
    simp only [Hd] at p
    obtain ⟨t, rfl⟩ := p
    cases e <;> simp only [Hd] at q
    · obtain ⟨t', e⟩ := q; injection e with e; rw [e]
    · obtain ⟨a, _, _, _, e, _⟩ := q; cases e
  | .tup ds, e, v, p, q => by
    simp only [Hd] at p
    obtain ⟨a, o, its, n, rfl, h1, h2, h3, h4⟩ := p
    cases e <;> simp only [Hd] at q
    · obtain ⟨t', e⟩ := q; cases e
    · obtain ⟨b, o', its', n', e, g1, g2, g3, g4⟩ := q
      cases e
      rw [h1] at g1; cases g1
      rw [h3] at g3; injection g3 with e1 _; subst e1
      rw [HdL.inj h4 g4]
  | .non, _, _, q, _ => by simp only [Hd] at q
  | .bl _, _, _, q, _ => by simp only [Hd] at q
  | .str _, _, _, q, _ => by simp only [Hd] at q
  | .lst _, _, _, q, _ => by simp only [Hd] at q
theorem HdL.inj {h : Heap} : ∀ {ds es : List D} {vs : List Value}, HdL h ds vs → HdL h es vs → ds = es
  | [], [], _, _, _ => rfl
  | [], _ :: _, _, p, q => by
    simp only [HdL] at p q
    obtain ⟨_, _, e, _⟩ := q; rw [p] at e; cases e
  | _ :: _, [], _, p, q => by
    simp only [HdL] at p q
    obtain ⟨_, _, e, _⟩ := p; rw [q] at e; cases e
  | d :: ds, e :: es, _, p, q => by
    simp only [HdL] at p q
    obtain ⟨v, r, rfl, p1, p2⟩ := p
    obtain ⟨u, w, eq, q1, q2⟩ := q
    cases eq
    rw [Hd.inj p1 q1, HdL.inj p2 q2]
end
section
variable {prog : Program} {w : World}
theorem hash_data : ∀ (n : Nat) {A : Around} {E : Value → Shared → Prop} {s : Shared} {d : D} {v : Value} {Q : Int → Shared → Prop}, D.dep d ≤ n → A.units + n < cLine → Hd s.heap d v → Q (D.hash d) { s with toks := s.toks + D.draws d } → wpAny (model prog w) A (pyHash v) Q E s := by
  intro n
  induction n with
  | zero =>
    intro A E s d v Q hd hu hv h
    cases d <;> simp only [Hd] at hv <;> simp only [D.dep, Nat.le_zero, Nat.add_eq_zero_iff, Nat.one_ne_zero, and_false] at hd
    obtain ⟨t, rfl⟩ := hv
    exact wpAny_pyHash_int h
  | succ n ih =>
    intro A E s d v Q hd hu hv h
    cases d with
    | int i =>
      simp only [Hd] at hv
      obtain ⟨t, rfl⟩ := hv
      exact wpAny_pyHash_int h
    | tup ds =>
      simp only [Hd] at hv
      simp only [D.dep] at hd
      obtain ⟨a, o, its, m, rfl, ho, hc, hdd, hi⟩ := hv
      have hT : s.TypeIs (.ref a) "tuple" := ⟨o, ho, hc⟩
      have hin : A.in1.units + n < cLine := by show A.units + 1 + n < cLine; lia
      unfold pyHash
      first | unfold pyHashByItsType | skip
      first | refine wpAny_bind (wpAny_cRoomFor_or (.inr (show A.units < cLine by lia)) ?_) | skip
      refine wpAny_bind (wpAny_specialOf hT F.slot_tuple_hash.lookup ?_)
      show wpAny _ _ (if (some (Value.builtin "tuple.__hash__") == some Value.none) = true
        then _ else _) Q E s
      rw [if_neg (by rw [beq_builtin_none]; exact Bool.false_ne_true)]
      refine wpAny_bind (wpAny_specialOf hT F.slot_tuple_hash.lookup ?_)
      show wpAny _ _ (callSpecialIfBoundUnlessNone? (.ref a) "__hash__" _
        >>= _) Q E s
      refine wpAny_bind (wpAny_callSpecialIfBoundUnlessNone?_slot hT F.slot_tuple_hash (wpAny_call_entry F.slot_tuple_hash
        hT F.entry_tuple_hash ?_ (F.args_tuple_hash_1 _)))
      show wpAny _ _ (Builtin.Tuple.tupleItemsOf (.ref a) >>= _) _ _ s
      refine wpAny_bind (wpAny_tupleItemsOf ho hdd (wpAny_bind ?_))
      rw [← Array.forIn_toList]
      refine wpAny_forIn_list _ (fun rest (b : Array Int) s' => ∃ done left, ds = done ++ left ∧ HdL s.heap left rest ∧ b.toList = D.hashL done ∧ s' = { s with toks := s.toks + D.drawsL done }) _ ?_ ?_ _ _ ⟨[], ds, rfl, hi, by simp only [D.hashL], by simp only [D.drawsL, Nat.add_zero]⟩
      · rintro x rest b s' ⟨done, left, e, hl, hb, rfl⟩
        cases left with
        | nil => simp only [HdL] at hl; cases hl
        | cons k ks =>
          simp only [HdL] at hl
          obtain ⟨v', r, ev, q1, q2⟩ := hl
          cases ev
          have hk : D.dep k ≤ n := by
            have z : ds[done.length]? = some k := by rw [e]; simp
            have := D.depL_get z
            lia
          refine wpAny_bind (ih hk hin q1 ?_)
          have fin : ∃ done' left', ds = done' ++ left' ∧ HdL s.heap left' rest ∧ (b.push (D.hash k)).toList = D.hashL done' ∧ ({ s with toks := s.toks + D.drawsL done + D.draws k } : Shared) = { s with toks := s.toks + D.drawsL done' } :=
            ⟨done ++ [k], ks, by rw [e]; simp, q2, by rw [D.hashL_app, ← hb]; simp [D.hashL], by rw [D.drawsL_app]; simp only [D.drawsL, Nat.add_zero, Nat.add_assoc]⟩
          first
            | exact wpAny_pure fin
            | exact wpAny_bind (wpAny_pure (wpAny_pure fin))
      · rintro b s' ⟨done, left, e, hl, hb, rfl⟩
        cases left with
        | cons k ks => simp only [HdL] at hl; obtain ⟨_, _, e, _⟩ := hl; cases e
        | nil =>
          rw [List.append_nil] at e
          subst e
          show wpAny _ _ (retInt (Builtin.Tuple.tupleHashOf b.toList))
            _ _ _
          rw [hb]
          refine wpAny_ret_mkInt ?_
          show wpAny _ _ (if (decide (-(2 : Int) ^ 63 ≤ Builtin.Tuple.tupleHashOf (D.hashL ds)) && decide (Builtin.Tuple.tupleHashOf (D.hashL ds) < 2 ^ 63)) = true then _ else _) Q E _
          simp only [D.hash] at h
          unfold reduceHash at h
          simp only [D.draws] at h
          by_cases hr : (decide (-(2 : Int) ^ 63 ≤ Builtin.Tuple.tupleHashOf (D.hashL ds)) && decide (Builtin.Tuple.tupleHashOf (D.hashL ds) < 2 ^ 63)) = true
          · rw [if_pos hr]
            rw [if_pos hr] at h
            exact wpAny_pure (by simpa [Nat.add_assoc] using h)
          · rw [if_neg hr]
            rw [if_neg hr] at h
            exact wpAny_bind (wpAny_rule (wpAny_pure (by simpa [Nat.add_assoc] using h)))
    | non => simp only [Hd] at hv
    | bl _ => simp only [Hd] at hv
    | str _ => simp only [Hd] at hv
    | lst _ => simp only [Hd] at hv
end
end L2
namespace L2
open PySem PySem.Spec PyProof.Rows PySem.SeqAt
section
variable {prog : Program} {w : World}
theorem eq_data {s : Shared} : ∀ (n : Nat) (A : Around) {d e : D} {v u : Value}, D.dep d ≤ n → A.units + n < cLine → Hd s.heap d v → Hd s.heap e u → EqAt A s v u (D.eq d e) := by
  intro n
  induction n with
  | zero =>
    intro A d e v u hd hu hv hx
    cases d <;> simp only [Hd] at hv <;> simp only [D.dep, Nat.le_zero, Nat.add_eq_zero_iff, Nat.one_ne_zero, and_false] at hd
    obtain ⟨t, rfl⟩ := hv
    cases e <;> simp only [Hd] at hx
    · obtain ⟨t', rfl⟩ := hx
      simp only [D.eq]
      exact EqAt.int_int _ _ _ _
    · obtain ⟨a, o, its, m, rfl, ho, hc, hdd, hi⟩ := hx
      simp only [D.eq]
      exact EqAt.int_tuple _ _ (items := its) ⟨o, ho, hc, m, hdd⟩ (by lia)
  | succ n ih =>
    intro A d e v u hd hu hv hx
    have hin : A.in1.units + n < cLine := by show A.units + 1 + n < cLine; lia
    cases d with
    | int i => exact ih A (Nat.zero_le _) (by lia) hv hx
    | tup ds =>
      simp only [Hd] at hv
      simp only [D.dep] at hd
      obtain ⟨a, o, its, m, rfl, ho, hc, hdd, hi⟩ := hv
      have ta : s.heap.IsTuple a its := ⟨o, ho, hc, m, hdd⟩
      cases e with
      | int j =>
        simp only [Hd] at hx
        obtain ⟨t', rfl⟩ := hx
        simp only [D.eq]
        exact EqAt.tuple_int _ _ ta (by lia)
      | tup es =>
        have inj : Value.ref a = u → D.tup ds = D.tup es := fun z => Hd.inj (h := s.heap) (v := u) (by rw [← z]; simp only [Hd]; exact ⟨a, o, its, m, rfl, ho, hc, hdd, hi⟩) hx
        simp only [Hd] at hx
        obtain ⟨b, o', its', m', rfl, ho', hc', hdd', hi'⟩ := hx
        have tb : s.heap.IsTuple b its' := ⟨o', ho', hc', m', hdd'⟩
        have e1 : its.size = ds.length := by have := hi.length; simp at this; lia
        have e2 : its'.size = es.length := by have := hi'.length; simp at this; lia
        have z := RcAt.tuples (A := A) (e := D.at_ ds es) ta tb (by lia) (fun j h1 h2 => by
          have g1 : ds[j]? = some ds[j] := List.getElem?_eq_getElem (by lia)
          have g2 : es[j]? = some es[j] := List.getElem?_eq_getElem (by lia)
          obtain ⟨x1, k1, q1⟩ := hi.get g1
          obtain ⟨x2, k2, q2⟩ := hi'.get g2
          have z1 : x1 = its[j] := by simp [h1] at k1; exact k1.symm
          have z2 : x2 = its'[j] := by simp [h2] at k2; exact k2.symm
          have z3 : D.at_ ds es j = D.eq ds[j] es[j] := by unfold D.at_; rw [g1, g2]
          rw [z3, ← z1, ← z2]
          exact ih A.in1 (Nat.le_trans (D.depL_get g1) (by lia)) hin q1 q2)
        rw [e1, e2, D.all_eqL] at z
        simp only [D.eq]
        by_cases hab : a = b
        · have := inj (by rw [hab])
          injection this with this
          subst this hab
          rw [D.eqL_refl]
          exact EqAt.same _
        · exact EqAt.of_refs hab z
      | non => simp only [Hd] at hx
      | bl _ => simp only [Hd] at hx
      | str _ => simp only [Hd] at hx
      | lst _ => simp only [Hd] at hx
    | non => simp only [Hd] at hv
    | bl _ => simp only [Hd] at hv
    | str _ => simp only [Hd] at hv
    | lst _ => simp only [Hd] at hv
theorem quiet_data {A : Around} {E : Value → Shared → Prop} {s : Shared} : ∀ (n : Nat) {d : D} {v : Value} {Q : Bool → Shared → Prop}, D.dep d ≤ n → Hd s.heap d v → Q true s → wpAny (model prog w) A (eqIsQuiet n v) Q E s := by
  have flat : ∀ (n : Nat) {i : Int} {t : Tok} {Q : Bool → Shared → Prop}, Q true s → wpAny (model prog w) A (eqIsQuiet n (.int i t)) Q E s := fun n i t Q h => by
    rw [eqIsQuiet_byValue n (v := .int i t) rfl]
    exact wpAny_pure h
  intro n
  induction n with
  | zero =>
    intro d v Q hd hv h
    cases d <;> simp only [Hd] at hv <;> simp only [D.dep, Nat.le_zero, Nat.add_eq_zero_iff, Nat.one_ne_zero, and_false] at hd
    obtain ⟨t, rfl⟩ := hv
    exact flat 0 h
  | succ n ih =>
    intro d v Q hd hv h
    cases d with
    | int i =>
      simp only [Hd] at hv
      obtain ⟨t, rfl⟩ := hv
      exact flat _ h
    | tup ds =>
      simp only [Hd] at hv
      simp only [D.dep] at hd
      obtain ⟨a, o, its, m, rfl, ho, hc, hdd, hi⟩ := hv
      have hT : s.TypeIs (.ref a) "tuple" := ⟨o, ho, hc⟩
      unfold eqIsQuiet
      refine wpAny_bind (wpAny_specialOf hT F.slot_tuple_eq.lookup ?_)
      show wpAny _ _ (isInstance (.ref a) (.type "tuple")
        >>= _) _ _ s
      refine wpAny_bind (wpAny_isInstance hT isSubtype_tuple_tuple ?_)
      simp only [Bool.not_true, Bool.false_eq_true, if_false]
      refine wpAny_bind (wpAny_seqItems ho hdd (wpAny_bind ?_))
      show wpAny _ _ (forIn its _ _) _ _ s
      rw [← Array.forIn_toList]
      refine wpAny_forIn_list _ (fun rest r s' => r.1 = none ∧ s' = s ∧ ∃ left, HdL s.heap left rest ∧ D.depL left ≤ n) _ ?_ ?_ _ _ ⟨rfl, rfl, ds, hi, by lia⟩
      · rintro x rest r s' ⟨hr, rfl, left, hl, hdl⟩
        cases left with
        | nil => simp only [HdL] at hl; cases hl
        | cons k ks =>
          simp only [HdL] at hl
          simp only [D.depL] at hdl
          obtain ⟨v', q, ev, q1, q2⟩ := hl
          cases ev
          refine wpAny_bind (ih (by lia) q1 ?_)
          simp only [Bool.not_true, Bool.false_eq_true, if_false]
          exact wpAny_pure ⟨rfl, rfl, ks, q2, by lia⟩
      · rintro ⟨r1, r2⟩ s' ⟨hr, rfl, _⟩
        simp only at hr
        subst hr
        exact wpAny_pure h
    | non => simp only [Hd] at hv
    | bl _ => simp only [Hd] at hv
    | str _ => simp only [Hd] at hv
    | lst _ => simp only [Hd] at hv
noncomputable def dataKind (prog : Program) (w : World) : HeapKind prog w D where
  is := fun h d a => Hd h d (.ref a) ∧ D.dep d ≤ 8
  hash := D.hash
  draws := D.draws
  room := fun A => A.units + 8 < cLine
  inj := fun hx hy => Hd.inj hx.1 hy.1
  keeps := fun {h h' k a d o es ep} hx ho hd hs => ⟨Hd.keep (fun b o' its n e c q => (hs.2 b (by
    rintro rfl
    rw [ho] at e; cases e; rw [hd] at q; cases q)).trans e) hx.1, hx.2⟩
  pyHash := fun hu hk h => hash_data 8 hk.2 hu hk.1 h
  eqBool := fun hu hx hy h => by
    rw [D.dec] at h
    exact eq_data 8 _ hx.2 hu hx.1 hy.1 _ _ _ _ h
  quiet := fun hk h => quiet_data 8 hk.2 hk.1 h
end
mutual
noncomputable def D.key : D → Prop
  | .int _ => True
  | .tup ds => D.keyL ds
  | _ => False
noncomputable def D.keyL : List D → Prop
  | [] => True
  | d :: ds => D.key d ∧ D.keyL ds
end
section
variable {P : Program} {w : World} {K : PySem.W.Frag} {H : Hp} {h : Heap}
mutual
theorem Dr.hd (ok : HOk P w H h) : ∀ {d : D} {v : V} {u : Value}, D.key d → Dr K H d v → RelV v u → Hd h d u
  | .int i, v, u, _, q, r => by
    simp only [Dr] at q
    subst q
    simp only [Hd]
    exact r
  | .tup ds, v, u, k, q, r => by
    simp only [Dr] at q
    simp only [D.key] at k
    obtain ⟨a, vs, rfl, e, q⟩ := q
    cases r
    obtain ⟨_, its, n, rv, h1⟩ := ok a _ e
    simp only [Hd]
    exact ⟨a, _, its.toArray, n, rfl, h1, rfl, rfl, by simpa using DrL.hd ok k q rv⟩
  | .non, _, _, k, _, _ => by simp only [D.key] at k
  | .bl _, _, _, k, _, _ => by simp only [D.key] at k
  | .str _, _, _, k, _, _ => by simp only [D.key] at k
  | .lst _, _, _, k, _, _ => by simp only [D.key] at k
theorem DrL.hd (ok : HOk P w H h) : ∀ {ds : List D} {vs : List V} {us : List Value}, D.keyL ds → DrL K H ds vs → Vals vs us → HdL h ds us
  | [], vs, us, _, q, r => by
    simp only [DrL] at q
    subst q
    cases r
    simp only [HdL]
  | d :: ds, vs, us, k, q, r => by
    simp only [DrL] at q
    simp only [D.keyL] at k
    obtain ⟨v, z, rfl, q1, q2⟩ := q
    cases r with
    | cons r1 r2 =>
      simp only [HdL]
      exact ⟨_, _, rfl, Dr.hd ok k.1 q1 r1, DrL.hd ok k.2 q2 r2⟩
end
end
end L2
namespace L2
open PySem PySem.Spec PyProof.Rows PySem.SeqAt
noncomputable def dExt (P : Program) (w : World) (a : Addr) (xs : List (D × Addr × Value)) : HO :=
  .ext fun h => (a == sysModules) = false ∧ ∃ o es ep, h.get? a = some o ∧ o.ExactDict ∧ o.data = .dict es ep ∧ es.toList = xs.map (entryOfKey (dataKind P w))
noncomputable abbrev KDr (K : PySem.W.Frag) (H : Hp) : List (D × V) → List (D × Addr × Value) → Prop := Paired fun p q => p.1 = q.1 ∧ (D.key p.1 ∧ D.dep p.1 ≤ 8 ∧ Dr K H p.1 (.ref q.2.1)) ∧ RelV p.2 q.2.2
noncomputable def DD (P : Program) (w : World) (K : PySem.W.Frag) (H : Hp) (a : Addr) (kvs : List (D × V)) : Prop :=
  ∃ xs, H a = some (dExt P w a xs) ∧ KDr K H kvs xs ∧ (kvs.map (·.1)).Nodup ∧ kvs.length ≤ sizeLine
theorem KDr.val {K : PySem.W.Frag} {H : Hp} {kvs : List (D × V)} {xs : List (D × Addr × Value)} (r : KDr K H kvs xs) (k : D) : RelO (valV kvs k) ((atKey xs k).map (·.2)) := by
  induction r with
  | nil => exact True.intro
  | @cons p q ps qs h t ih =>
    obtain ⟨h1, _, h2⟩ := h
    by_cases e : p.1 = k
    · have e' : q.1 = k := h1.symm.trans e
      have b : atKey (q :: qs) k = some q.2 := by simp [atKey, List.find?_cons, e']
      rw [valV_pos e, b]
      exact h2
    · have e' : ¬ q.1 = k := fun z => e (h1.trans z)
      have b : atKey (q :: qs) k = atKey qs k := by simp [atKey, List.find?_cons, e']
      rw [valV_neg e, b]
      exact ih
theorem KDr.repl {K : PySem.W.Frag} {H : Hp} {kvs : List (D × V)} {xs : List (D × Addr × Value)} (r : KDr K H kvs xs) (k : D) {y : V} {u : Value} (ry : RelV y u) :
    KDr K H (kvs.map fun kv => if kv.1 = k then (kv.1, y) else kv) (xs.map (putAt k u)) := by
  induction r with
  | nil => exact .nil
  | @cons p q ps qs h t ih =>
    rw [List.map_cons, List.map_cons]
    refine .cons ?_ ih
    obtain ⟨h1, h2, h3⟩ := h
    unfold putAt
    by_cases e : p.1 = k
    · rw [if_pos e, if_pos (h1.symm.trans e)]
      exact ⟨h1, h2, ry⟩
    · rw [if_neg e, if_neg (fun z => e (h1.trans z))]
      exact ⟨h1, h2, h3⟩
theorem KDr.put {K : PySem.W.Frag} {H : Hp} {kvs : List (D × V)} {xs : List (D × Addr × Value)} (r : KDr K H kvs xs) (k : D) {b : Addr} {y : V} {u : Value} (hb : D.key k ∧ D.dep k ≤ 8 ∧ Dr K H k (.ref b)) (ry : RelV y u) :
    KDr K H (putK kvs k y) (storedH xs k b u) := by
  have e : (kvs.any fun kv => decide (kv.1 = k)) = (atKey xs k).isSome := by
    rw [valV_any, (r.val k).isSome_eq, Option.isSome_map]
  unfold putK storedH
  rw [e]
  by_cases q : (atKey xs k).isSome = true
  · rw [if_pos q, if_pos q]
    exact r.repl k ry
  · rw [if_neg q, if_neg q]
    exact Paired.snoc r ⟨rfl, hb, ry⟩
theorem KDr.keys {K : PySem.W.Frag} {H : Hp} {kvs : List (D × V)} {xs : List (D × Addr × Value)} (r : KDr K H kvs xs) : kvs.map (·.1) = xs.map (·.1) := by
  induction r with
  | nil => rfl
  | @cons p q ps qs h t ih => rw [List.map_cons, List.map_cons, ih, h.1]
theorem KDr.mono {K : PySem.W.Frag} {H H' : Hp} {kvs : List (D × V)} {xs : List (D × Addr × Value)} (r : KDr K H kvs xs) (f : ∀ d v, D.key d → Dr K H d v → Dr K H' d v) : KDr K H' kvs xs :=
  Paired.mapP r fun _ _ z => ⟨z.1, ⟨z.2.1.1, z.2.1.2.1, f _ _ z.2.1.1 z.2.1.2.2⟩, z.2.2⟩
theorem DD.mono {P : Program} {w : World} {K : PySem.W.Frag} {H H' : Hp} {a : Addr} {kvs : List (D × V)} (h : DD P w K H a kvs) (s : Same H H') : DD P w K H' a kvs := by
  obtain ⟨xs, e, r, n, z⟩ := h
  exact ⟨xs, s _ _ e, r.mono fun _ _ _ q => q.mono s, n, z⟩
mutual
theorem Dr.keyed {K : PySem.W.Frag} {H H' : Hp} (k : ∀ b xs, H b = some (.tup xs) → H' b = some (.tup xs)) : ∀ {d : D} {v : V}, D.key d → Dr K H d v → Dr K H' d v
  | .int _, _, _, h => by simp only [Dr] at h ⊢; exact h
  | .tup ds, _, q, h => by
    simp only [Dr] at h ⊢
    simp only [D.key] at q
    obtain ⟨a, vs, e, z, r⟩ := h
    exact ⟨a, vs, e, k _ _ z, DrL.keyed k q r⟩
  | .non, _, q, _ => by simp only [D.key] at q
  | .bl _, _, q, _ => by simp only [D.key] at q
  | .str _, _, q, _ => by simp only [D.key] at q
  | .lst _, _, q, _ => by simp only [D.key] at q
theorem DrL.keyed {K : PySem.W.Frag} {H H' : Hp} (k : ∀ b xs, H b = some (.tup xs) → H' b = some (.tup xs)) : ∀ {ds : List D} {vs : List V}, D.keyL ds → DrL K H ds vs → DrL K H' ds vs
  | [], _, _, h => by simp only [DrL] at h ⊢; exact h
  | d :: ds, _, q, h => by
    simp only [DrL] at h ⊢
    simp only [D.keyL] at q
    obtain ⟨v, r, e, q1, q2⟩ := h
    exact ⟨v, r, e, Dr.keyed k q.1 q1, DrL.keyed k q.2 q2⟩
end
section
variable {X : Cx} {pins : List (Addr × Obj)} {σ : St} {H : Hp} {s : Shared} {a : Addr} {kvs : List (D × V)} {K : PySem.W.Frag}
theorem DD.at (I : Inv X pins σ H s) (h : DD X.prog X.w K H a kvs) : (a == sysModules) = false ∧ ∃ xs, H a = some (dExt X.prog X.w a xs) ∧ KDr K H kvs xs ∧ s.heap.DictOfH (dataKind X.prog X.w) a xs := by
  obtain ⟨xs, e, r, n, z⟩ := h
  obtain ⟨⟨hs, o, es, ep, h1, h2, h3, h4⟩, _, _⟩ := I.hok a _ e
  refine ⟨hs, xs, e, r, o, es, ep, h1, h2, h3, h4, ?_, by rw [← r.keys]; exact n⟩
  have all : ∀ {l : List (D × V)} {m : List (D × Addr × Value)}, KDr K H l m → ∀ x ∈ m, (dataKind X.prog X.w).is s.heap x.1 x.2.1 := by
    intro l m q
    induction q with
    | nil => intro x hx; exact nomatch hx
    | @cons p q ps qs hq t ih =>
      intro x hx
      rcases List.mem_cons.mp hx with e | hx
      · subst e
        rw [← hq.1]
        exact ⟨Dr.hd I.hok hq.2.1.1 hq.2.1.2.2 rfl, hq.2.1.2.1⟩
      · exact ih x hx
  exact all r
theorem key_at (I : Inv X pins σ H s) {d : D} {b : Addr} (k : D.key d) (hd : D.dep d ≤ 8) (h : Dr K H d (.ref b)) : (dataKind X.prog X.w).is s.heap d b := ⟨Dr.hd I.hok k h rfl, hd⟩
noncomputable def KeyV (K : PySem.W.Frag) (H : Hp) (d : D) (y : V) : Prop := (∃ b, y = .ref b) ∧ D.key d ∧ D.dep d ≤ 8 ∧ Dr K H d y
variable {o i e f value : Expr} {pos pos' apos cpos : Pos} {td ty tv tx : TE}
noncomputable def tGetD (P : Program) (w : World) (K : PySem.W.Frag) (td ty : TE) : TE := fun σ H Q => td σ H fun x H1 => ty σ H1 fun y H2 => ∃ a kvs d v, x = .ref a ∧ DD P w K H2 a kvs ∧ KeyV K H2 d y ∧ valV kvs d = some v ∧ Q v H2
theorem pe_getD (hu : X.A.units + 9 < cLine) (ho : PE X o td) (hi : PE X i ty) (hs : NoSl i) : PE X (.Subscript o i pos) (tGetD X.prog X.w K td ty) := by
  intro pins s σ H Q I h
  refine subD_of PySem.F.slot_dict_getitem.lookup hs (thnE (ho pins s σ H _ I h) fun u s1 x H1 I1 rx q1 => thnE (hi pins s1 σ H1 _ I1 q1) fun iv s2 y H2 I2 ry hz9 => ?_)
  obtain ⟨a, kvs, d, v, ex, g, ⟨⟨b, eb⟩, k1, k2, k3⟩, hv, q2⟩ := hz9
  subst ex eb
  obtain rfl : u = Value.ref a := rx
  obtain rfl : iv = Value.ref b := ry
  obtain ⟨hsm, xs, e, r, dd⟩ := g.at I2
  obtain ⟨w', hw, rw'⟩ := RelO.some_of (v := v) (o := (atKey xs d).map (·.2)) (by rw [← hv]; exact r.val d)
  obtain ⟨p, hp, hp2⟩ := Option.map_eq_some_iff.mp hw
  refine ⟨dd.typeIs, wpAny_getItem_heap (show X.A.units + 1 + 8 < cLine by lia) (key_at I2 k1 k2 k3) dd hp ?_⟩
  rw [hp2]
  exact ⟨v, H2, I2.tok _, rw', q2⟩
noncomputable def tNotInD (P : Program) (w : World) (K : PySem.W.Frag) (ty td : TE) : TE := fun σ H Q => ty σ H fun y H1 => td σ H1 fun x H2 => ∃ a kvs d, x = .ref a ∧ DD P w K H2 a kvs ∧ KeyV K H2 d y ∧ Q (.bl (!(valV kvs d).isSome)) H2
theorem pc_notinD (hu : X.A.units + 9 < cLine) (hi : PE X i ty) (ho : PE X o td) : PC X .NotIn i o (tNotInD X.prog X.w K ty td) := by
  intro pins s σ H Q I h
  refine thnE (hi pins s σ H _ I h) fun iv s1 y H1 I1 ry q1 => thnE (ho pins s1 σ H1 _ I1 q1) fun u s2 x H2 I2 rx hz9 => ?_
  obtain ⟨a, kvs, d, ex, g, ⟨⟨b, eb⟩, k1, k2, k3⟩, q2⟩ := hz9
  subst ex eb
  obtain rfl : u = Value.ref a := rx
  obtain rfl : iv = Value.ref b := ry
  obtain ⟨hsm, xs, e, r, dd⟩ := g.at I2
  refine wpAny_notIn_heap (show X.A.units + 1 + 8 < cLine by lia) (key_at I2 k1 k2 k3) hsm dd ?_
  have q := (r.val d).isSome_eq
  rw [Option.isSome_map] at q
  rw [← q]
  exact ⟨.bl _, H2, I2.tok _, rfl, q2⟩
noncomputable def sPutD (P : Program) (w : World) (K : PySem.W.Frag) (td ty tv : TE) : TS := fun Dd σ H => tv σ H fun v H1 => td σ H1 fun x H2 => ty σ H2 fun y H3 => ∃ a kvs d, x = .ref a ∧ DD P w K H3 a kvs ∧ KeyV K H3 d y ∧ kvs.length < sizeLine ∧
  ∀ ob, DD P w K (upd H3 a ob) a (putK kvs d v) → Dd.nx σ (upd H3 a ob)
theorem dd_notup {P : Program} {w : World} (h : DD P w K H a kvs) : ∀ b xs, H b = some (.tup xs) → b ≠ a := fun b xs e z => by
  obtain ⟨ys, q, _⟩ := h
  rw [z, q] at e
  cases e
theorem ps_putD (hu : X.A.units + 9 < cLine) (ho : PE X o td) (hi : PE X i ty) (hv : PE X value tv) (hs : swapsWith value (some (.Subscript o i pos')) pos.line X.env = pure false := by rfl) :
    PS X (.Assign [.Subscript o i pos'] value pos) (sPutD X.prog X.w K td ty tv) := by
  intro pins s σ H D I h
  refine wpAny_Assign_Subscript (thnE (hv pins s σ H _ I h) fun r s1 v H1 I1 rv q1 => thnE (ho pins s1 σ H1 _ I1 q1) fun u s2 x H2 I2 rx q2 => thnE (hi pins s2 σ H2 _ I2 q2) fun iv s3 y H3 I3 ry hz9 => ?_) hs
  obtain ⟨a, kvs, d, ex, g, ⟨⟨b, eb⟩, k1, k2, k3⟩, hz, q3⟩ := hz9
  subst ex eb
  obtain rfl : u = Value.ref a := rx
  obtain rfl : iv = Value.ref b := ry
  obtain ⟨hsm, xs, e, rr, dd⟩ := g.at I3
  have hlen : xs.length ≤ sizeLine := by rw [← Paired.length rr]; exact Nat.le_of_lt hz
  have hl : (putK kvs d v).length ≤ sizeLine := by have := length_putK kvs d v; lia
  refine wpAny_setItem_heap (hsz := hlen) (show X.A.units + 1 + 8 < cLine by lia) (key_at I3 k1 k2 k3) dd fun h' dd' hsb => ?_
  obtain ⟨q, es, ep, hq, h2, h3, h4, _, h5⟩ := dd'
  have Iw : Inv X pins σ (upd H3 a (dExt X.prog X.w a (storedH xs d b r))) { s3 with heap := h', toks := s3.toks + (dataKind X.prog X.w).draws d } := by
    refine d_write I3 (by rw [e]; exact True.intro) hsb ⟨q, hq⟩ ⟨⟨hsm, q, es, ep, hq, h2, h3, h4⟩, ⟨q, hq⟩, fun h1 h2' p k => ?_⟩
    obtain ⟨p0, o1, es1, ep1, p1, p2, p3, p4⟩ := p
    exact ⟨p0, o1, es1, ep1, k _ p1, p2, p3, p4⟩
  have kt : ∀ c ys, H3 c = some (.tup ys) → upd H3 a (dExt X.prog X.w a (storedH xs d b r)) c = some (.tup ys) := fun c ys ec => by
    rw [upd_ne (dd_notup g c ys ec)]; exact ec
  refine ⟨σ, _, Iw, q3 _ ⟨_, upd_same, (rr.put d ⟨k1, k2, k3⟩ rv).mono fun d' v' kd q => q.keyed kt kd, ?_, hl⟩⟩
  have nd := h5
  have ek := (rr.put d ⟨k1, k2, k3⟩ rv).keys
  rw [ek]
  exact nd
noncomputable def tNewD (P : Program) (w : World) (K : PySem.W.Frag) : TE := fun _ H Q => ∀ p, H p = none → ∀ ob, DD P w K (upd H p ob) p [] → Q (.ref p) (upd H p ob)
theorem pe_newD : PE X (.Dict [] [] pos) (tNewD X.prog X.w K) := fun pins s σ H Q I h => by
  have hb : (s.heap.objs.size == sysModules) = false := beq_eq_false_iff_ne.mpr (Ne.symm (Nat.ne_of_lt I.big))
  refine wpAny_Dict_empty ⟨.ref s.heap.objs.size, _, I.laid (a := s.heap.objs.size) (o := dExt X.prog X.w s.heap.objs.size []) (t' := s.toks) (fun _ _ q => Heap.get?_push_of_some _ q) (Nat.le_refl _) ⟨⟨hb, _, #[], 0, Heap.get?_push_size _ rfl, ⟨rfl, rfl, rfl⟩, rfl, rfl⟩, ⟨_, Heap.get?_push_size _ rfl⟩, fun h1 h2 p k => ?_⟩, rfl, h _ I.fresh _ ⟨[], upd_same, .nil, List.nodup_nil, Nat.zero_le _⟩⟩
  obtain ⟨p0, o1, es1, ep1, p1, p2, p3, p4⟩ := p
  exact ⟨p0, o1, es1, ep1, k _ p1, p2, p3, p4⟩
noncomputable def tGet2D (P : Program) (w : World) (K : PySem.W.Frag) (td ty tx : TE) : TE := fun σ H Q => td σ H fun x H1 => ∃ a kvs0, x = .ref a ∧ DD P w K H1 a kvs0 ∧ ty σ H1 fun y H2 => tx σ H2 fun z H3 => ∃ kvs d, DD P w K H3 a kvs ∧ KeyV K H3 d y ∧ Q ((valV kvs d).getD z) H3
theorem pe_get2D (hu : X.A.units + 9 < cLine) (ho : PE X o td) (he : PE X e ty) (hf : PE X f tx) (m : M2 X o "get" apos e f cpos) : PE X (.Call (.Attribute o "get" apos) [e, f] [] cpos) (tGet2D X.prog X.w K td ty tx) := by
  intro pins s σ H Q I h
  refine wpAny_Call_method m.base m.few m.line PySem.F.plainAttrs_dict PySem.F.slot_dict_get PySem.F.type_dict_get (thnE (ho pins s σ H _ I h) fun u s1 x H1 I1 rx hz9 => ?_)
  obtain ⟨a, kvs0, ex, g0, q1⟩ := hz9
  subst ex
  obtain rfl : u = Value.ref a := rx
  obtain ⟨hsm, xs0, _, _, dd0⟩ := g0.at I1
  refine ⟨dd0.typeIs, fun b q => ?_, ?_⟩
  · cases q
    obtain ⟨ob, _, _, h1, h2, _⟩ := dd0
    exact ⟨ob, h1, h2.2.1⟩
  rw [m.trees]
  refine Calls.callWith_builtin rfl (Calls.evalArgs_plain (Calls.spliced_cons (thnE (he pins s1 σ H1 _ I1 q1) fun iv s2 y H2 I2 ry q2 =>
    Calls.spliced_cons (thn (hf pins s2 σ H2 _ I2 q2) fun fv s3 ⟨z, H3, I3, rz, kvs, d, g, ⟨⟨b, eb⟩, k1, k2, k3⟩, q3⟩ => Calls.spliced_nil ?_))))
  subst eb
  obtain rfl : iv = Value.ref b := ry
  obtain ⟨_, xs, _, r, dd⟩ := g.at I3
  refine call_meetsIn PySem.F.slot_dict_get dd.typeIs PySem.F.entry_dict_get (PySem.F.args_dict_get_3 _ _ _) (meetsH_dict_get_default (dataKind X.prog X.w) a b hsm fv) ⟨show X.A.units + 1 + 8 < cLine by lia, d, xs, key_at I3 k1 k2 k3, dd, ?_⟩
  exact ⟨_, H3, I3.tok _, (r.val d).getD rz, q3⟩
end
end L2
namespace L2
open PySem PySem.Spec PyProof.Rows PySem.SeqAt
open PySem.AutoSeq1 (wpAny_loadPart')
section
variable {X : Cx} (K : PySem.W.Frag)
theorem cLenD : CallR X (.builtin "len") (fun xs H Q => ∃ a kvs, xs = [V.ref a] ∧ DD X.prog X.w K H a kvs ∧ Q (.int kvs.length) H) := by
  intro pins s σ H xs us Q I r h
  obtain ⟨a, kvs, rfl, g, q⟩ := h
  obtain ⟨u, rfl, ru⟩ := vals1 r
  cases ru
  obtain ⟨hsm, xs, _, rr, dd⟩ := g.at I
  obtain ⟨o, es, ep, ho, hc, hdat, hes, _⟩ := id dd
  have hlen : es.size = kvs.length := by
    have : es.toList.length = xs.length := by rw [hes, List.length_map]
    rw [Paired.length rr, ← this]; simp
  have hz : kvs.length ≤ sizeLine := by obtain ⟨_, _, _, _, z⟩ := g; exact z
  have hz2 : (kvs.length : Int) < 2 ^ 63 := by have := line63; lia
  refine Calls.call_function_entry kind_len plain_len entry_len (args_len1 _) ?_
  unfold Builtin.«len»
  refine wpAny_bind (m := oneArg "len" _) (wpAny_pure ?_)
  refine wpAny_bind (m := callSpecial? (.ref a) (Str.ofString "__len__")) (wpAny_callSpecial?_slot (name := Str.ofString "__len__") dd.typeIs F.slot_dict_len
    (wpAny_call_entry F.slot_dict_len dd.typeIs F.entry_dict_len ?_ (F.args_dict_len_1 _)))
  show wpAny _ _ (dictSize a >>= _) _ _ s
  unfold dictSize
  refine wpAny_bind (wpAny_bind (wpAny_dictEntries ho hdat (wpAny_pure ?_)))
  show wpAny _ _ (Builtin.Dict.pendingCount a >>= _) _ _ s
  refine wpAny_bind (wpAny_pendingCount_other hsm ?_)
  refine wpAny_ret_mkInt ?_
  rw [Nat.add_zero, hlen]
  refine wpAny_bind (wpAny_holding (wpAny_pure ?_))
  refine wpAny_bind (wpAny_letGo ?_)
  show wpAny _ _ (if ((kvs.length : Nat) : Int) < 0
    then _ else _) _ _ _
  rw [if_neg (by lia)]
  show wpAny _ _ (if ((kvs.length : Nat) : Int) ≥ 2 ^ 63
    then _ else _) _ _ _
  rw [if_neg (by lia)]
  exact wpAny_bind (wpAny_mkInt (wpAny_pure ⟨_, rfl, .int kvs.length, H, I.tok _, ⟨_, rfl⟩, q⟩))
end
end L2
namespace L2
open PySem PySem.Spec PyProof.Rows PySem.SeqAt
open PySem.AutoSeq1 (wpAny_loadPart')
theorem int_items : ∀ {ns : List Int} {its : List Value}, Vals (ns.map V.int) its → ∃ xs : List (Int × Tok), its = xs.map (fun p => Value.int p.1 p.2) ∧ xs.map (·.1) = ns
  | [], _, r => by rw [List.map_nil] at r; cases r; exact ⟨[], rfl, rfl⟩
  | n :: ns, _, r => by
    rw [List.map_cons] at r
    cases r with
    | cons r rr =>
      obtain ⟨t, rfl⟩ := r
      obtain ⟨xs, rfl, e⟩ := int_items rr
      exact ⟨(n, t) :: xs, rfl, by rw [List.map_cons, e]⟩
section
variable {X : Cx} (K : PySem.W.Frag)
theorem cMax (hK : X.K = K) (hc : X.calm = true) : CallR X (.builtin "max") (fun xs H Q => ∃ (p : Addr) (ns : List Int) (M : Int), xs = [.ref p] ∧ SqL K H p (ns.map V.int) ∧ M ∈ ns ∧ (∀ a ∈ ns, a ≤ M) ∧ Q (.int M) H) := by
  subst hK
  intro pins s σ H xs us Q I r h
  obtain ⟨p, ns, M, rfl, hp, hM, hle, q⟩ := h
  obtain ⟨u, rfl, ru⟩ := vals1 r
  cases ru
  obtain ⟨its, rv, pl, hz⟩ := I.list hp
  obtain ⟨ys, rfl, ey⟩ := int_items rv
  have hne : 0 < ys.length := by
    have : 0 < ns.length := List.length_pos_of_mem hM
    rw [← ey, List.length_map] at this
    exact this
  have e1 : (ys.map fun p => Value.int p.1 p.2).toArray = intItems ys.toArray := by unfold intItems; simp
  have pl' := pl.isList
  rw [e1] at pl'
  refine max_intList (xs := ys.toArray) (I.ok.hd hc) pl' (by simpa using hne) fun v h' tk hv hk => ?_
  obtain ⟨t, rfl⟩ := intItems_at hv
  obtain ⟨h1, h2⟩ := argBest_gt (numAt ys.toArray) (ys.toArray.size - 1)
  have emem : ∀ j, j < ys.length → numAt ys.toArray j ∈ ns := fun j hj => by
    rw [numAt_eq]
    have : (ys.toArray.toList.map (·.1)) = ns := by simpa using ey
    rw [this]
    have hjn : j < ns.length := by rw [← ey, List.length_map]; exact hj
    simp [hjn]
  have hb : argBest (fun i j => decide (numAt ys.toArray i > numAt ys.toArray j)) (ys.toArray.size - 1) < ys.length := by
    have : ys.toArray.size = ys.length := by simp
    lia
  have eM : numAt ys.toArray (argBest (fun i j => decide (numAt ys.toArray i > numAt ys.toArray j)) (ys.toArray.size - 1)) = M := by
    refine Int.le_antisymm (hle _ (emem _ hb)) ?_
    obtain ⟨j, hj, e⟩ := List.getElem_of_mem hM
    have hjy : j < ys.length := by rw [← ey, List.length_map] at hj; exact hj
    have z := h2 j (by simp; lia)
    have e2 : numAt ys.toArray j = M := by
      rw [numAt_eq]
      have : (ys.toArray.toList.map (·.1)) = ns := by simpa using ey
      rw [this]
      simp [hj, e]
    rw [e2] at z
    exact z
  rw [eM]
  exact ⟨.int M, H, I.kept (t' := tk) hk, ⟨_, rfl⟩, q⟩
theorem noFill_tuple : fillsNumberSlot (.type "tuple") "mul" = pure false :=
  PySem.fillsNumberSlot_seq (id := "tuple.__mul__") (r := some (.builtin "tuple.__rmul__")) F.slot_tuple_mul.lookup (by decide +kernel) F.slot_tuple_rmul.lookup (by decide +kernel)
theorem repeat_tup : seqRepeat? (.type "tuple") = pure (some (.builtin "tuple.__mul__")) := by
  unfold seqRepeat?
  rw [PySem.seqSlot_of (T := "tuple") (name := "__mul__") (id := "tuple.__mul__") F.slot_tuple_mul.lookup (by decide +kernel), PySem.seqSlot_of (T := "tuple") (name := "__rmul__") (id := "tuple.__rmul__") F.slot_tuple_rmul.lookup (by decide +kernel)]
  rfl
theorem int_rmul_tup (a : Int) (t : Tok) (l : Addr) (its : Array Value) (n : Nat) :
    Meets (Builtin.«int.__rmul__» ⟨[.int a t, .ref l], []⟩) (fun _ R s => s.heap.get? l = some { cls := .type "tuple", dict := none, data := .seq its n, slots := #[] } ∧ R (.ok (.ret Value.notImplemented)) s) :=
  .of_wp fun prog w A R s h => by
    obtain ⟨hp, g, d, tk, os⟩ := s
    obtain ⟨hl, h⟩ := h
    wp_walk
    exact ⟨_, rfl, h⟩
theorem tup_mul (l : Addr) (its : List Value) (n : Nat) (k : Int) (t : Tok) (h2 : 2 ≤ k) (hk : k ≤ 1000) (hne : its ≠ []) (hz : its.length * k.toNat ≤ sizeLine) :
    Meets (Builtin.«tuple.__mul__» ⟨[.ref l, .int k t], []⟩) (fun _ R s => s.heap.get? l = some { cls := .type "tuple", dict := none, data := .seq its.toArray n, slots := #[] } ∧
      R (.ok (.ret (.ref s.heap.objs.size))) { s with heap := s.heap.push { cls := .type "tuple", data := .seq (List.replicate k.toNat its).flatten.toArray } }) :=
  .of_wp fun prog w A R s h => by
    obtain ⟨hp, g, d, tk, os⟩ := s
    obtain ⟨hl, h⟩ := h
    have hie : its.toArray.isEmpty = false := by cases its with | nil => exact absurd rfl hne | cons a r => simp
    have hcap : ¬ ((its.toArray.size : Int) * k > (2 ^ 63 - 1) / 8) := by
      have h1 : ((its.length * k.toNat : Nat) : Int) ≤ sizeLine := by lia
      have h3 : ((its.length * k.toNat : Nat) : Int) = (its.length : Int) * k := by rw [Int.natCast_mul]; congr 1; lia
      have h4 : (sizeLine : Int) ≤ (2 ^ 63 - 1) / 8 := by rw [sizeLine_eq]; decide
      simp only [List.size_toArray]
      lia
    wp_walk using wpAny_loadPart' hl
    refine wpAny_ite_split (fun hab => absurd hab (by simp; lia)) (fun _ => ?_)
    wp_walk using wpAny_loadPart' hl
    have hk1 : (k == 1) = false := by simpa using (show k ≠ 1 by lia)
    have hk0 : decide (k ≤ 0) = false := by simpa using (show ¬ k ≤ 0 by lia)
    refine wpAny_ite_split (fun hab => absurd hab (by rw [hie, hk1]; decide)) (fun _ => ?_)
    refine wpAny_ite_split (fun hab => absurd hab (by rw [hie, hk0]; decide)) (fun _ => ?_)
    refine wpAny_ite_split (fun hab => absurd hab hcap) (fun _ => ?_)
    have htm : Builtin.Tuple.tupleTooMany ((its.toArray.size : Int) * k) = false := by
      have h1 : ((its.length * k.toNat : Nat) : Int) ≤ sizeLine := by lia
      have h3 : ((its.length * k.toNat : Nat) : Int) = (its.length : Int) * k := by rw [Int.natCast_mul]; congr 1; lia
      unfold Builtin.Tuple.tupleTooMany
      simp only [List.size_toArray]
      exact decide_eq_false (by lia)
    refine wpAny_ite_split (fun hab => absurd hab (by rw [htm]; decide)) (fun _ => ?_)
    have hnew : List.foldl (fun x1 x2 => x1 ++ x2) #[] (List.replicate k.toNat its.toArray) = (List.replicate k.toNat its).flatten.toArray := by
      have q := foldl_rep its k.toNat []
      rw [List.nil_append] at q
      exact q
    rw [hnew]
    unfold Builtin.Tuple.tupleExact
    refine wpAny_bind (wpAny_newObj_type ?_ (by show (List.replicate k.toNat its).flatten.toArray.size ≤ sizeLine; rw [List.size_toArray, len_rep, Nat.mul_comm]; exact hz))
    exact wpAny_pure ⟨_, rfl, h⟩
theorem op_repT : OpR X (binaryOp .Mult) (fun x y H Q => ∃ (l : Addr) (k : Int) (xs : List V), x = .ref l ∧ y = .int k ∧ H l = some (.tup xs) ∧ xs ≠ [] ∧ 2 ≤ k ∧ k ≤ 1000 ∧ xs.length * k.toNat ≤ sizeLine ∧
    ∀ p, H p = none → Q (.ref p) (upd H p (.tup (List.replicate k.toNat xs).flatten))) := by
  intro pins s σ H x y v u Q I rx ry h
  obtain ⟨l, k, xs, rfl, rfl, hH, hne, h2, hk, hz, q⟩ := h
  cases rx
  obtain ⟨t, rfl⟩ := ry
  obtain ⟨z, its, n, r, e⟩ := I.hok l _ hH
  have hl := r.length
  have hne' : its ≠ [] := fun w => by subst w; exact hne (List.length_eq_zero_iff.mp (by simpa using hl))
  refine wpAny_binaryOp_repeat_ref (T := "tuple") (U := "int") (by decide) ⟨_, e, rfl⟩ (fun s' => typeIs_int s' k t) noFill_tuple F.fills_int_mul F.slot_int_rmul repeat_tup F.slot_int_index.lookup
    (call_meets F.slot_int_rmul (typeIs_int s k t) F.entry_int_rmul (F.args_int_rmul_2 _ _) (int_rmul_tup k t l its.toArray n)
      ⟨e, rfl, ⟨_, e, rfl⟩, call_meets F.slot_tuple_mul ⟨_, e, rfl⟩ F.entry_tuple_mul (F.args_tuple_mul_2 _ _) (tup_mul l its n k t h2 hk hne' (by rw [← hl]; exact hz)) ⟨e, ?_⟩⟩)
  exact ⟨.ref _, _, I.laid (o := .tup (List.replicate k.toNat xs).flatten) (t' := s.toks) (fun b u q => Heap.get?_push_of_some _ q) (Nat.le_refl _) ⟨by rw [len_rep, Nat.mul_comm]; exact hz, _, 0, r.rep k.toNat, Heap.get?_push_size _ rfl⟩, rfl, q _ I.fresh⟩
end
section
variable {X : Cx} (P : Program) (w : World) (K : PySem.W.Frag) {o i e f value : Expr} {pos pos' apos cpos : Pos} {td ty tv tx : TE}
theorem peGetD (hP : X.prog = P) (hw : X.w = w) (hu : X.A.units + 9 < cLine) (ho : PE X o td) (hi : PE X i ty) (hs : NoSl i) : PE X (.Subscript o i pos) (tGetD P w K td ty) := by
  subst hP hw
  exact pe_getD hu ho hi hs
end
end L2
namespace L2
open PySem PySem.Spec PyProof.Rows
class NoE (CX : CXT) : Prop where
  no : ∀ {outer : List Env} {H : Hp} {s : Shared} {e : Value} {s' : Shared}, ¬ CX outer H s E0 e s'
theorem passN {CX : CXT} [N : NoE CX] {X : Cx} : Passes CX X E0 := fun _ _ _ _ _ _ _ h => absurd h N.no
theorem Fun.okc {CX : CXT} {P : Program} {w : World} {K : PySem.W.Frag} {mg : Str → Option Value} {base : Heap} {x qual : Str} {st : Stmt} {f : Addr} {fd : FuncData} {N ps : List Str} {k : Nat} {sp : Sp} (F : Fun K x qual st f fd) (S : FnScope N ps (defScope st)) (len : ∀ vs H Q E, sp vs H Q E → vs.length = ps.length)
    (hbody : ∀ (cdv : Value) (A : Around) (outer : List Env) (s : Shared) (H : Hp) (vs : List V) (Q : VK) (E : XK), Room k (A.deeper (envOfC qual (defScope st) s.heap.objs.size f cdv)) → sp vs H Q E →
      ∃ t, PSs (cxOf CX P w K mg base N qual (defScope st) f cdv A outer s H E).nox (defBody st) t ∧ t { nx := fun _ H' => Q .non H', rt := Q } (start N vs) H) : FnOk P w K mg base CX (k + 1) f fd ps sp := by
  obtain ⟨oc, od, kV, doc, pm, an, cdv, ct, osl, rfl, lk, hcd⟩ := F.ex
  refine fn_of lk hcd S len fun A outer s H vs Q E hr hsp => ?_
  obtain ⟨t, h, q⟩ := hbody cdv A outer s H vs Q E hr hsp
  exact ⟨t, h.nox, q⟩
end L2
namespace L2
open PySem PySem.Spec PyProof.Rows
theorem PS.weak {X : Cx} {st : Stmt} {t : TS} (t' : TS) (h : PS X st t) (k : ∀ D σ H, t' D σ H → t D σ H) : PS X st t' := fun pins s σ H D I hw => h pins s σ H D I (k D σ H hw)
theorem PT.weak {X : Cx} {e : Expr} {t : TT} (t' : TT) (h : PT X e t) (k : ∀ σ H Q, t' σ H Q → t σ H Q) : PT X e t' := fun pins s σ H Q I hw => h pins s σ H Q I (k σ H Q hw)
noncomputable def tAny (Pre : St → Hp → Prop) : TT := fun σ H Q => Pre σ H ∧ ∀ c : Bool, Q c H
end L2
namespace Gu
open PySem L2
section
variable {α : Type} [DecidableEq α]
noncomputable def addN (o : List α) (g : α) : List α := if g ∈ o then o else o ++ [g]
noncomputable def addAll (o : List α) (gs : List α) : List α := gs.foldl addN o
noncomputable def uniq (ks : List α) : List α := addAll [] ks
noncomputable def numb (ks : List α) : List Int := ks.map fun k => (((uniq ks).idxOf k : Nat) : Int)
theorem addN_mem {o : List α} {g : α} (h : g ∈ o) : addN o g = o := if_pos h
theorem addN_new {o : List α} {g : α} (h : g ∉ o) : addN o g = o ++ [g] := if_neg h
theorem addN_has (o : List α) (g : α) : g ∈ addN o g := by
  by_cases h : g ∈ o
  · rw [addN_mem h]; exact h
  · rw [addN_new h]; simp
theorem addN_sub (o : List α) (g : α) : ∃ m, addN o g = o ++ m := by
  by_cases h : g ∈ o
  · exact ⟨[], by rw [addN_mem h]; simp⟩
  · exact ⟨[g], addN_new h⟩
theorem addAll_sub : ∀ (gs o : List α), ∃ m, addAll o gs = o ++ m
  | [], o => ⟨[], by simp [addAll]⟩
  | g :: gs, o => by
    obtain ⟨m1, e1⟩ := addN_sub o g
    obtain ⟨m2, e2⟩ := addAll_sub gs (addN o g)
    refine ⟨m1 ++ m2, ?_⟩
    show addAll (addN o g) gs = _
    rw [e2, e1, List.append_assoc]
theorem addAll_snoc (o gs : List α) (g : α) : addAll o (gs ++ [g]) = addN (addAll o gs) g := by
  unfold addAll
  rw [List.foldl_append]
  rfl
theorem addN_nodup {o : List α} {g : α} (h : o.Nodup) : (addN o g).Nodup := by
  by_cases hg : g ∈ o
  · rw [addN_mem hg]; exact h
  · rw [addN_new hg]
    exact nd_snoc h hg
theorem addAll_nodup : ∀ (gs o : List α), o.Nodup → (addAll o gs).Nodup
  | [], o, h => h
  | g :: gs, o, h => addAll_nodup gs (addN o g) (addN_nodup h)
theorem addN_mem_iff {o : List α} {g x : α} : x ∈ addN o g ↔ x ∈ o ∨ x = g := by
  by_cases hg : g ∈ o
  · rw [addN_mem hg]
    constructor
    · exact .inl
    · rintro (h | rfl)
      · exact h
      · exact hg
  · rw [addN_new hg]; simp
theorem addAll_mem : ∀ {gs o : List α} {x : α}, x ∈ addAll o gs ↔ x ∈ o ∨ x ∈ gs
  | [], o, x => by simp [addAll]
  | g :: gs, o, x => by
    have ih := addAll_mem (gs := gs) (o := addN o g) (x := x)
    show x ∈ addAll (addN o g) gs ↔ _
    rw [ih, addN_mem_iff, List.mem_cons]
    constructor
    · rintro ((h | h) | h)
      · exact .inl h
      · exact .inr (.inl h)
      · exact .inr (.inr h)
    · rintro (h | h | h)
      · exact .inl (.inl h)
      · exact .inl (.inr h)
      · exact .inr h
theorem addAll_len : ∀ (gs o : List α), (addAll o gs).length ≤ o.length + gs.length
  | [], o => by simp [addAll]
  | g :: gs, o => by
    have ih := addAll_len gs (addN o g)
    have h1 : (addN o g).length ≤ o.length + 1 := by
      by_cases hg : g ∈ o
      · rw [addN_mem hg]; lia
      · rw [addN_new hg]; simp
    show (addAll (addN o g) gs).length ≤ _
    rw [List.length_cons]; lia
theorem idxOf_app {o m : List α} {g : α} (h : g ∈ o) : (o ++ m).idxOf g = o.idxOf g := by
  rw [List.idxOf_append, if_pos h]
theorem nodup_nat : ∀ (n : Nat) (o : List Nat), o.Nodup → (∀ x ∈ o, x < n) → o.length ≤ n
  | 0, o, _, h => by
    cases o with
    | nil => simp
    | cons a r => exact absurd (h a (by simp)) (Nat.not_lt_zero _)
  | n + 1, o, hn, h => by
    by_cases hm : n ∈ o
    · have ih := nodup_nat n (o.erase n) (hn.erase n) fun x hx => by
        have h1 := (hn.mem_erase_iff).mp hx
        have := h x h1.2
        have := h1.1
        lia
      rw [List.length_erase_of_mem hm] at ih
      lia
    · have ih := nodup_nat n o hn fun x hx => by
        have := h x hx
        have : x ≠ n := fun e => hm (e ▸ hx)
        lia
      lia
theorem nodup_len {n : Nat} {o : List Int} (h : o.Nodup) (hr : ∀ x ∈ o, 0 ≤ x ∧ x < (n : Int)) : o.length ≤ n := by
  have h1 : (o.map Int.toNat).Nodup := by
    rw [List.nodup_iff_pairwise_ne, List.pairwise_map]
    refine List.Pairwise.imp_of_mem (fun {a b} ha hb hab e => ?_) (List.nodup_iff_pairwise_ne.mp h)
    have := hr a ha
    have := hr b hb
    exact hab (by lia)
  have h3 := nodup_nat n _ h1 fun x hx => by
    obtain ⟨y, hy, rfl⟩ := List.mem_map.mp hx
    have := hr y hy
    lia
  simpa using h3
end
noncomputable abbrev Row := List Int × List Int
noncomputable def row (rows : List Row) (r : Int) : Row := rows.getD r.toNat ([], [])
structure GoodM (n : Nat) (rows : List Row) : Prop where
  few : rows.length ≤ 4000
  some : 1 ≤ rows.length
  perm : ∀ r ∈ rows, IsP n r.1
  len : ∀ r ∈ rows, r.2.length = n
  go : ∀ r ∈ rows, ∀ g ∈ r.2, 0 ≤ g ∧ g < (rows.length : Int)
noncomputable def rowD (r : Row) : D := .tup [D.its r.1, D.its r.2]
noncomputable def bfs (rows : List Row) : Nat → Nat → List Int → List Int
  | 0, _, o => o
  | f + 1, i, o => match o[i]? with
    | none => o
    | some r => bfs rows f (i + 1) (addAll o (row rows r).2)
noncomputable def order (rows : List Row) : List Int := bfs rows (rows.length + 1) 0 [0]
theorem bfs_step {rows : List Row} {f i : Nat} {o : List Int} {r : Int} (e : o[i]? = some r) : bfs rows (f + 1) i o = bfs rows f (i + 1) (addAll o (row rows r).2) := by
  show (match o[i]? with | none => o | some r => bfs rows f (i + 1) (addAll o (row rows r).2)) = _
  rw [e]
theorem bfs_stop {rows : List Row} {f i : Nat} {o : List Int} (e : o.length ≤ i) : bfs rows f i o = o := by
  cases f with
  | zero => rfl
  | succ f =>
    show (match o[i]? with | none => o | some r => bfs rows f (i + 1) (addAll o (row rows r).2)) = _
    rw [List.getElem?_eq_none e]
theorem bfs_sub (rows : List Row) : ∀ (f i : Nat) (o : List Int), ∃ m, bfs rows f i o = o ++ m
  | 0, i, o => ⟨[], by simp [bfs]⟩
  | f + 1, i, o => by
    unfold bfs
    cases e : o[i]? with
    | none => exact ⟨[], by simp⟩
    | some r =>
      obtain ⟨m1, e1⟩ := addAll_sub (row rows r).2 o
      obtain ⟨m2, e2⟩ := bfs_sub rows f (i + 1) (addAll o (row rows r).2)
      exact ⟨m1 ++ m2, by show bfs rows f (i + 1) (addAll o (row rows r).2) = _; rw [e2, e1, List.append_assoc]⟩
structure Line (rows : List Row) (o : List Int) : Prop where
  nd : o.Nodup
  rg : ∀ x ∈ o, 0 ≤ x ∧ x < (rows.length : Int)
  hd : ∃ t, o = 0 :: t
theorem row_mem {rows : List Row} {r : Int} (h0 : 0 ≤ r) (h1 : r < (rows.length : Int)) : row rows r ∈ rows := by
  unfold row
  have : r.toNat < rows.length := by lia
  have e : rows.getD r.toNat ([], []) = rows[r.toNat] := by simp [this]
  rw [e]
  exact List.getElem_mem this
theorem row_get {rows : List Row} {r : Int} (h0 : 0 ≤ r) (h1 : r < (rows.length : Int)) : rows[r.toNat]? = some (row rows r) := by
  unfold row
  have : r.toNat < rows.length := by lia
  simp [this]
theorem Line.add {n : Nat} {rows : List Row} {o : List Int} (G : GoodM n rows) (L : Line rows o) {r : Int} (h : r ∈ o) : Line rows (addAll o (row rows r).2) := by
  refine ⟨addAll_nodup _ _ L.nd, fun x hx => ?_, ?_⟩
  · rcases addAll_mem.mp hx with hx | hx
    · exact L.rg x hx
    · exact G.go _ (row_mem (L.rg r h).1 (L.rg r h).2) x hx
  · obtain ⟨t, e⟩ := L.hd
    obtain ⟨m, e2⟩ := addAll_sub (row rows r).2 o
    exact ⟨t ++ m, by rw [e2, e]; rfl⟩
theorem Line.len {rows : List Row} {o : List Int} (L : Line rows o) : o.length ≤ rows.length := nodup_len L.nd L.rg
theorem line0 {n : Nat} {rows : List Row} (G : GoodM n rows) : Line rows [0] := by
  refine ⟨by simp, fun x hx => ?_, ⟨[], rfl⟩⟩
  have : x = 0 := by simpa using hx
  have := G.some
  lia
theorem bfs_end {n : Nat} {rows : List Row} (G : GoodM n rows) : ∀ (f i : Nat) (o : List Int), Line rows o → i ≤ o.length → rows.length + 1 ≤ f + i → (∀ j r, j < i → o[j]? = some r → ∀ g ∈ (row rows r).2, g ∈ o) →
    Line rows (bfs rows f i o) ∧ ∀ r ∈ bfs rows f i o, ∀ g ∈ (row rows r).2, g ∈ bfs rows f i o
  | 0, i, o, L, hi, hf, hc => by
    have := L.len
    lia
  | f + 1, i, o, L, hi, hf, hc => by
    cases e : o[i]? with
    | none =>
      rw [bfs_stop (List.getElem?_eq_none_iff.mp e)]
      refine ⟨L, fun r hr g hg => ?_⟩
      obtain ⟨j, hj, e2⟩ := List.getElem_of_mem hr
      have : o.length ≤ i := List.getElem?_eq_none_iff.mp e
      exact hc j r (by lia) (by rw [List.getElem?_eq_getElem hj, e2]) g hg
    | some r =>
      rw [bfs_step e]
      have hr : r ∈ o := List.mem_of_getElem? e
      have hil : i < o.length := (List.getElem?_eq_some_iff.mp e).1
      obtain ⟨m, em⟩ := addAll_sub (row rows r).2 o
      refine bfs_end G f (i + 1) _ (L.add G hr) (by rw [em, List.length_append]; lia) (by lia) fun j r' hj er g hg => ?_
      have hjo : j < o.length := by lia
      have er' : o[j]? = some r' := by rw [em, List.getElem?_append_left hjo] at er; exact er
      by_cases hji : j = i
      · subst hji
        rw [e] at er'
        cases er'
        exact addAll_mem.mpr (.inr hg)
      · exact addAll_mem.mpr (.inl (hc j r' (by lia) er' g hg))
theorem order_line {n : Nat} {rows : List Row} (G : GoodM n rows) : Line rows (order rows) ∧ ∀ r ∈ order rows, ∀ g ∈ (row rows r).2, g ∈ order rows :=
  bfs_end G (rows.length + 1) 0 [0] (line0 G) (by simp) (by lia) fun j r hj => absurd hj (Nat.not_lt_zero _)
noncomputable def foundOf (rows : List Row) (o : List Int) : List Row := o.map fun r => ((row rows r).1, (row rows r).2.map fun g => ((o.idxOf g : Nat) : Int))
noncomputable def found (rows : List Row) : List Row := foundOf rows (order rows)
noncomputable def stepK (ks : List Int) (rows : List Row) : List (Int × List Int) := (ks.zip rows).map fun p => (p.1, p.2.2.map fun g => ks.getD g.toNat 0)
noncomputable def cnt (ks : List Int) : Int := ks.foldl max 0 + 1
noncomputable def kloop (rows : List Row) : Nat → Int → List Int → List Int
  | 0, _, ks => ks
  | f + 1, c, ks => if c < cnt ks then kloop rows f (cnt ks) (numb (stepK ks rows)) else ks
noncomputable def kinds (rows : List Row) : List Int := kloop rows (rows.length + 1) 0 (numb (rows.map (·.1)))
noncomputable def leastOf (rows : List Row) (ks : List Int) : List Row := (rows.zip ks).foldl (fun l p => if p.2 = (l.length : Int) then l ++ [(p.1.1, p.1.2.map fun g => ks.getD g.toNat 0)] else l) []
noncomputable def least (rows : List Row) : List Row := leastOf (found rows) (kinds (found rows))
end Gu
namespace Gu
open PySem L2
noncomputable def csc (ns : List (Str × NameKind)) : Scope := { kind := .function, names := ns, isGenerator := false, isCoroutine := false, more := [] }
noncomputable def Gives (K : PySem.W.Frag) (H : Hp) (Q : VK) (d : D) : Prop := ∀ v H', Same H H' → Dr K H' d v → Q v H'
theorem same_up {H H1 : Hp} {p : Addr} {o : HO} (s : Same H H1) (h : H1 p = none) : Same H (upd H1 p o) := fun b u e => by
  have q := s b u e
  rw [upd_ne (ne_of_none q h)]; exact q
theorem same_over {H H1 : Hp} {p : Addr} {o : HO} (s : Same H H1) (h : H p = none) : Same H (upd H1 p o) := fun b u e => by
  rw [upd_ne (ne_of_none e h)]; exact s b u e
theorem take_snoc {α β : Type} {l : List α} {i : Nat} {x : α} (f : α → β) (h : l[i]? = some x) : (l.take (i + 1)).map f = (l.take i).map f ++ [f x] := by
  rw [List.take_add_one, h, List.map_append]; rfl
theorem small5 {n : Nat} (h : n ≤ 4900) : n < sizeLine := Nat.lt_of_le_of_lt h (by decide)
theorem line_le {n : Nat} (h : n ≤ 5000) : n ≤ sizeLine := Nat.le_trans h (by decide)
theorem atI_of {α : Type} {xs : List α} {k : Int} {v : α} (h0 : 0 ≤ k) (h : xs[k.toNat]? = some v) : atI xs k = some v := by
  have q := atI_nat h
  rwa [show ((k.toNat : Nat) : Int) = k by lia] at q
theorem map_erase {α β : Type} (f : α → β) : ∀ (l : List α) (i : Nat), (l.map f).eraseIdx i = (l.eraseIdx i).map f
  | [], _ => rfl
  | _ :: _, 0 => rfl
  | a :: r, i + 1 => by
    show f a :: (r.map f).eraseIdx i = f a :: (r.eraseIdx i).map f
    rw [map_erase f r i]
structure Blt (mg : Str → Option Value) : Prop where
  len : mg "len" = none
  tup : mg "tuple" = none
  lst : mg "list" = none
  rng : mg "range" = none
  isi : mg "isinstance" = none
  int : mg "int" = none
  bl : mg "bool" = none
  str : mg "str" = none
  all : mg "all" = none
theorem its_dep (ns : List Int) : D.dep (D.its ns) = 1 := by simp only [D.dep, D.depL_ints]
theorem its_few5 {ns : List Int} (h : ns.length ≤ 5000) : D.few (D.its ns) := by
  simp only [D.few]
  exact ⟨by rw [List.length_map]; exact h, D.fewL_ints ns⟩
theorem its_few {ns : List Int} (h : ns.length ≤ 1000) : D.few (D.its ns) := its_few5 (by lia)
theorem Dr.its_inv {K : PySem.W.Frag} {H : Hp} {ns : List Int} {v : V} (h : Dr K H (D.its ns) v) : ∃ a, v = .ref a ∧ H a = some (.tup (ns.map V.int)) := by
  simp only [Dr] at h
  obtain ⟨a, vs, rfl, s, r⟩ := h
  exact ⟨a, rfl, DrL.ints_inv r ▸ s⟩
noncomputable def spSame (K : PySem.W.Frag) : Sp := fun vs H Q _ => ∃ n : Nat, vs = [.int n] ∧ n ≤ 1000 ∧ Gives K H Q (D.its (iota n))
noncomputable def spCell (K : PySem.W.Frag) : Sp := fun vs H Q _ => ∃ (a : Addr) (ns : List Int) (i : Nat), vs = [.ref a, .int i] ∧ SqL K H a (ns.map V.int) ∧ ns.length ≤ 63 ∧ i ≤ 1000 ∧ Q (.int (cell ns i)) H
noncomputable def spLetters (K : PySem.W.Frag) : Sp := fun vs H Q _ => ∃ (a : Addr) (ns : List Int) (i : Nat), vs = [.ref a, .int i] ∧ SqL K H a (ns.map V.int) ∧ ns.length ≤ 63 ∧ i ≤ 1000 ∧ Q (.int (letN ns i)) H
noncomputable def spRear (K : PySem.W.Frag) : Sp := fun vs H Q _ => ∃ (pick : Int) (n : Nat), vs = [.int pick, .int n] ∧ n ≤ 1000 ∧ Gives K H Q (D.its (rearr pick n))
noncomputable def spWhole (K : PySem.W.Frag) : Sp := fun vs H Q _ => ∃ i : Int, vs = [.int i] ∧ Q (.bl true) H
noncomputable def spLike (K : PySem.W.Frag) (n : Nat) : Sp := fun vs H Q _ => ∃ (a b : V) (d : D), vs = [a, b] ∧ Dr K H d a ∧ Dr K H d b ∧ D.dep d < n ∧ D.few d ∧ ∀ H', Same H H' → Q (.bl true) H'
end Gu
namespace Gu
open PySem L2
section
variable {α κ : Type} [DecidableEq α] [DecidableEq κ]
noncomputable def prsF (f : α → κ) : Nat → List α → List (κ × V)
  | _, [] => []
  | n, a :: r => (f a, V.int (n : Int)) :: prsF f (n + 1) r
noncomputable abbrev prs (f : α → κ) (u : List α) : List (κ × V) := prsF f 0 u
theorem prsF_len (f : α → κ) : ∀ (n : Nat) (u : List α), (prsF f n u).length = u.length
  | _, [] => rfl
  | n, a :: r => by simp [prsF, prsF_len f (n + 1) r]
theorem prsF_app (f : α → κ) : ∀ (n : Nat) (u : List α) (a : α), prsF f n (u ++ [a]) = prsF f n u ++ [(f a, V.int ((n + u.length : Nat) : Int))]
  | n, [], a => by simp [prsF]
  | n, b :: r, a => by
    have ih := prsF_app f (n + 1) r a
    show (f b, V.int (n : Int)) :: prsF f (n + 1) (r ++ [a]) = (f b, V.int (n : Int)) :: (prsF f (n + 1) r ++ _)
    have e : n + 1 + r.length = n + (b :: r).length := by rw [List.length_cons]; lia
    rw [ih, e]
theorem prsF_val (f : α → κ) (hf : ∀ x y, f x = f y → x = y) : ∀ (n : Nat) (u : List α) (a : α), valV (prsF f n u) (f a) = if a ∈ u then some (V.int ((n + u.idxOf a : Nat) : Int)) else none
  | n, [], a => by simp [prsF, valV]
  | n, b :: r, a => by
    have ih := prsF_val f hf (n + 1) r a
    show valV ((f b, V.int (n : Int)) :: prsF f (n + 1) r) (f a) = _
    by_cases e : b = a
    · subst e
      rw [valV_pos rfl, if_pos (by simp)]
      simp
    · rw [valV_neg (p := (f b, V.int (n : Int))) (fun z => e (hf _ _ z)), ih]
      have e1 : (b :: r).idxOf a = r.idxOf a + 1 := by
        rw [List.idxOf_cons]
        have hb : (b == a) = false := by simpa using e
        rw [hb]
        rfl
      by_cases hm : a ∈ r
      · have e2 : n + 1 + r.idxOf a = n + (r.idxOf a + 1) := by lia
        rw [if_pos hm, if_pos (by simp [hm]), e1, e2]
      · rw [if_neg hm, if_neg (by simp [hm, Ne.symm e])]
theorem prs_val (f : α → κ) (hf : ∀ x y, f x = f y → x = y) (u : List α) (a : α) : valV (prs f u) (f a) = if a ∈ u then some (V.int ((u.idxOf a : Nat) : Int)) else none := by
  have := prsF_val f hf 0 u a
  simpa using this
theorem prs_put (f : α → κ) (hf : ∀ x y, f x = f y → x = y) {u : List α} {a : α} (h : a ∉ u) : putK (prs f u) (f a) (V.int (u.length : Nat)) = prs f (u ++ [a]) := by
  have e := prsF_app f 0 u a
  rw [Nat.zero_add] at e
  rw [putK_new _ (by rw [prs_val f hf, if_neg h])]
  exact e.symm
end
noncomputable def rowsD (rows : List Row) : List D := rows.map rowD
theorem its_key (ns : List Int) : D.key (D.its ns) := by
  have : ∀ l : List Int, D.keyL (l.map D.int) := by
    intro l
    induction l with
    | nil => simp only [List.map_nil, D.keyL]
    | cons a r ih => simp only [List.map_cons, D.keyL, D.key]; exact ⟨trivial, ih⟩
  simp only [D.key]
  exact this ns
noncomputable def Things (ds : List D) : Prop := ∀ d ∈ ds, D.key d ∧ D.dep d ≤ 8 ∧ ∃ es, d = .tup es
noncomputable def spNumbered (K : PySem.W.Frag) : Sp := fun vs H Q _ => ∃ (a : Addr) (us : List V) (ds : List D), vs = [.ref a] ∧ H a = some (.lst us) ∧ DrL K H ds us ∧ Things ds ∧ ds.length ≤ 4900 ∧
  ∀ (r : Addr) (H' : Hp), Same H H' → H' r = some (.lst ((numb ds).map V.int)) → Q (.ref r) H'
theorem keyV {K : PySem.W.Frag} {H : Hp} {d : D} {v : V} (h : D.key d ∧ D.dep d ≤ 8 ∧ ∃ es, d = .tup es) (q : Dr K H d v) : KeyV K H d v := by
  obtain ⟨h1, h2, es, rfl⟩ := h
  refine ⟨?_, h1, h2, q⟩
  simp only [Dr] at q
  obtain ⟨a, vs, e, _⟩ := q
  exact ⟨a, e⟩
end Gu
namespace Gu
open PySem L2
noncomputable def TupK (H H' : Hp) : Prop := ∀ b xs, H b = some (.tup xs) → H' b = some (.tup xs)
theorem TupK.of {H H' : Hp} (s : Same H H') : TupK H H' := fun b xs e => s _ _ e
theorem TupK.refl (H : Hp) : TupK H H := fun _ _ e => e
theorem TupK.trans {H H1 H2 : Hp} (a : TupK H H1) (b : TupK H1 H2) : TupK H H2 := fun c xs e => b c xs (a c xs e)
theorem TupK.up {H H1 : Hp} {a : Addr} {o u : HO} (t : TupK H H1) (h : H1 a = some o) (n : ∀ xs, o ≠ .tup xs) : TupK H (upd H1 a u) := fun b xs e => by
  have q := t b xs e
  have : b ≠ a := fun z => by rw [z, h] at q; exact n xs (Option.some.inj q)
  rw [upd_ne this]; exact q
theorem row_key (r : Row) : D.key (rowD r) := by
  unfold rowD
  simp only [D.key, D.keyL]
  have h1 := its_key r.1
  have h2 := its_key r.2
  simp only [D.key] at h1 h2
  exact ⟨h1, h2, trivial⟩
theorem rows_key : ∀ rs : List Row, D.keyL (rowsD rs)
  | [] => by unfold rowsD; simp only [List.map_nil, D.keyL]
  | r :: rs => by
    have := rows_key rs
    unfold rowsD at this ⊢
    simp only [List.map_cons, D.keyL]
    exact ⟨row_key r, this⟩
theorem rowD_inv {K : PySem.W.Frag} {H : Hp} {r : Row} {v : V} (h : Dr K H (rowD r) v) : ∃ a b c, v = .ref a ∧ H a = some (.tup [.ref b, .ref c]) ∧ H b = some (.tup (r.1.map V.int)) ∧ H c = some (.tup (r.2.map V.int)) := by
  unfold rowD at h
  simp only [Dr, DrL] at h
  obtain ⟨a, vs, rfl, e, x, l, rfl, hx, y, l', rfl, hy, rfl⟩ := h
  obtain ⟨b, us, rfl, eb, rb⟩ := hx
  obtain ⟨c, ws, rfl, ec, rc⟩ := hy
  have e1 := DrL.ints_inv rb
  have e2 := DrL.ints_inv rc
  subst e1 e2
  exact ⟨a, b, c, rfl, e, eb, ec⟩
theorem rowD_mk {K : PySem.W.Frag} {H : Hp} {r : Row} {a b c : Addr} (h : H a = some (.tup [.ref b, .ref c])) (hb : H b = some (.tup (r.1.map V.int))) (hc : H c = some (.tup (r.2.map V.int))) : Dr K H (rowD r) (.ref a) := by
  unfold rowD
  exact Dr.tup h (DrL.cons (Dr.tup hb (DrL.ints _)) (DrL.cons (Dr.tup hc (DrL.ints _)) DrL.nil))
theorem rows_at {K : PySem.W.Frag} {H : Hp} {rows : List Row} {us : List V} (h : DrL K H (rowsD rows) us) {i : Nat} {r : Row} (e : rows[i]? = some r) : ∃ v, us[i]? = some v ∧ Dr K H (rowD r) v :=
  h.get (by unfold rowsD; rw [List.getElem?_map, e]; rfl)
noncomputable def spGone (K : PySem.W.Frag) : Sp := fun vs H Q _ => ∃ (a : Addr) (b : V) (ks gs : List Int), vs = [.ref a, b] ∧ H a = some (.lst (ks.map V.int)) ∧ Dr K H (D.its gs) b ∧ (∀ g ∈ gs, 0 ≤ g ∧ g < (ks.length : Int)) ∧ gs.length ≤ 1000 ∧ Gives K H Q (D.its (gs.map fun g => ks.getD g.toNat 0))
noncomputable def spStill (K : PySem.W.Frag) : Sp := fun vs H Q _ => ∃ n : Nat, vs = [.int n] ∧ 2 ≤ n ∧ n ≤ 60 ∧ Gives K H Q (D.tup [rowD (iota n, List.replicate n 0)])
noncomputable def spBreadth (K : PySem.W.Frag) : Sp := fun vs H Q _ => ∃ (a : V) (r : Row) (rest : List D), vs = [a] ∧ Dr K H (D.tup (rowD r :: rest)) a ∧ r.1.length ≤ 1000 ∧ ∀ H', Same H H' → Q (.int r.1.length) H'
noncomputable def RowsAt (K : PySem.W.Frag) (H : Hp) (a : Addr) (rows : List Row) : Prop := ∃ us, H a = some (.lst us) ∧ DrL K H (rowsD rows) us
theorem RowsAt.mono {K : PySem.W.Frag} {H H' : Hp} {a : Addr} {rows : List Row} (h : RowsAt K H a rows) (s : Same H H') : RowsAt K H' a rows := by
  obtain ⟨us, e, d⟩ := h
  exact ⟨us, s _ _ e, d.mono s⟩
end Gu
namespace Gu
open PySem L2
section
variable {α β : Type} [DecidableEq α] [DecidableEq β]
theorem addAll_map (f : α → β) (hf : ∀ x y, f x = f y → x = y) : ∀ (gs o : List α), addAll (o.map f) (gs.map f) = (addAll o gs).map f
  | [], o => rfl
  | g :: gs, o => by
    have h1 : addN (o.map f) (f g) = (addN o g).map f := by
      by_cases h : g ∈ o
      · rw [addN_mem h, addN_mem (List.mem_map.mpr ⟨g, h, rfl⟩)]
      · have : f g ∉ o.map f := fun z => by
          obtain ⟨x, hx, e⟩ := List.mem_map.mp z
          exact h (hf _ _ e ▸ hx)
        rw [addN_new h, addN_new this, List.map_append]; rfl
    show addAll (addN (o.map f) (f g)) (gs.map f) = (addAll (addN o g) gs).map f
    rw [h1]
    exact addAll_map f hf gs (addN o g)
theorem idxOf_map (f : α → β) (hf : ∀ x y, f x = f y → x = y) : ∀ (l : List α) (a : α), (l.map f).idxOf (f a) = l.idxOf a
  | [], a => rfl
  | b :: r, a => by
    rw [List.map_cons, List.idxOf_cons, List.idxOf_cons, idxOf_map f hf r a]
    have : (f b == f a) = (b == a) := by
      by_cases e : b = a
      · subst e; simp
      · have h1 : (b == a) = false := by simpa using e
        have h2 : (f b == f a) = false := by simpa using fun z => e (hf _ _ z)
        rw [h1, h2]
    rw [this]
theorem numb_map (f : α → β) (hf : ∀ x y, f x = f y → x = y) (xs : List α) : numb (xs.map f) = numb xs := by
  unfold numb uniq
  have := addAll_map f hf xs []
  rw [List.map_nil] at this
  rw [this, List.map_map]
  refine List.map_congr_left fun x _ => ?_
  show (((((addAll [] xs).map f).idxOf (f x) : Nat)) : Int) = _
  rw [idxOf_map f hf]
theorem numb_len (xs : List α) : (numb xs).length = xs.length := by unfold numb; rw [List.length_map]
theorem uniq_le (xs : List α) : (uniq xs).length ≤ xs.length := by have := addAll_len xs []; unfold uniq; simpa using this
theorem numb_rg {xs : List α} {k : Int} (h : k ∈ numb xs) : 0 ≤ k ∧ k < ((uniq xs).length : Int) := by
  unfold numb at h
  obtain ⟨x, hx, rfl⟩ := List.mem_map.mp h
  have : x ∈ uniq xs := addAll_mem.mpr (.inr hx)
  have := List.idxOf_lt_length_of_mem this
  lia
end
theorem max_le : ∀ (ks : List Int) (m : Int), m ≤ ks.foldl max m ∧ ∀ k ∈ ks, k ≤ ks.foldl max m
  | [], m => ⟨Int.le_refl _, fun k h => by simp at h⟩
  | a :: r, m => by
    obtain ⟨h1, h2⟩ := max_le r (max m a)
    refine ⟨Int.le_trans (Int.le_max_left m a) h1, fun k hk => ?_⟩
    rcases List.mem_cons.mp hk with rfl | hk
    · exact Int.le_trans (Int.le_max_right m k) h1
    · exact h2 k hk
theorem max_mem : ∀ (ks : List Int) (m : Int), ks.foldl max m = m ∨ ks.foldl max m ∈ ks
  | [], m => .inl rfl
  | a :: r, m => by
    rcases max_mem r (max m a) with h | h
    · rcases Int.le_total m a with z | z
      · right
        show r.foldl max (max m a) ∈ a :: r
        rw [h, Int.max_eq_right z]; simp
      · left
        show r.foldl max (max m a) = m
        rw [h, Int.max_eq_left z]
    · right; exact List.mem_cons_of_mem _ h
theorem cnt_max {ks : List Int} (hne : ks ≠ []) (h0 : ∀ k ∈ ks, 0 ≤ k) : cnt ks - 1 ∈ ks ∧ ∀ k ∈ ks, k ≤ cnt ks - 1 := by
  unfold cnt
  have e : ks.foldl max 0 + 1 - 1 = ks.foldl max 0 := by lia
  rw [e]
  refine ⟨?_, (max_le ks 0).2⟩
  rcases max_mem ks 0 with h | h
  · rw [h]
    cases ks with
    | nil => exact absurd rfl hne
    | cons a r =>
      have h1 := (max_le (a :: r) 0).2 a (by simp)
      rw [h] at h1
      have h2 := h0 a (by simp)
      have : a = 0 := by lia
      simp [this]
  · exact h
theorem cnt_le {ks : List Int} {n : Nat} (hne : ks ≠ []) (h0 : ∀ k ∈ ks, 0 ≤ k ∧ k < (n : Int)) : cnt ks ≤ n ∧ 1 ≤ cnt ks := by
  obtain ⟨h1, h2⟩ := cnt_max hne fun k hk => (h0 k hk).1
  have := h0 _ h1
  lia
structure GoodF (n : Nat) (rows : List Row) : Prop where
  some : 1 ≤ rows.length
  few : rows.length ≤ 4000
  perm : ∀ r ∈ rows, IsP n r.1
  len : ∀ r ∈ rows, r.2.length = n
  go : ∀ r ∈ rows, ∀ g ∈ r.2, 0 ≤ g ∧ g < (rows.length : Int)
theorem found_good {n : Nat} {rows : List Row} (G : GoodM n rows) : GoodF n (found rows) := by
  obtain ⟨L, cl⟩ := order_line G
  have hl := L.len
  have hm : ∀ r ∈ found rows, ∃ x ∈ order rows, r = ((row rows x).1, (row rows x).2.map fun g => (((order rows).idxOf g : Nat) : Int)) := fun r hr => by
    unfold found foundOf at hr
    obtain ⟨x, hx, e⟩ := List.mem_map.mp hr
    exact ⟨x, hx, e.symm⟩
  have fl : (found rows).length = (order rows).length := by unfold found foundOf; rw [List.length_map]
  refine ⟨?_, by have := G.few; lia, fun r hr => ?_, fun r hr => ?_, fun r hr g hg => ?_⟩
  · obtain ⟨t, e⟩ := L.hd
    rw [fl, e]; simp
  · obtain ⟨x, hx, rfl⟩ := hm r hr
    exact G.perm (row rows x) (row_mem (L.rg x hx).1 (L.rg x hx).2)
  · obtain ⟨x, hx, rfl⟩ := hm r hr
    show (List.map _ _).length = n
    rw [List.length_map]
    exact G.len _ (row_mem (L.rg x hx).1 (L.rg x hx).2)
  · obtain ⟨x, hx, rfl⟩ := hm r hr
    obtain ⟨y, hy, rfl⟩ := List.mem_map.mp hg
    have := List.idxOf_lt_length_of_mem (cl x hx y hy)
    lia
structure GoodK (rows : List Row) (ks : List Int) : Prop where
  len : ks.length = rows.length
  rg : ∀ k ∈ ks, 0 ≤ k ∧ k < (rows.length : Int)
theorem goodK0 {n : Nat} {rows : List Row} (G : GoodF n rows) : GoodK rows (numb (rows.map (·.1))) := by
  refine ⟨by rw [numb_len, List.length_map], fun k hk => ?_⟩
  have := numb_rg hk
  have := uniq_le (rows.map (·.1))
  rw [List.length_map] at this
  lia
theorem stepK_len {rows : List Row} {ks : List Int} (h : GoodK rows ks) : (stepK ks rows).length = rows.length := by
  unfold stepK
  rw [List.length_map, List.length_zip, h.len]; lia
theorem goodK1 {rows : List Row} {ks : List Int} (h : GoodK rows ks) : GoodK rows (numb (stepK ks rows)) := by
  have hl := stepK_len h
  refine ⟨by rw [numb_len, hl], fun k hk => ?_⟩
  have := numb_rg hk
  have := uniq_le (stepK ks rows)
  lia
theorem ks_ne {n : Nat} {rows : List Row} {ks : List Int} (G : GoodF n rows) (h : GoodK rows ks) : ks ≠ [] := fun e => by
  have := h.len
  have := G.some
  subst e
  simp at *
  lia
noncomputable def stepD (p : Int × List Int) : D := .tup [.int p.1, D.its p.2]
theorem its_inj {a b : List Int} (e : D.its a = D.its b) : a = b := by
  injection e with e
  induction a generalizing b with
  | nil => cases b with
    | nil => rfl
    | cons _ _ => cases e
  | cons x r ih => cases b with
    | nil => cases e
    | cons y q =>
      rw [List.map_cons, List.map_cons] at e
      injection e with e1 e2
      injection e1 with e1
      rw [e1, ih e2]
theorem stepD_inj (p q : Int × List Int) (e : stepD p = stepD q) : p = q := by
  unfold stepD at e
  injection e with e
  injection e with e1 e2
  injection e2 with e2 _
  injection e1 with e1
  have := its_inj e2
  exact Prod.ext e1 this
theorem step_key (p : Int × List Int) : D.key (stepD p) := by
  unfold stepD
  simp only [D.key, D.keyL]
  have h := its_key p.2
  simp only [D.key] at h
  exact ⟨trivial, h, trivial⟩
theorem step_dep (p : Int × List Int) : D.dep (stepD p) ≤ 8 := by
  unfold stepD
  simp only [D.dep, D.depL, D.depL_ints]
  decide
theorem steps_key : ∀ ps : List (Int × List Int), D.keyL (ps.map stepD)
  | [] => by simp only [List.map_nil, D.keyL]
  | p :: ps => by simp only [List.map_cons, D.keyL]; exact ⟨step_key p, steps_key ps⟩
theorem its_keys : ∀ ps : List (List Int), D.keyL (ps.map D.its)
  | [] => by simp only [List.map_nil, D.keyL]
  | p :: ps => by
    have := its_key p
    simp only [List.map_cons, D.keyL]; exact ⟨this, its_keys ps⟩
end Gu
namespace Gu
open PySem L2
theorem kloop_good {rows : List Row} : ∀ (m : Nat) (c : Int) (ks : List Int), GoodK rows ks → GoodK rows (kloop rows m c ks)
  | 0, _, ks, h => h
  | m + 1, c, ks, h => by
    unfold kloop
    by_cases hc : c < cnt ks
    · rw [if_pos hc]; exact kloop_good m _ _ (goodK1 h)
    · rw [if_neg hc]; exact h
theorem kinds_good {n : Nat} {rows : List Row} (G : GoodF n rows) : GoodK rows (kinds rows) := kloop_good _ _ _ (goodK0 G)
noncomputable def lstep (ks : List Int) (l : List Row) (p : Row × Int) : List Row := if p.2 = (l.length : Int) then l ++ [(p.1.1, p.1.2.map fun g => ks.getD g.toNat 0)] else l
noncomputable def leastP (rows : List Row) (ks : List Int) (i : Nat) : List Row := ((rows.zip ks).take i).foldl (lstep ks) []
theorem leastP_all {rows : List Row} {ks : List Int} (h : ks.length = rows.length) : leastP rows ks rows.length = leastOf rows ks := by
  unfold leastP leastOf
  rw [List.take_of_length_le (by rw [List.length_zip]; lia)]
  rfl
theorem leastP_step {rows : List Row} {ks : List Int} {i : Nat} {r : Row} {k : Int} (e : rows[i]? = some r) (e' : ks[i]? = some k) : leastP rows ks (i + 1) = lstep ks (leastP rows ks i) (r, k) := by
  unfold leastP
  rw [List.take_add_one, List.getElem?_zip_eq_some (z := (r, k)) |>.mpr ⟨e, e'⟩, List.foldl_append]
  rfl
theorem lstep_len (ks : List Int) (l : List Row) (p : Row × Int) : (lstep ks l p).length ≤ l.length + 1 := by
  unfold lstep
  split
  · rw [List.length_append]; simp
  · lia
theorem leastP_len (rows : List Row) (ks : List Int) (i : Nat) : (leastP rows ks i).length ≤ i := by
  unfold leastP
  have : ∀ (l : List (Row × Int)) (a : List Row), (l.foldl (lstep ks) a).length ≤ a.length + l.length := by
    intro l
    induction l with
    | nil => intro a; simp
    | cons p l ih =>
      intro a
      have h1 := ih (lstep ks a p)
      have h2 := lstep_len ks a p
      rw [List.foldl_cons, List.length_cons]
      lia
  have h := this ((rows.zip ks).take i) []
  rw [List.length_take] at h
  simp only [List.length_nil] at h
  lia
theorem found_le {n : Nat} {rows : List Row} (G : GoodM n rows) : (found rows).length ≤ rows.length := by
  have := (order_line G).1.len
  unfold found foundOf
  rw [List.length_map]; exact this
end Gu
namespace Gu
open PySem L2
noncomputable def Nums (m : Nat) (ns : List Int) : Prop := ns.length = m ∧ ∀ x ∈ ns, 0 ≤ x ∧ x < 1009
noncomputable def spNumbers (K : PySem.W.Frag) : Sp := fun vs H Q _ => ∃ (c : Int) (m : Nat), vs = [.int c, .int m] ∧ m ≤ 900 ∧ ∀ (r : Addr) (H' : Hp) (ns : List Int), Same H H' → H' r = some (.lst (ns.map V.int)) → Nums m ns → Q (.ref r) H'
theorem nums_snoc {ns : List Int} {x : Int} (h : ∀ x ∈ ns, 0 ≤ x ∧ x < 1009) (hx : 0 ≤ x ∧ x < 1009) : ∀ y ∈ ns ++ [x], 0 ≤ y ∧ y < 1009 := by
  intro y hy
  rcases List.mem_append.mp hy with hy | hy
  · exact h y hy
  · rw [List.mem_singleton.mp hy]; exact hx
theorem pmod {j : Int} (h : (0 : Int) < j := by decide) : 0 < j := h
theorem mod1009 (x : Int) : 0 ≤ x % 1009 ∧ x % 1009 < 1009 := by lia
noncomputable def spRows (K : PySem.W.Frag) : Sp := fun vs H Q _ => ∃ (n : Nat) (c : Int), vs = [.int n, .int c] ∧ 2 ≤ n ∧ n ≤ 5 ∧ ∀ (r : Addr) (H' : Hp) (rows : List Row), Same H H' → RowsAt K H' r rows → GoodM n rows → rows.length ≤ 8 → Q (.ref r) H'
noncomputable def GI (m : Nat) (H : Hp) (i : Nat) (ys : List V) (H2 : Hp) : Prop := ∃ gs : List Int, ys = gs.map V.int ∧ gs.length = i ∧ (∀ g ∈ gs, 0 ≤ g ∧ g < (m : Int)) ∧ Same H H2
theorem GI.nil {m : Nat} {H : Hp} {l : Addr} (h : H l = none) : GI m H 0 [] (upd H l (.lst [])) := ⟨[], rfl, rfl, fun g hg => by simp at hg, same_up (Same.refl H) h⟩
theorem GI.len {m : Nat} {H H2 : Hp} {i : Nat} {ys : List V} (h : GI m H i ys H2) : ys.length = i := by
  obtain ⟨gs, rfl, e, _⟩ := h
  rw [List.length_map]; exact e
theorem GI.snoc {m : Nat} {H H2 : Hp} {i : Nat} {ys : List V} {l : Addr} {o : HO} (h : GI m H i ys H2) (hl : H l = none) {g : Int} (hg : 0 ≤ g ∧ g < (m : Int)) : GI m H (i + 1) (ys ++ [.int g]) (upd H2 l o) := by
  obtain ⟨gs, rfl, e, r, s⟩ := h
  refine ⟨gs ++ [g], by rw [List.map_append]; rfl, by rw [List.length_append, e]; rfl, fun x hx => ?_, same_over s hl⟩
  rcases List.mem_append.mp hx with hx | hx
  · exact r x hx
  · rw [List.mem_singleton.mp hx]; exact hg
structure RIx (K : PySem.W.Frag) (n m : Nat) (c kd : Int) (j : Nat) (ln lr lp : Addr) (H0 : Hp) (σ : St) (H : Hp) : Prop where
  ex : ∃ (b : V) (lg : Addr) (p gs : List Int), σ = [some (.int n), some (.int c), some (.ref ln), some (.int m), some (.int kd), some (.ref lr), some (.int j), some (.ref lp), some b, some (.ref lg)] ∧ Same H0 H ∧ Dr K H (D.its p) b ∧ IsP n p ∧
    H lg = some (.lst (gs.map V.int)) ∧ gs.length = n ∧ ∀ g ∈ gs, 0 ≤ g ∧ g < (m : Int)
structure RF (n m j : Nat) (ps : List Int) (lp : Addr) (H0 : Hp) : Prop where
  n2 : 2 ≤ n
  n5 : n ≤ 5
  jm : j < m
  m8 : m ≤ 8
  lp : H0 lp = some (.lst (ps.map V.int))
  len : ps.length = 6
  nn : ∀ p ∈ ps, 0 ≤ p ∧ p < 1009
noncomputable def tRI (K : PySem.W.Frag) : TS := fun D σ H => ∃ (n m : Nat) (c kd : Int) (j : Nat) (ln lr lp : Addr) (ps : List Int) (H0 : Hp), RF n m j ps lp H0 ∧ RIx K n m c kd j ln lr lp H0 σ H ∧ ∀ σ' H', RIx K n m c kd j ln lr lp H0 σ' H' → D.nx σ' H'
noncomputable def PreRI (K : PySem.W.Frag) (σ : St) (H : Hp) : Prop := ∃ (n m : Nat) (c kd : Int) (j : Nat) (ln lr lp : Addr) (ps : List Int) (H0 : Hp), RF n m j ps lp H0 ∧ RIx K n m c kd j ln lr lp H0 σ H
noncomputable def GR (n m : Nat) (rs : List Row) : Prop := ∀ r ∈ rs, IsP n r.1 ∧ r.2.length = n ∧ ∀ g ∈ r.2, 0 ≤ g ∧ g < (m : Int)
theorem GR.snoc {n m : Nat} {rs : List Row} {r : Row} (h : GR n m rs) (hr : IsP n r.1 ∧ r.2.length = n ∧ ∀ g ∈ r.2, 0 ≤ g ∧ g < (m : Int)) : GR n m (rs ++ [r]) := fun x hx => by
  rcases List.mem_append.mp hx with hx | hx
  · exact h x hx
  · rw [List.mem_singleton.mp hx]; exact hr
theorem GR.good {n m : Nat} {rs : List Row} (h : GR n m rs) (hl : rs.length = m) (h1 : 1 ≤ m) (h4 : m ≤ 4000) : GoodM n rs := by
  subst hl
  exact ⟨h4, h1, fun r hr => (h r hr).1, fun r hr => (h r hr).2.1, fun r hr => (h r hr).2.2⟩
theorem cut6 {ns : List Int} {i : Nat} (h : Nums 64 ns) (hi : i < 8) : ∃ ps : List Int, cutV (ns.map V.int) (some (2 + 6 * (i : Int))) (some (8 + 6 * (i : Int))) = ps.map V.int ∧ ps.length = 6 ∧ ∀ p ∈ ps, 0 ≤ p ∧ p < 1009 := by
  have hl := h.1
  refine ⟨(ns.drop (2 + 6 * i)).take 6, ?_, by rw [List.length_take, List.length_drop]; lia, fun p hp => h.2 p (List.mem_of_mem_drop (List.mem_of_mem_take hp))⟩
  have e1 : (2 + 6 * (i : Int)) = ((2 + 6 * i : Nat) : Int) := by lia
  have e2 : (8 + 6 * (i : Int)) = ((8 + 6 * i : Nat) : Int) := by lia
  unfold cutV
  rw [e1, e2, HT.sIx_nat, HT.sIx_nat, List.length_map, hl, Nat.min_eq_left (by lia), Nat.min_eq_left (by lia), show 8 + 6 * i - (2 + 6 * i) = 6 by lia, List.map_take, List.map_drop]
theorem nat_of {x : Int} (h : 0 ≤ x) : ∃ m : Nat, x = (m : Int) := ⟨x.toNat, by lia⟩
theorem flat1 (n : Nat) (j : Int) : (List.replicate n [V.int j]).flatten = (List.replicate n j).map V.int := by
  induction n with
  | zero => rfl
  | succ n ih => rw [List.replicate_succ, List.flatten_cons, ih, List.replicate_succ]; rfl
theorem isP_iota (n : Nat) : IsP n (iota n) := List.Perm.refl _
end Gu
namespace Gu
open PySem L2
theorem inl_inj (x y : Int) (e : (Sum.inl x : Key) = Sum.inl y) : x = y := Sum.inl.inj e
theorem nd_take {o : List Int} (h : o.Nodup) {i : Nat} {r : Int} (e : o[i]? = some r) : r ∉ o.take i := fun z => by
  have h' : (o.take i ++ o.drop i).Nodup := by rw [List.take_append_drop]; exact h
  have hr : r ∈ o.drop i := List.mem_of_getElem? (i := 0) (by rw [List.getElem?_drop]; exact e)
  exact (List.nodup_append.mp h').2.2 r z r hr rfl
noncomputable def mk (o : List Int) (vs : List V) : List (Key × V) := (o.zip vs).map fun p => (Sum.inl p.1, p.2)
noncomputable def FK (f : Int → D) : Prop := ∀ r, D.key (f r) ∧ D.dep (f r) ≤ 3
theorem FK.keyL {f : Int → D} (h : FK f) : ∀ o : List Int, D.keyL (o.map f)
  | [] => by simp only [List.map_nil, D.keyL]
  | r :: o => by simp only [List.map_cons, D.keyL]; exact ⟨(h r).1, FK.keyL h o⟩
theorem FK.depL {f : Int → D} (h : FK f) : ∀ o : List Int, D.depL (o.map f) ≤ 3
  | [] => by simp only [List.map_nil, D.depL]; lia
  | r :: o => by
    simp only [List.map_cons, D.depL]
    have := (h r).2
    have := FK.depL h o
    lia
theorem FK.its (rows : List Row) : FK fun r => D.its (row rows r).1 := fun r => ⟨its_key _, by rw [its_dep]; decide⟩
theorem FK.int (k : Int → Int) : FK fun r => D.int (k r) := fun r => ⟨by simp only [D.key], by simp only [D.dep]; decide⟩
noncomputable def keyOf (rows : List Row) (f : Int → D) (r : Int) : D := .tup [f r, .tup ((row rows r).2.map f)]
theorem FK.key {rows : List Row} {f : Int → D} (h : FK f) (r : Int) : D.key (keyOf rows f r) ∧ D.dep (keyOf rows f r) ≤ 8 ∧ ∃ es, keyOf rows f r = .tup es := by
  refine ⟨?_, ?_, _, rfl⟩
  · unfold keyOf
    simp only [D.key, D.keyL]
    exact ⟨(h r).1, h.keyL _, trivial⟩
  · unfold keyOf
    simp only [D.dep, D.depL]
    have := (h r).2
    have := h.depL (row rows r).2
    lia
noncomputable def skeys (rows : List Row) (o : List Int) (f : Int → D) : List D := o.map (keyOf rows f)
noncomputable def sroundI (rows : List Row) (o : List Int) (f : Int → D) (r : Int) : Int := (((uniq (skeys rows o f)).idxOf (keyOf rows f r) : Nat) : Int)
noncomputable def sround (rows : List Row) (o : List Int) (f : Int → D) : Int → D := fun r => .int (sroundI rows o f r)
noncomputable def scount (rows : List Row) (o : List Int) (f : Int → D) : Nat := (uniq (skeys rows o f)).length
theorem scount_le (rows : List Row) (o : List Int) (f : Int → D) : scount rows o f ≤ o.length := by
  have := uniq_le (skeys rows o f)
  unfold scount skeys at *
  rw [List.length_map] at this
  exact this
noncomputable def sloop (rows : List Row) (o : List Int) : Nat → Nat → (Int → D) → (Int → D)
  | 0, _, f => f
  | m + 1, many, f => if many < scount rows o f then sloop rows o m (scount rows o f) (sround rows o f) else sround rows o f
noncomputable def smarks (rows : List Row) : Int → D := sloop rows (order rows) (rows.length + 2) 0 fun r => D.its (row rows r).1
noncomputable def hdStep (k : Int → Int) (hs : List Int) (r : Int) : List Int := if k r ∈ hs.map k then hs else hs ++ [r]
noncomputable def heads (k : Int → Int) (o : List Int) : List Int := o.foldl (hdStep k) []
noncomputable def inLine (rows : List Row) (k : Int → Int) (o : List Int) : List Row := (heads k o).map fun r => ((row rows r).1, (row rows r).2.map fun g => ((((heads k o).map k).idxOf (k g) : Nat) : Int))
theorem heads_snoc (k : Int → Int) (o : List Int) (r : Int) : heads k (o ++ [r]) = hdStep k (heads k o) r := by
  unfold heads
  rw [List.foldl_append]; rfl
theorem heads_has (k : Int → Int) (o : List Int) : (∀ r ∈ o, k r ∈ (heads k o).map k) ∧ (∀ r ∈ heads k o, r ∈ o) ∧ (heads k o).length ≤ o.length := by
  have : ∀ (o hs : List Int), (∀ x ∈ hs.map k, x ∈ (o.foldl (hdStep k) hs).map k) ∧ (∀ r ∈ o, k r ∈ (o.foldl (hdStep k) hs).map k) ∧ (∀ r ∈ o.foldl (hdStep k) hs, r ∈ hs ∨ r ∈ o) ∧ (o.foldl (hdStep k) hs).length ≤ hs.length + o.length := by
    intro o
    induction o with
    | nil => intro hs; exact ⟨fun x h => h, fun r h => by simp at h, fun r h => .inl h, by simp⟩
    | cons a o ih =>
      intro hs
      obtain ⟨i1, i2, i3, i4⟩ := ih (hdStep k hs a)
      rw [List.foldl_cons]
      have hsub : ∀ x ∈ hs.map k, x ∈ (hdStep k hs a).map k := fun x hx => by
        unfold hdStep
        split
        · exact hx
        · rw [List.map_append]; exact List.mem_append_left _ hx
      have ha : k a ∈ (hdStep k hs a).map k := by
        unfold hdStep
        split
        · assumption
        · simp
      have hlen : (hdStep k hs a).length ≤ hs.length + 1 := by
        unfold hdStep
        split
        · lia
        · simp
      refine ⟨fun x hx => i1 x (hsub x hx), fun r hr => ?_, fun r hr => ?_, by rw [List.length_cons]; lia⟩
      · rcases List.mem_cons.mp hr with rfl | hr
        · exact i1 _ ha
        · exact i2 r hr
      · rcases i3 r hr with h | h
        · unfold hdStep at h
          split at h
          · exact .inl h
          · rcases List.mem_append.mp h with h | h
            · exact .inl h
            · exact .inr (by rw [List.mem_singleton.mp h]; simp)
        · exact .inr (List.mem_cons_of_mem _ h)
  obtain ⟨_, h2, h3, h4⟩ := this o []
  refine ⟨h2, fun r hr => ?_, by unfold heads; simpa using h4⟩
  rcases h3 r hr with h | h
  · simp at h
  · exact h
theorem heads_hd (k : Int → Int) (a : Int) (o : List Int) : ∃ t, heads k (a :: o) = a :: t := by
  have : ∀ (o hs : List Int), ∃ t, o.foldl (hdStep k) hs = hs ++ t := by
    intro o
    induction o with
    | nil => intro hs; exact ⟨[], by simp⟩
    | cons a o ih =>
      intro hs
      obtain ⟨t, e⟩ := ih (hdStep k hs a)
      rw [List.foldl_cons, e]
      unfold hdStep
      split
      · exact ⟨t, rfl⟩
      · exact ⟨[a] ++ t, by rw [List.append_assoc]⟩
  unfold heads
  rw [List.foldl_cons]
  have e : hdStep k [] a = [a] := by unfold hdStep; simp
  rw [e]
  obtain ⟨t, e⟩ := this o [a]
  exact ⟨t, e⟩
noncomputable def sInt : D → Int
  | .int i => i
  | _ => 0
noncomputable def kOf (rows : List Row) (r : Int) : Int := sInt (smarks rows r)
theorem sloop_int (rows : List Row) (o : List Int) : ∀ (m many : Nat) (f : Int → D), ∃ k : Int → Int, sloop rows o (m + 1) many f = fun r => D.int (k r)
  | 0, many, f => by
    unfold sloop
    split
    · unfold sloop; exact ⟨sroundI rows o f, rfl⟩
    · exact ⟨sroundI rows o f, rfl⟩
  | m + 1, many, f => by
    unfold sloop
    split
    · exact sloop_int rows o m _ _
    · exact ⟨sroundI rows o f, rfl⟩
theorem smarks_int (rows : List Row) : smarks rows = fun r => D.int (kOf rows r) := by
  obtain ⟨k, e⟩ := sloop_int rows (order rows) (rows.length + 1) 0 fun r => D.its (row rows r).1
  have e' : smarks rows = fun r => D.int (k r) := e
  funext r
  unfold kOf
  rw [e']
  rfl
noncomputable def shr (rows : List Row) : List Row := inLine rows (kOf rows) (order rows)
theorem shr_hd {n : Nat} {rows : List Row} (G : GoodM n rows) : ∃ r t, shr rows = r :: t ∧ IsP n r.1 := by
  obtain ⟨L, _⟩ := order_line G
  obtain ⟨t, e⟩ := L.hd
  obtain ⟨t', e'⟩ := heads_hd (kOf rows) 0 t
  unfold shr inLine
  rw [e, e', List.map_cons]
  have := G.some
  exact ⟨_, exA rfl (G.perm (row rows 0) (row_mem (Int.le_refl 0) (show (0 : Int) < (rows.length : Int) by lia)))⟩
theorem DD.keyed {P : Program} {w : World} {K : PySem.W.Frag} {H H' : Hp} {a : Addr} {kvs : List (D × V)} (h : DD P w K H a kvs) (k : TupK H H') (e : H' a = H a) : DD P w K H' a kvs := by
  obtain ⟨xs, e0, r, n, z⟩ := h
  exact ⟨xs, by rw [e]; exact e0, r.mono fun _ _ q d => d.keyed k q, n, z⟩
theorem prs_put_same {κ : Type} [DecidableEq κ] : ∀ (n : Nat) (u : List κ) (a : κ), a ∈ u → u.Nodup → putK (prsF id n u) a (V.int ((n + u.idxOf a : Nat) : Int)) = prsF id n u := by
  intro n u a ha hn
  have hv : valV (prsF id n u) a = some (V.int ((n + u.idxOf a : Nat) : Int)) := by
    have := prsF_val (κ := κ) id (fun _ _ e => e) n u a
    rw [if_pos ha] at this
    exact this
  unfold putK
  rw [valV_any, hv]
  rw [if_pos (show (some (V.int ((n + u.idxOf a : Nat) : Int))).isSome = true from rfl)]
  clear hv
  induction u generalizing n with
  | nil => rfl
  | cons b u ih =>
    show (if b = a then (b, _) else (b, V.int (n : Int))) :: List.map _ (prsF id (n + 1) u) = (b, V.int (n : Int)) :: prsF id (n + 1) u
    have hnb := (List.nodup_cons.mp hn).1
    have hnu := (List.nodup_cons.mp hn).2
    by_cases e : b = a
    · subst e
      rw [if_pos rfl]
      have e1 : (b :: u).idxOf b = 0 := by simp
      rw [e1]
      congr 1
      have : ∀ (m : Nat) (l : List κ), b ∉ l → List.map (fun kv : κ × V => if kv.1 = b then (kv.1, V.int ((n + 0 : Nat) : Int)) else kv) (prsF id m l) = prsF id m l := by
        intro m l
        induction l generalizing m with
        | nil => intro _; rfl
        | cons c l ih2 =>
          intro hb
          show (if c = b then _ else (c, V.int (m : Int))) :: List.map _ (prsF id (m + 1) l) = (c, V.int (m : Int)) :: prsF id (m + 1) l
          rw [if_neg (fun z => hb (by rw [z]; simp)), ih2 (m + 1) (fun z => hb (List.mem_cons_of_mem _ z))]
      exact this _ _ hnb
    · rw [if_neg e]
      have ha' : a ∈ u := by rcases List.mem_cons.mp ha with z | z; exact absurd z.symm e; exact z
      have e1 : (b :: u).idxOf a = u.idxOf a + 1 := by
        rw [List.idxOf_cons]
        have hb : (b == a) = false := by simpa using e
        rw [hb]; rfl
      rw [e1, show n + (u.idxOf a + 1) = (n + 1) + u.idxOf a by lia, ih (n + 1) ha' hnu]
noncomputable def spShrunk (K : PySem.W.Frag) : Sp := fun vs H Q _ => ∃ (a : Addr) (n : Nat) (rows : List Row), vs = [.ref a, .int 0] ∧ RowsAt K H a rows ∧ GoodM n rows ∧ n ≤ 60 ∧ Gives K H Q (D.tup (rowsD (shr rows)))
end Gu
namespace Gu
open PySem L2
noncomputable def spGuise (K : PySem.W.Frag) : Sp := fun vs H Q _ => ∃ (n : Nat) (c : Int), vs = [.int n, .int c] ∧ 2 ≤ n ∧ n ≤ 5 ∧ ∀ (v : V) (H' : Hp) (rows : List Row), Same H H' → GoodM n rows → rows.length ≤ 8 → Dr K H' (D.tup (rowsD (shr rows))) v → Q v H'
end Gu
namespace Gu
open PySem L2
section
variable {α β : Type} [DecidableEq α] [DecidableEq β]
theorem uniq_snoc (xs : List α) (x : α) : uniq (xs ++ [x]) = addN (uniq xs) x := addAll_snoc [] xs x
theorem mem_uniq {xs : List α} {x : α} : x ∈ uniq xs ↔ x ∈ xs := by
  unfold uniq
  rw [addAll_mem]
  simp
theorem uniq_nd (xs : List α) : (uniq xs).Nodup := addAll_nodup xs [] List.nodup_nil
theorem uniq_app (xs ys : List α) : uniq (xs ++ ys) = addAll (uniq xs) ys := by
  unfold uniq addAll
  rw [List.foldl_append]
theorem addAll_old : ∀ {gs o : List α}, (∀ g ∈ gs, g ∈ o) → addAll o gs = o
  | [], o, _ => rfl
  | g :: gs, o, h => by
    show addAll (addN o g) gs = o
    rw [addN_mem (h g (by simp))]
    exact addAll_old fun x hx => h x (List.mem_cons_of_mem _ hx)
theorem addAll_fresh : ∀ {gs o : List α}, (o ++ gs).Nodup → addAll o gs = o ++ gs
  | [], o, _ => by simp [addAll]
  | g :: gs, o, h => by
    show addAll (addN o g) gs = _
    have hg : g ∉ o := fun z => (List.nodup_append.mp h).2.2 g z g (by simp) rfl
    rw [addN_new hg, addAll_fresh (by rw [List.append_assoc]; exact h), List.append_assoc]
    rfl
theorem uniq_self {l : List α} (h : l.Nodup) : uniq l = l := by
  have := addAll_fresh (o := []) (gs := l) (by simpa using h)
  rw [List.nil_append] at this
  exact this
theorem count_rev (f : Int → α) (f' : Int → β) : ∀ l : List Int, (∀ x ∈ l.reverse, ∀ y ∈ l.reverse, f' x = f' y → f x = f y) →
    (uniq (l.reverse.map f)).length ≤ (uniq (l.reverse.map f')).length ∧ ((uniq (l.reverse.map f')).length ≤ (uniq (l.reverse.map f)).length → ∀ x ∈ l.reverse, ∀ y ∈ l.reverse, f x = f y → f' x = f' y)
  | [], _ => ⟨Nat.le_refl _, fun _ x hx => by simp at hx⟩
  | z :: l, h => by
    rw [List.reverse_cons] at h ⊢
    obtain ⟨ih1, ih2⟩ := count_rev f f' l fun x hx y hy => h x (List.mem_append_left _ hx) y (List.mem_append_left _ hy)
    have hz : z ∈ l.reverse ++ [z] := by simp
    have hL : ∀ x, x ∈ l.reverse → x ∈ l.reverse ++ [z] := fun x hx => List.mem_append_left _ hx
    rw [List.map_append, List.map_append, show List.map f [z] = [f z] from rfl, show List.map f' [z] = [f' z] from rfl, uniq_snoc, uniq_snoc]
    generalize l.reverse = o at *
    by_cases h1 : f' z ∈ uniq (o.map f')
    · obtain ⟨z', hz', ez⟩ := List.mem_map.mp (mem_uniq.mp h1)
      have ez2 : f z' = f z := h z' (hL _ hz') z hz ez
      have h2 : f z ∈ uniq (o.map f) := mem_uniq.mpr (List.mem_map.mpr ⟨z', hz', ez2⟩)
      rw [addN_mem h1, addN_mem h2]
      refine ⟨ih1, fun hc x hx y hy e => ?_⟩
      have red : ∀ x ∈ o ++ [z], ∃ x' ∈ o, f x' = f x ∧ f' x' = f' x := fun x hx => by
        rcases List.mem_append.mp hx with hx | hx
        · exact ⟨x, hx, rfl, rfl⟩
        · rw [List.mem_singleton.mp hx]; exact ⟨z', hz', ez2, ez⟩
      obtain ⟨x', hx', e1, e2⟩ := red x hx
      obtain ⟨y', hy', e3, e4⟩ := red y hy
      rw [← e2, ← e4]
      exact ih2 hc x' hx' y' hy' (by rw [e1, e3, e])
    · rw [addN_new h1]
      by_cases h2 : f z ∈ uniq (o.map f)
      · rw [addN_mem h2, List.length_append]
        refine ⟨by simp; lia, fun hc => ?_⟩
        simp at hc
        lia
      · rw [addN_new h2, List.length_append, List.length_append]
        refine ⟨by simp; lia, fun hc x hx y hy e => ?_⟩
        have hc' : (uniq (o.map f')).length ≤ (uniq (o.map f)).length := by simp at hc; lia
        have no : ∀ x ∈ o, f x ≠ f z := fun x hx e => h2 (mem_uniq.mpr (List.mem_map.mpr ⟨x, hx, e⟩))
        rcases List.mem_append.mp hx with hx | hx
        · rcases List.mem_append.mp hy with hy | hy
          · exact ih2 hc' x hx y hy e
          · rw [List.mem_singleton.mp hy] at e
            exact absurd e (no x hx)
        · rcases List.mem_append.mp hy with hy | hy
          · rw [List.mem_singleton.mp hx] at e
            exact absurd e.symm (no y hy)
          · rw [List.mem_singleton.mp hx, List.mem_singleton.mp hy]
theorem count_of (f : Int → α) (f' : Int → β) (o : List Int) (h : ∀ x ∈ o, ∀ y ∈ o, f' x = f' y → f x = f y) :
    (uniq (o.map f)).length ≤ (uniq (o.map f')).length ∧ ((uniq (o.map f')).length ≤ (uniq (o.map f)).length → ∀ x ∈ o, ∀ y ∈ o, f x = f y → f' x = f' y) := by
  have := count_rev f f' o.reverse (by rw [List.reverse_reverse]; exact h)
  rwa [List.reverse_reverse] at this
noncomputable def nk (o : List Int) (key : Int → α) (x : Int) : Int := (((uniq (o.map key)).idxOf (key x) : Nat) : Int)
theorem idx_inj {l : List α} {a b : α} (ha : a ∈ l) (hb : b ∈ l) (e : l.idxOf a = l.idxOf b) : a = b := by
  have h1 := List.getElem_idxOf (List.idxOf_lt_length_of_mem ha)
  have h2 := List.getElem_idxOf (List.idxOf_lt_length_of_mem hb)
  rw [← h1, ← h2]
  congr 1
theorem nk_eq {o : List Int} {key : Int → α} {x y : Int} (hx : x ∈ o) (hy : y ∈ o) : nk o key x = nk o key y ↔ key x = key y := by
  unfold nk
  constructor
  · intro e
    exact idx_inj (mem_uniq.mpr (List.mem_map.mpr ⟨x, hx, rfl⟩)) (mem_uniq.mpr (List.mem_map.mpr ⟨y, hy, rfl⟩)) (by lia)
  · intro e; rw [e]
theorem nk_count (o : List Int) (key : Int → α) : (uniq (o.map (nk o key))).length = (uniq (o.map key)).length := by
  have h1 := (count_of (nk o key) key o fun x hx y hy e => (nk_eq hx hy).mpr e).1
  have h2 := (count_of key (nk o key) o fun x hx y hy e => (nk_eq hx hy).mp e).1
  lia
theorem addAll_mapOn (f : α → β) : ∀ (gs o : List α), (∀ x ∈ o ++ gs, ∀ y ∈ o ++ gs, f x = f y → x = y) → addAll (o.map f) (gs.map f) = (addAll o gs).map f
  | [], o, _ => rfl
  | g :: gs, o, hf => by
    have h1 : addN (o.map f) (f g) = (addN o g).map f := by
      by_cases h : g ∈ o
      · rw [addN_mem h, addN_mem (List.mem_map.mpr ⟨g, h, rfl⟩)]
      · have : f g ∉ o.map f := fun z => by
          obtain ⟨x, hx, e⟩ := List.mem_map.mp z
          exact h (hf x (List.mem_append_left _ hx) g (by simp) e ▸ hx)
        rw [addN_new h, addN_new this, List.map_append]; rfl
    show addAll (addN (o.map f) (f g)) (gs.map f) = (addAll (addN o g) gs).map f
    rw [h1]
    refine addAll_mapOn f gs (addN o g) fun x hx y hy => hf x ?_ y ?_
    · rcases List.mem_append.mp hx with hx | hx
      · rcases addN_mem_iff.mp hx with hx | hx
        · exact List.mem_append_left _ hx
        · rw [hx]; simp
      · exact List.mem_append_right _ (List.mem_cons_of_mem _ hx)
    · rcases List.mem_append.mp hy with hy | hy
      · rcases addN_mem_iff.mp hy with hy | hy
        · exact List.mem_append_left _ hy
        · rw [hy]; simp
      · exact List.mem_append_right _ (List.mem_cons_of_mem _ hy)
theorem idx_self {l : List α} (h : l.Nodup) : l.map (fun x => ((l.idxOf x : Nat) : Int)) = iota l.length := by
  refine List.ext_getElem (by rw [List.length_map, iota_len]) fun i h1 h2 => ?_
  rw [List.length_map] at h1
  rw [List.getElem_map, h.idxOf_getElem i h1]
  have := iota_get h1
  rw [List.getElem?_eq_getElem h2] at this
  exact (Option.some.inj this).symm
theorem nk_uniq (o : List Int) (key : Int → α) : uniq (o.map (nk o key)) = iota (uniq (o.map key)).length := by
  have e : o.map (nk o key) = (o.map key).map (fun v => (((uniq (o.map key)).idxOf v : Nat) : Int)) := by
    rw [List.map_map]; rfl
  rw [e]
  have := addAll_mapOn (fun v => (((uniq (o.map key)).idxOf v : Nat) : Int)) (o.map key) [] fun x hx y hy q => by
    rw [List.nil_append] at hx hy
    exact idx_inj (mem_uniq.mpr hx) (mem_uniq.mpr hy) (Int.ofNat.inj q)
  rw [List.map_nil] at this
  show addAll [] _ = _
  rw [this]
  exact idx_self (uniq_nd (o.map key))
end
noncomputable def run (M : List Row) : Int → List Nat → Int
  | x, [] => x
  | x, i :: w => run M ((row M x).2.getD i 0) w
noncomputable def beh (M : List Row) (x : Int) (w : List Nat) : List Int := (row M (run M x w)).1
structure Cl (n : Nat) (M : List Row) (o : List Int) : Prop where
  zero : 0 ∈ o
  cl : ∀ r ∈ o, ∀ g ∈ (row M r).2, g ∈ o
  len : ∀ r ∈ o, (row M r).2.length = n
theorem Cl.go {n : Nat} {M : List Row} {o : List Int} (C : Cl n M o) {x : Int} (hx : x ∈ o) (i : Nat) : (row M x).2.getD i 0 ∈ o := by
  by_cases h : i < (row M x).2.length
  · rw [List.getD_eq_getElem?_getD, List.getElem?_eq_getElem h]
    exact C.cl x hx _ (List.getElem_mem h)
  · rw [List.getD_eq_getElem?_getD, List.getElem?_eq_none (by lia)]
    exact C.zero
theorem order_cl {n : Nat} {rows : List Row} (G : GoodM n rows) : Cl n rows (order rows) := by
  obtain ⟨L, cl⟩ := order_line G
  obtain ⟨t, e⟩ := L.hd
  exact ⟨by rw [e]; simp, cl, fun r hr => G.len _ (row_mem (L.rg r hr).1 (L.rg r hr).2)⟩
noncomputable def Right {α : Type} (M : List Row) (o : List Int) (f : Int → α) : Prop := ∀ x ∈ o, ∀ y ∈ o, f x = f y ↔ beh M x = beh M y
structure Fair {α : Type} (M : List Row) (o : List Int) (f : Int → α) : Prop where
  all : ∀ x ∈ o, ∀ y ∈ o, beh M x = beh M y → f x = f y
  fst : ∀ x ∈ o, ∀ y ∈ o, f x = f y → (row M x).1 = (row M y).1
noncomputable def Finer {α β : Type} (M : List Row) (o : List Int) (f : Int → α) (f' : Int → β) : Prop := ∀ x ∈ o, ∀ y ∈ o, f' x = f' y ↔ (f x = f y ∧ (row M x).2.map f = (row M y).2.map f)
theorem Fair.next {α β : Type} {n : Nat} {M : List Row} {o : List Int} {f : Int → α} {f' : Int → β} (C : Cl n M o) (F : Fair M o f) (S : Finer M o f f') : Fair M o f' := by
  refine ⟨fun x hx y hy e => (S x hx y hy).mpr ⟨F.all x hx y hy e, ?_⟩, fun x hx y hy e => F.fst x hx y hy ((S x hx y hy).mp e).1⟩
  refine List.ext_getElem (by rw [List.length_map, List.length_map, C.len x hx, C.len y hy]) fun i h1 h2 => ?_
  rw [List.length_map] at h1 h2
  rw [List.getElem_map, List.getElem_map]
  have a1 := C.go hx i
  have a2 := C.go hy i
  have b1 : (row M x).2.getD i 0 = (row M x).2[i] := by rw [List.getD_eq_getElem?_getD, List.getElem?_eq_getElem h1]; rfl
  have b2 : (row M y).2.getD i 0 = (row M y).2[i] := by rw [List.getD_eq_getElem?_getD, List.getElem?_eq_getElem h2]; rfl
  rw [← b1, ← b2]
  exact F.all _ a1 _ a2 (funext fun w => congrFun e (i :: w))
theorem Fair.right {α β : Type} {n : Nat} {M : List Row} {o : List Int} {f : Int → α} {f' : Int → β} (C : Cl n M o) (F : Fair M o f) (S : Finer M o f f') (hk : ∀ x ∈ o, ∀ y ∈ o, f x = f y → f' x = f' y) : Right M o f' := by
  have key : ∀ (w : List Nat) (x y : Int), x ∈ o → y ∈ o → f x = f y → beh M x w = beh M y w := by
    intro w
    induction w with
    | nil => intro x y hx hy e; exact F.fst x hx y hy e
    | cons i w ih =>
      intro x y hx hy e
      refine ih _ _ (C.go hx i) (C.go hy i) ?_
      have h := ((S x hx y hy).mp (hk x hx y hy e)).2
      have h' := congrArg (fun l => l[i]?) h
      simp only [List.getElem?_map] at h'
      rw [List.getD_eq_getElem?_getD, List.getD_eq_getElem?_getD]
      cases e1 : (row M x).2[i]? with
      | none =>
        rw [e1] at h'
        cases e2 : (row M y).2[i]? with
        | none => rfl
        | some b => rw [e2] at h'; cases h'
      | some a =>
        rw [e1] at h'
        cases e2 : (row M y).2[i]? with
        | none => rw [e2] at h'; cases h'
        | some b => rw [e2] at h'; exact Option.some.inj h'
  intro x hx y hy
  refine ⟨fun e => funext fun w => key w x y hx hy ((S x hx y hy).mp e).1, fun e => (F.next C S).all x hx y hy e⟩
end Gu
namespace Gu
open PySem L2
theorem sround_nk (rows : List Row) (o : List Int) (f : Int → D) (r : Int) : sround rows o f r = D.int (nk o (keyOf rows f) r) := rfl
theorem keyOf_eq {rows : List Row} {f : Int → D} {x y : Int} : keyOf rows f x = keyOf rows f y ↔ (f x = f y ∧ (row rows x).2.map f = (row rows y).2.map f) := by
  unfold keyOf
  constructor
  · intro e
    injection e with e
    injection e with e1 e2
    injection e2 with e2 _
    injection e2 with e2
    exact ⟨e1, e2⟩
  · rintro ⟨e1, e2⟩
    rw [e1, e2]
theorem sround_finer (rows : List Row) (o : List Int) (f : Int → D) : Finer rows o f (sround rows o f) := fun x hx y hy => by
  rw [sround_nk, sround_nk]
  constructor
  · intro e
    injection e with e
    exact keyOf_eq.mp ((nk_eq hx hy).mp e)
  · intro e
    rw [(nk_eq hx hy).mpr (keyOf_eq.mpr e)]
theorem scount_is (rows : List Row) (o : List Int) (f : Int → D) : scount rows o f = (uniq (o.map (sround rows o f))).length := by
  have h1 : scount rows o f = (uniq (o.map (keyOf rows f))).length := rfl
  have h2 := (count_of (sround rows o f) (keyOf rows f) o fun x hx y hy e => by rw [sround_nk, sround_nk, (nk_eq hx hy).mpr e]).1
  have h3 := (count_of (keyOf rows f) (sround rows o f) o fun x hx y hy e => by
    rw [sround_nk, sround_nk] at e
    injection e with e
    exact (nk_eq hx hy).mp e).1
  lia
theorem sloop_right {n : Nat} {rows : List Row} {o : List Int} (C : Cl n rows o) : ∀ (m many : Nat) (f : Int → D), Fair rows o f → (many = 0 ∨ many = (uniq (o.map f)).length) → many ≤ o.length → o.length + 1 ≤ m + many → Right rows o (sloop rows o m many f)
  | 0, many, f, F, hm, hl, hf => by lia
  | m + 1, many, f, F, hm, hl, hf => by
    unfold sloop
    have S := sround_finer rows o f
    by_cases hc : many < scount rows o f
    · rw [if_pos hc]
      refine sloop_right C m _ _ (F.next C S) (.inr (scount_is rows o f)) (scount_le rows o f) (by lia)
    · rw [if_neg hc]
      have h1 : 1 ≤ scount rows o f := by
        have : keyOf rows f 0 ∈ uniq (skeys rows o f) := mem_uniq.mpr (List.mem_map.mpr ⟨0, C.zero, rfl⟩)
        exact List.length_pos_of_mem this
      have h2 : many = (uniq (o.map f)).length := by rcases hm with h | h; lia; exact h
      have h3 := scount_is rows o f
      refine F.right C S ((count_of f (sround rows o f) o fun x hx y hy e => ((S x hx y hy).mp e).1).2 (by lia))
theorem fair0 (rows : List Row) (o : List Int) : Fair rows o fun r => D.its (row rows r).1 :=
  ⟨fun x hx y hy e => by
    have := congrFun e []
    show D.its _ = D.its _
    rw [show (row rows x).1 = (row rows y).1 from this], fun x hx y hy e => its_inj e⟩
theorem kOf_right {n : Nat} {rows : List Row} (G : GoodM n rows) : Right rows (order rows) (kOf rows) := by
  have hl := (order_line G).1.len
  have h := sloop_right (order_cl G) (rows.length + 2) 0 _ (fair0 rows (order rows)) (.inl rfl) (by lia) (by lia)
  intro x hx y hy
  have := h x hx y hy
  have e : sloop rows (order rows) (rows.length + 2) 0 (fun r => D.its (row rows r).1) = fun r => D.int (kOf rows r) := smarks_int rows
  rw [e] at this
  rw [← this]
  exact ⟨fun q => by show D.int _ = D.int _; rw [q], fun q => D.int.inj q⟩
noncomputable def kf (ks : List Int) (x : Int) : Int := ks.getD x.toNat 0
theorem kf_numb {α : Type} [DecidableEq α] {L : Nat} {key : Int → α} {x : Int} (hx : x ∈ iota L) : kf (numb ((iota L).map key)) x = nk (iota L) key x := by
  have hx' := mem_iota.mp hx
  unfold kf numb nk
  have hl : x.toNat < L := by lia
  rw [List.getD_eq_getElem?_getD, List.getElem?_map, List.getElem?_map, iota_get hl]
  have : ((x.toNat : Nat) : Int) = x := by lia
  simp only [Option.map_some, Option.getD_some, this]
theorem rows_iota (fs : List Row) (g : Row → α) : fs.map g = (iota fs.length).map fun x => g (row fs x) := by
  refine List.ext_getElem? fun i => ?_
  rw [List.getElem?_map, List.getElem?_map]
  by_cases h : i < fs.length
  · rw [iota_get h, List.getElem?_eq_getElem h]
    show some (g fs[i]) = some (g (row fs (i : Int)))
    congr 2
    unfold row
    have : ((i : Nat) : Int).toNat = i := by lia
    rw [this, List.getD_eq_getElem?_getD, List.getElem?_eq_getElem h]; rfl
  · rw [List.getElem?_eq_none (by lia), List.getElem?_eq_none (by rw [iota_len]; lia)]
    rfl
noncomputable def pkey (fs : List Row) (ks : List Int) (x : Int) : Int × List Int := (kf ks x, (row fs x).2.map (kf ks))
theorem stepK_iota {fs : List Row} {ks : List Int} (h : ks.length = fs.length) : stepK ks fs = (iota fs.length).map (pkey fs ks) := by
  unfold stepK
  refine List.ext_getElem? fun i => ?_
  rw [List.getElem?_map, List.getElem?_map]
  by_cases hi : i < fs.length
  · have e1 : (ks.zip fs)[i]? = some (ks[i]'(by lia), fs[i]) := List.getElem?_zip_eq_some.mpr ⟨List.getElem?_eq_getElem (by lia), List.getElem?_eq_getElem hi⟩
    rw [iota_get hi, e1]
    simp only [Option.map_some]
    congr 1
    unfold pkey kf row
    have : ((i : Nat) : Int).toNat = i := by lia
    rw [this, List.getD_eq_getElem?_getD, List.getElem?_eq_getElem (by lia : i < ks.length), List.getD_eq_getElem?_getD, List.getElem?_eq_getElem hi]
    rfl
  · rw [List.getElem?_eq_none (by rw [List.length_zip]; lia), List.getElem?_eq_none (by rw [iota_len]; lia)]
    rfl
theorem cnt_numb {α : Type} [DecidableEq α] {xs : List α} (h : xs ≠ []) : cnt (numb xs) = ((uniq xs).length : Int) := by
  have hne : numb xs ≠ [] := fun z => h (by
    have := numb_len xs
    rw [z] at this
    exact List.eq_nil_of_length_eq_zero this.symm)
  obtain ⟨h1, h2⟩ := cnt_max hne fun k hk => (numb_rg hk).1
  have h3 := (numb_rg h1).2
  have hpos : 0 < (uniq xs).length := by
    cases xs with
    | nil => exact absurd rfl h
    | cons a r => exact List.length_pos_of_mem (mem_uniq.mpr (show a ∈ a :: r by simp))
  have hm : (uniq xs)[(uniq xs).length - 1]'(by lia) ∈ xs := mem_uniq.mp (List.getElem_mem _)
  have h4 : (((uniq xs).length - 1 : Nat) : Int) ∈ numb xs := by
    unfold numb
    refine List.mem_map.mpr ⟨_, hm, ?_⟩
    rw [(uniq_nd xs).idxOf_getElem]
  have := h2 _ h4
  lia
theorem iota_ne {L : Nat} {α : Type} {g : Int → α} (h : 1 ≤ L) : (iota L).map g ≠ [] := fun z => by
  have := congrArg List.length z
  rw [List.length_map, iota_len] at this
  simp at this
  lia
theorem kf_uniq {α : Type} [DecidableEq α] {L : Nat} {key : Int → α} : (uniq ((iota L).map (kf (numb ((iota L).map key))))).length = (uniq ((iota L).map key)).length := by
  rw [← nk_count (iota L) key]
  congr 2
  exact List.map_congr_left fun x hx => kf_numb hx
theorem pkey_finer {fs : List Row} (hgo : ∀ x ∈ iota fs.length, ∀ g ∈ (row fs x).2, g ∈ iota fs.length) {ks : List Int} : Finer fs (iota fs.length) (kf ks) (kf (numb ((iota fs.length).map (pkey fs ks)))) := fun x hx y hy => by
  rw [kf_numb hx, kf_numb hy, nk_eq hx hy]
  unfold pkey
  rw [Prod.mk.injEq]
theorem fs_cl {n : Nat} {fs : List Row} (G : GoodF n fs) : Cl n fs (iota fs.length) := by
  refine ⟨mem_iota.mpr ⟨by lia, by have := G.some; lia⟩, fun r hr g hg => ?_, fun r hr => ?_⟩
  · have h := mem_iota.mp hr
    exact mem_iota.mpr (G.go _ (row_mem h.1 h.2) g hg)
  · have h := mem_iota.mp hr
    exact G.len _ (row_mem h.1 h.2)
theorem kloop_right {n : Nat} {fs : List Row} (G : GoodF n fs) : ∀ (m : Nat) (c : Int) (ks : List Int), (∃ (α : Type) (_ : DecidableEq α) (key : Int → α), ks = numb ((iota fs.length).map key)) → Fair fs (iota fs.length) (kf ks) →
    (c = 0 ∨ ∃ ks0 : List Int, Fair fs (iota fs.length) (kf ks0) ∧ Finer fs (iota fs.length) (kf ks0) (kf ks) ∧ c = ((uniq ((iota fs.length).map (kf ks0))).length : Int)) → 0 ≤ c → c ≤ (fs.length : Int) → (fs.length : Int) + 1 ≤ m + c →
    Right fs (iota fs.length) (kf (kloop fs m c ks)) ∧ ∃ (α : Type) (_ : DecidableEq α) (key : Int → α), kloop fs m c ks = numb ((iota fs.length).map key)
  | 0, c, ks, hk, F, hp, h0, h1, h2 => by lia
  | m + 1, c, ks, hk, F, hp, h0, h1, h2 => by
    unfold kloop
    have C := fs_cl G
    obtain ⟨α, ia, key, rfl⟩ := hk
    have hcn := cnt_numb (iota_ne (g := key) G.some)
    have hU : (uniq ((iota fs.length).map key)).length ≤ fs.length := by
      have := uniq_le ((iota fs.length).map key)
      rw [List.length_map, iota_len] at this
      exact this
    have hUp : 1 ≤ (uniq ((iota fs.length).map key)).length := List.length_pos_of_mem (mem_uniq.mpr (List.mem_map.mpr ⟨0, C.zero, rfl⟩))
    by_cases hc : c < cnt (numb ((iota fs.length).map key))
    · rw [if_pos hc, hcn, stepK_iota (by rw [numb_len, List.length_map, iota_len])]
      refine kloop_right G m _ _ ⟨_, _, _, rfl⟩ (F.next C (pkey_finer C.cl)) (.inr ⟨_, F, pkey_finer C.cl, ?_⟩) (by lia) (by lia) (by rw [hcn] at hc; lia)
      rw [kf_uniq]
    · rw [if_neg hc]
      refine ⟨?_, _, _, _, rfl⟩
      rcases hp with hp | ⟨ks0, F0, S0, hc0⟩
      · rw [hcn] at hc; lia
      · refine F0.right C S0 ((count_of _ _ _ fun x hx y hy e => ((S0 x hx y hy).mp e).1).2 ?_)
        rw [kf_uniq]
        rw [hcn] at hc
        lia
theorem kinds_right {n : Nat} {fs : List Row} (G : GoodF n fs) : Right fs (iota fs.length) (kf (kinds fs)) ∧ ∃ (α : Type) (_ : DecidableEq α) (key : Int → α), kinds fs = numb ((iota fs.length).map key) := by
  have C := fs_cl G
  unfold kinds
  refine kloop_right G (fs.length + 1) 0 _ ⟨List Int, inferInstance, fun x => (row fs x).1, by rw [rows_iota fs (·.1)]⟩ ?_ (.inl rfl) (by lia) (by lia) (by lia)
  rw [rows_iota fs (·.1)]
  refine ⟨fun x hx y hy e => ?_, fun x hx y hy e => ?_⟩
  · rw [kf_numb hx, kf_numb hy, nk_eq hx hy]
    exact congrFun e []
  · rw [kf_numb hx, kf_numb hy, nk_eq hx hy] at e
    exact e
end Gu
namespace Gu
open PySem L2
inductive BF (M : List Row) : Nat → List Int → List Int → Prop
  | stop {i : Nat} {o : List Int} : o.length ≤ i → BF M i o o
  | step {i : Nat} {o res : List Int} {r : Int} : o[i]? = some r → BF M (i + 1) (addAll o (row M r).2) res → BF M i o res
theorem BF.det {M : List Row} {i : Nat} {o a b : List Int} (h : BF M i o a) (h' : BF M i o b) : a = b := by
  induction h generalizing b with
  | stop hl =>
    cases h' with
    | stop _ => rfl
    | step e _ => rw [List.getElem?_eq_none hl] at e; cases e
  | step e _ ih =>
    cases h' with
    | stop hl => rw [List.getElem?_eq_none hl] at e; cases e
    | step e' q =>
      rw [e] at e'
      cases e'
      exact ih q
theorem BF.sub {M : List Row} {i : Nat} {o a : List Int} (h : BF M i o a) : ∃ m, a = o ++ m := by
  induction h with
  | stop _ => exact ⟨[], by simp⟩
  | @step i o res r e _ ih =>
    obtain ⟨m, em⟩ := ih
    obtain ⟨m', em'⟩ := addAll_sub (row M r).2 o
    exact ⟨m' ++ m, by rw [em, em', List.append_assoc]⟩
theorem bf_of {n : Nat} {rows : List Row} (G : GoodM n rows) : ∀ (f i : Nat) (o : List Int), Line rows o → i ≤ o.length → rows.length + 1 ≤ f + i → BF rows i o (bfs rows f i o)
  | 0, i, o, L, hi, hf => by
    have := L.len
    lia
  | f + 1, i, o, L, hi, hf => by
    cases e : o[i]? with
    | none =>
      rw [bfs_stop (List.getElem?_eq_none_iff.mp e)]
      exact .stop (List.getElem?_eq_none_iff.mp e)
    | some r =>
      rw [bfs_step e]
      have hr : r ∈ o := List.mem_of_getElem? e
      have hil : i < o.length := (List.getElem?_eq_some_iff.mp e).1
      obtain ⟨m, em⟩ := addAll_sub (row rows r).2 o
      exact .step e (bf_of G f (i + 1) _ (L.add G hr) (by rw [em, List.length_append]; lia) (by lia))
theorem order_bf {n : Nat} {rows : List Row} (G : GoodM n rows) : BF rows 0 [0] (order rows) := bf_of G (rows.length + 1) 0 [0] (line0 G) (by simp) (by lia)
theorem uniq_addAll {α β : Type} [DecidableEq α] [DecidableEq β] (h : α → β) : ∀ (gs o : List α), uniq ((addAll o gs).map h) = addAll (uniq (o.map h)) (gs.map h)
  | [], o => rfl
  | g :: gs, o => by
    show uniq ((addAll (addN o g) gs).map h) = addAll (addN (uniq (o.map h)) (h g)) (gs.map h)
    rw [uniq_addAll h gs (addN o g)]
    congr 1
    by_cases hg : g ∈ o
    · rw [addN_mem hg, addN_mem (mem_uniq.mpr (List.mem_map.mpr ⟨g, hg, rfl⟩))]
    · rw [addN_new hg, List.map_append]
      exact uniq_snoc _ _
noncomputable def Mor (M' M : List Row) (o' : List Int) (h : Int → Int) : Prop := ∀ x ∈ o', row M (h x) = ((row M' x).1, (row M' x).2.map h)
theorem BF.map {M' M : List Row} {h : Int → Int} {i : Nat} {o res : List Int} (b : BF M' i o res) : Mor M' M res h → (∀ j r, j < i → o[j]? = some r → ∀ g ∈ (row M' r).2, g ∈ o) → i ≤ o.length →
    BF M (uniq ((o.take i).map h)).length (uniq (o.map h)) (uniq (res.map h)) := by
  induction b with
  | @stop i o hl =>
    intro _ _ _
    rw [List.take_of_length_le hl]
    exact .stop (Nat.le_refl _)
  | @step i o res r e b ih =>
    intro mo pc hi
    obtain ⟨m0, em0⟩ := b.sub
    obtain ⟨m, em⟩ := addAll_sub (row M' r).2 o
    have hil : i < o.length := (List.getElem?_eq_some_iff.mp e).1
    have hro : r ∈ o := List.mem_of_getElem? e
    have hr := mo r (by rw [em0, em]; exact List.mem_append_left _ (List.mem_append_left _ hro))
    have ih' := ih mo (fun j r' hj er g hg => ?_) (by rw [em, List.length_append]; lia)
    · have et : (addAll o (row M' r).2).take (i + 1) = o.take i ++ [r] := by
        rw [em, List.take_append_of_le_length (by lia), List.take_add_one, e]; rfl
      rw [et, List.map_append, show List.map h [r] = [h r] from rfl, uniq_snoc, uniq_addAll] at ih'
      by_cases hm : h r ∈ uniq ((o.take i).map h)
      · rw [addN_mem hm, addAll_old] at ih'
        · exact ih'
        · intro g hg
          obtain ⟨r', hr', er'⟩ := List.mem_map.mp (mem_uniq.mp hm)
          obtain ⟨j, hj, ej⟩ := List.getElem_of_mem hr'
          rw [List.length_take] at hj
          rw [List.getElem_take] at ej
          have hmo := mo r' (by rw [em0, em]; exact List.mem_append_left _ (List.mem_append_left _ (List.mem_of_mem_take hr')))
          rw [er', hr] at hmo
          have e2 : (row M' r).2.map h = (row M' r').2.map h := congrArg Prod.snd hmo
          rw [e2] at hg
          obtain ⟨g', hg', eg⟩ := List.mem_map.mp hg
          have := pc j r' (by lia) (by rw [List.getElem?_eq_getElem (by lia), ej]) g' hg'
          exact mem_uniq.mpr (List.mem_map.mpr ⟨g', this, eg⟩)
      · rw [addN_new hm, List.length_append] at ih'
        refine .step (r := h r) ?_ ?_
        · have eo : o = (o.take i ++ [r]) ++ o.drop (i + 1) := by
            have : o.take (i + 1) = o.take i ++ [r] := by rw [List.take_add_one, e]; rfl
            rw [← this, List.take_append_drop]
          have e3 : uniq (o.map h) = addAll (uniq ((o.take i).map h) ++ [h r]) ((o.drop (i + 1)).map h) := by
            conv => lhs; rw [eo]
            rw [List.map_append, uniq_app, List.map_append, show List.map h [r] = [h r] from rfl, uniq_snoc, addN_new hm]
          obtain ⟨m2, em2⟩ := addAll_sub ((o.drop (i + 1)).map h) (uniq ((o.take i).map h) ++ [h r])
          rw [e3, em2, List.append_assoc, List.getElem?_append_right (Nat.le_refl _), Nat.sub_self]
          rfl
        · rw [hr]
          exact ih'
    · have hjo : j < o.length := by lia
      have er' : o[j]? = some r' := by rw [em, List.getElem?_append_left hjo] at er; exact er
      by_cases hji : j = i
      · subst hji
        rw [e] at er'
        cases er'
        exact addAll_mem.mpr (.inr hg)
      · exact addAll_mem.mpr (.inl (pc j r' (by lia) er' g hg))
theorem order_map {n n' : Nat} {M' M : List Row} {h : Int → Int} (G' : GoodM n' M') (G : GoodM n M) (h0 : h 0 = 0) (mo : Mor M' M (order M') h) : uniq ((order M').map h) = order M := by
  have b := (order_bf G').map mo (fun j r hj => absurd hj (Nat.not_lt_zero _)) (by simp)
  have e : uniq ([(0 : Int)].map h) = [0] := by
    rw [show [(0 : Int)].map h = [h 0] from rfl, h0]; rfl
  rw [e] at b
  exact b.det (order_bf G)
theorem heads_uniq (k : Int → Int) : ∀ l : List Int, (heads k l.reverse).map k = uniq (l.reverse.map k)
  | [] => rfl
  | a :: l => by
    rw [List.reverse_cons, heads_snoc, List.map_append, show List.map k [a] = [k a] from rfl, uniq_snoc, ← heads_uniq k l]
    unfold hdStep
    by_cases h : k a ∈ (heads k l.reverse).map k
    · rw [if_pos h, addN_mem h]
    · rw [if_neg h, addN_new h, List.map_append]; rfl
theorem heads_map_uniq (k : Int → Int) (o : List Int) : (heads k o).map k = uniq (o.map k) := by
  have := heads_uniq k o.reverse
  rwa [List.reverse_reverse] at this
theorem heads_ker {k k' : Int → Int} : ∀ l : List Int, (∀ x ∈ l.reverse, ∀ y ∈ l.reverse, k x = k y ↔ k' x = k' y) → heads k l.reverse = heads k' l.reverse
  | [], _ => rfl
  | a :: l, h => by
    rw [List.reverse_cons] at h ⊢
    rw [heads_snoc, heads_snoc, heads_ker l fun x hx y hy => h x (List.mem_append_left _ hx) y (List.mem_append_left _ hy)]
    unfold hdStep
    have hin := (heads_has k' l.reverse).2.1
    have : k a ∈ (heads k' l.reverse).map k ↔ k' a ∈ (heads k' l.reverse).map k' := by
      constructor
      · intro hm
        obtain ⟨x, hx, e⟩ := List.mem_map.mp hm
        exact List.mem_map.mpr ⟨x, hx, (h x (List.mem_append_left _ (hin x hx)) a (by simp)).mp e⟩
      · intro hm
        obtain ⟨x, hx, e⟩ := List.mem_map.mp hm
        exact List.mem_map.mpr ⟨x, hx, (h x (List.mem_append_left _ (hin x hx)) a (by simp)).mpr e⟩
    by_cases hm : k a ∈ (heads k' l.reverse).map k
    · rw [if_pos hm, if_pos (this.mp hm)]
    · rw [if_neg hm, if_neg (fun z => hm (this.mpr z))]
theorem heads_ker' {k k' : Int → Int} {o : List Int} (h : ∀ x ∈ o, ∀ y ∈ o, k x = k y ↔ k' x = k' y) : heads k o = heads k' o := by
  have := heads_ker (k := k) (k' := k') o.reverse (by rw [List.reverse_reverse]; exact h)
  rwa [List.reverse_reverse] at this
theorem heads_comp (k h : Int → Int) : ∀ l : List Int, (heads (fun x => k (h x)) l.reverse).map h = heads k (uniq (l.reverse.map h))
  | [] => rfl
  | a :: l => by
    rw [List.reverse_cons, heads_snoc, List.map_append, show List.map h [a] = [h a] from rfl, uniq_snoc]
    have ih := heads_comp k h l
    have e : (heads (fun x => k (h x)) l.reverse).map (fun x => k (h x)) = (heads k (uniq (l.reverse.map h))).map k := by
      rw [← ih, List.map_map]; rfl
    unfold hdStep
    by_cases hm : h a ∈ uniq (l.reverse.map h)
    · have hk : k (h a) ∈ (heads (fun x => k (h x)) l.reverse).map (fun x => k (h x)) := by
        rw [e]
        exact (heads_has k _).1 _ hm
      rw [if_pos hk, addN_mem hm]; exact ih
    · rw [addN_new hm, heads_snoc]
      unfold hdStep
      by_cases hk : k (h a) ∈ (heads (fun x => k (h x)) l.reverse).map (fun x => k (h x))
      · rw [if_pos hk, if_pos (by rw [← e]; exact hk)]; exact ih
      · rw [if_neg hk, if_neg (by rw [← e]; exact hk), List.map_append, ih]; rfl
theorem heads_comp' (k h : Int → Int) (o : List Int) : (heads (fun x => k (h x)) o).map h = heads k (uniq (o.map h)) := by
  have := heads_comp k h o.reverse
  rwa [List.reverse_reverse] at this
theorem idx_ker {k k' : Int → Int} {x : Int} : ∀ {l : List Int}, (∀ y ∈ l, k y = k x ↔ k' y = k' x) → (l.map k).idxOf (k x) = (l.map k').idxOf (k' x)
  | [], _ => rfl
  | b :: l, h => by
    rw [List.map_cons, List.map_cons, List.idxOf_cons, List.idxOf_cons, idx_ker fun y hy => h y (List.mem_cons_of_mem _ hy)]
    have := h b (by simp)
    have e : (k b == k x) = (k' b == k' x) := by
      rw [Bool.eq_iff_iff, beq_iff_eq, beq_iff_eq]; exact this
    rw [e]
theorem run_mor {n : Nat} {M' M : List Row} {o' : List Int} {h : Int → Int} (C : Cl n M' o') (h0 : h 0 = 0) (mo : Mor M' M o' h) : ∀ (w : List Nat) (x : Int), x ∈ o' → h (run M' x w) = run M (h x) w ∧ run M' x w ∈ o'
  | [], x, hx => ⟨rfl, hx⟩
  | i :: w, x, hx => by
    have e : (row M (h x)).2.getD i 0 = h ((row M' x).2.getD i 0) := by
      rw [mo x hx, List.getD_eq_getElem?_getD, List.getD_eq_getElem?_getD, List.getElem?_map]
      cases (row M' x).2[i]? with
      | none => exact h0.symm
      | some a => rfl
    obtain ⟨h1, h2⟩ := run_mor C h0 mo w _ (C.go hx i)
    refine ⟨?_, h2⟩
    show h (run M' ((row M' x).2.getD i 0) w) = run M ((row M (h x)).2.getD i 0) w
    rw [e]; exact h1
theorem inLine_mor {n n' : Nat} {M' M : List Row} {h k k' : Int → Int} (G' : GoodM n' M') (G : GoodM n M) (h0 : h 0 = 0) (mo : Mor M' M (order M') h) (R : Right M (order M) k) (R' : Right M' (order M') k') :
    inLine M' k' (order M') = inLine M k (order M) := by
  have C' := order_cl G'
  have eo := order_map G' G h0 mo
  have hin : ∀ x ∈ order M', h x ∈ order M := fun x hx => by rw [← eo]; exact mem_uniq.mpr (List.mem_map.mpr ⟨x, hx, rfl⟩)
  have hb : ∀ x ∈ order M', beh M' x = beh M (h x) := fun x hx => funext fun w => by
    obtain ⟨h1, h2⟩ := run_mor C' h0 mo w x hx
    show (row M' (run M' x w)).1 = (row M (run M (h x) w)).1
    rw [← h1, mo _ h2]
  have ker : ∀ x ∈ order M', ∀ y ∈ order M', k' x = k' y ↔ k (h x) = k (h y) := fun x hx y hy => by
    rw [R' x hx y hy, R _ (hin x hx) _ (hin y hy), hb x hx, hb y hy]
  have hh : heads k' (order M') = heads (fun x => k (h x)) (order M') := heads_ker' ker
  have hm : (heads (fun x => k (h x)) (order M')).map h = heads k (order M) := by rw [heads_comp', eo]
  have hsub : ∀ r ∈ heads (fun x => k (h x)) (order M'), r ∈ order M' := (heads_has _ _).2.1
  unfold inLine
  rw [hh, ← hm, List.map_map]
  refine List.map_congr_left fun r hr => ?_
  have hro := hsub r hr
  show _ = ((row M (h r)).1, (row M (h r)).2.map _)
  rw [mo r hro]
  refine Prod.ext rfl ?_
  show List.map _ _ = List.map _ (List.map h (row M' r).2)
  rw [List.map_map]
  refine List.map_congr_left fun g hg => ?_
  have hgo := C'.cl r hro g hg
  show (((List.map k' (heads (fun x => k (h x)) (order M'))).idxOf (k' g) : Nat) : Int) = ((((heads (fun x => k (h x)) (order M')).map h).map k).idxOf (k (h g)) : Nat)
  rw [List.map_map]
  have := idx_ker (k := k') (k' := fun x => k (h x)) (x := g) (l := heads (fun x => k (h x)) (order M')) fun y hy => ker y (hsub y hy) g hgo
  rw [this]
  rfl
theorem GoodF.m {n : Nat} {fs : List Row} (G : GoodF n fs) : GoodM n fs := ⟨G.few, G.some, G.perm, G.len, G.go⟩
theorem found_row {n : Nat} {rows : List Row} (G : GoodM n rows) {x : Int} (hx : x ∈ order rows) : row (found rows) ((((order rows).idxOf x : Nat) : Int)) = ((row rows x).1, (row rows x).2.map fun g => (((order rows).idxOf g : Nat) : Int)) := by
  have hl := List.idxOf_lt_length_of_mem hx
  unfold row found foundOf
  have : ((((order rows).idxOf x : Nat) : Int)).toNat = (order rows).idxOf x := by lia
  rw [this, List.getD_eq_getElem?_getD, List.getElem?_map, List.getElem?_eq_getElem hl, List.getElem_idxOf hl]
  rfl
theorem found_len (rows : List Row) : (found rows).length = (order rows).length := by unfold found foundOf; rw [List.length_map]
theorem found_order {n : Nat} {rows : List Row} (G : GoodM n rows) : order (found rows) = iota (found rows).length := by
  obtain ⟨L, cl⟩ := order_line G
  obtain ⟨t, e⟩ := L.hd
  have h0 : (((order rows).idxOf 0 : Nat) : Int) = 0 := by rw [e]; simp
  have h := order_map (h := fun x => (((order rows).idxOf x : Nat) : Int)) G (found_good G).m h0 fun x hx => found_row G hx
  rw [← h, idx_self L.nd, found_len]
  exact uniq_self (iota_nodup _)
theorem found_mor {n : Nat} {rows : List Row} (G : GoodM n rows) : Mor (found rows) rows (order (found rows)) fun i => (order rows).getD i.toNat 0 := by
  obtain ⟨L, cl⟩ := order_line G
  intro i hi
  rw [found_order G, found_len] at hi
  obtain ⟨i0, i1⟩ := mem_iota.mp hi
  have hl : i.toNat < (order rows).length := by lia
  have e1 : (order rows).getD i.toNat 0 = (order rows)[i.toNat] := by rw [List.getD_eq_getElem?_getD, List.getElem?_eq_getElem hl]; rfl
  have hx : (order rows)[i.toNat] ∈ order rows := List.getElem_mem hl
  have e2 : (((order rows).idxOf (order rows)[i.toNat] : Nat) : Int) = i := by rw [L.nd.idxOf_getElem]; lia
  have e3 := found_row G hx
  rw [e2] at e3
  show row rows ((order rows).getD i.toNat 0) = _
  rw [e1, e3]
  refine Prod.ext rfl ?_
  show (row rows (order rows)[i.toNat]).2 = List.map _ (List.map _ _)
  rw [List.map_map]
  conv => lhs; rw [← List.map_id (row rows (order rows)[i.toNat]).2]
  refine List.map_congr_left fun g hg => ?_
  have hg' := cl _ hx g hg
  have hl' := List.idxOf_lt_length_of_mem hg'
  show g = (order rows).getD ((((order rows).idxOf g : Nat) : Int)).toNat 0
  have : ((((order rows).idxOf g : Nat) : Int)).toNat = (order rows).idxOf g := by lia
  rw [this, List.getD_eq_getElem?_getD, List.getElem?_eq_getElem hl', List.getElem_idxOf hl']
  rfl
theorem iota_take {L i : Nat} (h : i ≤ L) : (iota L).take i = iota i := by
  refine List.ext_getElem? fun j => ?_
  by_cases hj : j < i
  · rw [List.getElem?_take_of_lt hj, iota_get (by lia), iota_get hj]
  · rw [List.getElem?_eq_none (by rw [List.length_take, iota_len]; lia), List.getElem?_eq_none (by rw [iota_len]; lia)]
theorem iota_app {c : Nat} {u m : List Int} (e : u ++ m = iota c) : u = iota u.length := by
  have hl : u.length ≤ c := by have := congrArg List.length e; rw [List.length_append, iota_len] at this; lia
  have := congrArg (List.take u.length) e
  rw [List.take_append_of_le_length (Nat.le_refl _), List.take_length, iota_take hl] at this
  exact this
theorem iota_succ (j : Nat) : iota (j + 1) = iota j ++ [(j : Int)] := by
  unfold iota
  rw [List.range_succ, List.map_append]; rfl
theorem least_inLine {fs : List Row} {ks : List Int} (hl : ks.length = fs.length) (hn : ∃ (α : Type) (_ : DecidableEq α) (key : Int → α), ks = numb ((iota fs.length).map key)) (hgo : ∀ r ∈ fs, ∀ g ∈ r.2, 0 ≤ g ∧ g < (fs.length : Int)) :
    leastOf fs ks = inLine fs (kf ks) (iota fs.length) := by
  obtain ⟨α, ia, key, ek⟩ := hn
  have hU : uniq ((iota fs.length).map (kf ks)) = iota (uniq ((iota fs.length).map key)).length := by
    have e : (iota fs.length).map (kf ks) = (iota fs.length).map (nk (iota fs.length) key) := List.map_congr_left fun x hx => by rw [ek]; exact kf_numb hx
    rw [e]
    exact nk_uniq (iota fs.length) key
  generalize hc : (uniq ((iota fs.length).map key)).length = c at hU
  have hpre : ∀ i, i ≤ fs.length → uniq ((iota i).map (kf ks)) = iota (uniq ((iota i).map (kf ks))).length := fun i hi => by
    have e1 : iota fs.length = iota i ++ (iota fs.length).drop i := by
      conv => lhs; rw [← List.take_append_drop i (iota fs.length)]
      rw [iota_take hi]
    rw [e1, List.map_append, uniq_app] at hU
    obtain ⟨m, em⟩ := addAll_sub (((iota fs.length).drop i).map (kf ks)) (uniq ((iota i).map (kf ks)))
    rw [em] at hU
    exact iota_app hU
  have main : ∀ i, i ≤ fs.length → leastP fs ks i = (heads (kf ks) (iota i)).map fun r => ((row fs r).1, (row fs r).2.map (kf ks)) := by
    intro i
    induction i with
    | zero => intro _; rfl
    | succ i ih =>
      intro hi
      have ih := ih (by lia)
      have hif : i < fs.length := by lia
      have hik : i < ks.length := by lia
      rw [leastP_step (r := fs[i]) (k := ks[i]) (List.getElem?_eq_getElem hif) (List.getElem?_eq_getElem hik), ih, iota_succ, heads_snoc]
      have p1 := hpre i (by lia)
      have p2 := hpre (i + 1) hi
      rw [iota_succ, List.map_append, show List.map (kf ks) [(i : Int)] = [kf ks i] from rfl, uniq_snoc] at p2
      have hm := heads_map_uniq (kf ks) (iota i)
      have hlen : (heads (kf ks) (iota i)).length = (uniq ((iota i).map (kf ks))).length := by rw [← hm, List.length_map]
      have ek : ks[i] = kf ks (i : Int) := by
        unfold kf
        have : ((i : Nat) : Int).toNat = i := by lia
        rw [this, List.getD_eq_getElem?_getD, List.getElem?_eq_getElem hik]; rfl
      have er : fs[i] = row fs (i : Int) := by
        unfold row
        have : ((i : Nat) : Int).toNat = i := by lia
        rw [this, List.getD_eq_getElem?_getD, List.getElem?_eq_getElem hif]; rfl
      unfold lstep hdStep
      rw [hm, List.length_map, hlen]
      by_cases hin : kf ks i ∈ uniq ((iota i).map (kf ks))
      · rw [if_pos hin, if_neg]
        show ¬ ks[i] = _
        rw [ek]
        rw [p1] at hin
        have := mem_iota.mp hin
        lia
      · rw [if_neg hin, if_pos]
        · rw [List.map_append, er]
          rfl
        · show ks[i] = _
          rw [ek]
          rw [addN_new hin, List.length_append] at p2
          have e3 : iota ((uniq ((iota i).map (kf ks))).length + [kf ks (i : Int)].length) = iota (uniq ((iota i).map (kf ks))).length ++ [((uniq ((iota i).map (kf ks))).length : Int)] := iota_succ _
          rw [e3, ← p1] at p2
          have := List.append_cancel_left p2
          simpa using this
  rw [← leastP_all hl, main fs.length (Nat.le_refl _)]
  unfold inLine
  refine List.map_congr_left fun r hr => ?_
  refine Prod.ext rfl ?_
  refine List.map_congr_left fun g hg => ?_
  have hr' := mem_iota.mp ((heads_has (kf ks) (iota fs.length)).2.1 r hr)
  have hg' := hgo _ (row_mem hr'.1 hr'.2) g hg
  have hin : kf ks g ∈ uniq ((iota fs.length).map (kf ks)) := mem_uniq.mpr (List.mem_map.mpr ⟨g, mem_iota.mpr hg', rfl⟩)
  rw [heads_map_uniq]
  have hl' := List.idxOf_lt_length_of_mem hin
  have e := List.getElem_idxOf hl'
  rw [hU] at hin hl' ⊢
  have h1 := mem_iota.mp hin
  have e2 : (iota c)[(iota c).idxOf (kf ks g)]'hl' = kf ks g := List.getElem_idxOf hl'
  have e3 := iota_get (n := c) (i := (iota c).idxOf (kf ks g)) (by rw [iota_len] at hl'; exact hl')
  rw [List.getElem?_eq_getElem hl', e2] at e3
  exact Option.some.inj e3
theorem least_shr {n : Nat} {rows : List Row} (G : GoodM n rows) : least rows = shr rows := by
  have GF := found_good G
  obtain ⟨R, N⟩ := kinds_right GF
  obtain ⟨L, cl⟩ := order_line G
  obtain ⟨t, e⟩ := L.hd
  unfold least
  rw [least_inLine (kinds_good GF).len N GF.go]
  have h0 : (fun i : Int => (order rows).getD i.toNat 0) 0 = 0 := by
    show (order rows).getD (0 : Int).toNat 0 = 0
    rw [e]; rfl
  have R' : Right (found rows) (order (found rows)) (kf (kinds (found rows))) := by rw [found_order G]; exact R
  have := inLine_mor (h := fun i => (order rows).getD i.toNat 0) GF.m G h0 (found_mor G) (kOf_right G) R'
  rw [found_order G] at this
  exact this
end Gu
namespace L2
open PySem PySem.Spec PyProof.Rows
section
variable {X : Cx} {pins : List (Addr × Obj)} {σ : St} {H : Hp} {s : Shared} {a : Addr} {kvs : List (Key × V)} {k : Key} {u : Value} {A : Around} {E : Value → Shared → Prop}
end
section
variable {X : Cx} {o e f : Expr} {apos cpos : Pos} {td ty tx : TE}
end
end L2
namespace HT
open PySem PySem.Spec PyProof.Rows
section
variable {prog : Program} {w : World} {A : Around} {E : Value → Shared → Prop} {s : Shared}
theorem fm_rev {α : Type} (xs : List α) : ∀ k, k ≤ xs.length → (List.range k).filterMap (fun (m : Nat) => xs[xs.length - 1 - m]?) = xs.reverse.take k
  | 0, _ => by simp
  | k + 1, h => by
    rw [List.range_succ, List.filterMap_append, fm_rev xs k (by lia), List.take_add_one]
    congr 1
    have hk : k < xs.length := by lia
    rw [List.getElem?_reverse hk]
    have : xs.length - 1 - k < xs.length := by lia
    rw [List.filterMap_cons, List.getElem?_eq_getElem this]
    rfl
theorem fm_congr {α β : Type} {f g : α → Option β} : ∀ {l : List α}, (∀ a ∈ l, f a = g a) → l.filterMap f = l.filterMap g
  | [], _ => rfl
  | a :: l, h => by
    rw [List.filterMap_cons, List.filterMap_cons, h a (by simp), fm_congr fun b hb => h b (List.mem_cons_of_mem _ hb)]
end
end HT
namespace L2
open PySem PySem.Spec PyProof.Rows
section
variable {X : Cx} {e st : Expr} {te ts : TE} {pos p2 : Pos}
end
end L2
namespace L2
open PySem PySem.Spec PyProof.Rows
section
variable {X : Cx} {elts : List Expr} {tk : Nat} {tp : Pos}
end
end L2
namespace L2
open PySem PySem.Spec PyProof.Rows
section
variable {X : Cx}
end
end L2
namespace Gu
open PySem L2
end Gu
namespace Gu
open PySem L2
end Gu
namespace Gu
open PySem L2
end Gu
namespace Gu
open PySem L2
theorem rows_dep : ∀ l : List Row, D.depL (rowsD l) ≤ 2
  | [] => by unfold rowsD; simp only [List.map_nil, D.depL]; lia
  | r :: l => by
    have h := rows_dep l
    unfold rowsD at h ⊢
    have h2 : D.dep (rowD r) = 2 := by
      unfold rowD
      simp only [D.dep, D.depL, D.depL_ints]
      decide
    simp only [List.map_cons, D.depL]
    lia
theorem rows_few : ∀ l : List Row, (∀ r ∈ l, r.1.length ≤ 1000 ∧ r.2.length ≤ 1000) → D.fewL (rowsD l)
  | [], _ => by unfold rowsD; simp only [List.map_nil, D.fewL]
  | r :: l, h => by
    have ih := rows_few l fun x hx => h x (List.mem_cons_of_mem _ hx)
    obtain ⟨a, b⟩ := h r (by simp)
    unfold rowsD at ih ⊢
    simp only [List.map_cons, D.fewL]
    refine ⟨?_, ih⟩
    unfold rowD
    simp only [D.few, D.fewL]
    have a := its_few a
    have b := its_few b
    simp only [D.few] at a b
    exact ⟨by simp, a, b, trivial⟩
theorem shr_small {n : Nat} {rows : List Row} (G : GoodM n rows) (hn : n ≤ 60) : D.dep (D.tup (rowsD (shr rows))) < 4 ∧ D.few (D.tup (rowsD (shr rows))) := by
  obtain ⟨L, cl⟩ := order_line G
  have hl := L.len
  have h4 := G.few
  have hh := (heads_has (kOf rows) (order rows)).2
  refine ⟨?_, ?_⟩
  · have := rows_dep (shr rows)
    simp only [D.dep]
    lia
  · simp only [D.few]
    refine ⟨?_, rows_few _ fun r hr => ?_⟩
    · unfold rowsD shr inLine
      rw [List.length_map, List.length_map]
      have := hh.2
      lia
    · unfold shr inLine at hr
      obtain ⟨x, hx, rfl⟩ := List.mem_map.mp hr
      have hxo := L.rg x (hh.1 x hx)
      have hrm := row_mem hxo.1 hxo.2
      refine ⟨?_, ?_⟩
      · show (row rows x).1.length ≤ 1000
        rw [(G.perm _ hrm).len]; lia
      · show (List.map _ _).length ≤ 1000
        rw [List.length_map, G.len _ hrm]; lia
end Gu
namespace L2
open PySem PySem.Spec PyProof.Rows
noncomputable def Fly (h0 : Heap) (H : Hp) (h : Heap) (ea C : Addr) : Prop := h0.get? ea = none ∧ H ea = none ∧ ∃ a0 oe vs T oT ts, h.get? ea = some oe ∧ (oe.cls = .ref C ∧ vs[0]? = some a0) ∧ oe.data = .fields vs ∧ vs[1]? = some (.ref T) ∧ T ≠ ea ∧ h0.get? T = none ∧ H T = none ∧ h.get? T = some oT ∧ oT.data = .fields ts ∧ ts[3]? = some .none
noncomputable def Fresh (h0 : Heap) (H : Hp) (h : Heap) (ea C : Addr) : Prop := h0.get? ea = none ∧ H ea = none ∧ ∃ a0 oe vs, h.get? ea = some oe ∧ (oe.cls = .ref C ∧ vs[0]? = some a0) ∧ oe.data = .fields vs ∧ vs[1]? = some .none
theorem funFrames_at {h base : Heap} : ∀ {l : List Env}, h.FunFrames base l → ∀ b ∈ frs l, ∃ o, h.get? b = some o ∧ ∀ vs, o.data ≠ .fields vs
  | [], _, b, hb => by simp [frs] at hb
  | env :: r, hl, b, hb => by
    obtain ⟨hk, ⟨L, o, hf, hn, ho, hd⟩, hr⟩ := hl
    unfold frs at hb
    rw [List.filterMap_cons, hf] at hb
    rcases List.mem_cons.mp hb with z | z
    · rw [z]; exact ⟨o, ho, hd⟩
    · exact funFrames_at hr b z
theorem funFrames_base {h base base' : Heap} : ∀ {l : List Env}, h.FunFrames base l → (∀ b ∈ frs l, base'.get? b = none) → h.FunFrames base' l
  | [], _, _ => trivial
  | env :: r, hl, hb => by
    obtain ⟨hk, ⟨L, o, hf, hn, ho, hd⟩, hr⟩ := hl
    have e : frs (env :: r) = L :: frs r := by unfold frs; rw [List.filterMap_cons, hf]
    exact ⟨hk, ⟨L, o, hf, hb L (by rw [e]; simp), ho, hd⟩, funFrames_base hr fun b hb' => hb b (by rw [e]; exact List.mem_cons_of_mem _ hb')⟩
section
variable {P : Program} {w : World}
theorem objThere {H : Hp} {h : Heap} {a : Addr} {o : HO} (x : ObjOk P w H h a o) : ∃ ob, h.get? a = some ob := by
  cases o with
  | lst xs => obtain ⟨_, _, _, _, e⟩ := x; exact ⟨_, e⟩
  | tup xs => obtain ⟨_, _, _, _, e⟩ := x; exact ⟨_, e⟩
  | dK kvs => obtain ⟨_, _, _, _, o, _, _, e, _⟩ := x; exact ⟨_, e⟩
  | dT kvs => obtain ⟨_, _, _, _, o, _, _, e, _⟩ := x; exact ⟨_, e⟩
  | set S n => obtain ⟨o, _, _, _, e, _⟩ := x; exact ⟨_, e⟩
  | ins C dx fs => obtain ⟨_, _, _, e, _⟩ := x; exact ⟨_, e⟩
  | own y => obtain ⟨_, e⟩ := x; exact ⟨_, e⟩
  | xd fs => obtain ⟨_, ⟨_, _, _, e, _⟩, _⟩ := x; exact ⟨_, e⟩
  | rng lo hi => obtain ⟨_, _, _, e⟩ := x; exact ⟨_, e⟩
  | frz ob u => obtain ⟨e, _⟩ := x; exact ⟨_, e⟩
  | tbl ps => exact ⟨_, show h.get? a = some _ from x⟩
  | met f y => exact ⟨_, show h.get? a = some _ from x⟩
  | ext φ => obtain ⟨_, ⟨_, e⟩, _⟩ := x; exact ⟨_, e⟩
theorem left_ok {fr : List Addr} {H1 H' : Hp} {h1 h h' : Heap} {env : Env} {outer : List Env} {ea C : Addr} {a0 : Value} {base : Heap} {hid : List Addr} (FF : h.FunFrames base (env :: outer)) (u : Un fr [] H1 H' h1 h) (hok : HOk P w H' h)
    (hfr : ∀ b ∈ frs (env :: outer), H' b = none ∧ (b ∈ fr ∨ h1.get? b = none)) (hfr2 : ∀ b ∈ fr, b ∈ frs (env :: outer)) (he1 : h1.get? ea = none) (heH : H' ea = none) (hid1 : ∀ b ∈ hid, h1.get? b = none ∧ H' b = none)
    (lf : (PySem.W.hideAll h (ea :: (hid ++ frs (env :: outer)))).LeftW (env :: outer) ea (.ref C) a0 h h') :
    Un fr [] H1 H' h1 h' ∧ HOk P w H' h' ∧ Fly h1 H' h' ea C := by
  obtain ⟨st, ff, tr, sl⟩ := lf
  have keep : ∀ b o, h.get? b = some o → b ≠ ea → b ∉ hid → b ∉ frs (env :: outer) → h'.get? b = some o := fun b o e n1 n2 n3 =>
    st b o (PySem.W.hideAll_get _ e fun z => by
      rcases List.mem_cons.mp z with z | z
      · exact n1 z
      · rcases List.mem_append.mp z with z | z
        · exact n2 z
        · exact n3 z)
  have slot : ∀ b o, h.get? b = some o → b ∈ frs (env :: outer) → ∃ s, h'.get? b = some { o with slots := s } := fun b o e hb => by
    obtain ⟨o', e', hd⟩ := funFrames_at FF b hb
    rw [e] at e'
    cases e'
    exact sl b o e hd
  have nh : ∀ b o, h1.get? b = some o → b ≠ ea ∧ b ∉ hid := fun b o e => ⟨fun z => (by rw [z, he1] at e; cases e), fun z => (by rw [(hid1 b z).1] at e; cases e)⟩
  refine ⟨⟨fun b o e n hb hx => ?_, fun b o e n hb hx => ?_, u.free, fun b o e hx => ?_, u.tups, u.frzs, u.tbls⟩, fun a o e => ?_, he1, heH, ?_⟩
  · have e2 := u.keep b o e n hb hx
    refine keep b o e2 (nh b o e).1 (nh b o e).2 fun z => ?_
    rcases (hfr b z).2 with z | z
    · exact hb z
    · rw [z] at e; cases e
  · obtain ⟨s1, e2⟩ := u.slot b o e n hb hx
    obtain ⟨s2, e3⟩ := slot b _ e2 (hfr2 b hb)
    exact ⟨s2, e3⟩
  · obtain ⟨o', e2⟩ := u.there b o e hx
    by_cases hb : b ∈ frs (env :: outer)
    · obtain ⟨s2, e3⟩ := slot b _ e2 hb
      exact ⟨_, e3⟩
    · exact ⟨o', keep b o' e2 (nh b o e).1 (nh b o e).2 hb⟩
  · refine (hok a o e).stay (fun b v hb q => ?_) (fun _ q => q) fun _ _ q => q
    have hbs : ∃ ob, H' b = some ob := by
      rcases hb with z | z
      · rw [z]; exact ⟨_, e⟩
      · exact ⟨_, z⟩
    obtain ⟨ob, hob⟩ := hbs
    refine keep b v q (fun z => ?_) (fun z => ?_) fun z => ?_
    · rw [z, heH] at hob; cases hob
    · rw [(hid1 b z).2] at hob; cases hob
    · rw [(hfr b z).1] at hob; cases hob
  · obtain ⟨oe, vs, T, oT, ts, g1, g2, g3, g4, g5, g6, g7, g8, g9⟩ := tr
    have hT : h1.get? T = none ∧ H' T = none := by
      cases eT : h.get? T with
      | none =>
        refine ⟨?_, ?_⟩
        · cases q : h1.get? T with
          | none => rfl
          | some o =>
            obtain ⟨o', e2⟩ := u.there T o q (by simp)
            rw [eT] at e2; cases e2
        · cases q : H' T with
          | none => rfl
          | some o =>
            obtain ⟨ob, hob⟩ := objThere (hok T o q)
            rw [eT] at hob; cases hob
      | some oT' =>
        have hm : T ∈ ea :: (hid ++ frs (env :: outer)) := Classical.byContradiction fun nm => by
          rw [PySem.W.hideAll_get _ eT nm] at g5; cases g5
        rcases List.mem_cons.mp hm with z | z
        · exact absurd z g6
        · rcases List.mem_append.mp z with z | z
          · exact hid1 T z
          · obtain ⟨o', e', hd⟩ := funFrames_at ff T z
            rw [g7] at e'
            cases e'
            exact absurd g8 (hd ts)
    exact ⟨a0, oe, vs, T, oT, ts, g1, g2, g3, g4, g6, hT.1, hT.2, g7, g8, g9⟩
theorem leave_ok {M : Model} {A : Around} {E : Value → Shared → Prop} {Q : Unit → Shared → Prop} {s : Shared} {fr : List Addr} {H1 H' : Hp} {h1 : Heap} {env : Env} {outer : List Env} {L ea C : Addr} {base : Heap} (hA : A.frames = some (env :: outer)) (hL : env.frame = some L) (FF : s.heap.FunFrames base (env :: outer)) (u : Un fr [] H1 H' h1 s.heap) (hok : HOk P w H' s.heap)
    (hfr : ∀ b ∈ frs (env :: outer), H' b = none ∧ (b ∈ fr ∨ h1.get? b = none)) (hfr2 : ∀ b ∈ fr, b ∈ frs (env :: outer)) (hf : Fresh h1 H' s.heap ea C ∨ Fly h1 H' s.heap ea C)
    (k : ∀ h', Un fr [] H1 H' h1 h' → HOk P w H' h' → Fly h1 H' h' ea C → Q () { s with heap := h' }) : wpAny M A (leaving env (.ref ea)) Q E s := by
  rcases hf with ⟨he1, heH, a0, oe, vs, g1, ⟨g2, g20⟩, g3, g4⟩ | ⟨he1, heH, a0, oe, vs, T, oT, ts, g1, g2, g3, g4, g5, g6, g7, g8, g9, g10⟩
  · have FF' : s.heap.FunFrames (PySem.W.hideAll s.heap (ea :: ([] ++ frs (env :: outer)))) (env :: outer) := funFrames_base FF fun b hb => PySem.W.hideAll_none _ (by simp [hb])
    refine wpAny_leaving_firstW hA FF' hL g1 (fun b o e => PySem.W.of_hideAll _ e) (PySem.W.hideAll_none _ (by simp)) g3 g4 g20 fun h' lf => ?_
    rw [g2] at lf
    obtain ⟨a, b, c⟩ := left_ok (hid := []) FF u hok hfr hfr2 he1 heH (fun b hb => by simp at hb) lf
    exact k h' a b c
  · have FF' : s.heap.FunFrames (PySem.W.hideAll s.heap (ea :: ([T] ++ frs (env :: outer)))) (env :: outer) := funFrames_base FF fun b hb => PySem.W.hideAll_none _ (by simp [hb])
    refine wpAny_leaving_nextW hA FF' hL ⟨oe, vs, T, oT, ts, g1, g2, g3, g4, PySem.W.hideAll_none _ (by simp), g5, g8, g9, g10⟩ (fun b o e => PySem.W.of_hideAll _ e) (PySem.W.hideAll_none _ (by simp)) fun h' lf => ?_
    obtain ⟨a, b, c⟩ := left_ok (hid := [T]) FF u hok hfr hfr2 he1 heH (fun b hb => by rw [List.mem_singleton.mp hb]; exact ⟨g6, g7⟩) lf
    exact k h' a b c
noncomputable def CXx (P : Program) (w : World) : CXT := fun outer H s E e s' => ∃ (ea C : Addr) (H' : Hp), e = .ref ea ∧ s'.os = s.os ∧ AllBare s'.gens ∧ Un (frs outer) [] H H' s.heap s'.heap ∧ HOk P w H' s'.heap ∧ Fly s.heap H' s'.heap ea C ∧ E (.ref ea) (some C) H'
instance : NoE (CXx P w) := ⟨fun ⟨_, _, _, _, _, _, _, _, _, h⟩ => h⟩
theorem xe_of {K : PySem.W.Frag} {mg : Str → Option Value} {base : Heap} {N : List Str} {qual : Str} {scope : Scope} {f : Addr} {cd : Value} {A : Around} {outer : List Env} {s : Shared} {H : Hp} {E : XK} {pins : List (Addr × Obj)} {σ : St} {H' : Hp} {s' : Shared} {ea C : Addr}
    (J : Inv (cxOf (CXx P w) P w K mg base N qual scope f cd A outer s H E) pins σ H' s') (hf : Fresh s.heap H' s'.heap ea C ∨ Fly s.heap H' s'.heap ea C) (hE : E (.ref ea) (some C) H') : (cxOf (CXx P w) P w K mg base N qual scope f cd A outer s H E).xe (.ref ea) s' := by
  have hsub := J.stkSub
  have hfree := J.stkFree
  have hst := J.stack
  have hfrm := J.ok.frames
  show wpAny (model P w) (A.deeper (envOfC qual scope s.heap.objs.size f cd)) (leaving (envOfC qual scope s.heap.objs.size f cd) (.ref ea)) (fun _ s'' => CXx P w outer H s E (.ref ea) s'') (fun e' s'' => CXx P w outer H s E e' s'') s'
  refine leave_ok (P := P) (w := w) (fr := frs outer) (H1 := H) (H' := H') (h1 := s.heap) (base := base) hfrm rfl hst J.base J.hok (fun b hb => ⟨hfree b hb, ?_⟩) (fun b hb => List.mem_cons_of_mem _ hb) hf fun h' a b c => ?_
  · rcases List.mem_cons.mp (hsub b hb) with z | z
    · right
      rw [z]
      exact Heap.get?_none_of_le (Nat.le_refl _)
    · exact .inl z
  · exact ⟨ea, C, H', rfl, J.os, J.bare, a, b, c, hE⟩
theorem passX {K : PySem.W.Frag} {mg : Str → Option Value} {base : Heap} {N : List Str} {qual : Str} {scope : Scope} {f : Addr} {cd : Value} {A : Around} {outer : List Env} {s : Shared} {H : Hp} {E E' : XK} (hE : ∀ e C H', E' e C H' → E e C H') :
    Passes (CXx P w) (cxOf (CXx P w) P w K mg base N qual scope f cd A outer s H E) E' := by
  intro pins σ H1 s1 e s' I hx
  obtain ⟨ea, C, H', rfl, os, bare, un, hok, fly, q⟩ := hx
  have J := I.call' (ch := []) os un hok bare (fun b z => absurd z (by simp))
  refine xe_of J (.inr ?_) (hE _ _ _ q)
  have up : ∀ b, s1.heap.get? b = none → s.heap.get? b = none := fun b z => by
    cases q : s.heap.get? b with
    | none => rfl
    | some o =>
      obtain ⟨o', e⟩ := I.base.there b o q (by simp [cxOf])
      rw [z] at e; cases e
  obtain ⟨a1, a2, a0, oe, vs, T, oT, ts, g1, g2, g3, g4, g5, g6, r⟩ := fly
  exact ⟨up _ a1, a2, a0, oe, vs, T, oT, ts, g1, g2, g3, g4, g5, up _ g6, r⟩
end
end L2
namespace L2
open PySem PySem.Spec PyProof.Rows
theorem exc_obj {K : PySem.W.Frag} {h : Heap} {C : Addr} {bmB : List Value} {newId : String} (X : K.In h) (e : PySem.W.excIn K C bmB newId = true) : ∃ bm N nm q bs hdct sn sub ab col dd k0 k1 k2 k3 k5 mN,
    h.get? C = some (excClassObj nm q C N bs bm hdct sn sub ab col dd k0 k1 k2 k3 k5 newId) ∧ h.Ns N mN ∧ mN "__init__" = none ∧ OwnTail h bmB bm := by
  unfold PySem.W.excIn at e
  split at e
  · rename_i dict cd sl hl
    split at e
    · rename_i C' bm a0 a1 a2 a3 n a5 hm hs
      simp only [Bool.and_eq_true, beq_iff_eq, Bool.not_eq_true'] at e
      obtain ⟨⟨⟨⟨⟨e1, e2⟩, e3⟩, e4⟩, e5⟩, e6⟩ := e
      have hC := X C _ hl
      subst e1 e2
      have hsl : sl = #[a0, a1, a2, a3, some (Value.builtin n), a5] := by rw [← Array.toArray_toList (xs := sl), hs]
      obtain ⟨nm, bs, mro, ns, q, hd, sn, sub, ab, col, hdel⟩ := cd
      simp only at hm e3 e5 e6
      subst hm e3 hsl
      exact ⟨bm, ns, nm, q, bs, hd, sn, sub, ab, col, dict, a0, a1, a2, a3, a5, h.nsMap ns, hC, Heap.Ns.of_isNs (PySem.W.isNs_of_in X e5), PySem.W.nsMap_none_of_in X e5 e6, PySem.W.tail_of_in X e4⟩
    · cases e
  · cases e
theorem tail_has {h : Heap} {bmB bm : List Value} {v : Value} (t : OwnTail h bmB bm) (hb : bmB.contains v = true) : bm.contains v = true := by
  induction t with
  | base => exact hb
  | own _ _ _ _ ih => rw [List.contains_cons, ih]; simp
section
variable {P : Program} {w : World} {K : PySem.W.Frag} {mg : Str → Option Value} {base : Heap} {N : List Str} {qual : Str} {scope : Scope} {f : Addr} {cd : Value} {A : Around} {outer : List Env} {s0 : Shared} {H0 : Hp} {E : XK}
theorem ps_raise {x : Str} {C : Addr} {B newId initId : String} {bmB : List Value} {arg : Expr} {ta : TE} {np cpos pos : Pos} (hx : mg x = some (.ref C)) (hg : Gl (cxOf (CXx P w) P w K mg base N qual scope f cd A outer s0 H0 E) x) (he : PySem.W.excIn K C bmB newId = true) (hB : ExcBaseFacts B newId initId bmB)
    (ha : PE (cxOf (CXx P w) P w K mg base N qual scope f cd A outer s0 H0 E) arg ta)
    (htr : backTo cpos (starEach [arg] (cxOf (CXx P w) P w K mg base N qual scope f cd A outer s0 H0 E).env) = [(false, eval arg (cxOf (CXx P w) P w K mg base N qual scope f cd A outer s0 H0 E).env)] := by rfl) (hdb : (x == ("__debug__" : Str)) = false := by decide) :
    PS (cxOf (CXx P w) P w K mg base N qual scope f cd A outer s0 H0 E) (.Raise (some (.Call (.Name x np) [arg] [] cpos)) none pos) (fun D σ H => ta σ H fun v H1 => ∀ ea, E (.ref ea) (some C) H1) := by
  intro pins s σ H D I h
  obtain ⟨bm, NN, nm, q, bs, hd, sn, sub, ab, col, dict, a0, a1, a2, a3, a5, mN, hC, hN, hi, ht⟩ := exc_obj I.ok.mod.kin he
  refine wpAny_Raise_call_subT (nm := nm) (q := q) (N := NN) (bs := bs) (hdct := hd) (sn := sn) (sub := sub) (ab := ab) (col := col) (dd := dict) (k0 := a0) (k1 := a1) (k2 := a2) (k3 := a3) (k5 := a5) hB (tail_has ht hB.hasBase) (I.ok.hd rfl) (by rw [htr]; rfl) hi (ld_glob I hg hx ⟨rfl, ?_⟩ hdb)
  rw [htr]
  refine Calls.evalArgs_plain (Calls.spliced_cons (thnE (ha pins s σ H _ I h) fun u s2 v H2 I2 r2 q2 => Calls.spliced_nil ?_))
  have bk := I2.bk
  refine ⟨rfl, by show 1 ≤ sizeLine; decide, bk _ _ hC, hN.keeps bk, ht.keeps bk, fun h' e me => ?_⟩
  obtain ⟨kp, nw, t, g1, g2, g3⟩ := me
  have J := I2.kept (h' := h') (t' := s2.toks) kp
  refine xe_of J (.inl ⟨?_, ?_, _, _, _, g1, ⟨rfl, rfl⟩, rfl, rfl⟩) (q2 e)
  · cases z : s0.heap.get? e with
    | none => rfl
    | some o =>
      obtain ⟨o', e'⟩ := I2.base.there e o z (by simp [cxOf])
      rw [nw] at e'; cases e'
  · cases z : H2 e with
    | none => rfl
    | some o =>
      obtain ⟨ob, hob⟩ := objThere (I2.hok e o z)
      rw [nw] at hob; cases hob
end
end L2
namespace L2
open PySem PySem.Spec PyProof.Rows
section
variable {P : Program} {w : World}
end
end L2
namespace L2
open PySem PySem.Spec PyProof.Rows PySem.SeqAt
section
variable {X : Cx}
end
end L2
namespace Gu
open PySem L2
noncomputable def NumbK (rows : List Row) (ks : List Int) : Prop := ∃ (α : Type) (_ : DecidableEq α) (key : Int → α), ks = numb ((iota rows.length).map key)
theorem numbK0 (rows : List Row) : NumbK rows (numb (rows.map (·.1))) := ⟨List Int, inferInstance, fun x => (row rows x).1, by rw [rows_iota rows (·.1)]⟩
theorem numbK1 {rows : List Row} {ks : List Int} (h : ks.length = rows.length) : NumbK rows (numb (stepK ks rows)) := ⟨Int × List Int, inferInstance, pkey rows ks, by rw [stepK_iota h]⟩
theorem cnt_step {n : Nat} {rows : List Row} (G : GoodF n rows) {ks : List Int} (h : NumbK rows ks) : cnt ks ≤ cnt (numb (stepK ks rows)) := by
  obtain ⟨α, ia, key, rfl⟩ := h
  rw [stepK_iota (by rw [numb_len, List.length_map, iota_len]), cnt_numb (iota_ne G.some), cnt_numb (iota_ne G.some)]
  have h1 := kf_uniq (L := rows.length) (key := key)
  have h2 := (count_of (kf (numb ((iota rows.length).map key))) (pkey rows (numb ((iota rows.length).map key))) (iota rows.length) fun x hx y hy e => by
    unfold pkey at e
    exact (Prod.mk.inj e).1).1
  lia
theorem kloop_mono {n : Nat} {rows : List Row} (G : GoodF n rows) : ∀ (m : Nat) (c : Int) (ks : List Int), NumbK rows ks → GoodK rows ks → cnt ks ≤ cnt (kloop rows m c ks)
  | 0, c, ks, h, _ => Int.le_refl _
  | m + 1, c, ks, h, hg => by
    unfold kloop
    by_cases hc : c < cnt ks
    · rw [if_pos hc]
      exact Int.le_trans (cnt_step G h) (kloop_mono G m _ _ (numbK1 hg.len) (goodK1 hg))
    · rw [if_neg hc]; exact Int.le_refl _
theorem shr_cnt {n : Nat} {rows : List Row} (G : GoodM n rows) : ((shr rows).length : Int) = cnt (kinds (found rows)) := by
  have GF := found_good G
  obtain ⟨R, N⟩ := kinds_right GF
  rw [← least_shr G]
  unfold least
  rw [least_inLine (kinds_good GF).len N GF.go]
  unfold inLine
  have hm := heads_map_uniq (kf (kinds (found rows))) (iota (found rows).length)
  have : (heads (kf (kinds (found rows))) (iota (found rows).length)).length = (uniq ((iota (found rows).length).map (kf (kinds (found rows))))).length := by rw [← hm, List.length_map]
  rw [List.length_map, this]
  obtain ⟨α, ia, key, e⟩ := N
  rw [e, kf_uniq, cnt_numb (iota_ne GF.some)]
theorem shr_le {n : Nat} {rows : List Row} (G : GoodM n rows) : (shr rows).length ≤ rows.length := by
  obtain ⟨L, cl⟩ := order_line G
  have hl := L.len
  have hh := (heads_has (kOf rows) (order rows)).2.2
  unfold shr inLine
  rw [List.length_map]
  lia
theorem shr_good {n : Nat} {rows : List Row} (G : GoodM n rows) : GoodM n (shr rows) := by
  obtain ⟨L, cl⟩ := order_line G
  obtain ⟨h1, h2, h3⟩ := heads_has (kOf rows) (order rows)
  have hl := shr_le G
  have hf := G.few
  obtain ⟨r0, t0, e0, _⟩ := shr_hd G
  have hm : ∀ r ∈ shr rows, ∃ x ∈ order rows, r = ((row rows x).1, (row rows x).2.map fun g => ((((heads (kOf rows) (order rows)).map (kOf rows)).idxOf (kOf rows g) : Nat) : Int)) := fun r hr => by
    unfold shr inLine at hr
    obtain ⟨x, hx, e⟩ := List.mem_map.mp hr
    exact ⟨x, h2 x hx, e.symm⟩
  refine ⟨by lia, by rw [e0]; simp, fun r hr => ?_, fun r hr => ?_, fun r hr g hg => ?_⟩
  · obtain ⟨x, hx, rfl⟩ := hm r hr
    exact G.perm (row rows x) (row_mem (L.rg x hx).1 (L.rg x hx).2)
  · obtain ⟨x, hx, rfl⟩ := hm r hr
    show (List.map _ _).length = n
    rw [List.length_map]
    exact G.len _ (row_mem (L.rg x hx).1 (L.rg x hx).2)
  · obtain ⟨x, hx, rfl⟩ := hm r hr
    obtain ⟨y, hy, rfl⟩ := List.mem_map.mp hg
    have := List.idxOf_lt_length_of_mem (h1 y (cl x hx y hy))
    rw [List.length_map] at this
    unfold shr inLine
    rw [List.length_map]
    lia
noncomputable def TMx (Ct : Addr) (E : XK) (H : Hp) : Prop := ∀ (ea : Addr) (H' : Hp), Same H H' → E (.ref ea) (some Ct) H'
noncomputable def spKindsX (K : PySem.W.Frag) (Ct : Addr) : Sp := fun vs H Q E => ∃ (a : Addr) (n : Nat) (rows : List Row), vs = [.ref a] ∧ RowsAt K H a rows ∧ GoodF n rows ∧ n ≤ 60 ∧ (cnt (kinds rows) ≤ 60 → ∀ (r : Addr) (H' : Hp), Same H H' → H' r = some (.lst ((kinds rows).map V.int)) → Q (.ref r) H') ∧ (60 < cnt (kinds rows) → TMx Ct E H)
end Gu
namespace L2
open PySem PySem.Spec PyProof.Rows
theorem Fun.okx {CX : CXT} {P : Program} {w : World} {K : PySem.W.Frag} {mg : Str → Option Value} {base : Heap} {x qual : Str} {st : Stmt} {f : Addr} {fd : FuncData} {N ps : List Str} {k : Nat} {sp : Sp} (F : Fun K x qual st f fd) (S : FnScope N ps (defScope st)) (len : ∀ vs H Q E, sp vs H Q E → vs.length = ps.length)
    (hbody : ∀ (cdv : Value) (A : Around) (outer : List Env) (s : Shared) (H : Hp) (vs : List V) (Q : VK) (E : XK), Room k (A.deeper (envOfC qual (defScope st) s.heap.objs.size f cdv)) → sp vs H Q E →
      ∃ t, PSs (cxOf CX P w K mg base N qual (defScope st) f cdv A outer s H E) (defBody st) t ∧ t { nx := fun _ H' => Q .non H', rt := Q } (start N vs) H) : FnOk P w K mg base CX (k + 1) f fd ps sp := by
  obtain ⟨oc, od, kV, doc, pm, an, cdv, ct, osl, rfl, lk, hcd⟩ := F.ex
  exact fn_of lk hcd S len fun A outer s H vs Q E hr hsp => hbody cdv A outer s H vs Q E hr hsp
end L2
namespace L2
open PySem PySem.Spec PyProof.Rows PySem.SeqAt
section
variable {X : Cx}
theorem op_catU : OpR X (binaryOp .Add) (fun x y H Q => ∃ (a b : Addr) (xs ys : List V), x = .ref a ∧ y = .ref b ∧ H a = some (.tup xs) ∧ H b = some (.tup ys) ∧ xs.length + ys.length ≤ sizeLine ∧
    ∀ (p : Addr) (H' : Hp), Same H H' → H' p = some (.tup (xs ++ ys)) → Q (.ref p) H') := by
  intro pins s σ H x y v u Q I rx ry h
  obtain ⟨a, b, xs, ys, rfl, rfl, ha, hb, hz, q⟩ := h
  by_cases hx : xs = []
  · subst hx
    cases rx
    cases ry
    obtain ⟨its, r1, p1, _⟩ := I.tuple (SqT.of ha)
    obtain ⟨its2, r2, p2, _⟩ := I.tuple (SqT.of hb)
    cases r1
    obtain ⟨⟨cls, dd, data, sl⟩, ho, hc, n, hd⟩ := id p1
    obtain ⟨⟨cls2, dd2, data2, sl2⟩, ho2, hc2, n2, hd2⟩ := id p2
    simp only at hc hd hc2 hd2
    subst hc hd hc2 hd2
    exact concat_meets ⟨_, ho, rfl⟩ ⟨_, ho2, rfl⟩ noFill_tuple_add seq_tuple_add PySem.F.slot_tuple_add PySem.F.entry_tuple_add (PySem.F.args_tuple_add_2 _ _)
      (tuple_addW0 a b _ _ n n2 dd dd2 sl sl2 (by simp)) ⟨ho, ho2, ⟨.ref b, H, I, rfl, q b H (Same.refl H) hb⟩⟩
  · exact op_catT pins s σ H _ _ v u Q I rx ry ⟨a, b, xs, ys, rfl, rfl, SqT.of ha, SqT.of hb, hx, hz, fun e => by subst e; exact q a H (Same.refl H) (by rw [List.append_nil]; exact ha), fun _ p hp => q p _ (Gu.same_up (Same.refl H) hp) upd_same⟩
end
end L2
namespace Gu
end Gu
namespace Gu
open PySem L2
noncomputable def cutI (ns : List Int) (lo hi : Option Int) : List Int := (ns.drop (HT.sIx ns.length 0 lo)).take (HT.sIx ns.length ns.length hi - HT.sIx ns.length 0 lo)
theorem cutV_I (ns : List Int) (lo hi : Option Int) : cutV (ns.map V.int) lo hi = (cutI ns lo hi).map V.int := by
  unfold cutV cutI
  rw [List.length_map, List.map_take, List.map_drop]
theorem cutI_len {ns : List Int} {lo hi : Nat} (h : hi ≤ ns.length) : (cutI ns (some (lo : Int)) (some (hi : Int))).length = hi - lo := by
  unfold cutI
  rw [HT.sIx_nat, HT.sIx_nat, List.length_take, List.length_drop, Nat.min_eq_left h, Nat.min_eq_left (Nat.sub_le_sub_right h _)]
  rcases Nat.le_total lo ns.length with z | z
  · rw [Nat.min_eq_left z]
  · rw [Nat.min_eq_right z, Nat.sub_eq_zero_of_le h, Nat.sub_eq_zero_of_le (Nat.le_trans h z)]
end Gu
namespace Gu
open PySem L2
end Gu
namespace Gu
open PySem L2
end Gu
namespace L2
open PySem PySem.Spec PyProof.Rows
noncomputable abbrev frO (o : Obj) : HO := .frz o (.ext fun _ => True)
section
variable {P : Program} {w : World} {H H1 : Hp} {h : Heap} {a : Addr} {o : Obj}
theorem frO_ok (e : h.get? a = some o) : ObjOk P w H h a (frO o) := ⟨e, trivial, ⟨o, e⟩, fun _ _ _ _ => trivial⟩
theorem frO_at (x : HOk P w H h) (e : H a = some (frO o)) : h.get? a = some o := (x a _ e).1
end
noncomputable def utk (H : Hp) (cs : List Addr) : Hp := fun b => if b ∈ cs then none else H b
noncomputable def rtk (H H1 : Hp) (cs : List Addr) : Hp := fun b => if b ∈ cs then H b else H1 b
theorem utk_in {H : Hp} {cs : List Addr} {b : Addr} (h : b ∈ cs) : utk H cs b = none := if_pos h
theorem utk_out {H : Hp} {cs : List Addr} {b : Addr} (h : b ∉ cs) : utk H cs b = H b := if_neg h
theorem rtk_in {H H1 : Hp} {cs : List Addr} {b : Addr} (h : b ∈ cs) : rtk H H1 cs b = H b := if_pos h
theorem rtk_out {H H1 : Hp} {cs : List Addr} {b : Addr} (h : b ∉ cs) : rtk H H1 cs b = H1 b := if_neg h
theorem Same.rtk {H H1 : Hp} {cs : List Addr} (s : Same (utk H cs) H1) : Same H (L2.rtk H H1 cs) := fun b o e => by
  by_cases hb : b ∈ cs
  · rw [rtk_in hb]; exact e
  · rw [rtk_out hb]; exact s b o (by rw [utk_out hb]; exact e)
theorem Same.rtk' {H H1 : Hp} {cs : List Addr} (hn : ∀ c ∈ cs, H1 c = none) : Same H1 (L2.rtk H H1 cs) := fun b o e => by
  have hb : b ∉ cs := fun z => by rw [hn b z] at e; cases e
  rw [rtk_out hb]; exact e
theorem utk_get {H : Hp} {cs : List Addr} (hc : ∀ c ∈ cs, ∃ ob, H c = some (frO ob)) {b : Addr} {o : HO} (e : H b = some o) (ne : ∀ ob, o ≠ frO ob) : utk H cs b = some o := by
  have hb : b ∉ cs := fun z => by
    obtain ⟨ob, q⟩ := hc b z
    rw [e] at q
    exact ne ob (Option.some.inj q)
  rw [utk_out hb]; exact e
noncomputable def CloAt (H : Hp) (f : Addr) (params : Arguments) (body : Expr) (scope : Scope) (qual : Str) (N : List Str) (fv : St) : Prop :=
  ∃ (clos : List (Str × Addr)) (cs : List Addr) (pm : Value) (c' : Addr) (ctv : Value) (oc : Obj) (vs : Array Value) (t : Tok), H f = some (frO (PySem.W.kla_obj "<lambda>" qual params body scope clos pm c' ctv)) ∧ H c' = some (frO oc) ∧ oc.data = .fields vs ∧ vs[1]? = some (.str qual t) ∧
    (∀ x y c, clos.lookup x = some c → clos.lookup y = some c → x = y) ∧ (∀ x c, clos.lookup x = some c → c ∈ cs) ∧ (∀ c ∈ cs, (∃ x, clos.lookup x = some c) ∧ ∃ o u, H c = some (frO o) ∧ o.data = .cell u) ∧ (∀ x, scope.names.lookup x = some .free → ∃ c, clos.lookup x = some c) ∧
    ∀ (i : Nat) x v, N[i]? = some x → fv[i]? = some (some v) → ∃ c o u, clos.lookup x = some c ∧ H c = some (frO o) ∧ o.data = .cell (some u) ∧ RelV v u
theorem CloAt.mono {H H' : Hp} {f : Addr} {params : Arguments} {body : Expr} {scope : Scope} {qual : Str} {N : List Str} {fv : St} (h : CloAt H f params body scope qual N fv) (s : Same H H') : CloAt H' f params body scope qual N fv := by
  obtain ⟨clos, cs, pm, c', ctv, oc, vs, t, e1, e2, e3, e4, e5, e5', e6, e7, e8⟩ := h
  refine ⟨clos, cs, pm, c', ctv, oc, vs, t, s _ _ e1, s _ _ e2, e3, e4, e5, e5', fun c hc => ?_, e7, fun i x v h1 h2 => ?_⟩
  · obtain ⟨hx, o, u, q, d⟩ := e6 c hc
    exact ⟨hx, o, u, s _ _ q, d⟩
  · obtain ⟨c, o, u, q1, q2, q3⟩ := e8 i x v h1 h2
    exact ⟨c, o, u, q1, s _ _ q2, q3⟩
structure LamS (N ps : List Str) (sc : Scope) : Prop where
  kind : sc.kind = .function
  co : sc.isCoroutine = false
  gen : sc.isGenerator = false
  nd : N.Nodup
  pre : N.take ps.length = ps
  par : ∀ x ∈ ps, sc.names.lookup x = some .local
  nocell : ∀ y ∈ sc.names, y.2 ≠ .cell
  fr : ∀ x ∈ N.drop ps.length, sc.names.lookup x = some .free
noncomputable def lamSt (vs : List V) (fv : St) : St := vs.map some ++ fv.drop vs.length
noncomputable def cxLam (P : Program) (w : World) (K : PySem.W.Frag) (mg : Str → Option Value) (base : Heap) (N : List Str) (qual : Str) (scope : Scope) (f : Addr) (cd : Value) (clos : List (Str × Addr)) (A : Around) (outer : List Env) (s : Shared) (H : Hp) : Cx where
  prog := P
  w := w
  K := K
  mg := mg
  base := base
  A := A.deeper (PySem.W.envX qual scope s.heap.objs.size f cd clos)
  N := N
  s₀ := s
  H₀ := H
  env := PySem.W.envX qual scope s.heap.objs.size f cd clos
  outer := outer
  stack := PySem.W.envX qual scope s.heap.objs.size f cd clos :: outer
  ex := []
  calm := true
  fn := fun _ => false
  pn := []
  xe := noE
theorem zip_rev_look {ps : List Str} {us : List Value} {i : Nat} {x : Str} {u : Value} (nd : ps.Nodup) (hp : ps[i]? = some x) (hu : us[i]? = some u) : (ps.zip us).reverse.lookup x = some u := by
  have hm : (x, u) ∈ (ps.zip us).reverse := List.mem_reverse.mpr (List.mem_of_getElem? (i := i) (by rw [List.getElem?_zip_eq_some]; exact ⟨hp, hu⟩))
  have key : ∀ l : List (Str × Value), (∀ v, (x, v) ∈ l → v = u) → (x, u) ∈ l → l.lookup x = some u := by
    intro l
    induction l with
    | nil => intro _ h; cases h
    | cons q r ih =>
      intro h1 h2
      obtain ⟨y, v⟩ := q
      rw [List.lookup_cons]
      by_cases e : x = y
      · subst e
        rw [show (x == x) = true by simp]
        exact congrArg some (h1 v List.mem_cons_self)
      · rw [show (x == y) = false by simpa using e]
        refine ih (fun v hv => h1 v (List.mem_cons_of_mem _ hv)) ?_
        rcases List.mem_cons.mp h2 with z | z
        · injection z with z1 _; exact absurd z1 e
        · exact z
  refine key _ (fun v hv => ?_) hm
  obtain ⟨j, hj, ej⟩ := List.getElem_of_mem (List.mem_reverse.mp hv)
  have e1 : (ps.zip us)[j]? = some (x, v) := by rw [List.getElem?_eq_getElem hj, ej]
  rw [List.getElem?_zip_eq_some] at e1
  have : j = i := nodup_ix nd e1.1 hp
  subst this
  rw [hu] at e1
  exact (Option.some.inj e1.2).symm
theorem clo_run {CX : CXT} {P : Program} {w : World} {K : PySem.W.Frag} {mg : Str → Option Value} {base : Heap} {k : Nat} {H : Hp} {f : Addr} {params : Arguments} {body : Expr} {scope : Scope} {qual : Str} {N ps : List Str} {fv : St} (C : CloAt H f params body scope qual N fv) (S : LamS N ps scope)
    (hbind : ∀ (cl : List (Str × Addr)) (pm cdv ct : Value) (us : List Value), us.length = ps.length → bindArgs (PySem.W.kla_fn "<lambda>" qual params body scope cl pm cdv ct) ⟨us, []⟩ = pure (ps.zip us)) (hfv : fv.length = N.length)
    {A : Around} {outer : List Env} {s : Shared} {us : List Value} {vs : List V} {Q : VK} {E : XK} (hr : Room (k + 1) A) (e0 : Env0 P w K mg base A outer s H) (r : Vals vs us) (hl : vs.length = ps.length)
    (hbody : ∀ (cd : Value) (clos : List (Str × Addr)) (cs : List Addr), Room k (A.deeper (PySem.W.envX qual scope s.heap.objs.size f cd clos)) → (∀ c ∈ cs, ∃ o, H c = some (frO o)) →
      ∃ t, PE (cxLam P w K mg base N qual scope f cd clos A outer s (utk H cs)) body t ∧ t (lamSt vs fv) (utk H cs) fun v H1 => (∀ c ∈ cs, H1 c = none) → Q v (rtk H H1 cs)) :
    codeAny (model P w) A (.call (.ref f) ⟨us, []⟩) (CR CX outer P w H s Q E) s := by
  obtain ⟨clos, cs, pm, c', ctv, oc, vs', t, e1, e2, e3, e4, e5, hcl, e6', e7, e8⟩ := C
  have e6 : ∀ c ∈ cs, ∃ o u, H c = some (frO o) ∧ o.data = .cell u := fun c hc => (e6' c hc).2
  obtain ⟨tb, hPE, hq⟩ := hbody (.ref c') clos cs (hr.deeper _) (fun c hc => let ⟨o, _, q, _⟩ := e6 c hc; ⟨o, q⟩)
  have KX : K.In s.heap := e0.mod.kin.keeps fun b o e => (e0.bs b o e).1
  have lim : s.heap.NoLimit := e0.mod.nolimit.keeps fun b o e => (e0.bs b o e).1
  have hul : us.length = ps.length := by rw [← r.length]; exact hl
  refine PySem.W.kla_callFunE hr.depth (frO_at e0.hok e1) rfl S.co S.gen rfl ⟨c', oc, vs', t, rfl, frO_at e0.hok e2, e3, e4⟩ ?_
  rw [hbind clos pm (.ref c') ctv us hul]
  refine wpAny_pure (wpAny_newFunctionEnv S.nocell (fun y hy => S.par y.1 (List.of_mem_zip hy).1) (fun h₁ hns hsb => ?_) S.kind)
  have hk₁ : ∀ b o, s.heap.get? b = some o → h₁.get? b = some o := fun b o e => hsb.extBut b o (Nat.ne_of_lt (Heap.lt_size e)) (Heap.get?_push_of_some _ e)
  refine ⟨lim.keeps hk₁, ?_⟩
  show codeAny _ _ (.expr body (PySem.W.envX qual scope s.heap.objs.size f (.ref c') clos)) _ _
  have hcu : ∀ c ∈ cs, utk H cs c = none := fun c hc => utk_in hc
  have hclt : ∀ c ∈ cs, c < s.heap.objs.size := fun c hc => by
    obtain ⟨o, _, q, _⟩ := e6 c hc
    exact Heap.lt_size (frO_at e0.hok q)
  have hokU : HOk P w (utk H cs) s.heap := fun b u e => by
    have hb : b ∉ cs := fun z => by rw [utk_in z] at e; cases e
    rw [utk_out hb] at e
    refine (e0.hok b u e).stay (fun _ _ _ q => q) (fun c q => ?_) fun c xs q => ?_
    · exact utk_get (fun c hc => let ⟨o, _, q, _⟩ := e6 c hc; ⟨o, q⟩) q (fun ob z => by cases z)
    · exact utk_get (fun c hc => let ⟨o, _, q, _⟩ := e6 c hc; ⟨o, q⟩) q (fun ob z => by cases z)
  have noA : ∀ b : Addr, b ∉ (cxLam P w K mg base N qual scope f (.ref c') clos A outer s (utk H cs)).ex := fun b z => absurd (show b ∈ ([] : List Addr) from z) (by simp)
  have nonU : ∀ {b : Addr}, H b = none → utk H cs b = none := fun {b} e => by
    by_cases hb : b ∈ cs
    · exact utk_in hb
    · rw [utk_out hb]; exact e
  have I : Inv (cxLam P w K mg base N qual scope f (.ref c') clos A outer s (utk H cs)) [] (lamSt vs fv) (utk H cs) { s with heap := h₁, toks := s.toks + (ps.zip us).length } := by
    refine ⟨⟨e0.mod, S.kind, rfl, rfl, Nat.le_refl _, e5, fun y hy => ?_, fun y c hf _ => ?_, fun _ => hr.hd, Around.frames_deeper e0.frames, .inr ⟨rfl, rfl⟩, fun b z => absurd z (noA b), fun b o e => ⟨(e0.bs b o e).1, nonU (e0.bs b o e).2⟩, e0.bsz, fun b _ _ => noA b, fun b z => absurd z (noA b), e0.funs, fun b hb => nonU (e0.frf b hb)⟩,
      rfl, e0.bare, Un.kept hk₁, ⟨_, hns, fun i y v h1 h2 h3 => ?_⟩, fun y c h => ?_, ?_, fun y c h => hcu c (hcl y c h), fun p hp => absurd (show p ∈ ([] : List (Addr × Obj)) from hp) (by simp), hokU.kept hk₁, ?_⟩
    · rcases hy with hy | hy
      · exact absurd rfl (S.nocell _ (PySem.mem_of_lookup hy))
      · exact e7 y hy
    · exact absurd (show false = true from hf) Bool.false_ne_true
    · by_cases hi : i < vs.length
      · have ha : vs[i]? = some v := by
          unfold lamSt at h2
          rw [List.getElem?_append_left (by simpa using hi), List.getElem?_map] at h2
          cases e : vs[i]? with
          | none => rw [e] at h2; cases h2
          | some a => rw [e] at h2; cases h2; rfl
        obtain ⟨u, hu, rv⟩ := r.get ha
        have hp : ps[i]? = some y := by
          rw [← S.pre, List.getElem?_take_of_lt (by lia)]; exact h1
        have ndP : ps.Nodup := by rw [← S.pre]; exact S.nd.sublist (List.take_sublist _ _)
        exact ⟨u, rv, .inl ⟨S.par y (List.mem_of_getElem? hp), zip_rev_look ndP hp hu⟩⟩
      · have h2' : fv[i]? = some (some v) := by
          unfold lamSt at h2
          rw [List.getElem?_append_right (by simpa using hi), List.length_map, List.getElem?_drop] at h2
          rw [show vs.length + (i - vs.length) = i by lia] at h2
          exact h2
        obtain ⟨c, o, u, q1, q2, q3, q4⟩ := e8 i y v h1 h2'
        have hkk : scope.names.lookup y = some .local ∨ scope.names.lookup y = some .cell ∨ scope.names.lookup y = some .free := h3
        refine ⟨u, q4, ?_⟩
        rcases hkk with z | z | z
        · have hm : y ∈ N.drop ps.length := List.mem_of_getElem? (i := i - ps.length) (by rw [List.getElem?_drop, show ps.length + (i - ps.length) = i by lia]; exact h1)
          rw [S.fr y hm] at z
          cases z
        · exact absurd rfl (S.nocell _ (PySem.mem_of_lookup z))
        · exact .inr ⟨.inr z, c, q1, ⟨o, hk₁ _ _ (frO_at e0.hok q2), q3⟩⟩
    · obtain ⟨o, u, q, d⟩ := e6 c (hcl y c h)
      exact ⟨u, o, hk₁ _ _ (frO_at e0.hok q), d⟩
    · exact nonU (e0.hok.fresh (Nat.le_refl _))
    · unfold lamSt
      show _ = N.length
      have hpl : ps.length ≤ N.length := by have := congrArg List.length S.pre; rw [List.length_take] at this; lia
      rw [List.length_append, List.length_map, List.length_drop, hfv]
      lia
  refine PySem.W.kla_codeExpr (wpAny_mono (hPE [] _ (lamSt vs fv) (utk H cs) _ I hq) (fun v' s' hs => ?_) fun e' s' hs => False.elim hs)
  obtain ⟨v, H1, J, rv, q1⟩ := hs
  have hn1 : ∀ c ∈ cs, H1 c = none := fun c hc => by
    obtain ⟨⟨x, hx⟩, _⟩ := e6' c hc
    exact J.freeC x c hx
  have U : Un (frs outer) [] (utk H cs) H1 s.heap s'.heap := J.base
  have hcs' : ∀ c ∈ cs, ∃ ob, H c = some (frO ob) := fun c hc => let ⟨o, _, q, _⟩ := e6 c hc; ⟨o, q⟩
  have out : ∀ {b : Addr}, H b = none → b ∉ cs := fun {b} e z => by obtain ⟨o, q⟩ := hcs' b z; rw [e] at q; cases q
  have got : ∀ {b : Addr} {o : HO}, (∀ ob, o ≠ frO ob) → H b = some o → b ∉ cs := fun {b o} ne e z => by obtain ⟨ob, q⟩ := hcs' b z; rw [e] at q; exact ne ob (Option.some.inj q)
  refine ⟨v, rtk H H1 cs, J.os, J.bare, ⟨fun b o e n hb hx => ?_, fun b o e n hb hx => ?_, fun b o e n hx => ?_, fun b o e hx => U.there b o e hx, fun b xs e => ?_, fun b o u e => ?_, fun b ps e => ?_⟩, fun b u e => ?_, rv, q1 hn1⟩
  · exact U.keep b o e (nonU n) hb hx
  · exact U.slot b o e (nonU n) hb hx
  · rw [rtk_out (out n)]; exact U.free b o e (nonU n) hx
  · have hb := got (fun ob z => by cases z) e
    rw [rtk_out hb]; exact U.tups b xs (by rw [utk_out hb]; exact e)
  · by_cases hb : b ∈ cs
    · rw [rtk_in hb]; exact e
    · rw [rtk_out hb]; exact U.frzs b o u (by rw [utk_out hb]; exact e)
  · have hb := got (fun ob z => by cases z) e
    obtain ⟨more, q⟩ := U.tbls b ps (by rw [utk_out hb]; exact e)
    exact ⟨more, by rw [rtk_out hb]; exact q⟩
  · by_cases hb : b ∈ cs
    · rw [rtk_in hb] at e
      obtain ⟨ob, q⟩ := hcs' b hb
      rw [q] at e
      have := Option.some.inj e
      subst this
      refine frO_ok (U.keep b ob (frO_at e0.hok q) (hcu b hb) (fun z => ?_) (by simp))
      have := e0.frf b z
      rw [q] at this
      cases this
    · rw [rtk_out hb] at e
      refine (J.hok b u e).stay (fun _ _ _ q => q) (fun c q => ?_) fun c xs q => ?_
      · exact Same.rtk' hn1 c _ q
      · exact Same.rtk' hn1 c _ q
end L2
namespace L2
open PySem PySem.Spec PyProof.Rows
noncomputable def CallV (P : Program) (w : World) (K : PySem.W.Frag) (mg : Str → Option Value) (base : Heap) (CX : CXT) (k : Nat) (H : Hp) (f : Addr) (sp : List V → Hp → VK → Prop) : Prop :=
  (∃ (o : Obj) (fd : FuncData), H f = some (frO o) ∧ o.data = .func fd) ∧
  ∀ (H' : Hp), Same H H' → ∀ (A : Around) (outer : List Env) (s : Shared) (us : List Value) (vs : List V) (Q : VK), Room k A → Env0 P w K mg base A outer s H' → Vals vs us → sp vs H' Q →
    codeAny (model P w) A (.call (.ref f) ⟨us, []⟩) (CR CX outer P w H' s Q E0) s
theorem CallV.mono {P : Program} {w : World} {K : PySem.W.Frag} {mg : Str → Option Value} {base : Heap} {CX : CXT} {k : Nat} {H H1 : Hp} {f : Addr} {sp : List V → Hp → VK → Prop} (h : CallV P w K mg base CX k H f sp) (s : Same H H1) : CallV P w K mg base CX k H1 f sp := by
  obtain ⟨⟨o, fd, e, d⟩, r⟩ := h
  exact ⟨⟨o, fd, s _ _ e, d⟩, fun H' s' => r H' (s.trans s')⟩
noncomputable def tCallV (P : Program) (w : World) (K : PySem.W.Frag) (mg : Str → Option Value) (base : Heap) (CX : CXT) (k : Nat) (i : Nat) (t : TA) : TE := fun σ H Q => ∃ (f : Addr) (sp : List V → Hp → VK → Prop), σ[i]? = some (some (.ref f)) ∧ (∃ (o : Obj) (fd : FuncData), H f = some (frO o) ∧ o.data = .func fd) ∧
  t σ H fun vs H1 => CallV P w K mg base CX k H1 f sp ∧ sp vs H1 Q
section
variable {X : Cx} {CX : CXT} {k : Nat} {x : Str} {p pos : Pos} {e : Expr} {es : List Expr} {t : TA}
theorem pe_callV [N : NoE CX] (i : Nat) (hr : Room k X.A) (ha : PA X (e :: es) t) (hN : X.N[i]? = some x := by rfl) (hv : Vis X.env.scope x := by first | exact Or.inl rfl | exact Or.inr (Or.inl rfl) | exact Or.inr (Or.inr rfl)) (hd : (x == ("__debug__" : Str)) = false := by decide)
    (hcd : (x == ("__classdict__" : Str)) = false := by decide) (he : starEach (e :: es) X.env = (false, eval e X.env) :: starEach es X.env := by rfl) (hpl : (backTo pos (starEach es X.env)).any (·.1) = false := by rfl) :
    PE X (.Call (.Name x p) (e :: es) [] pos) (tCallV X.prog X.w X.K X.mg X.base CX k i t) := by
  intro pins s σ H Q I h
  obtain ⟨f, sp, ef, ⟨o, fd, eo, od⟩, h⟩ := h
  refine wpAny_Call_Name_kw (thnE (pe_var hN hv hd hcd pins s σ H (fun v H1 => v = .ref f ∧ H1 = H) I ⟨_, ef, rfl, rfl⟩) fun u s1 v H1 I1 r1 hz9 => ?_)
  obtain ⟨hv1, hH1⟩ := hz9
  subst hv1 hH1
  cases r1
  have h' := ha pos pins s1 σ H1 _ I1 h
  rw [he] at h' ⊢
  refine PySem.W.callWith_of (P := fun hp => hp.get? f = some o ∨ ∃ o' fd', hp.get? f = some o' ∧ o'.data = .func fd') (by show ((false || (backTo pos (starEach es X.env)).any (·.1)) || false) = false; rw [hpl]; rfl)
    (fun hp hX => ?_) (PySem.Calls.evalArgs_plain (thn h' fun us s2 ⟨vs, H2, I2, r, cv, q⟩ => ?_))
  · have hX' : ∃ o' fd', hp.get? f = some o' ∧ o'.data = .func fd' := hX.elim (fun z => ⟨o, fd, z, od⟩) id
    obtain ⟨o', fd', z, d'⟩ := hX'
    refine ⟨.frame, .inl rfl, ?_⟩
    obtain ⟨cls, dd, data, sl⟩ := o'
    simp only at d'
    subst d'
    exact (PySem.W.Looks.ld (part := none) z).andThen .now
  · obtain ⟨⟨o', fd', z, d'⟩, run⟩ := cv
    refine ⟨.inr ⟨o', fd', frO_at I2.hok z, d'⟩, ?_⟩
    refine wpAny_call (codeAny_mono (run H2 (Same.refl _) X.A X.stack s2 us vs Q hr I2.env0 r q) fun r s' hq => ?_)
    cases r with
    | error e => exact absurd hq N.no
    | ok fl =>
      cases fl with
      | ret u => exact I2.after hq
      | next => exact False.elim hq
      | brk => exact False.elim hq
      | cont => exact False.elim hq
end
end L2
namespace L2
open PySem PySem.Spec PyProof.Rows
structure Tb where
  at_ : Addr
  pos : Pos
  qual : Str
noncomputable def TabAt (T : Tb) (H : Hp) : Prop := H T.at_ = some (.tbl #[]) ∨ ∃ (c' : Addr) (oc : Obj) (vs : Array Value) (t : Tok), H T.at_ = some (.tbl #[rawInt T.pos.line, rawInt T.pos.col, .ref c']) ∧ H c' = some (frO oc) ∧ oc.data = .fields vs ∧ vs[1]? = some (.str T.qual t)
noncomputable def Tabs (Ts : List Tb) (H : Hp) : Prop := ∀ T ∈ Ts, TabAt T H
structure SameL (Ts : List Tb) (H H' : Hp) : Prop where
  at_ : ∀ b o, (∀ ps, o ≠ .tbl ps) → H b = some o → H' b = some o
  tabs : Tabs Ts H → Tabs Ts H'
theorem TabAt.mono {T : Tb} {H H' : Hp} (h : TabAt T H) (s : Same H H') : TabAt T H' := by
  rcases h with e | ⟨c', oc, vs, t, e1, e2, e3⟩
  · exact .inl (s _ _ e)
  · exact .inr ⟨c', oc, vs, t, s _ _ e1, s _ _ e2, e3⟩
theorem Same.l {Ts : List Tb} {H H' : Hp} (s : Same H H') : SameL Ts H H' := ⟨fun b o _ e => s b o e, fun h T hT => (h T hT).mono s⟩
theorem SameL.refl {Ts : List Tb} (H : Hp) : SameL Ts H H := (Same.refl H).l
theorem SameL.trans {Ts : List Tb} {H H1 H2 : Hp} (a : SameL Ts H H1) (b : SameL Ts H1 H2) : SameL Ts H H2 := ⟨fun c o n e => b.at_ c o n (a.at_ c o n e), fun h => b.tabs (a.tabs h)⟩
class NT (o : HO) : Prop where
  no : ∀ ps, o ≠ .tbl ps
instance NT.lst {xs : List V} : NT (.lst xs) := ⟨fun _ z => by cases z⟩
instance NT.tup {xs : List V} : NT (.tup xs) := ⟨fun _ z => by cases z⟩
instance NT.dK {xs : List (Key × V)} : NT (.dK xs) := ⟨fun _ z => by cases z⟩
instance NT.ext {f : Heap → Prop} : NT (.ext f) := ⟨fun _ z => by cases z⟩
instance NT.frz {o : Obj} {u : HO} : NT (.frz o u) := ⟨fun _ z => by cases z⟩
theorem SameL.g {Ts : List Tb} {H H' : Hp} (s : SameL Ts H H') {b : Addr} {o : HO} [n : NT o] (e : H b = some o) : H' b = some o := s.at_ b o n.no e
theorem SameL.seq {Ts : List Tb} {K : PySem.W.Frag} {H H' : Hp} {a : Addr} {xs : List V} (s : SameL Ts H H') (h : SqL K H a xs) : SqL K H' a xs := by
  rcases h with (h | ⟨o, h⟩) | h
  · exact .inl (.inl (s.g h))
  · exact .inl (.inr ⟨o, s.g h⟩)
  · exact .inr h
mutual
theorem Dr.monoL {Ts : List Tb} {K : PySem.W.Frag} {H H' : Hp} (s : SameL Ts H H') : ∀ {d : D} {v : V}, Dr K H d v → Dr K H' d v
  | .non, _, h => by simp only [Dr] at h ⊢; exact h
  | .bl _, _, h => by simp only [Dr] at h ⊢; exact h
  | .int _, _, h => by simp only [Dr] at h ⊢; exact h
  | .str _, _, h => by simp only [Dr] at h ⊢; exact h
  | .tup ds, _, h => by
    simp only [Dr] at h ⊢
    obtain ⟨a, vs, e, q, r⟩ := h
    exact ⟨a, vs, e, s.g q, DrL.monoL s r⟩
  | .lst ds, _, h => by
    simp only [Dr] at h ⊢
    obtain ⟨a, vs, e, q, r⟩ := h
    exact ⟨a, vs, e, s.seq q, DrL.monoL s r⟩
theorem DrL.monoL {Ts : List Tb} {K : PySem.W.Frag} {H H' : Hp} (s : SameL Ts H H') : ∀ {ds : List D} {vs : List V}, DrL K H ds vs → DrL K H' ds vs
  | [], _, h => by simp only [DrL] at h ⊢; exact h
  | d :: ds, _, h => by
    simp only [DrL] at h ⊢
    obtain ⟨v, r, e, q, q'⟩ := h
    exact ⟨v, r, e, Dr.monoL s q, DrL.monoL s q'⟩
end
noncomputable def trkO (H : Hp) (cs : List Addr) (ob : Addr → Obj) : Hp := fun b => if b ∈ cs then some (frO (ob b)) else H b
theorem trkO_in {H : Hp} {cs : List Addr} {ob : Addr → Obj} {b : Addr} (h : b ∈ cs) : trkO H cs ob b = some (frO (ob b)) := if_pos h
theorem trkO_out {H : Hp} {cs : List Addr} {ob : Addr → Obj} {b : Addr} (h : b ∉ cs) : trkO H cs ob b = H b := if_neg h
section
variable {X : Cx} {pins : List (Addr × Obj)} {σ : St} {H : Hp} {s s' : Shared} {cs : List Addr} {ob : Addr → Obj}
theorem Inv.cellFree (I : Inv X pins σ H s) {x : Str} {c : Addr} (hc : X.env.cells.lookup x = some c) (hge : X.s₀.heap.objs.size ≤ c) : c ∉ frs X.stack ∧ X.base.get? c = none := by
  refine ⟨fun z => ?_, Heap.get?_none_of_le (Nat.le_trans I.ok.bsz hge)⟩
  rcases List.mem_cons.mp (I.stkSub c z) with q | q
  · exact I.cne x c hc q
  · obtain ⟨_, o, ho, _⟩ := I.ok.funs.mem q
    exact absurd (Nat.lt_of_lt_of_le (Heap.lt_size ho) hge) (Nat.lt_irrefl _)
theorem Inv.env0T (I : Inv X pins σ H s) (h1 : ∀ c ∈ cs, s.heap.get? c = some (ob c)) (h2 : ∀ c ∈ cs, H c = none) (h3 : ∀ c ∈ cs, c ∉ frs X.stack ∧ X.base.get? c = none) : Env0 X.prog X.w X.K X.mg X.base X.A X.stack s (trkO H cs ob) := by
  have E := I.env0
  have out : ∀ {b : Addr} {o : HO}, H b = some o → b ∉ cs := fun {b o} e z => by rw [h2 b z] at e; cases e
  refine ⟨E.frames, E.mod, fun b o e => ⟨(E.bs b o e).1, ?_⟩, E.bsz, E.funs, fun b hb => ?_, fun b u e => ?_, E.bare⟩
  · have hb : b ∉ cs := fun z => by rw [(h3 b z).2] at e; cases e
    rw [trkO_out hb]; exact (E.bs b o e).2
  · have hb' : b ∉ cs := fun z => (h3 b z).1 hb
    rw [trkO_out hb']; exact E.frf b hb
  · by_cases hb : b ∈ cs
    · rw [trkO_in hb] at e
      have := Option.some.inj e
      subst this
      exact frO_ok (h1 b hb)
    · rw [trkO_out hb] at e
      exact (I.hok b u e).stay (fun _ _ _ q => q) (fun c q => by rw [trkO_out (out q)]; exact q) fun c xs q => by rw [trkO_out (out q)]; exact q
theorem unT {fr : List Addr} {H' : Hp} {h h' : Heap} {P : Program} {w : World} (h1 : ∀ c ∈ cs, h.get? c = some (ob c)) (h2 : ∀ c ∈ cs, H c = none) (h3 : ∀ c ∈ cs, c ∉ fr) (U : Un fr [] (trkO H cs ob) H' h h') (hok : HOk P w H' h') :
    Un fr [] H (utk H' cs) h h' ∧ HOk P w (utk H' cs) h' := by
  have out : ∀ {b : Addr} {o : HO}, H b = some o → b ∉ cs := fun {b o} e z => by rw [h2 b z] at e; cases e
  have at' : ∀ c ∈ cs, H' c = some (frO (ob c)) := fun c hc => U.frzs c _ _ (trkO_in hc)
  have got : ∀ {b : Addr} {o : HO}, (∀ x, o ≠ frO x) → H' b = some o → b ∉ cs := fun {b o} ne e z => by rw [at' b z] at e; exact ne _ (Option.some.inj e).symm
  refine ⟨⟨fun b o e n hb hx => ?_, fun b o e n hb hx => ?_, fun b o e n hx => ?_, fun b o e hx => U.there b o e hx, fun b xs e => ?_, fun b o u e => ?_, fun b ps e => ?_⟩, fun b u e => ?_⟩
  · by_cases hc : b ∈ cs
    · have q := frO_at hok (at' b hc)
      have q' := h1 b hc
      rw [e] at q'
      rw [q, Option.some.inj q']
    · exact U.keep b o e (by rw [trkO_out hc]; exact n) hb hx
  · have hc : b ∉ cs := fun z => h3 b z hb
    exact U.slot b o e (by rw [trkO_out hc]; exact n) hb hx
  · by_cases hc : b ∈ cs
    · exact utk_in hc
    · rw [utk_out hc]; exact U.free b o e (by rw [trkO_out hc]; exact n) hx
  · rw [utk_out (out e)]; exact U.tups b xs (by rw [trkO_out (out e)]; exact e)
  · rw [utk_out (out e)]; exact U.frzs b o u (by rw [trkO_out (out e)]; exact e)
  · obtain ⟨more, q⟩ := U.tbls b ps (by rw [trkO_out (out e)]; exact e)
    exact ⟨more, by rw [utk_out (out e)]; exact q⟩
  · have hc : b ∉ cs := fun z => by rw [utk_in z] at e; cases e
    rw [utk_out hc] at e
    refine (hok b u e).stay (fun _ _ _ q => q) (fun c q => ?_) fun c xs q => ?_
    · rw [utk_out (got (fun x z => by cases z) q)]; exact q
    · rw [utk_out (got (fun x z => by cases z) q)]; exact q
theorem Inv.afterT {Q : VK} {u : Value} (I : Inv X pins σ H s) (h1 : ∀ c ∈ cs, s.heap.get? c = some (ob c)) (h2 : ∀ c ∈ cs, H c = none) (h3 : ∀ c ∈ cs, c ∉ frs X.stack ∧ X.base.get? c = none)
    (h : CE X.stack X.prog X.w (trkO H cs ob) s (fun v H' => Q v (utk H' cs)) u s') : EP X pins σ Q u s' := by
  obtain ⟨v, H', os, bare, un, hok, r, q⟩ := h
  obtain ⟨un2, hok2⟩ := unT h1 h2 (fun c hc => (h3 c hc).1) un hok
  exact I.after ⟨v, utk H' cs, os, bare, un2, hok2, r, q⟩
theorem cxxT {P : Program} {w : World} {outer : List Env} {E : XK} {e : Value} (h1 : ∀ c ∈ cs, s.heap.get? c = some (ob c)) (h2 : ∀ c ∈ cs, H c = none) (h3 : ∀ c ∈ cs, c ∉ frs outer) (h : CXx P w outer (trkO H cs ob) s (fun e C H' => E e C (utk H' cs)) e s') : CXx P w outer H s E e s' := by
  obtain ⟨ea, C, H', e1, os, bare, un, hok, fly, q⟩ := h
  obtain ⟨un2, hok2⟩ := unT h1 h2 h3 un hok
  have no : ∀ {b : Addr}, H' b = none → utk H' cs b = none := fun {b} z => by
    by_cases hc : b ∈ cs
    · exact utk_in hc
    · rw [utk_out hc]; exact z
  obtain ⟨f1, f2, a0, oe, vs, T, oT, ts, g1, g2, g3, g4, g5, g6, g7, g8⟩ := fly
  exact ⟨ea, C, utk H' cs, e1, os, bare, un2, hok2, ⟨f1, no f2, a0, oe, vs, T, oT, ts, g1, g2, g3, g4, g5, g6, no g7, g8⟩, q⟩
end
end L2
namespace L2
open PySem PySem.Spec PyProof.Rows
noncomputable def BMain (base : Heap) (mg : Str → Option Value) : Prop := ∃ bm o, mg "__builtins__" = some (.ref bm) ∧ bm ≠ builtinsNs ∧ bm ≠ mainGlobals ∧ base.get? bm = some o ∧ o.cls = .type "module" ∧ o.dict = some builtinsNs ∧ o.data = .plain
noncomputable def LamMade (Ts : List Tb) (H H' : Hp) (fa : Addr) (clos : List (Str × Addr)) (params : Arguments) (body : Expr) (scope : Scope) (qual : Str) : Prop :=
  (∀ b o, (∀ ps, o ≠ .tbl ps) → H b = some o → H' b = some o) ∧ Tabs Ts H' ∧ ∃ (pm : Value) (c' : Addr) (ctv : Value) (oc : Obj) (vs : Array Value) (t : Tok), H' fa = some (frO (PySem.W.kla_obj "<lambda>" qual params body scope clos pm c' ctv)) ∧ H' c' = some (frO oc) ∧ oc.data = .fields vs ∧ vs[1]? = some (.str qual t)
noncomputable def tLam (Ts : List Tb) (clos : List (Str × Addr)) (params : Arguments) (body : Expr) (scope : Scope) (qual : Str) : TE := fun _ H Q => Tabs Ts H ∧ ∀ (fa : Addr) (H' : Hp), LamMade Ts H H' fa clos params body scope qual → Q (.ref fa) H'
section
variable {X : Cx} {N : List Str} {ix : List (Option Nat)} {params : Arguments} {body : Expr} {lsc : Scope} {lpos : Pos} {c : Addr} {T : Tb} {Ts : List Tb}
theorem pe_lam (S : CompS X.N X.env.scope N ix lsc) (hcode : X.env.code = .ref c) (hC : PySem.W.CodeHd X.base c T.at_) (hB : BMain X.base X.mg) (hT : T ∈ Ts) (hTn : ∀ T' ∈ Ts, T'.at_ = T.at_ → T' = T) (hTp : T.pos = lpos) (hTq : T.qual = X.env.qual ++ "<lambda>")
    (hdef : defaultsOf params X.env = ([], [])) : PE X (.Lambda params body lsc lpos) (tLam Ts (closeL X.env.cells lsc.names []) params body lsc T.qual) := by
  intro pins s σ H Q I h
  obtain ⟨ht, h⟩ := h
  subst hTp
  refine PySem.W.kla_eval hdef ?_
  rw [← hTq]
  have hcl := closureFor_run (scope := lsc) (env := X.env) (comp_cells I S)
  have hns : s.heap.Ns mainGlobals X.mg := I.mod.glob.keeps I.bk
  have C : PySem.W.CodeHd s.heap c T.at_ := hC.keeps I.bk
  obtain ⟨bm, ob, b1, b2, b3, b4, b5, b6, b7⟩ := hB
  have tP : ∀ {ps : Array Value}, H T.at_ = some (.tbl ps) → s.heap.get? T.at_ = some (PySem.W.tabObj ps) := fun e => I.hok _ _ e
  have neP : ∀ {ps : Array Value} {b : Addr}, H T.at_ = some (.tbl ps) → H b = none → b ≠ T.at_ := fun e n z => by rw [z, e] at n; cases n
  rcases ht T hT with e | ⟨c', oc, vs, t, e, ec, d1, d2⟩
  · have hbP : bm ≠ T.at_ := neP e (I.bs _ _ b4).2
    have hgP : mainGlobals ≠ T.at_ := fun z => by
      obtain ⟨o, es, ep, q, qd, _⟩ := hns
      rw [z, tP e] at q
      cases q
      cases qd
    refine PySem.W.kla_makeFunction (mg := X.mg) hcl I.ok.glob hns hcode C (tP e) trivial rfl hgP ⟨bm, ob, b1, b2, b3, hbP, I.bk _ _ b4, b5, b6, b7⟩ fun c' ctv h' tk hx hge hlt hrec htb => ?_
    obtain ⟨c2, oc, vs, t, ee, hoc, d1, d2⟩ := hrec
    cases ee
    have hPlt : T.at_ < s.heap.objs.size := Heap.lt_size (tP e)
    have nPc : T.at_ ≠ c' := Nat.ne_of_lt (Nat.lt_of_lt_of_le hPlt hge)
    have nPf : T.at_ ≠ h'.objs.size := Nat.ne_of_lt (Nat.lt_trans (Nat.lt_of_lt_of_le hPlt hge) hlt)
    have ncf : c' ≠ h'.objs.size := Nat.ne_of_lt hlt
    have Hc : H c' = none := I.hok.fresh hge
    have Hf : H h'.objs.size = none := I.hok.fresh (Nat.le_trans hge (Nat.le_of_lt hlt))
    generalize hfo : PySem.W.kla_obj "<lambda>" T.qual params body lsc (closeL X.env.cells lsc.names []) ((X.mg "__name__").getD .none) c' ctv = fo
    have hfg : (h'.push fo).get? h'.objs.size = some fo := Heap.get?_push_size _ (by rw [← hfo]; rfl)
    let H' : Hp := upd (upd (upd H T.at_ (.tbl #[rawInt T.pos.line, rawInt T.pos.col, .ref c'])) c' (frO oc)) h'.objs.size (frO fo)
    have gP : H' T.at_ = some (.tbl #[rawInt T.pos.line, rawInt T.pos.col, .ref c']) := by show upd _ _ _ _ = _; rw [upd_ne nPf, upd_ne nPc, upd_same]
    have gc : H' c' = some (frO oc) := by show upd _ _ _ _ = _; rw [upd_ne ncf, upd_same]
    have gf : H' h'.objs.size = some (frO fo) := upd_same
    have go : ∀ {b : Addr}, b ≠ T.at_ → b ≠ c' → b ≠ h'.objs.size → H' b = H b := fun {b} n1 n2 n3 => by show upd _ _ _ _ = _; rw [upd_ne n3, upd_ne n2, upd_ne n1]
    have gt : ∀ {b : Addr} {o : HO}, b ≠ T.at_ → H b = some o → H' b = some o := fun {b o} n1 q => by rw [go n1 (ne_of_none q Hc) (ne_of_none q Hf)]; exact q
    have hk : ∀ b o, b ≠ T.at_ → s.heap.get? b = some o → (h'.push fo).get? b = some o := fun b o n q => Heap.get?_push_of_some _ (hx b o n q)
    have I' : Inv X pins σ H' { s with heap := h'.push fo, toks := tk } := by
      refine I.un ⟨fun b o q n _ _ => hk b o (neP e n) q, fun b o q n _ _ => ⟨o.slots, hk b o (neP e n) q⟩, fun b o q n _ => ?_, fun b o q _ => ?_, fun b xs q => ?_, fun b o u q => ?_, fun b ps q => ?_⟩ (fun b u q => ?_)
      · have hb := Heap.lt_size q
        rw [go (neP e n) (Nat.ne_of_lt (Nat.lt_of_lt_of_le hb hge)) (Nat.ne_of_lt (Nat.lt_trans (Nat.lt_of_lt_of_le hb hge) hlt))]; exact n
      · by_cases hb : b = T.at_
        · exact ⟨_, by rw [hb]; exact Heap.get?_push_of_some _ htb⟩
        · exact ⟨_, hk b o hb q⟩
      · exact gt (fun z => by rw [z, e] at q; cases q) q
      · exact gt (fun z => by rw [z, e] at q; cases q) q
      · by_cases hb : b = T.at_
        · subst hb
          rw [e] at q
          cases q
          exact ⟨#[rawInt T.pos.line, rawInt T.pos.col, .ref c'], by rw [gP]; simp⟩
        · exact ⟨#[], by rw [gt hb q]; simp⟩
      · by_cases hf : b = h'.objs.size
        · subst hf
          rw [gf] at q
          cases q
          exact frO_ok hfg
        · by_cases hc : b = c'
          · subst hc
            rw [gc] at q
            cases q
            exact frO_ok (Heap.get?_push_of_some _ hoc)
          · by_cases hb : b = T.at_
            · subst hb
              rw [gP] at q
              cases q
              show (h'.push fo).get? T.at_ = some (PySem.W.tabObj _)
              have := Heap.get?_push_of_some fo htb
              simpa using this
            · rw [go hb hc hf] at q
              refine (I.hok b u q).stay (fun d o hd q' => hk d o ?_ q') (fun d q' => gt (fun z => by rw [z, e] at q'; cases q') q') fun d xs q' => gt (fun z => by rw [z, e] at q'; cases q') q'
              rcases hd with z | z
              · rw [z]; exact hb
              · exact fun z' => by rw [z', e] at z; cases z
    refine ⟨.ref h'.objs.size, H', I', rfl, h _ _ ⟨fun b o no q => gt (fun z => by rw [z, e] at q; exact no _ (Option.some.inj q).symm) q, fun T' hT' => ?_, _, c', ctv, oc, vs, t, by rw [hfo]; exact gf, gc, d1, d2⟩⟩
    by_cases hb : T'.at_ = T.at_
    · have := hTn T' hT' hb
      subst this
      exact .inr ⟨c', oc, vs, t, gP, gc, d1, d2⟩
    · rcases ht T' hT' with q | ⟨c3, oc3, vs3, t3, q1, q2, q3⟩
      · exact .inl (gt hb q)
      · exact .inr ⟨c3, oc3, vs3, t3, gt hb q1, gt (fun z => by rw [z, e] at q2; cases q2) q2, q3⟩
  · have hbP : bm ≠ T.at_ := neP e (I.bs _ _ b4).2
    refine PySem.W.kla_makeFunctionHit (mg := X.mg) (cv := .ref c') hcl I.ok.glob hns hcode C (tP e) (by simp [TriplesOk, rawInt]) (by simp [codeAmong, rawInt]) ⟨bm, ob, b1, b2, b3, hbP, I.bk _ _ b4, b5, b6, b7⟩ fun ctv h' tk hk hsz => ?_
    have Hf : H h'.objs.size = none := I.hok.fresh hsz
    have gt : ∀ {b : Addr} {o : HO} {u : HO}, H b = some o → upd H h'.objs.size u b = some o := fun q => by rw [upd_ne (ne_of_none q Hf)]; exact q
    refine ⟨.ref h'.objs.size, _, I.laid (a := h'.objs.size) (o := frO (PySem.W.kla_obj "<lambda>" T.qual params body lsc (closeL X.env.cells lsc.names []) ((X.mg "__name__").getD .none) c' ctv)) (t' := tk) (fun b o q => Heap.get?_push_of_some _ (hk b o q)) hsz (frO_ok (Heap.get?_push_size _ rfl)), rfl, h _ _ ⟨fun b o _ q => gt q, fun T' hT' => ?_, _, c', ctv, oc, vs, t, upd_same, gt ec, d1, d2⟩⟩
    rcases ht T' hT' with q | ⟨c3, oc3, vs3, t3, q1, q2, q3⟩
    · exact .inl (gt q)
    · exact .inr ⟨c3, oc3, vs3, t3, gt q1, gt q2, q3⟩
noncomputable def tCallL (Ts : List Tb) (params : Arguments) (body : Expr) (lsc : Scope) (qual : Str) (N : List Str) (ix : List (Option Nat)) (sp : Sp) (E : XK) (t0 : TE) : TE := fun σ H Q => t0 σ H fun v0 H1 => Tabs Ts H1 ∧ ∀ (fa : Addr) (H2 : Hp) (cs : List Addr), (∀ b o, (∀ ps, o ≠ .tbl ps) → H1 b = some o → H2 b = some o) →
  (∀ H3, Same H2 H3 → SameL Ts H1 (utk H3 cs)) → (∀ c ∈ cs, ∃ ob, H2 c = some (frO ob)) → CloAt H2 fa params body lsc qual N (compSt ix σ) → sp [v0, .ref fa] H2 (fun v H3 => Q v (utk H3 cs)) (fun e C H3 => E e C (utk H3 cs))
variable {k : Nat} {g : Addr} {gd : FuncData} {ps : List Str} {sp : Sp} {E : XK} {x : Str} {p pos : Pos} {e0 : Expr} {t0 : TE}
theorem pe_callL (G : FnOk X.prog X.w X.K X.mg X.base (CXx X.prog X.w) k g gd ps sp) (hr : Room k X.A) (hg : Gl X x) (hm : X.mg x = some (.ref g)) (hk : PySem.W.keepIn X.K (.ref g) = true) (hb : Binds X.K gd ps []) (hx : Passes (CXx X.prog X.w) X E)
    (h0 : PE X e0 t0) (m0 : ∀ σ H (Q Q' : VK), (∀ v H1, Q v H1 → Q' v H1) → t0 σ H Q → t0 σ H Q') (S : CompS X.N X.env.scope N ix lsc) (hcode : X.env.code = .ref c) (hC : PySem.W.CodeHd X.base c T.at_) (hB : BMain X.base X.mg) (hfn : ∀ y, X.fn y = true) (hT : T ∈ Ts) (hTn : ∀ T' ∈ Ts, T'.at_ = T.at_ → T' = T) (hTp : T.pos = lpos) (hTq : T.qual = X.env.qual ++ "<lambda>")
    (hdef : defaultsOf params X.env = ([], []) := by rfl) (hdb : (x == ("__debug__" : Str)) = false := by decide)
    (he : starEach [e0, .Lambda params body lsc lpos] X.env = (false, eval e0 X.env) :: starEach [.Lambda params body lsc lpos] X.env := by rfl) (he2 : starEach [.Lambda params body lsc lpos] X.env = (false, eval (.Lambda params body lsc lpos) X.env) :: starEach [] X.env := by rfl) (hpl : (backTo pos (starEach [.Lambda params body lsc lpos] X.env)).any (·.1) = false := by rfl) :
    PE X (.Call (.Name x p) [e0, .Lambda params body lsc lpos] [] pos) (tCallL Ts params body lsc T.qual N ix sp E t0) := by
  intro pins s σ H Q I h
  refine wpAny_Call_Name_kw (ld_glob I hg hm ?_ hdb)
  have hPA : PA X [e0, .Lambda params body lsc lpos] (tCons t0 (tCons (tLam Ts (closeL X.env.cells lsc.names []) params body lsc T.qual) tNil)) := pa_cons h0 (pa_cons (pe_lam S hcode hC hB hT hTn hTp hTq hdef) pa_nil he2) he
  refine PySem.W.callWith_K (h₀ := X.base) I.ok.mod.kin hk (thn (hPA pos pins s σ H (fun us H2 => ∃ (v0 : V) (fa : Addr) (H1 : Hp), us = [v0, .ref fa] ∧ (Tabs Ts H1 ∧ ∀ (fa : Addr) (H2 : Hp) (cs : List Addr), (∀ b o, (∀ ps, o ≠ .tbl ps) → H1 b = some o → H2 b = some o) →
  (∀ H3, Same H2 H3 → SameL Ts H1 (utk H3 cs)) → (∀ c ∈ cs, ∃ ob, H2 c = some (frO ob)) → CloAt H2 fa params body lsc T.qual N (compSt ix σ) → sp [v0, .ref fa] H2 (fun v H3 => Q v (utk H3 cs)) (fun e C H3 => E e C (utk H3 cs))) ∧ LamMade Ts H1 H2 fa (closeL X.env.cells lsc.names []) params body lsc T.qual) I ?_) fun us s2 ⟨vs, H2, I2, r, q⟩ => ⟨I2.kIn, ?_⟩) he hpl
  · exact m0 σ H _ _ (fun v0 H1 ⟨ht, hq⟩ => ⟨ht, fun fa H' made => ⟨v0, fa, H1, rfl, ⟨ht, hq⟩, made⟩⟩) h
  · obtain ⟨v0, fa, H1, rfl, ⟨ht, hq⟩, mfr, mtb, pm, c', ctv, oc, vsc, t, m1, m2, m3, m4⟩ := q
    let clos := closeL X.env.cells lsc.names []
    let cs : List Addr := (lsc.names.map (·.1)).filterMap (fun y => List.lookup y clos)
    let ob : Addr → Obj := fun c => (s2.heap.get? c).getD { cls := .none, data := .plain }
    have lk : ∀ {y : Str} {c : Addr}, clos.lookup y = some c → X.env.cells.lookup y = some c := fun e => comp_look I2 S e
    have mem : ∀ {c : Addr}, c ∈ cs → ∃ y, clos.lookup y = some c := fun {c} hc => by
      obtain ⟨y, _, e⟩ := List.mem_filterMap.mp hc
      exact ⟨y, e⟩
    have inn : ∀ y c, clos.lookup y = some c → c ∈ cs := fun y c e => by
      refine List.mem_filterMap.mpr ⟨y, ?_, e⟩
      by_cases hm' : (y, NameKind.free) ∈ lsc.names
      · exact List.mem_map.mpr ⟨_, hm', rfl⟩
      · have := closeL_out (cells := X.env.cells) lsc.names [] y hm'
        rw [show (closeL X.env.cells lsc.names []).lookup y = some c from e] at this
        cases this
    have h1 : ∀ c ∈ cs, s2.heap.get? c = some (ob c) := fun c hc => by
      obtain ⟨y, e⟩ := mem hc
      obtain ⟨v, o, ho, _⟩ := I2.cell y c (lk e)
      show _ = some ((s2.heap.get? c).getD _)
      rw [ho]; rfl
    have h2 : ∀ c ∈ cs, H2 c = none := fun c hc => by
      obtain ⟨y, e⟩ := mem hc
      exact I2.freeC y c (lk e)
    have h3 : ∀ c ∈ cs, c ∉ frs X.stack ∧ X.base.get? c = none := fun c hc => by
      obtain ⟨y, e⟩ := mem hc
      exact I2.cellFree (lk e) (I2.ok.cab y c (hfn y) (lk e))
    have out : ∀ {b : Addr} {o : HO}, H2 b = some o → b ∉ cs := fun {b o} e z => by rw [h2 b z] at e; cases e
    have tr : ∀ {b : Addr} {o : HO}, H2 b = some o → trkO H2 cs ob b = some o := fun e => by rw [trkO_out (out e)]; exact e
    have spq := hq fa (trkO H2 cs ob) cs (fun b o no e => tr (mfr b o no e)) (fun H3 s3 => ?_) (fun c hc => ⟨ob c, trkO_in hc⟩) ?_
    · refine wpAny_call (codeAny_mono (G.run X.A X.stack s2 (trkO H2 cs ob) ⟨us, []⟩ us [v0, .ref fa] _ _ hr (I2.env0T h1 h2 h3) (by have := hb s2 us I2.kIn (by rw [List.append_nil, ← r.length]; exact G.len _ _ _ _ spq); rw [List.append_nil] at this; exact this) r spq) fun r s' hq => ?_)
      cases r with
      | error e => exact hx pins σ H2 s2 e s' I2 (cxxT h1 h2 (fun c hc => (h3 c hc).1) hq)
      | ok fl =>
        cases fl with
        | ret u => exact I2.afterT h1 h2 h3 hq
        | next => exact False.elim hq
        | brk => exact False.elim hq
        | cont => exact False.elim hq
    · have out3 : ∀ {b : Addr} {o : HO}, H2 b = some o → utk H3 cs b = some o := fun e => by rw [utk_out (out e)]; exact s3 _ _ (tr e)
      refine ⟨fun b o no e => out3 (mfr b o no e), fun _ T' hT' => ?_⟩
      rcases mtb T' hT' with q | ⟨c3, oc3, vs3, t3, q1, q2, q3⟩
      · exact .inl (out3 q)
      · exact .inr ⟨c3, oc3, vs3, t3, out3 q1, out3 q2, q3⟩
    · refine ⟨clos, cs, pm, c', ctv, oc, vsc, t, tr m1, tr m2, m3, m4, fun y z c e1 e2 => I2.ok.inj y z c (lk e1) (lk e2), inn, fun c hc => ⟨mem hc, ?_⟩, fun y hy => ?_, fun i y v e1 e2 => ?_⟩
      · obtain ⟨y, e⟩ := mem hc
        obtain ⟨v, o, ho, hd⟩ := I2.cell y c (lk e)
        refine ⟨ob c, v, trkO_in hc, ?_⟩
        have := h1 c hc
        rw [ho] at this
        rw [← Option.some.inj this]; exact hd
      · have hm' : (y, NameKind.free) ∈ lsc.names := PySem.mem_of_lookup hy
        obtain ⟨c, e⟩ := comp_cells I2 S y hm'
        exact ⟨c, (closeL_in lsc.names [] y (comp_cells I2 S) (.inl hm')).trans e⟩
      · obtain ⟨j, f1, f2, f3⟩ := S.at_ e1 e2
        have hm' : (y, NameKind.free) ∈ lsc.names := PySem.mem_of_lookup f2
        obtain ⟨m, hn, hl⟩ := I2.loc
        have hvis := S.frees _ hm' rfl
        obtain ⟨u, ru, look⟩ := hl j y v f1 f3 (.inr hvis)
        rcases look with ⟨hk', _⟩ | ⟨_, c, ec, cell⟩
        · have hk'' : X.env.scope.names.lookup y = some .local := hk'
          rcases hvis with z | z
          · rw [z] at hk''; cases hk''
          · rw [z] at hk''; cases hk''
        · have hcl : clos.lookup y = some c := (closeL_in lsc.names [] y (comp_cells I2 S) (.inl hm')).trans ec
          have hc := inn y c hcl
          obtain ⟨o, ho, hd⟩ := cell
          refine ⟨c, ob c, u, hcl, trkO_in hc, ?_, ru⟩
          have := h1 c hc
          rw [ho] at this
          rw [← Option.some.inj this]; exact hd
end
end L2
namespace L2
open PySem PySem.Spec PyProof.Rows
noncomputable def NFr (H H' : Hp) : Prop := ∀ b o, (∀ ob, o ≠ frO ob) → H b = some o → H' b = some o
theorem NFr.seq {K : PySem.W.Frag} {H H' : Hp} {a : Addr} {xs : List V} (s : NFr H H') (h : SqL K H a xs) : SqL K H' a xs := by
  rcases h with (h | ⟨o, h⟩) | h
  · exact .inl (.inl (s _ _ (fun _ z => by cases z) h))
  · exact .inl (.inr ⟨o, s _ _ (fun _ z => by cases z) h⟩)
  · exact .inr h
mutual
theorem Dr.nfr {K : PySem.W.Frag} {H H' : Hp} (s : NFr H H') : ∀ {d : D} {v : V}, Dr K H d v → Dr K H' d v
  | .non, _, h => by simp only [Dr] at h ⊢; exact h
  | .bl _, _, h => by simp only [Dr] at h ⊢; exact h
  | .int _, _, h => by simp only [Dr] at h ⊢; exact h
  | .str _, _, h => by simp only [Dr] at h ⊢; exact h
  | .tup ds, _, h => by
    simp only [Dr] at h ⊢
    obtain ⟨a, vs, e, q, r⟩ := h
    exact ⟨a, vs, e, s _ _ (fun _ z => by cases z) q, DrL.nfr s r⟩
  | .lst ds, _, h => by
    simp only [Dr] at h ⊢
    obtain ⟨a, vs, e, q, r⟩ := h
    exact ⟨a, vs, e, s.seq q, DrL.nfr s r⟩
theorem DrL.nfr {K : PySem.W.Frag} {H H' : Hp} (s : NFr H H') : ∀ {ds : List D} {vs : List V}, DrL K H ds vs → DrL K H' ds vs
  | [], _, h => by simp only [DrL] at h ⊢; exact h
  | d :: ds, _, h => by
    simp only [DrL] at h ⊢
    obtain ⟨v, r, e, q, q'⟩ := h
    exact ⟨v, r, e, Dr.nfr s q, DrL.nfr s q'⟩
end
theorem NFr.utk {H H3 : Hp} {cs : List Addr} (hc : ∀ c ∈ cs, ∃ ob, H c = some (frO ob)) (s : Same H H3) : NFr H3 (L2.utk H3 cs) := fun b o n e => utk_get (fun c h => let ⟨ob, q⟩ := hc c h; ⟨ob, s _ _ q⟩) e n
theorem Fun.okL {CX : CXT} {P : Program} {w : World} {K : PySem.W.Frag} {mg : Str → Option Value} {base : Heap} {x qual : Str} {st : Stmt} {f c : Addr} {fd : FuncData} {N ps : List Str} {k : Nat} {sp : Sp} (F : Fun K x qual st f fd) (hc : fd.code = .ref c) (S : FnScope N ps (defScope st)) (len : ∀ vs H Q E, sp vs H Q E → vs.length = ps.length)
    (hbody : ∀ (A : Around) (outer : List Env) (s : Shared) (H : Hp) (vs : List V) (Q : VK) (E : XK), Room k (A.deeper (envOfC qual (defScope st) s.heap.objs.size f (.ref c))) → sp vs H Q E →
      ∃ t, PSs (cxOf CX P w K mg base N qual (defScope st) f (.ref c) A outer s H E) (defBody st) t ∧ t { nx := fun _ H' => Q .non H', rt := Q } (start N vs) H) : FnOk P w K mg base CX (k + 1) f fd ps sp := by
  obtain ⟨oc, od, kV, doc, pm, an, cdv, ct, osl, rfl, lk, hcd⟩ := F.ex
  have : cdv = .ref c := hc
  subst this
  exact fn_of lk hcd S len fun A outer s H vs Q E hr hsp => hbody A outer s H vs Q E hr hsp
theorem law_call2 {P : Program} {w : World} {K : PySem.W.Frag} {mg mb : Str → Option Value} {CX : CXT} {k : Nat} {fa a : Addr} {fd : FuncData} {x : Str} {sp : Sp} {s₁ : Shared} {vs : List Value} {ns : List Int} {Ts : List Tb}
    (KX : K.In s₁.heap) (hns : s₁.heap.Ns mainGlobals mg) (hb : s₁.heap.Ns builtinsNs mb) (hbb : ∀ x : Str, x ≠ "__name__" → mb x = bootBuiltins x) (hlim : s₁.heap.NoLimit) (hg : s₁.gens = #[])
    (ha : s₁.heap.get? a = some { cls := .type "list", data := .seq vs.toArray }) (hi : IntsAre vs ns) (hl : ns.length ≤ sizeLine) (hr : Room k callerA)
    (hT : ∀ T ∈ Ts, s₁.heap.get? T.at_ = some (PySem.W.tabObj #[]) ∧ K.lookup T.at_ = none ∧ ∃ c, PySem.W.CodeHd s₁.heap c T.at_) (hbm : BMain s₁.heap mg)
    (F : ∀ base : Heap, K.In base → base.Ns mainGlobals mg → BMain base mg → FnOk P w K mg base CX k fa fd [x] sp) (hbind : ∀ (s : Shared) (u : Value), BindsTo s fd ⟨[u], []⟩ [(x, u)])
    (hsp : ∀ H : Hp, Tabs Ts H → SqL K H a (ns.map V.int) → sp [.ref a] H (fun v _ => v = .bl true) fun _ _ _ => False)
    (hCX : ∀ H e s', CX [] H s₁ (fun _ _ _ => False) e s' → False) :
    codeAny (model P w) callerA (.call (.ref fa) ⟨[.ref a], []⟩) (fun r s' => r = .ok (.ret (.bool true)) ∧ OldK s₁.heap s'.heap ∧ s'.os = s₁.os ∧ AllBare s'.gens) s₁ := by
  have rv := vals_ints hi
  have lenV := hi.length
  have isT : ∀ b, (∃ T ∈ Ts, T.at_ = b) → s₁.heap.get? b = some (PySem.W.tabObj #[]) ∧ K.lookup b = none ∧ ∃ c, PySem.W.CodeHd s₁.heap c b := fun b ⟨T, hT1, e⟩ => e ▸ hT T hT1
  have core : ∀ H : Hp, Tabs Ts H → SqL K H a (ns.map V.int) → HOk P w H s₁.heap → (∀ b, H b ≠ none → (b = a ∧ K.lookup a = none ∧ ∃ o xs, H b = some (.frz o (.lst xs))) ∨ ((∃ T ∈ Ts, T.at_ = b) ∧ H b = some (.tbl #[]))) →
      codeAny (model P w) callerA (.call (.ref fa) ⟨[.ref a], []⟩) (fun r s' => r = .ok (.ret (.bool true)) ∧ OldK s₁.heap s'.heap ∧ s'.os = s₁.os ∧ AllBare s'.gens) s₁ := by
    intro H hO hS hok hA
    have base_of : ∀ {b : Addr} {o : Obj}, s₁.heap.get? b = some o → H b = none → (hidT s₁.heap H).get? b = some o := fun e n => hidT_get e n
    have noA : ∀ {b : Addr} {o : Obj}, s₁.heap.get? b = some o → (∀ xs, o.data ≠ .seq xs) → (∀ xs, o.data ≠ .fields xs) → H b = none := fun {b o} e d1 d2 => by
      cases q : H b with
      | none => rfl
      | some u =>
        rcases hA b (by rw [q]; simp) with ⟨e', _⟩ | ⟨e', _⟩
        · subst e'
          rw [ha] at e; cases e
          exact absurd rfl (d1 _)
        · rw [(isT b e').1] at e; cases e
          exact absurd rfl (d2 _)
    have nsK : ∀ {b : Addr} {m : Str → Option Value}, s₁.heap.Ns b m → (hidT s₁.heap H).Ns b m := fun {b m} ⟨o, es, ep, e, d, r⟩ => ⟨o, es, ep, base_of e (noA e (fun xs z => by rw [z] at d; cases d) (fun xs z => by rw [z] at d; cases d)), d, r⟩
    have hKb : K.In (hidT s₁.heap H) := fun b o e => base_of (KX b o e) (by
      cases q : H b with
      | none => rfl
      | some u =>
        rcases hA b (by rw [q]; simp) with ⟨e', hk, _⟩ | ⟨e', _⟩
        · subst e'
          rw [hk] at e; cases e
        · rw [(isT b e').2.1] at e; cases e)
    have hM : Mod K mg (hidT s₁.heap H) := ⟨hKb, nsK hns, ⟨mb, nsK hb, hbb⟩, let ⟨mc, h1, h2⟩ := hlim; ⟨mc, nsK h1, h2⟩⟩
    have hBM : BMain (hidT s₁.heap H) mg := by
      obtain ⟨bm, o, b1, b2, b3, b4, b5, b6, b7⟩ := hbm
      exact ⟨bm, o, b1, b2, b3, base_of b4 (noA b4 (fun xs z => by rw [z] at b7; cases b7) (fun xs z => by rw [z] at b7; cases b7)), b5, b6, b7⟩
    have e0 : Env0 P w K mg (hidT s₁.heap H) callerA [] s₁ H := ⟨rfl, hM, fun b o e => of_hidT e, Nat.le_of_eq (hidT_size _ _), trivial, fun b hb => absurd (show b ∈ ([] : List Addr) from hb) (by simp), hok, .of_eq hg⟩
    refine codeAny_mono ((F _ hKb (nsK hns) hBM).run callerA [] s₁ H ⟨[.ref a], []⟩ [.ref a] [.ref a] _ _ hr e0 (hbind s₁ (.ref a)) (.cons rfl .nil) (hsp H hO hS)) fun r s' h => ?_
    cases r with
    | error e => exact (hCX H e s' h).elim
    | ok fl =>
      cases fl with
      | next => exact False.elim h
      | brk => exact False.elim h
      | cont => exact False.elim h
      | ret u =>
        obtain ⟨v, H', os, bare, un, hok', r', q⟩ := h
        have q' : v = .bl true := q
        subst q'
        obtain rfl : u = Value.bool true := r'
        have key : ∀ b o, s₁.heap.get? b = some o → s'.heap.get? b = some o ∨ ((∃ T ∈ Ts, T.at_ = b) ∧ ∃ more, s'.heap.get? b = some (PySem.W.tabObj (#[] ++ more))) := fun b o e => by
          cases q : H b with
          | none => exact .inl (un.keep b o e q (by intro z; exact absurd (show b ∈ ([] : List Addr) from z) (by simp)) (by simp))
          | some u =>
            rcases hA b (by rw [q]; simp) with ⟨_, _, ob, xs, z⟩ | ⟨e', z⟩
            · have z2 := un.frzs b ob _ z
              obtain ⟨e1, _⟩ := hok b _ z
              obtain ⟨e2, _⟩ := hok' b _ z2
              rw [e] at e1; cases e1
              exact .inl e2
            · obtain ⟨more, z2⟩ := un.tbls b #[] z
              exact .inr ⟨e', more, hok' b _ z2⟩
        refine ⟨rfl, ⟨fun b o e => ?_, fun b o e => ?_⟩, os, bare⟩
        · rcases key b o e with z | ⟨e', more, z⟩
          · exact .inl z
          · obtain ⟨h1, _, c, hc⟩ := isT b e'
            rw [e] at h1
            cases h1
            refine .inr (.inl ⟨?_, rfl, #[], more, rfl, z⟩)
            obtain ⟨o, vs, _, _, _, _, _, _, _, g1, g2, g3, g4, _⟩ := hc
            exact ⟨c, o, vs, g1, g2, g3, g4⟩
        · rcases key b o e with z | ⟨e', more, z⟩
          · exact ⟨_, z⟩
          · exact ⟨_, z⟩
  have naT : ∀ T ∈ Ts, T.at_ ≠ a := fun T h z => by
    have := (hT T h).1
    rw [z, ha] at this
    cases this
  open Classical in
  cases hk : K.lookup a with
  | some o =>
    have e := KX a o hk
    rw [ha] at e
    cases e
    refine core (fun b => if (∃ T ∈ Ts, T.at_ = b) then some (.tbl #[]) else none) (fun T h => .inl (if_pos ⟨T, h, rfl⟩)) (.inr ⟨_, vs.toArray, _, hk, rfl, rfl, rfl, by rw [List.size_toArray, lenV]; exact hl, by simpa using rv⟩) (fun b u z => ?_) fun b z => ?_
    · by_cases hb : ∃ T ∈ Ts, T.at_ = b
      · have z' := (if_pos hb).symm.trans z
        cases z'
        exact (isT b hb).1
      · have z' := (if_neg hb).symm.trans z
        cases z'
    · by_cases hb : ∃ T ∈ Ts, T.at_ = b
      · exact .inr ⟨hb, if_pos hb⟩
      · exact absurd (if_neg hb) z
  | none =>
    have cA : ∀ b, b = a → (if b = a then some (HO.frz { cls := .type "list", data := .seq vs.toArray } (.lst (ns.map V.int))) else if (∃ T ∈ Ts, T.at_ = b) then some (.tbl #[]) else none) = some (HO.frz { cls := .type "list", data := .seq vs.toArray } (.lst (ns.map V.int))) := fun b e => if_pos e
    have cT : ∀ b, b ≠ a → (∃ T ∈ Ts, T.at_ = b) → (if b = a then some (HO.frz { cls := .type "list", data := .seq vs.toArray } (.lst (ns.map V.int))) else if (∃ T ∈ Ts, T.at_ = b) then some (.tbl #[]) else none) = some (.tbl #[]) := fun b e h => by rw [if_neg e, if_pos h]
    have cN : ∀ b, b ≠ a → ¬ (∃ T ∈ Ts, T.at_ = b) → (if b = a then some (HO.frz { cls := .type "list", data := .seq vs.toArray } (.lst (ns.map V.int))) else if (∃ T ∈ Ts, T.at_ = b) then some (.tbl #[]) else none) = none := fun b e h => by rw [if_neg e, if_neg h]
    refine core (fun b => if b = a then some (.frz { cls := .type "list", data := .seq vs.toArray } (.lst (ns.map V.int))) else if (∃ T ∈ Ts, T.at_ = b) then some (.tbl #[]) else none) (fun T h => .inl (cT _ (naT T h) ⟨T, h, rfl⟩)) (.inl (.inr ⟨{ cls := .type "list", data := .seq vs.toArray }, if_pos rfl⟩)) (fun b u z => ?_) (fun b z => ?_)
    · by_cases hb : b = a
      · have z' := (cA b hb).symm.trans z
        cases z'
        subst hb
        exact ⟨ha, by rw [List.length_map]; exact hl, vs, _, rv, ha⟩
      · by_cases hb2 : ∃ T ∈ Ts, T.at_ = b
        · have z' := (cT b hb hb2).symm.trans z
          cases z'
          exact (isT b hb2).1
        · have z' := (cN b hb hb2).symm.trans z
          cases z'
    · by_cases hb : b = a
      · exact .inl ⟨hb, hk, _, _, cA b hb⟩
      · by_cases hb2 : ∃ T ∈ Ts, T.at_ = b
        · exact .inr ⟨hb2, cT b hb hb2⟩
        · exact absurd (cN b hb hb2) z
theorem walk_of2 {l : PySem.W.OpenLaw} {n k : Nat} {q : Program} {loose : List Str} {XP : (Str → Option Value) → Heap → Prop} {YP : World → Heap → Prop} {d : DefRec} {K : Params → PySem.W.Frag} {CX : World → CXT} {sp : World → Sp} {x : Str} {Ts : List Tb}
    (hn : l.most = some n) (hn2 : n ≤ sizeLine) (hdf : d.params.defaults = []) (hr : Room k callerA)
    (hY : ∀ (w : World) (h : Heap), YP w h → (K w.params).In h ∧ ∀ P ∈ Ts.map (·.at_), h.get? P = some (PySem.W.tabObj #[]))
    (F : ∀ (w : World) (mg : Str → Option Value) (fa : Addr) (h : Heap), (K w.params).In h → h.Ns mainGlobals mg → mg d.name = some (.ref fa) →
      ∃ fd : FuncData, (∀ (s : Shared) (u : Value), BindsTo s fd ⟨[u], []⟩ [(x, u)]) ∧ (∀ T ∈ Ts, (K w.params).lookup T.at_ = none ∧ ∃ c, PySem.W.codeHdIn (K w.params) c T.at_ = true) ∧
        ∀ base : Heap, (K w.params).In base → base.Ns mainGlobals mg → BMain base mg → FnOk l.prog w (K w.params) mg base (CX w) k fa fd [x] (sp w))
    (hsp : ∀ (w : World) (H : Hp) (a : Addr) (ns : List Int), ns.length ≤ n → Tabs Ts H → SqL (K w.params) H a (ns.map V.int) → sp w [.ref a] H (fun v _ => v = .bl true) fun _ _ _ => False)
    (hCX : ∀ (w : World) (H : Hp) (s : Shared) (e : Value) (s' : Shared), CX w [] H s (fun _ _ _ => False) e s' → False) :
    PySem.W.WalkO q loose XP YP l.row.toRowW d [] (fun f vs => PySem.call f vs) := by
  refine Att.attach_call hn hdf fun w s₀ s₁ mg mb fa o pm cd doc a vs ns G Y ho hd hcd hmg hobj hints hlen hg => ?_
  obtain ⟨KX, hTb⟩ := hY w _ Y
  obtain ⟨fd, hb, hT, hF⟩ := F w mg fa _ KX G.T.g hmg
  refine law_call2 (Ts := Ts) KX G.T.g G.T.b G.T.builtins G.T.nolimit hg hobj hints (Nat.le_trans hlen hn2) hr (fun T h => ⟨hTb _ (List.mem_map.mpr ⟨T, h, rfl⟩), (hT T h).1, ?_⟩) ?_ hF hb (fun H hO hS => hsp w H a ns hlen hO hS) fun H e s' => hCX w H s₁ e s'
  · obtain ⟨c, e⟩ := (hT T h).2
    exact ⟨c, PySem.W.codeHd_of_K KX e⟩
  · obtain ⟨bm, ob, b1, b2, b3, b4, b5, b6⟩ := G.T.bmain
    refine ⟨bm, ob, b1, b2, fun z => ?_, b3, b4, b5, b6⟩
    obtain ⟨o, es, ep, e, d, _⟩ := G.T.g
    rw [z] at b3
    rw [b3] at e
    cases e
    rw [b6] at d
    cases d
theorem tb_uniq {Ts : List Tb} {T : Tb} (h : (Ts.map (·.at_)).Nodup) (hT : T ∈ Ts) : ∀ T' ∈ Ts, T'.at_ = T.at_ → T' = T := by
  induction Ts with
  | nil => cases hT
  | cons a r ih =>
    rw [List.map_cons, List.nodup_cons] at h
    intro T' hT' e
    rcases List.mem_cons.mp hT with z | z
    · rcases List.mem_cons.mp hT' with y | y
      · rw [y, z]
      · exact absurd (List.mem_map.mpr ⟨T', y, by rw [e, z]⟩) h.1
    · rcases List.mem_cons.mp hT' with y | y
      · exact absurd (List.mem_map.mpr ⟨T, z, by rw [← e, y]⟩) h.1
      · exact ih h.2 z T' y e
end L2
namespace Gu
open PySem L2
noncomputable abbrev nV (nm : Int → Int) (i : Int) : V := .int (nm i)
noncomputable abbrev kN (nm : Int → Int) (i : Int) : Key := Sum.inl (nm i)
theorem kN_inj {nm : Int → Int} (h : ∀ x y, nm x = nm y → x = y) (x y : Int) (e : kN nm x = kN nm y) : x = y := h x y (Sum.inl.inj e)
noncomputable def rowN (nm : Int → Int) (r : Row) : Row := (r.1, r.2.map nm)
theorem rowN_id (r : Row) : rowN (fun i => i) r = r := by unfold rowN; rw [List.map_id']
noncomputable def spRow (K : PySem.W.Frag) (rows : List Row) (nm : Int → Int) : List V → Hp → VK → Prop := fun vs H Q => ∃ i : Int, vs = [.int (nm i)] ∧ 0 ≤ i ∧ i < (rows.length : Int) ∧ Gives K H Q (rowD (rowN nm (row rows i)))
section
variable (P : Program) (w : World) (K : PySem.W.Frag) (mg : Str → Option Value) (base : Heap) (CX : CXT) (k : Nat)
noncomputable def spComeF : Sp := fun vs H Q _ => ∃ (f : Addr) (n : Nat) (rows : List Row) (nm : Int → Int), vs = [.int (nm 0), .ref f] ∧ (∀ x y, nm x = nm y → x = y) ∧ CallV P w K mg base CX k H f (spRow K rows nm) ∧ GoodM n rows ∧ n ≤ 60 ∧ ∀ (r : Addr) (H' : Hp), Same H H' → RowsAt K H' r (found rows) → Q (.ref r) H'
noncomputable def spLeastF (Ct : Addr) : Sp := fun vs H Q E => ∃ (f : Addr) (n : Nat) (rows : List Row) (nm : Int → Int), vs = [.int (nm 0), .ref f] ∧ (∀ x y, nm x = nm y → x = y) ∧ CallV P w K mg base CX k H f (spRow K rows nm) ∧ GoodM n rows ∧ n ≤ 60 ∧
  ((shr rows).length ≤ 60 → Gives K H Q (D.tup (rowsD (shr rows)))) ∧ (60 < (shr rows).length → TMx Ct E H)
end
noncomputable def GivesL (Ts : List Tb) (K : PySem.W.Frag) (H : Hp) (Q : VK) (d : D) : Prop := ∀ v H', SameL Ts H H' → Dr K H' d v → Q v H'
noncomputable def spLawL (Ts : List Tb) (K : PySem.W.Frag) : Sp := fun vs H Q _ => ∃ (a : Addr) (ns : List Int), vs = [.ref a] ∧ SqL K H a (ns.map V.int) ∧ ns.length ≤ 63 ∧ Tabs Ts H ∧ ∀ H', Q (.bl true) H'
theorem Tabs.mono {Ts : List Tb} {H H' : Hp} (h : Tabs Ts H) (s : Same H H') : Tabs Ts H' := (Same.l s).tabs h
noncomputable def lamPos : List Stmt → Pos
  | [.Return (some (.Call _ [_, .Lambda _ _ _ p] _ _)) _] => p
  | _ :: r => lamPos r
  | [] => ⟨0, 0, 0, 0⟩
end Gu
namespace L2
open PySem PySem.Spec PyProof.Rows
theorem CallV.lam {CX : CXT} {P : Program} {w : World} {K : PySem.W.Frag} {mg : Str → Option Value} {base : Heap} {k : Nat} {H : Hp} {f : Addr} {params : Arguments} {body : Expr} {scope : Scope} {qual : Str} {N ps : List Str} {fv : St} {sp : List V → Hp → VK → Prop} (C : CloAt H f params body scope qual N fv) (S : LamS N ps scope)
    (hbind : ∀ (cl : List (Str × Addr)) (pm cdv ct : Value) (us : List Value), us.length = ps.length → bindArgs (PySem.W.kla_fn "<lambda>" qual params body scope cl pm cdv ct) ⟨us, []⟩ = pure (ps.zip us)) (hfv : fv.length = N.length)
    (len : ∀ vs H Q, sp vs H Q → vs.length = ps.length)
    (hbody : ∀ (H' : Hp), Same H H' → ∀ (A : Around) (outer : List Env) (s : Shared) (cd : Value) (clos : List (Str × Addr)) (cs : List Addr) (vs : List V) (Q : VK), Room k (A.deeper (PySem.W.envX qual scope s.heap.objs.size f cd clos)) → NFr H' (utk H' cs) → sp vs H' Q →
      ∃ t, PE (cxLam P w K mg base N qual scope f cd clos A outer s (utk H' cs)) body t ∧ t (lamSt vs fv) (utk H' cs) fun v H1 => (∀ c ∈ cs, H1 c = none) → Q v (rtk H' H1 cs)) : CallV P w K mg base CX (k + 1) H f sp := by
  obtain ⟨clos, cs, pm, c', ctv, oc, vs', t, e1, _⟩ := id C
  refine ⟨⟨_, _, e1, rfl⟩, fun H' s' A outer s us vs Q hr e0 r hsp => ?_⟩
  exact clo_run (C.mono s') S hbind hfv hr e0 r (len _ _ _ hsp) fun cd clos cs hr' hcs => hbody H' s' A outer s cd clos cs vs Q hr' (NFr.utk hcs (Same.refl _)) hsp
theorem Tabs.over {Ts : List Tb} {H : Hp} {a : Addr} {xs : List V} {o : HO} (h : Tabs Ts H) (e : H a = some (.lst xs)) : Tabs Ts (upd H a o) := fun T hT => by
  have ne : ∀ {b : Addr} {u : HO}, H b = some u → (∀ xs, u ≠ .lst xs) → upd H a o b = some u := fun {b u} q n => by
    have : b ≠ a := fun z => by rw [z, e] at q; exact n xs (Option.some.inj q).symm
    rw [upd_ne this]; exact q
  rcases h T hT with q | ⟨c', oc, vs, t, q1, q2, q3⟩
  · exact .inl (ne q (fun _ z => by cases z))
  · exact .inr ⟨c', oc, vs, t, ne q1 (fun _ z => by cases z), ne q2 (fun _ z => by cases z), q3⟩
end L2
namespace L2
open PySem PySem.Spec PyProof.Rows
noncomputable def SqS (K : PySem.W.Frag) (H : Hp) (a : Addr) (xs : List V) : Prop := SqL K H a xs ∨ SqT K H a xs
theorem SqS.mono {K : PySem.W.Frag} {H H' : Hp} {a : Addr} {xs : List V} (h : SqS K H a xs) (s : Same H H') : SqS K H' a xs := by
  rcases h with h | h
  · exact .inl (s.seq h)
  · refine .inr ?_
    rcases h with (h | ⟨o, h⟩) | h
    · exact .inl (.inl (s _ _ h))
    · exact .inl (.inr ⟨o, s _ _ h⟩)
    · exact .inr h
noncomputable def rIxQ (K : PySem.W.Frag) : R2 := fun x y H Q => ∃ p xs i v, x = .ref p ∧ y = .int i ∧ SqS K H p xs ∧ atI xs i = some v ∧ Q v H
theorem ixQ {X : Cx} (K : PySem.W.Frag) (h : X.K = K) : IxR X (rIxQ K) := by
  subst h
  intro value slice pins s σ H x y v u Q I rx ry q hs
  obtain ⟨p, xs, i, z, e1, e2, hq, e3, q⟩ := q
  rcases hq with hq | hq
  · exact ix_list value slice pins s σ H x y v u Q I rx ry ⟨p, xs, i, z, e1, e2, hq, e3, q⟩ hs
  · exact ix_tup value slice pins s σ H x y v u Q I rx ry ⟨p, xs, i, z, e1, e2, hq, e3, q⟩ hs
end L2
namespace Gu
open PySem L2
noncomputable def RowsN (K : PySem.W.Frag) (H : Hp) (us : List V) (rows : List Row) (nm : Int → Int) : Prop := ∀ i : Int, 0 ≤ i → i < (rows.length : Int) → 0 ≤ nm i ∧ ∃ v, us[(nm i).toNat]? = some v ∧ Dr K H (rowD (rowN nm (row rows i))) v
theorem RowsN.mono {K : PySem.W.Frag} {H H' : Hp} {us : List V} {rows : List Row} {nm : Int → Int} (h : RowsN K H us rows nm) (s : Same H H') : RowsN K H' us rows nm := fun i h0 h1 => by
  obtain ⟨a, v, e, d⟩ := h i h0 h1
  exact ⟨a, v, e, d.mono s⟩
theorem RowsN.of {K : PySem.W.Frag} {H : Hp} {us : List V} {rows : List Row} (h : DrL K H (rowsD rows) us) : RowsN K H us rows (fun i => i) := fun i h0 h1 => by
  obtain ⟨v, ev, dv⟩ := rows_at h (row_get h0 h1)
  exact ⟨h0, v, ev, by rw [rowN_id]; exact dv⟩
section
variable {K : PySem.W.Frag} {H H' : Hp} {f : Int → D} {r : Int} {nm : Int → Int}
noncomputable def MkN (nm : Int → Int) (K : PySem.W.Frag) (H : Hp) (o : List Int) (f : Int → D) (kvs : List (Key × V)) : Prop := ∃ vs, kvs = mk (o.map nm) vs ∧ DrL K H (o.map f) vs
theorem MkN.nil : MkN nm K H [] f [] := ⟨[], rfl, DrL.nil⟩
theorem MkN.get (ni : ∀ x y, nm x = nm y → x = y) : ∀ {o : List Int} {kvs : List (Key × V)}, MkN nm K H o f kvs → r ∈ o → ∃ v, valV kvs (kN nm r) = some v ∧ Dr K H (f r) v
  | [], _, _, h => by simp at h
  | b :: o, _, ⟨vs, rfl, d⟩, h => by
    rw [List.map_cons] at d
    simp only [DrL] at d
    obtain ⟨v, r', rfl, d1, d2⟩ := d
    by_cases e : b = r
    · subst e
      exact ⟨v, valV_pos (p := (kN nm b, v)) rfl, d1⟩
    · obtain ⟨v', h1, h2⟩ := MkN.get ni (o := o) ⟨r', rfl, d2⟩ (by rcases List.mem_cons.mp h with z | z; exact absurd z.symm e; exact z)
      refine ⟨v', ?_, h2⟩
      show valV ((kN nm b, v) :: mk (o.map nm) r') (kN nm r) = _
      rw [valV_neg (p := (kN nm b, v)) (fun z => e (ni _ _ (Sum.inl.inj z)))]
      exact h1
theorem MkN.no (ni : ∀ x y, nm x = nm y → x = y) : ∀ {o : List Int} {kvs : List (Key × V)}, MkN nm K H o f kvs → r ∉ o → valV kvs (kN nm r) = none
  | [], _, ⟨vs, rfl, d⟩, _ => rfl
  | b :: o, _, ⟨vs, rfl, d⟩, h => by
    rw [List.map_cons] at d
    simp only [DrL] at d
    obtain ⟨v, r', rfl, d1, d2⟩ := d
    show valV ((kN nm b, v) :: mk (o.map nm) r') (kN nm r) = _
    rw [valV_neg (p := (kN nm b, v)) (fun z => h (by rw [ni _ _ (Sum.inl.inj z)]; simp))]
    exact MkN.no ni (o := o) ⟨r', rfl, d2⟩ (fun z => h (List.mem_cons_of_mem _ z))
theorem MkN.len {o : List Int} {kvs : List (Key × V)} (h : MkN nm K H o f kvs) : kvs.length = o.length := by
  obtain ⟨vs, rfl, d⟩ := h
  have := d.length
  rw [List.length_map] at this
  unfold mk
  rw [List.length_map, List.length_zip, List.length_map]; lia
theorem MkN.put (ni : ∀ x y, nm x = nm y → x = y) {v : V} {o : List Int} {kvs : List (Key × V)} (h : MkN nm K H o f kvs) (hr : r ∉ o) (h' : MkN nm K H' o f kvs) (dv : Dr K H' (f r) v) : MkN nm K H' (o ++ [r]) f (putK kvs (kN nm r) v) := by
  rw [putK_new _ (h.no ni hr)]
  obtain ⟨vs, rfl, d⟩ := h'
  have hl := d.length
  rw [List.length_map] at hl
  refine ⟨vs ++ [v], ?_, by rw [List.map_append]; exact DrL.append d (DrL.one dv)⟩
  unfold mk
  rw [List.map_append, List.zip_append (by rw [List.length_map]; exact hl), List.map_append]
  rfl
theorem MkN.mono {o : List Int} {kvs : List (Key × V)} (h : MkN nm K H o f kvs) (s : Same H H') : MkN nm K H' o f kvs := by
  obtain ⟨vs, e, d⟩ := h
  exact ⟨vs, e, d.mono s⟩
theorem MkN.keyed {o : List Int} {kvs : List (Key × V)} (h : MkN nm K H o f kvs) (k : TupK H H') (hf : FK f) : MkN nm K H' o f kvs := by
  obtain ⟨vs, e, d⟩ := h
  exact ⟨vs, e, d.keyed k (hf.keyL o)⟩
end
noncomputable def spInLineN (K : PySem.W.Frag) : Sp := fun vs H Q _ => ∃ (a l m : Addr) (n : Nat) (rows : List Row) (nm : Int → Int) (us : List V) (o : List Int) (k : Int → Int) (kvs : List (Key × V)), vs = [.ref a, .ref l, .ref m] ∧ SqS K H a us ∧ RowsN K H us rows nm ∧ (∀ x y, nm x = nm y → x = y) ∧ GoodM n rows ∧ n ≤ 60 ∧ H l = some (.lst (o.map (nV nm))) ∧ H m = some (.dK kvs) ∧
  MkN nm K H o (fun r => D.int (k r)) kvs ∧ Line rows o ∧ (∀ r ∈ o, ∀ g ∈ (row rows r).2, g ∈ o) ∧ Gives K H Q (D.tup (rowsD (inLine rows k o)))
noncomputable def spShrunkN (K : PySem.W.Frag) : Sp := fun vs H Q _ => ∃ (a : Addr) (n : Nat) (rows : List Row) (nm : Int → Int) (us : List V), vs = [.ref a, .int (nm 0)] ∧ SqS K H a us ∧ RowsN K H us rows nm ∧ (∀ x y, nm x = nm y → x = y) ∧ GoodM n rows ∧ n ≤ 60 ∧ Gives K H Q (D.tup (rowsD (shr rows)))
end Gu
namespace Gu
open PySem L2
noncomputable def sw (s i : Int) : Int := if i = 0 then s else if i = s then 0 else i
theorem sw_zero (s : Int) : sw s 0 = s := if_pos rfl
theorem sw_self (s : Int) : sw s s = 0 := by
  unfold sw
  by_cases h : s = 0
  · rw [if_pos h]; exact h
  · rw [if_neg h, if_pos rfl]
theorem sw_sw (s i : Int) : sw s (sw s i) = i := by
  by_cases h : i = 0
  · rw [h, sw_zero, sw_self]
  · by_cases h2 : i = s
    · rw [h2, sw_self, sw_zero]
    · have e : sw s i = i := by unfold sw; rw [if_neg h, if_neg h2]
      rw [e, e]
theorem sw_inj (s : Int) (x y : Int) (e : sw s x = sw s y) : x = y := by rw [← sw_sw s x, e, sw_sw]
theorem sw_rg {s i : Int} {L : Nat} (h0 : 0 ≤ s) (h1 : s < (L : Int)) (i0 : 0 ≤ i) (i1 : i < (L : Int)) : 0 ≤ sw s i ∧ sw s i < (L : Int) := by
  unfold sw
  by_cases h : i = 0
  · rw [if_pos h]; exact ⟨h0, h1⟩
  · by_cases h2 : i = s
    · rw [if_neg h, if_pos h2]; lia
    · rw [if_neg h, if_neg h2]; exact ⟨i0, i1⟩
noncomputable def swM (rows : List Row) (s : Int) : List Row := (iota rows.length).map fun i => rowN (sw s) (row rows (sw s i))
theorem swM_len (rows : List Row) (s : Int) : (swM rows s).length = rows.length := by unfold swM; rw [List.length_map, iota_len]
theorem iota_getI {L : Nat} {i : Int} (h0 : 0 ≤ i) (h1 : i < (L : Int)) : (iota L)[i.toNat]? = some i := by
  unfold iota
  rw [List.getElem?_map, List.getElem?_range (by lia)]
  show some ((i.toNat : Nat) : Int) = some i
  congr 1; lia
theorem swM_row {rows : List Row} {s i : Int} (h0 : 0 ≤ i) (h1 : i < (rows.length : Int)) : row (swM rows s) i = rowN (sw s) (row rows (sw s i)) := by
  unfold row swM
  rw [List.getD_eq_getElem?_getD, List.getElem?_map, iota_getI h0 h1]
  rfl
theorem rowN_rowN {s : Int} (r : Row) : rowN (sw s) (rowN (sw s) r) = r := by
  unfold rowN
  rw [List.map_map]
  have : (sw s ∘ sw s) = id := funext fun x => sw_sw s x
  rw [this, List.map_id]
theorem swM_good {n : Nat} {rows : List Row} {s : Int} (G : GoodM n rows) (h0 : 0 ≤ s) (h1 : s < (rows.length : Int)) : GoodM n (swM rows s) := by
  have hm : ∀ r ∈ swM rows s, ∃ q ∈ rows, r = rowN (sw s) q := fun r hr => by
    unfold swM at hr
    obtain ⟨i, hi, e⟩ := List.mem_map.mp hr
    obtain ⟨i0, i1⟩ := mem_iota.mp hi
    obtain ⟨j0, j1⟩ := sw_rg h0 h1 i0 i1
    exact ⟨_, row_mem j0 j1, e.symm⟩
  refine ⟨by rw [swM_len]; exact G.few, by rw [swM_len]; exact G.some, fun r hr => ?_, fun r hr => ?_, fun r hr g hg => ?_⟩
  · obtain ⟨q, hq, rfl⟩ := hm r hr
    exact G.perm q hq
  · obtain ⟨q, hq, rfl⟩ := hm r hr
    show (q.2.map _).length = n
    rw [List.length_map]; exact G.len q hq
  · obtain ⟨q, hq, rfl⟩ := hm r hr
    obtain ⟨y, hy, rfl⟩ := List.mem_map.mp hg
    obtain ⟨y0, y1⟩ := G.go q hq y hy
    rw [swM_len]
    exact sw_rg h0 h1 y0 y1
theorem swM_rowsN {K : PySem.W.Frag} {H : Hp} {us : List V} {rows : List Row} {s : Int} (h0 : 0 ≤ s) (h1 : s < (rows.length : Int)) (h : DrL K H (rowsD rows) us) : RowsN K H us (swM rows s) (sw s) := fun i i0 i1 => by
  rw [swM_len] at i1
  obtain ⟨j0, j1⟩ := sw_rg h0 h1 i0 i1
  obtain ⟨v, ev, dv⟩ := rows_at h (row_get j0 j1)
  refine ⟨j0, v, ev, ?_⟩
  rw [swM_row i0 i1, rowN_rowN]
  exact dv
noncomputable def goW (M : List Row) : Int → List Int → Int
  | x, [] => x
  | x, l :: w => goW M ((row M x).2.getD l.toNat 0) w
theorem goW_app (M : List Row) : ∀ (w w' : List Int) (x : Int), goW M x (w ++ w') = goW M (goW M x w) w'
  | [], _, _ => rfl
  | l :: w, w', x => goW_app M w w' _
noncomputable def LW (n : Nat) (w : List Int) : Prop := ∀ l ∈ w, 0 ≤ l ∧ l < (n : Int)
theorem LW.tail {n : Nat} {l : Int} {w : List Int} (h : LW n (l :: w)) : LW n w := fun x hx => h x (List.mem_cons_of_mem _ hx)
theorem goW_all {n : Nat} {M : List Row} {C : Int → Prop} (hl : ∀ x, C x → (row M x).2.length = n) (hc : ∀ x, C x → ∀ g ∈ (row M x).2, C g) : ∀ (w : List Int) (x : Int), LW n w → C x → C (goW M x w)
  | [], _, _, h => h
  | l :: w, x, hw, h => by
    obtain ⟨l0, l1⟩ := hw l List.mem_cons_self
    have hi : l.toNat < (row M x).2.length := by rw [hl x h]; lia
    refine goW_all hl hc w _ hw.tail ?_
    rw [List.getD_eq_getElem?_getD, List.getElem?_eq_getElem hi]
    exact hc x h _ (List.getElem_mem hi)
theorem goW_rg {n : Nat} {M : List Row} (G : GoodM n M) {w : List Int} {x : Int} (hw : LW n w) (h0 : 0 ≤ x) (h1 : x < (M.length : Int)) : 0 ≤ goW M x w ∧ goW M x w < (M.length : Int) :=
  goW_all (n := n) (C := fun x => 0 ≤ x ∧ x < (M.length : Int)) (fun x hx => G.len _ (row_mem hx.1 hx.2)) (fun x hx => G.go _ (row_mem hx.1 hx.2)) w x hw ⟨h0, h1⟩
end Gu
namespace L2
open PySem PySem.Spec PyProof.Rows
theorem FnOk.sub {P : Program} {w : World} {K : PySem.W.Frag} {mg : Str → Option Value} {base : Heap} {CX : CXT} {k : Nat} {f : Addr} {fd : FuncData} {ps : List Str} {sp sp' : Sp} (h : FnOk P w K mg base CX k f fd ps sp) (i : ∀ vs H Q E, sp' vs H Q E → sp vs H Q E) : FnOk P w K mg base CX k f fd ps sp' :=
  { h with len := fun vs H Q E q => h.len vs H Q E (i vs H Q E q), run := fun A outer s H args us vs Q E hr e0 b r q => h.run A outer s H args us vs Q E hr e0 b r (i vs H Q E q) }
end L2
namespace Gu
open PySem L2
theorem shrunk_sub {K : PySem.W.Frag} (vs : List V) (H : Hp) (Q : VK) (E : XK) (h : spShrunk K vs H Q E) : spShrunkN K vs H Q E := by
  obtain ⟨a, n, rows, rfl, ⟨us, ea, da⟩, GM, hn, q⟩ := h
  exact ⟨a, n, rows, fun i => i, us, rfl, .inl (SqL.of ea), RowsN.of da, fun _ _ e => e, GM, hn, q⟩
noncomputable instance LW.dec (n : Nat) (w : List Int) : Decidable (LW n w) := by unfold LW; infer_instance
noncomputable def spCheckW (K : PySem.W.Frag) (Ct : Addr) : Sp := fun vs H Q E => ∃ (n : Nat) (u : V) (w : List Int), vs = [.int n, u] ∧ Dr K H (D.its w) u ∧ w.length ≤ 5000 ∧ (LW n w → ∀ H', Same H H' → Q .non H') ∧ (¬ LW n w → TMx Ct E H)
noncomputable def spWordL (K : PySem.W.Frag) : Sp := fun vs H Q _ => ∃ (n : Nat) (c : Int) (m : Nat), vs = [.int n, .int c, .int m] ∧ 2 ≤ n ∧ n ≤ 5 ∧ m ≤ 100 ∧ ∀ (v : V) (H' : Hp) (w : List Int), Same H H' → Dr K H' (D.its w) v → LW n w → w.length ≤ m → Q v H'
end Gu
namespace Gu
open PySem L2
theorem gs_key : ∀ gs : List (List Row), D.keyL (gs.map fun g => D.tup (rowsD g))
  | [] => by simp only [List.map_nil, D.keyL]
  | g :: gs => by simp only [List.map_cons, D.keyL, D.key]; exact ⟨rows_key g, gs_key gs⟩
theorem SameL.over {Ts : List Tb} {H H' : Hp} {l : Addr} {xs : List V} {o : HO} (s : SameL Ts H H') (h : H l = none) (e : H' l = some (.lst xs)) : SameL Ts H (upd H' l o) :=
  ⟨fun b u n q => by rw [upd_ne (ne_of_none q h)]; exact s.at_ b u n q, fun t => Tabs.over (s.tabs t) e⟩
end Gu
namespace L2
open PySem PySem.Spec PyProof.Rows
section
variable {X : Cx} {K : PySem.W.Frag} {k v : Expr} {tk tv : TE} {pos : Pos}
end
end L2
namespace L2
open PySem PySem.Spec PyProof.Rows
section
variable {prog : Program} {w : World} {A : Around} {E : Value → Shared → Prop} {s : Shared} {z TI TO i1 i2 : Addr} {fp1 fp2 : List Addr} {n1 n2 : Nat} {P1 P2 : Nat → Value → Prop} {S1 S2 : Nat → Heap → Prop}
end
end L2
namespace L2
open PySem PySem.Spec PyProof.Rows
section
variable {prog : Program} {w : World} {A : Around} {E : Value → Shared → Prop} {s : Shared}
end
section
variable {X : Cx} {elts : List Expr} {tk : Nat} {tp : Pos}
end
end L2
namespace Gu
open PySem L2
section
variable (P : Program) (w : World) (K : PySem.W.Frag) (mg : Str → Option Value) (base : Heap) (CX : CXT) (k : Nat)
end
end Gu
namespace Gu
open PySem L2
end Gu
namespace Gu
open PySem L2
end Gu
namespace Gu
open PySem L2
end Gu
namespace Gu
open PySem L2
noncomputable def outW (M : List Row) : Int → List Int → List Int
  | _, [] => []
  | x, l :: w => (row M x).1.getD l.toNat 0 :: outW M ((row M x).2.getD l.toNat 0) w
theorem outW_len (M : List Row) : ∀ (w : List Int) (x : Int), (outW M x w).length = w.length
  | [], _ => rfl
  | _ :: w, x => by show (outW M _ w).length + 1 = w.length + 1; rw [outW_len M w]
theorem outW_app (M : List Row) : ∀ (w w' : List Int) (x : Int), outW M x (w ++ w') = outW M x w ++ outW M (goW M x w) w'
  | [], _, _ => rfl
  | l :: w, w', x => by show _ :: outW M _ (w ++ w') = _ :: (outW M _ w ++ outW M (goW M _ w) w'); rw [outW_app M w w']
theorem outW_lw {n : Nat} {M : List Row} (G : GoodM n M) : ∀ (w : List Int) (x : Int), LW n w → 0 ≤ x → x < (M.length : Int) → LW n (outW M x w)
  | [], _, _, _, _ => fun _ h => by simp [outW] at h
  | l :: w, x, hw, h0, h1 => fun y hy => by
    obtain ⟨l0, l1⟩ := hw l List.mem_cons_self
    have hm := row_mem h0 h1
    have hi : l.toNat < (row M x).2.length := by rw [G.len _ hm]; lia
    have hp := G.perm _ hm
    have hi1 : l.toNat < (row M x).1.length := by rw [hp.len]; lia
    rcases List.mem_cons.mp hy with rfl | hy
    · rw [List.getD_eq_getElem?_getD, List.getElem?_eq_getElem hi1]
      exact mem_iota.mp (hp.mem_iff.mp (List.getElem_mem hi1))
    · have hg : 0 ≤ (row M x).2.getD l.toNat 0 ∧ (row M x).2.getD l.toNat 0 < (M.length : Int) := by
        rw [List.getD_eq_getElem?_getD, List.getElem?_eq_getElem hi]
        exact G.go _ hm _ (List.getElem_mem hi)
      exact outW_lw G w _ hw.tail hg.1 hg.2 y hy
noncomputable def spReadF (K : PySem.W.Frag) : Sp := fun vs H Q _ => ∃ (v u : V) (rows : List Row) (n : Nat) (w : List Int) (s : Int), vs = [v, .int s, u] ∧ Dr K H (D.tup (rowsD rows)) v ∧ Dr K H (D.its w) u ∧ GoodM n rows ∧ n ≤ 60 ∧ w.length ≤ 4900 ∧ LW n w ∧ 0 ≤ s ∧ s < (rows.length : Int) ∧
  ∀ (r t : Addr) (H' : Hp), Same H H' → H' r = some (.tup [.ref t, .int (goW rows s w)]) → H' t = some (.tup ((outW rows s w).map V.int)) → Q (.ref r) H'
noncomputable def spSect (Ts : List Tb) (K : PySem.W.Frag) : Sp := fun vs H Q _ => ∃ (v : V) (rows : List Row) (n : Nat) (g : Int), vs = [v, .int g] ∧ Tabs Ts H ∧ Dr K H (D.tup (rowsD rows)) v ∧ GoodM n rows ∧ n ≤ 60 ∧ rows.length ≤ 60 ∧ 0 ≤ g ∧ g < (rows.length : Int) ∧ GivesL Ts K H Q (D.tup (rowsD (shr (swM rows g))))
noncomputable def spWorn (K : PySem.W.Frag) (Ct : Addr) : Sp := fun vs H Q E => ∃ (v u : V) (rows : List Row) (n : Nat) (w : List Int), vs = [v, u] ∧ Dr K H (D.tup (rowsD rows)) v ∧ Dr K H (D.its w) u ∧ GoodM n rows ∧ n ≤ 60 ∧ w.length ≤ 4900 ∧ (LW n w → ∀ (t : Addr) (H' : Hp), Same H H' → H' t = some (.tup ((outW rows 0 w).map V.int)) → Q (.ref t) H') ∧ (¬ LW n w → TMx Ct E H)
noncomputable def spReadO (K : PySem.W.Frag) : Sp := fun vs H Q _ => ∃ (v u : V) (rows : List Row) (n : Nat) (w : List Int) (s : Int), vs = [v, .int s, u] ∧ Dr K H (D.tup (rowsD rows)) v ∧ Dr K H (D.its w) u ∧ GoodM n rows ∧ n ≤ 60 ∧ w.length ≤ 4900 ∧ LW n w ∧ 0 ≤ s ∧ s < (rows.length : Int) ∧
  ∀ (r t : Addr) (H' : Hp), Same H H' → H' r = some (.tup [.ref t, .int (goW rows s w)]) → H' t = some (.tup ((outW rows s w).map V.int)) → Q (.ref r) H'
end Gu
namespace L2
open PySem PySem.Spec PyProof.Rows
section
variable {M : Model} {A : Around} {E : Value → Shared → Prop}
variable {nm q : Str} {C N : Addr} {bs bm : List Value} {hdct : Bool} {sn : List Str} {sub : List Value} {ab : Bool} {col : Option Bool} {dd : Option Addr} {k0 k1 k2 k3 k5 : Option Value} {newId : String}
variable {nm' q' : Str} {C' N' : Addr} {bs' bm' : List Value} {hdct' : Bool} {sn' : List Str} {sub' : List Value} {ab' : Bool} {col' : Option Bool} {dd' : Option Addr} {k0' k1' k2' k3' k5' : Option Value} {newId' : String}
end
end L2
namespace Gu
open PySem L2
theorem dvm {m : Nat} {g e : Int} (e0 : 0 ≤ e) (e1 : e < (m : Int)) : (g * (m : Int) + e) / (m : Int) = g ∧ (g * (m : Int) + e) % (m : Int) = e := by
  have hm : (0 : Int) < (m : Int) := by lia
  constructor
  · rw [Int.add_comm, Int.add_mul_ediv_right _ _ (by lia), Int.ediv_eq_zero_of_lt e0 e1]; lia
  · rw [Int.add_comm, Int.add_mul_emod_self_right, Int.emod_eq_of_lt e0 e1]
theorem iotaN {L : Nat} {k : Nat} (h : k < L) : (iota L)[k]? = some (k : Int) := by
  have := iota_getI (L := L) (i := (k : Int)) (by lia) (by lia)
  rw [Int.toNat_natCast] at this
  exact this
end Gu
namespace Gu
open PySem L2
end Gu
namespace L2
open PySem PySem.Spec PyProof.Rows
theorem pick_revL (its : List Value) : slicePick its.toArray none none (some (-1)) = its.reverse.toArray := by
  have eb : sliceBounds none none (some (-1)) its.toArray.size = ((its.length : Int) - 1, -1, -1) := by
    simp only [sliceBounds, Option.getD_some, List.size_toArray]
    rfl
  unfold slicePick
  rw [eb]
  congr 1
  have h := HT.fm_rev its its.length (Nat.le_refl _)
  rw [List.take_of_length_le (by rw [List.length_reverse]; exact Nat.le_refl _)] at h
  rw [← h]
  have er : sliceRange ((its.length : Int) - 1) (-1) (-1) = (List.range its.length).map fun m => its.length - 1 - m := by
    have ec : (if ((its.length : Int) - 1) > -1 then (((its.length : Int) - 1) - -1 - -1 - 1) / (- -1) else 0) = (its.length : Int) := by
      by_cases hn : (its.length : Int) - 1 > -1
      · rw [if_pos hn, show (- -1 : Int) = 1 by decide, Int.ediv_one]; lia
      · rw [if_neg hn]; lia
    unfold sliceRange
    simp only [show ¬ ((-1 : Int) > 0) by decide, if_false]
    rw [ec, Int.toNat_natCast]
    refine List.map_congr_left fun m hm => ?_
    lia
  show (sliceRange ((its.length : Int) - 1) (-1) (-1)).filterMap _ = _
  rw [er, List.filterMap_map]
  refine HT.fm_congr fun m hm => ?_
  show its.toArray[its.length - 1 - m]? = _
  rw [List.getElem?_toArray]
section
variable {X : Cx} {e st : Expr} {te ts : TE} {pos p2 : Pos}
noncomputable def tRevL (K : PySem.W.Frag) (te ts : TE) : TE := fun σ H Q => te σ H fun x H1 => ts σ H1 fun y H2 => y = .int (-1) ∧ ∃ a xs, x = .ref a ∧ SqL K H2 a xs ∧ ∀ p, H2 p = none → Q (.ref p) (upd H2 p (.lst xs.reverse))
theorem pe_revL (he : PE X e te) (hst : PE X st ts) : PE X (.Subscript e (.Slice none none (some st) p2) pos) (tRevL X.K te ts) := by
  intro pins s σ H Q I h
  refine Subscript_ (thnE (he pins s σ H _ I h) fun v s1 x H1 I1 r1 q1 => ?_)
  refine wpAny_Slice ?_
  rw [evalPart_none]
  refine wpAny_pure (wpAny_pure ?_)
  rw [evalPart_some]
  refine thnE (hst pins s1 σ H1 _ I1 q1) fun vt s2 y H2 I2 ry hz9 => ?_
  obtain ⟨ey, a, xs, ex, hx, q⟩ := hz9
  subst ey ex
  obtain ⟨t, rfl⟩ := ry
  cases r1
  have I4 : Inv X pins σ H2 { s2 with heap := s2.heap.push { cls := .type "slice", data := .fields #[.none, .none, .int (-1) t] } } := I2.kept (t' := s2.toks) fun b ob q => Heap.get?_push_of_some _ q
  generalize hs5 : ({ s2 with heap := s2.heap.push { cls := .type "slice", data := .fields #[.none, .none, .int (-1) t] } } : Shared) = s5 at I4
  have hsl : s5.heap.IsSliceOf s2.heap.objs.size .none .none (.int (-1) t) := by rw [← hs5]; exact Heap.IsSliceOf.new ..
  obtain ⟨its, r, ht, hz⟩ := I4.list hx
  have hlen : its.toArray.size = xs.length := by rw [List.size_toArray]; exact r.length.symm
  have hg : wpAny (model X.prog X.w) X.A (getItem (.ref a) (.ref s2.heap.objs.size)) (EP X pins σ Q) X.xe s5 := by
    refine wpAny_getItem_list_slice ht.isList hsl .none .none (.int _ _) (by simp) ?_ (by rw [hlen]; exact hz)
    rw [pick_revL]
    refine ⟨.ref s5.heap.objs.size, _, I4.laid (t' := s5.toks) (o := .lst xs.reverse) (fun b ob q => Heap.get?_push_of_some _ q) (Nat.le_refl _) ?_, rfl, q _ (I4.hok.fresh (Nat.le_refl _))⟩
    exact ⟨by rw [List.length_reverse]; exact hz, _, 0, r.reverse, Heap.get?_push_size _ rfl⟩
  exact tail_any (ops := [.ref a, .ref s2.heap.objs.size]) ht.isList.typeIs slot_list_getitem.lookup hg (by with_unfolding_all rfl)
end
end L2
namespace Gu
open PySem L2
noncomputable def numW (n : Int) (w : List Int) : Int := w.foldl (fun a l => a * n + l) 0
theorem numW_snoc (n : Int) (w : List Int) (l : Int) : numW n (w ++ [l]) = numW n w * n + l := by
  unfold numW
  rw [List.foldl_append]
  rfl
noncomputable def lit (n : Int) : Nat → Int → List Int
  | 0, _ => []
  | k + 1, x => x % n :: lit n k (x / n)
noncomputable def dvn (n : Int) : Nat → Int → Int
  | 0, x => x
  | k + 1, x => dvn n k (x / n)
theorem dvn_snoc (n : Int) : ∀ (k : Nat) (x : Int), dvn n (k + 1) x = dvn n k x / n
  | 0, _ => rfl
  | k + 1, x => dvn_snoc n k (x / n)
theorem lit_snoc (n : Int) : ∀ (k : Nat) (x : Int), lit n (k + 1) x = lit n k x ++ [dvn n k x % n]
  | 0, _ => rfl
  | k + 1, x => by
    show x % n :: lit n (k + 1) (x / n) = x % n :: (lit n k (x / n) ++ [dvn n k (x / n) % n])
    rw [lit_snoc n k (x / n)]
theorem lit_len (n : Int) : ∀ (k : Nat) (x : Int), (lit n k x).length = k
  | 0, _ => rfl
  | k + 1, x => by show (lit n k (x / n)).length + 1 = k + 1; rw [lit_len n k]
theorem dvn_zero {n : Int} (hn : 0 < n) : ∀ (k : Nat) (x : Int), dvn n k x = 0 ↔ 0 ≤ x ∧ x < n ^ k
  | 0, x => by
    show x = 0 ↔ _
    rw [Int.pow_zero]
    lia
  | k + 1, x => by
    show dvn n k (x / n) = 0 ↔ _
    rw [dvn_zero hn k (x / n), Int.pow_succ]
    constructor
    · rintro ⟨h0, h1⟩
      refine ⟨?_, ?_⟩
      · rcases Int.lt_or_le x 0 with z | z
        · have := Int.ediv_neg_of_neg_of_pos z hn
          lia
        · exact z
      · exact (Int.ediv_lt_iff_lt_mul hn).mp h1
    · rintro ⟨h0, h1⟩
      exact ⟨Int.ediv_nonneg h0 (by lia), (Int.ediv_lt_iff_lt_mul hn).mpr h1⟩
noncomputable def figW (n : Int) (k : Nat) (x : Int) : List Int := (lit n k x).reverse
theorem figW_len (n : Int) (k : Nat) (x : Int) : (figW n k x).length = k := by unfold figW; rw [List.length_reverse, lit_len]
theorem figW_lw {n : Nat} (hn : 0 < n) (k : Nat) (x : Int) : LW n (figW n k x) := by
  have : ∀ (k : Nat) (x : Int), LW n (lit n k x) := fun k => by
    induction k with
    | zero => exact fun x l h => by simp [lit] at h
    | succ k ih =>
      intro x l h
      rcases List.mem_cons.mp h with rfl | h
      · exact ⟨Int.emod_nonneg _ (by lia), Int.emod_lt_of_pos _ (by lia)⟩
      · exact ih _ l h
  exact fun l h => this k x l (List.mem_reverse.mp h)
theorem num_word {n : Nat} (hn : 0 < n) : ∀ (r : List Int), LW n r.reverse → figW n r.length (numW n r.reverse) = r.reverse ∧ 0 ≤ numW n r.reverse ∧ numW n r.reverse < (n : Int) ^ r.length
  | [], _ => ⟨rfl, by simp [numW], by simp [numW]⟩
  | l :: r, h => by
    rw [List.reverse_cons] at h ⊢
    obtain ⟨e, h0, h1⟩ := num_word hn r fun x hx => h x (List.mem_append_left _ hx)
    obtain ⟨l0, l1⟩ := h l (by simp)
    rw [numW_snoc]
    have hm : (0 : Int) < (n : Int) := by lia
    obtain ⟨q1, q2⟩ := dvm (m := n) (g := numW n r.reverse) l0 l1
    refine ⟨?_, ?_, ?_⟩
    · show (lit n (r.length + 1) _).reverse = _
      show ((numW n r.reverse * (n : Int) + l) % (n : Int) :: lit n r.length ((numW n r.reverse * (n : Int) + l) / (n : Int))).reverse = _
      rw [q1, q2, List.reverse_cons]
      exact congrArg (· ++ [l]) e
    · have := Int.mul_nonneg h0 (Int.le_of_lt hm)
      lia
    · rw [List.length_cons, Int.pow_succ]
      have h2 : (numW n r.reverse + 1) * (n : Int) ≤ (n : Int) ^ r.length * (n : Int) := Int.mul_le_mul_of_nonneg_right (by lia) (by lia)
      rw [Int.add_mul, Int.one_mul] at h2
      lia
theorem num_word' {n : Nat} (hn : 0 < n) {w : List Int} (h : LW n w) : figW n w.length (numW n w) = w ∧ 0 ≤ numW n w ∧ numW n w < (n : Int) ^ w.length := by
  have := num_word hn w.reverse (by rw [List.reverse_reverse]; exact h)
  rw [List.reverse_reverse, List.length_reverse] at this
  exact this
noncomputable def spNumOf (K : PySem.W.Frag) (Ct : Addr) : Sp := fun vs H Q E => ∃ (n : Nat) (u : V) (w : List Int), vs = [.int n, u] ∧ Dr K H (D.its w) u ∧ n ≤ 60 ∧ w.length ≤ 4900 ∧ (LW n w → ∀ H', Same H H' → Q (.int (numW n w)) H') ∧ (¬ LW n w → TMx Ct E H)
noncomputable def spNumL (K : PySem.W.Frag) : Sp := fun vs H Q _ => ∃ (n : Nat) (u : V) (w : List Int), vs = [.int n, u] ∧ Dr K H (D.its w) u ∧ n ≤ 60 ∧ (∀ H', Same H H' → Q (.int (numW n w)) H')
noncomputable def GoodX (n : Nat) (many x : Int) : Prop := 0 ≤ many ∧ many ≤ 1000 ∧ 0 ≤ x ∧ x < (n : Int) ^ many.toNat
noncomputable def spWordOf (K : PySem.W.Frag) (Cb : Addr) : Sp := fun vs H Q E => ∃ (n : Nat) (many x : Int), vs = [.int n, .int many, .int x] ∧ 0 < n ∧ n ≤ 60 ∧ (GoodX n many x → ∀ (t : Addr) (H' : Hp), Same H H' → H' t = some (.tup ((figW n many.toNat x).map V.int)) → Q (.ref t) H') ∧ (¬ GoodX n many x → TMx Cb E H)
noncomputable def spFigs (K : PySem.W.Frag) : Sp := fun vs H Q _ => ∃ (n : Nat) (m : Nat) (x : Int), vs = [.int n, .int m, .int x] ∧ 0 < n ∧ n ≤ 60 ∧ m ≤ 1000 ∧ (∀ (t : Addr) (H' : Hp), Same H H' → H' t = some (.tup ((figW n m x).map V.int)) → Q (.ref t) H')
noncomputable def spFSize (K : PySem.W.Frag) : Sp := fun vs H Q _ => ∃ (n : Nat) (m : Nat), vs = [.int n, .int m] ∧ 0 < n ∧ n ≤ 60 ∧ m ≤ 100000 ∧ Q (.int ((n : Int) ^ m)) H
end Gu
namespace Gu
open PySem L2
noncomputable def tabW (n : Nat) (one : List Row) (m : Nat) : List Int := (iota (n ^ m)).map fun x => numW n (outW one 0 (figW n m x))
theorem tabW_len (n : Nat) (one : List Row) (m : Nat) : (tabW n one m).length = n ^ m := by unfold tabW; rw [List.length_map, iota_len]
theorem iota_map_take {α : Type} (f : Int → α) (L i : Nat) (h : i < L) : ((iota L).map f).take (i + 1) = ((iota L).map f).take i ++ [f (i : Int)] := by
  rw [List.take_add_one]
  congr 1
  rw [List.getElem?_map, iotaN h]
  rfl
theorem floor_few {n m : Nat} (n2 : 2 ≤ n) (h : n ^ m ≤ 1024) : m ≤ 10 := by
  rcases Nat.lt_or_ge 10 m with z | z
  · have h1 : 2 ^ 11 ≤ 2 ^ m := Nat.pow_le_pow_right (by decide) z
    have h2 : 2 ^ m ≤ n ^ m := Nat.pow_le_pow_left n2 m
    have : (2 : Nat) ^ 11 = 2048 := by decide
    lia
  · exact z
noncomputable def spOnFloor (K : PySem.W.Frag) (Ct Cb : Addr) : Sp := fun vs H Q E => ∃ (n : Nat) (many : Int), vs = [.int n, .int many] ∧ 2 ≤ n ∧ n ≤ 5 ∧ many < 2 ^ 61 ∧ (many < 0 → TMx Cb E H) ∧ (0 ≤ many → 1024 < n ^ many.toNat → TMx Ct E H) ∧ (0 ≤ many → n ^ many.toNat ≤ 1024 → Q (.int ((n ^ many.toNat : Nat) : Int)) H)
noncomputable def NewL (H : Hp) (Q : VK) (xs : List Int) : Prop := ∀ (r : Addr) (H' : Hp), Same H H' → H r = none → H' r = some (.lst (xs.map V.int)) → Q (.ref r) H'
noncomputable def spFloor (K : PySem.W.Frag) (Ct Cb : Addr) : Sp := fun vs H Q E => ∃ (v : V) (one : List Row) (n : Nat) (many : Int), vs = [v, .int many] ∧ Dr K H (D.tup (rowsD one)) v ∧ GoodM n one ∧ 2 ≤ n ∧ n ≤ 5 ∧ many < 2 ^ 61 ∧ (many < 0 → TMx Cb E H) ∧ (0 ≤ many → 1024 < n ^ many.toNat → TMx Ct E H) ∧ (0 ≤ many → n ^ many.toNat ≤ 1024 → NewL H Q (tabW n one many.toNat))
noncomputable def spTable (K : PySem.W.Frag) : Sp := fun vs H Q E => ∃ (v : V) (one : List Row) (n m : Nat), vs = [v, .int m] ∧ Dr K H (D.tup (rowsD one)) v ∧ GoodM n one ∧ 2 ≤ n ∧ n ≤ 5 ∧ n ^ m ≤ 1024 ∧ NewL H Q (tabW n one m)
end Gu
namespace Gu
open PySem L2
end Gu
namespace Gu
open PySem L2
end Gu
namespace Gu
open PySem L2
end Gu
namespace Gu
open PySem L2
theorem len1 {α : Type} {us : List α} (h : us.length = 1) : ∃ a, us = [a] := by
  cases us with
  | nil => cases h
  | cons a r =>
    cases r with
    | nil => exact ⟨a, rfl⟩
    | cons _ _ => simp at h
theorem len2 {α : Type} {us : List α} (h : us.length = 2) : ∃ a b, us = [a, b] := by
  cases us with
  | nil => cases h
  | cons a r =>
    obtain ⟨b, rfl⟩ := len1 (show r.length = 1 by simpa using h)
    exact ⟨a, b, rfl⟩
theorem len3 {α : Type} {us : List α} (h : us.length = 3) : ∃ a b c, us = [a, b, c] := by
  cases us with
  | nil => cases h
  | cons a r =>
    obtain ⟨b, c, rfl⟩ := len2 (show r.length = 2 by simpa using h)
    exact ⟨a, b, c, rfl⟩
section
variable (P : Program) (w : World) (K : PySem.W.Frag) (mg : Str → Option Value) (base : Heap) (CX : CXT) (k : Nat)
noncomputable def spComeG (Cm : V → Addr → Hp → List Row → Prop) : Sp := fun vs H Q _ => ∃ (f : Addr) (v0 : V) (n : Nat) (rows : List Row), vs = [v0, .ref f] ∧ Cm v0 f H rows ∧ GoodM n rows ∧ n ≤ 60 ∧ ∀ (r : Addr) (H' : Hp), Same H H' → RowsAt K H' r (found rows) → Q (.ref r) H'
noncomputable def spLeastG (Cm : V → Addr → Hp → List Row → Prop) (Ct : Addr) : Sp := fun vs H Q E => ∃ (f : Addr) (v0 : V) (n : Nat) (rows : List Row), vs = [v0, .ref f] ∧ Cm v0 f H rows ∧ GoodM n rows ∧ n ≤ 60 ∧
  ((shr rows).length ≤ 60 → Gives K H Q (D.tup (rowsD (shr rows)))) ∧ (60 < (shr rows).length → TMx Ct E H)
noncomputable def CmF : V → Addr → Hp → List Row → Prop := fun v0 f H rows => ∃ nm : Int → Int, v0 = .int (nm 0) ∧ (∀ x y, nm x = nm y → x = y) ∧ CallV P w K mg base CX k H f (spRow K rows nm)
end
section
variable {P : Program} {w : World} {K : PySem.W.Frag} {mg : Str → Option Value} {base : Heap} {CX : CXT} {k : Nat} {Ct : Addr}
theorem come_F (vs : List V) (H : Hp) (Q : VK) (E : XK) (h : spComeG K (CmF P w K mg base CX k) vs H Q E) : spComeF P w K mg base CX k vs H Q E := by
  obtain ⟨f, v0, n, rows, rfl, ⟨nm, rfl, ni, hV⟩, G, hn, q⟩ := h
  exact ⟨f, n, rows, nm, rfl, ni, hV, G, hn, q⟩
theorem least_F (vs : List V) (H : Hp) (Q : VK) (E : XK) (h : spLeastF P w K mg base CX k Ct vs H Q E) : spLeastG K (CmF P w K mg base CX k) Ct vs H Q E := by
  obtain ⟨f, n, rows, nm, rfl, ni, hV, G, hn, q⟩ := h
  exact ⟨f, _, n, rows, rfl, ⟨nm, rfl, ni, hV⟩, G, hn, q⟩
end
end Gu
namespace Gu
open PySem L2
theorem listO {K : PySem.W.Frag} {a : Addr} {xs : List V} {g : TG} {tb : TS} {D : Ends} {σ : St} {H : Hp} (Pv : Nat → St → Hp → Prop) (h0 : Pv 0 σ H) (hl : ∀ i σ H, i ≤ xs.length → Pv i σ H → SqL K H a xs)
    (hs : ∀ i x σ H, xs[i]? = some x → Pv i σ H → ∀ Ed : Ends, (∀ σ' H', Pv (i + 1) σ' H' → Ed.nx σ' H') → g x σ H fun σ2 H2 => tb Ed σ2 H2) (hd : ∀ σ H, Pv xs.length σ H → D.nx σ H) :
    ∃ W : Nat → Nat → St → Hp → Prop, (∃ m, W 0 m σ H) ∧ ∀ i m σ H, W i m σ H →
      ((Itl K a).stop i H ∧ D.nx σ H) ∨ ((Itl K a).go i H ∧ ∃ N : St → Hp → Prop, (∀ σ' H', N σ' H' → ∃ m', m' < m ∧ W (i + 1) m' σ' H') ∧ ∀ x H', (Itl K a).yld i H x H' → g x σ H' fun σ2 H2 => tb { D with nx := N, ct := N, bk := D.nx } σ2 H2) :=
  for_list Pv h0 hl (fun i x σ H hx p => hs i x σ H hx p _ fun _ _ z => z) hd
theorem tupO {K : PySem.W.Frag} {a : Addr} {xs : List V} {g : TG} {tb : TS} {D : Ends} {σ : St} {H : Hp} (Pv : Nat → St → Hp → Prop) (h0 : Pv 0 σ H) (hl : ∀ i σ H, i ≤ xs.length → Pv i σ H → SqT K H a xs)
    (hs : ∀ i x σ H, xs[i]? = some x → Pv i σ H → ∀ Ed : Ends, (∀ σ' H', Pv (i + 1) σ' H' → Ed.nx σ' H') → g x σ H fun σ2 H2 => tb Ed σ2 H2) (hd : ∀ σ H, Pv xs.length σ H → D.nx σ H) :
    ∃ W : Nat → Nat → St → Hp → Prop, (∃ m, W 0 m σ H) ∧ ∀ i m σ H, W i m σ H →
      ((Itt K a).stop i H ∧ D.nx σ H) ∨ ((Itt K a).go i H ∧ ∃ N : St → Hp → Prop, (∀ σ' H', N σ' H' → ∃ m', m' < m ∧ W (i + 1) m' σ' H') ∧ ∀ x H', (Itt K a).yld i H x H' → g x σ H' fun σ2 H2 => tb { D with nx := N, ct := N, bk := D.nx } σ2 H2) :=
  for_tup Pv h0 hl (fun i x σ H hx p => hs i x σ H hx p _ fun _ _ z => z) hd
theorem cutN {W : Nat → St → Hp → Prop} {m : Nat} {T : (St → Hp → Prop) → Prop} (h : ∀ N : St → Hp → Prop, (∀ m' σ' H', m' < m → W m' σ' H' → N σ' H') → T N) : ∃ N : St → Hp → Prop, (∀ σ' H', N σ' H' → ∃ m', m' < m ∧ W m' σ' H') ∧ T N :=
  ⟨fun σ' H' => ∃ m', m' < m ∧ W m' σ' H', fun _ _ z => z, h _ fun m' σ' H' a b => ⟨m', a, b⟩⟩
theorem rangeO {lo : Int} {n : Nat} {g : TG} {tb : TS} {D : Ends} {σ : St} {H : Hp} (Pv : Nat → St → Hp → Prop) (h0 : Pv 0 σ H)
    (hs : ∀ i σ H, i < n → Pv i σ H → ∀ Ed : Ends, (∀ σ' H', Pv (i + 1) σ' H' → Ed.nx σ' H') → g (.int (lo + i)) σ H fun σ2 H2 => tb Ed σ2 H2) (hd : ∀ σ H, Pv n σ H → D.nx σ H) :
    ∃ W : Nat → Nat → St → Hp → Prop, (∃ m, W 0 m σ H) ∧ ∀ i m σ H, W i m σ H →
      ((Itr lo n).stop i H ∧ D.nx σ H) ∨ ((Itr lo n).go i H ∧ ∃ N : St → Hp → Prop, (∀ σ' H', N σ' H' → ∃ m', m' < m ∧ W (i + 1) m' σ' H') ∧ ∀ x H', (Itr lo n).yld i H x H' → g x σ H' fun σ2 H2 => tb { D with nx := N, ct := N, bk := D.nx } σ2 H2) :=
  for_range Pv h0 (fun i σ H hi p => hs i σ H hi p _ fun _ _ z => z) hd
theorem cutW {c : TT} {tb : TS} {D : Ends} {σ : St} {H : Hp} (Post : St → Hp → Prop) (h1 : ∀ Ed : Ends, (∀ σ' H', Post σ' H' → Ed.nx σ' H') → tWhile c tb Ed σ H) (h2 : ∀ σ' H', Post σ' H' → D.nx σ' H') : tWhile c tb D σ H := h1 D h2
theorem cutQ {t1 t2 : TS} {D : Ends} {σ : St} {H : Hp} (Post : St → Hp → Prop) (h1 : ∀ Ed : Ends, (∀ σ' H', Post σ' H' → Ed.nx σ' H') → t1 Ed σ H) (h2 : ∀ σ' H', Post σ' H' → t2 D σ' H') : tSeq t1 t2 D σ H := h1 _ h2
theorem cutS {t1 t2 : TS} {D : Ends} {σ : St} {H : Hp} (h1 : ∀ Ed : Ends, Ed.nx σ H → t1 Ed σ H) (h2 : t2 D σ H) : tSeq t1 t2 D σ H := h1 _ h2
theorem zipO {K : PySem.W.Frag} {a b : Addr} {xs ys : List V} {g : TG} {tb : TS} {D : Ends} {σ : St} {H : Hp} (hlen : xs.length = ys.length) (Pv : Nat → St → Hp → Prop) (h0 : Pv 0 σ H) (hl : ∀ i σ H, i ≤ xs.length → Pv i σ H → SqL K H a xs ∧ SqL K H b ys)
    (hs : ∀ i x y p σ H, xs[i]? = some x → ys[i]? = some y → Pv i σ H → H p = none → ∀ Ed : Ends, (∀ σ' H', Pv (i + 1) σ' H' → Ed.nx σ' H') → g (.ref p) σ (upd H p (.tup [x, y])) fun σ2 H2 => tb Ed σ2 H2) (hd : ∀ σ H, Pv xs.length σ H → D.nx σ H) :
    ∃ W : Nat → Nat → St → Hp → Prop, (∃ m, W 0 m σ H) ∧ ∀ i m σ H, W i m σ H →
      ((Itz K a b).stop i H ∧ D.nx σ H) ∨ ((Itz K a b).go i H ∧ ∃ N : St → Hp → Prop, (∀ σ' H', N σ' H' → ∃ m', m' < m ∧ W (i + 1) m' σ' H') ∧ ∀ x H', (Itz K a b).yld i H x H' → g x σ H' fun σ2 H2 => tb { D with nx := N, ct := N, bk := D.nx } σ2 H2) :=
  for_zip hlen Pv h0 hl (fun i x y p σ H hx hy h hp => hs i x y p σ H hx hy h hp _ fun _ _ z => z) hd
end Gu
namespace Gu
open PySem L2
noncomputable def secs (rows : List Row) (i : Nat) : List (List Row) := (List.range i).map fun (j : Nat) => shr (swM rows (j : Int))
theorem secs_snoc (rows : List Row) (i : Nat) : secs rows (i + 1) = secs rows i ++ [shr (swM rows (i : Int))] := by
  unfold secs
  rw [List.range_succ, List.map_append]
  rfl
theorem secs_len (rows : List Row) (i : Nat) : (secs rows i).length = i := by
  unfold secs
  rw [List.length_map, List.length_range]
noncomputable def fmD (gs : List (List Row)) : List D := gs.map fun g => D.tup (rowsD g)
theorem fmD_snoc (gs : List (List Row)) (g : List Row) : fmD (gs ++ [g]) = fmD gs ++ [D.tup (rowsD g)] := by
  unfold fmD
  rw [List.map_append]
  rfl
theorem fmD_len (gs : List (List Row)) : (fmD gs).length = gs.length := List.length_map _
theorem D.depL_le {k : Nat} : ∀ {ds : List D}, (∀ d ∈ ds, D.dep d ≤ k) → D.depL ds ≤ k
  | [], _ => by simp only [D.depL]; lia
  | d :: ds, h => by
    have h1 := h d (by simp)
    have h2 := D.depL_le (ds := ds) fun x hx => h x (by simp [hx])
    simp only [D.depL]
    lia
theorem D.fewL_of : ∀ {ds : List D}, (∀ d ∈ ds, D.few d) → D.fewL ds
  | [], _ => by simp only [D.fewL]
  | d :: ds, h => by
    simp only [D.fewL]
    exact ⟨h d (by simp), D.fewL_of fun x hx => h x (by simp [hx])⟩
theorem secs_small {n : Nat} {rows : List Row} (G : GoodM n rows) (hn : n ≤ 60) (hl : rows.length ≤ 60) : D.dep (D.lst (fmD (secs rows rows.length))) < 5 ∧ D.few (D.lst (fmD (secs rows rows.length))) := by
  have h : ∀ d ∈ fmD (secs rows rows.length), D.dep d ≤ 3 ∧ D.few d := fun d hd => by
    obtain ⟨g, hg, rfl⟩ := List.mem_map.mp hd
    obtain ⟨j, hj, rfl⟩ := List.mem_map.mp hg
    have hj' := List.mem_range.mp hj
    obtain ⟨a, b⟩ := shr_small (swM_good G (s := (j : Int)) (by lia) (by lia)) hn
    exact ⟨by lia, b⟩
  have h1 := D.depL_le fun d hd => (h d hd).1
  refine ⟨by simp only [D.dep]; lia, ?_⟩
  simp only [D.few]
  exact ⟨by rw [fmD_len, secs_len]; lia, D.fewL_of fun d hd => (h d hd).2⟩
theorem still_small {n : Nat} (hn : n ≤ 60) : D.dep (D.tup [rowD (iota n, List.replicate n 0)]) < 4 ∧ D.few (D.tup [rowD (iota n, List.replicate n 0)]) := by
  have d1 : D.dep (D.its (iota n)) = 1 := its_dep _
  have d2 : D.dep (D.its (List.replicate n (0 : Int))) = 1 := its_dep _
  refine ⟨by unfold rowD; simp only [D.dep, D.depL] at d1 d2 ⊢; lia, ?_⟩
  have h1 := its_few5 (ns := iota n) (by rw [iota_len]; lia)
  have h2 := its_few5 (ns := List.replicate n (0 : Int)) (by rw [List.length_replicate]; lia)
  unfold rowD
  simp only [D.few, D.fewL] at h1 h2 ⊢
  exact ⟨by simp, ⟨by simp, h1, h2, trivial⟩, trivial⟩
theorem tup_over {H : Hp} {l : Addr} {ys : List V} {o : HO} (e : H l = some (.lst ys)) : ∀ b xs, H b = some (.tup xs) → upd H l o b = some (.tup xs) := fun b xs h => by
  rw [upd_ne (fun z => by subst z; rw [e] at h; cases h)]
  exact h
noncomputable def spSections (Ts : List Tb) (K : PySem.W.Frag) : Sp := fun vs H Q _ => ∃ (v : V) (rows : List Row) (n : Nat), vs = [v] ∧ Tabs Ts H ∧ Dr K H (D.tup (rowsD rows)) v ∧ GoodM n rows ∧ n ≤ 60 ∧ rows.length ≤ 60 ∧ GivesL Ts K H Q (D.lst (fmD (secs rows rows.length)))
noncomputable def spRight32 (Ts : List Tb) (K : PySem.W.Frag) : Sp := fun vs H Q _ => ∃ (v : V) (c : Int) (rows : List Row) (n : Nat), vs = [v, .int c] ∧ Tabs Ts H ∧ Dr K H (D.tup (rowsD rows)) v ∧ GoodM n rows ∧ 2 ≤ n ∧ n ≤ 5 ∧ rows.length ≤ 60 ∧ ∀ H', SameL Ts H H' → Q (.bl true) H'
end Gu
namespace Gu
open PySem L2
noncomputable def top (i : Nat) : Stmt := PySem.Challenge.pw_guisery_k32_breadths_by_turns.main.body.getD i (.Pass ⟨0, 0, 0, 0⟩)
noncomputable abbrev sSame : Stmt := top 6
noncomputable abbrev sStill : Stmt := top 9
noncomputable abbrev sBreadth : Stmt := top 10
noncomputable abbrev sSect : Stmt := top 11
noncomputable abbrev sReadF : Stmt := top 12
noncomputable abbrev sLeast : Stmt := top 13
noncomputable abbrev sCome : Stmt := top 14
noncomputable abbrev sKinds : Stmt := top 15
noncomputable abbrev sGone : Stmt := top 16
noncomputable abbrev sNumbered : Stmt := top 17
noncomputable abbrev sCheckW : Stmt := top 19
noncomputable abbrev sWorn : Stmt := top 21
noncomputable abbrev sNumberOf : Stmt := top 25
noncomputable abbrev sWordOf : Stmt := top 26
noncomputable abbrev sOnFloor : Stmt := top 27
noncomputable abbrev sFloor : Stmt := top 28
noncomputable abbrev sSections : Stmt := top 30
noncomputable abbrev sNumbers : Stmt := top 32
noncomputable abbrev sWordL : Stmt := top 33
noncomputable abbrev sWhole : Stmt := top 34
noncomputable abbrev sLike : Stmt := top 35
noncomputable abbrev sCalm : Stmt := top 36
noncomputable abbrev sFloorSize : Stmt := top 37
noncomputable abbrev sReadL : Stmt := top 38
noncomputable abbrev sFigures : Stmt := top 39
noncomputable abbrev sNumberL : Stmt := top 40
noncomputable abbrev sTable : Stmt := top 41
noncomputable abbrev sInLine : Stmt := top 42
noncomputable abbrev sShrunk : Stmt := top 43
noncomputable abbrev sCell : Stmt := top 44
noncomputable abbrev sLetters : Stmt := top 45
noncomputable abbrev sRear : Stmt := top 46
noncomputable abbrev sRows : Stmt := top 47
noncomputable abbrev sGuise : Stmt := top 48
noncomputable abbrev sRight : Stmt := top 49
noncomputable abbrev sLaw : Stmt := top 50
end Gu
namespace Gu
open PySem L2
section
variable {P : Program} {w : World} {K : PySem.W.Frag} {mg : Str → Option Value} {base : Heap} {f g : Addr} {fd gd : FuncData} {CX : CXT} [NoE CX]
theorem scSame : FnScope ["letters"] ["letters"] (defScope sSame) := ⟨rfl, rfl, rfl, by decide +kernel, rfl, by decide +kernel, by decide +kernel⟩
theorem ok_same (F : Fun K "same_letters" "same_letters" sSame f fd) (mt : mg "tuple" = none) (mr : mg "range" = none) : FnOk P w K mg base CX 1 f fd ["letters"] (spSame K) := by
  refine F.okc scSame (fun vs H Q E h => ?_) (fun cdv A outer s H vs Q E hr h => ?_)
  · obtain ⟨n, rfl, _⟩ := h
    rfl
  obtain ⟨n, rfl, h1, q⟩ := h
  refine ⟨_, pss_one (ps_ret (pe_callTy (call_tuple_rng rfl) rfl mt PyProof.Rows.boot_tuple (pa_cons (pe_callTy call_rng rfl mr PyProof.Rows.boot_range (pa_cons (pv 0) pa_nil)) pa_nil))), ?_⟩
  refine (exA rfl ⟨(n : Int), rfl, by lia, by lia, fun p hp => ⟨p, 0, (n : Int), rfl, upd_same, ⟨by decide, by decide, by lia, by lia⟩, by lia, fun l hl => ?_⟩⟩)
  have e : ((n : Int) - 0).toNat = n := by lia
  rw [e, rint_iota]
  exact q _ _ (same_up (same_up (Same.refl H) hp) hl) (Dr.tup upd_same (DrL.ints _))
theorem scCell : FnScope ["_law_script", "_law_at"] ["_law_script", "_law_at"] (defScope sCell) := ⟨rfl, rfl, rfl, by decide +kernel, rfl, by decide +kernel, by decide +kernel⟩
theorem ok_cell (F : Fun K "_law_cell" "_law_cell" sCell f fd) (ml : mg "len" = none) : FnOk P w K mg base CX 1 f fd ["_law_script", "_law_at"] (spCell K) := by
  refine F.okc scCell (fun vs H Q E h => ?_) (fun cdv A outer s H vs Q E hr h => ?_)
  · obtain ⟨a, ns, i, rfl, _⟩ := h
    rfl
  obtain ⟨a, ns, i, rfl, hS, h63, hi, q⟩ := h
  refine ⟨_, pss_cons (ps_if (pt_cmpR op_lt (pv 1) (pe_callB call_len_seq rfl ml PySem.boot_len (pa_cons (pv 0) pa_nil)) (nomark _)) (pss_one (ps_ret (pe_ix ix_list (pv 0) (pv 1) (fun _ _ => rfl)))) pss_nil)
    (pss_cons (ps_if (pt_cmpR op_eq (pe_callB call_len_seq rfl ml PySem.boot_len (pa_cons (pv 0) pa_nil)) pe_int (nomark _)) (pss_one (ps_ret (pe_op op_add (pe_op op_mul pe_int (pv 1)) pe_int))) pss_nil)
    (pss_one (ps_ret (pe_op op_add (pe_op op_mod (pe_ix ix_list (pv 0) (pe_op op_mod (pv 1) (pe_callB call_len_seq rfl ml PySem.boot_len (pa_cons (pv 0) pa_nil))) (fun _ _ => rfl)) pe_int) (pe_op op_mul pe_int (pv 1)))))), ?_⟩
  have hl : (ns.map V.int).length = ns.length := List.length_map _
  refine (exA rfl (exA rfl ⟨a, exA rfl ⟨.inl hS, _, exA rfl ⟨rfl, exA rfl ?_⟩⟩⟩))
  refine ite2 (fun c => ?_) (fun c => ?_)
  · have c' : (i : Int) < (((ns.map V.int).length : Nat) : Int) := of_decide_eq_true c
    rw [hl] at c'
    have hin : i < ns.length := by lia
    refine (exA rfl (exA rfl ⟨a, _, _, V.int (ns.getD i 0), rfl, rfl, hS, atI_nat (by simp [hin]), ?_⟩))
    have e : cell ns i = ns.getD i 0 := by unfold cell; rw [if_pos hin]
    rw [e] at q
    exact q
  · have c' : ¬ (i : Int) < (((ns.map V.int).length : Nat) : Int) := of_decide_eq_false (Bool.eq_false_iff.mpr c)
    rw [hl] at c'
    have hin : ¬ i < ns.length := by lia
    refine (exA rfl ⟨a, exA rfl ⟨.inl hS, rfl, exA rfl ?_⟩⟩)
    refine ite2 (fun c => ?_) (fun c => ?_)
    · have c2 := of_decide_eq_true c
      rw [hl] at c2
      have hz : ns.length = 0 := by injection c2 with c2; lia
      refine (exA rfl ⟨_, exA rfl ⟨rfl, .inl ⟨by decide, by decide⟩, _, exA rfl ⟨rfl, ?_⟩⟩⟩)
      have e : cell ns i = 29 * i + 5 := by unfold cell; rw [if_neg hin, if_pos hz]
      rw [e] at q
      exact q
    · have c2 := of_decide_eq_false (Bool.eq_false_iff.mpr c)
      rw [hl] at c2
      have hz : ¬ ns.length = 0 := fun z => c2 (congrArg V.int (by lia))
      have hpos : (0 : Int) < ns.length := by lia
      have hm : i % ns.length < ns.length := Nat.mod_lt _ (by lia)
      have em : (i : Int) % (((ns.map V.int).length : Nat) : Int) = ((i % ns.length : Nat) : Int) := by rw [hl]; exact (Int.natCast_emod i ns.length).symm
      refine (exA rfl (exA rfl (exA rfl ⟨a, exA rfl ⟨.inl hS, _, exA rfl ⟨rfl, by rw [hl]; exact hpos, a, _, _, V.int (ns.getD (i % ns.length) 0), rfl, rfl, hS, (by rw [em]; exact atI_nat (by simp [hm])), _, exA rfl ⟨rfl, (by show (0 : Int) < 1000003; decide), exA rfl ⟨_, exA rfl ⟨rfl, .inl ⟨by decide, by decide⟩, _, exA rfl ⟨rfl, ?_⟩⟩⟩⟩⟩⟩⟩)))
      have e : cell ns i = ns.getD (i % ns.length) 0 % 1000003 + 103 * i := by unfold cell; rw [if_neg hin, if_neg hz]
      rw [e] at q
      exact q
theorem scLetters : FnScope ["_law_script", "_law_at"] ["_law_script", "_law_at"] (defScope sLetters) := ⟨rfl, rfl, rfl, by decide +kernel, rfl, by decide +kernel, by decide +kernel⟩
theorem ok_letters (F : Fun K "_law_letters" "_law_letters" sLetters f fd) (G : FnOk P w K mg base CX 1 g gd ["_law_script", "_law_at"] (spCell K)) (bG : Binds K gd ["_law_script", "_law_at"] []) (kG : PySem.W.keepIn K (.ref g) = true) (mG : mg "_law_cell" = some (.ref g)) :
    FnOk P w K mg base CX 2 f fd ["_law_script", "_law_at"] (spLetters K) := by
  refine F.okc scLetters (fun vs H Q E h => ?_) (fun cdv A outer s H vs Q E hr h => ?_)
  · obtain ⟨a, ns, i, rfl, _⟩ := h
    rfl
  obtain ⟨a, ns, i, rfl, hS, h63, hi, q⟩ := h
  refine ⟨_, pss_one (ps_ret (pe_op op_add pe_int (pe_op op_mod (pe_call G hr rfl mG kG bG .nil passN (pa_cons (pv 0) (pa_cons (pv 1) pa_nil))) pe_int))), ?_⟩
  rw [letN_int] at q
  exact (exA rfl (exA rfl ⟨a, ns, i, rfl, hS, h63, hi, _, exA rfl ⟨rfl, (by show (0 : Int) < 4; decide), _, exA rfl ⟨rfl, q⟩⟩⟩))
theorem scRear : FnScope ["_law_pick", "_law_letters_here", "_law_left", "_law_made", "_law_k", "_law_many"] ["_law_pick", "_law_letters_here"] (defScope sRear) := ⟨rfl, rfl, rfl, by decide +kernel, rfl, by decide +kernel, by decide +kernel⟩
theorem ok_rear (F : Fun K "_law_rearranged" "_law_rearranged" sRear f fd) (ml : mg "len" = none) (mt : mg "tuple" = none) (mr : mg "range" = none) (mls : mg "list" = none) : FnOk P w K mg base CX 1 f fd ["_law_pick", "_law_letters_here"] (spRear K) := by
  refine F.okc scRear (fun vs H Q E h => ?_) (fun cdv A outer s H vs Q E hr h => ?_)
  · obtain ⟨pick, n, rfl, _⟩ := h
    rfl
  obtain ⟨pick, n, rfl, hn, k⟩ := h
  refine ⟨_, pss_cons (ps_set (i := 2) scRear.nd rfl (Or.inl rfl) (pe_callTy (call_list_rng rfl) rfl mls PyProof.Rows.boot_list (pa_cons (pe_callTy call_rng rfl mr PyProof.Rows.boot_range (pa_cons (pv 1) pa_nil)) pa_nil)))
    (pss_cons (ps_set (i := 3) scRear.nd rfl (Or.inl rfl) (pe_lst pa_nil))
    (pss_cons (ps_for PassesOwn.never rfl (pi_range1 rfl mr (pa_cons (pv 1) pa_nil)) (pg_name (i := 4) scRear.nd rfl (Or.inl rfl))
      (pss_cons (ps_set (i := 5) scRear.nd rfl (Or.inl rfl) (pe_callB call_len_seq rfl ml PySem.boot_len (pa_cons (pv 2) pa_nil)))
      (pss_cons (ps_expr (pe_bm PySem.F.plainAttrs_list PySem.F.slot_list_append PySem.F.type_list_append mt_append (pv 3) (pa_cons (pe_bm PySem.F.plainAttrs_list PySem.F.slot_list_pop PySem.F.type_list_pop mt_popAt (pv 2) (pa_cons (pe_op op_mod (pv 0) (pv 5)) pa_nil)) pa_nil)))
      (pss_one (ps_set (i := 0) scRear.nd rfl (Or.inl rfl) (pe_op op_fdiv (pv 0) (pv 5)))))))
    (pss_one (ps_ret (pe_callTy call_tuple_of rfl mt PyProof.Rows.boot_tuple (pa_cons (pv 3) pa_nil)))))), ?_⟩
  refine (exA rfl ⟨(n : Int), rfl, by lia, by lia, fun p hp => ⟨p, 0, (n : Int), rfl, upd_same, ⟨by decide, by decide, by lia, by lia⟩, by lia, fun l hl => ⟨by show 0 ≤ sizeLine; decide, fun m hm => ?_⟩⟩⟩)
  have e : ((n : Int) - 0).toNat = n := by lia
  rw [e, rint_iota] at hm ⊢
  have s1 : Same H (upd H p (.rng 0 n)) := same_up (Same.refl H) hp
  have s2 : Same H (upd (upd H p (.rng 0 n)) l (.lst ((iota n).map V.int))) := same_up s1 hl
  have hl0 : H l = none := s1.free hl
  have hm0 : H m = none := s2.free hm
  have hlm : l ≠ m := ne_of_none upd_same hm
  have s3 : Same H (upd (upd (upd H p (.rng 0 n)) l (.lst ((iota n).map V.int))) m (.lst [])) := same_up s2 hm
  refine ⟨_, rfl, (n : Int), rfl, by lia, by lia, rangeO (n := (n : Int).toNat) (fun i σ H2 => ∃ (u v : Option V) (pk : Int) (left made : List Int), σ = [some (.int pk), some (.int n), some (.ref l), some (.ref m), u, v] ∧ Same H H2 ∧ H2 l = some (.lst (left.map V.int)) ∧ H2 m = some (.lst (made.map V.int)) ∧
      left.length + i = n ∧ made.length = i ∧ rearr pick n = made ++ rear left.length pk left)
    ⟨none, none, pick, iota n, [], rfl, s3, (by rw [upd_ne hlm, upd_same]), upd_same, iota_len n, rfl, by rw [iota_len]; rfl⟩ (fun i σ H2 hi h Ed nx3 => ?_) (fun σ H2 h => ?_)⟩
  · obtain ⟨u, v, pk, left, made, rfl, t2, gl, gm, e1, e2, e3⟩ := h
    have hin : i < n := by simpa using hi
    have hpos : 0 < left.length := by lia
    have hL : (left.map V.int).length = left.length := List.length_map _
    obtain ⟨ix, hixe, hix⟩ : ∃ ix : Nat, pk % (((left.map V.int).length : Nat) : Int) = (ix : Int) ∧ ix < left.length := by
      rw [hL]
      have h0 := Int.emod_nonneg pk (show (left.length : Int) ≠ 0 by lia)
      have h1 := Int.emod_lt_of_pos pk (show (0 : Int) < left.length by lia)
      exact ⟨(pk % (left.length : Int)).toNat, by lia, by lia⟩
    have hsq : PySem.seqIndex? (pk % (((left.map V.int).length : Nat) : Int)) (left.map V.int).length = some ix := by
      rw [hixe, hL, PySem.seqIndex_of (by lia) (by lia)]
      simp
    refine (exA rfl ⟨l, exA rfl ⟨.inl (SqL.of gl), exA rfl ⟨.inl ⟨rfl, _, SqL.of gm⟩, exA rfl ⟨.inl ⟨rfl, _, SqL.of gl⟩, exA rfl (exA rfl ⟨_, exA rfl ⟨rfl, by rw [hL]; lia, ?_⟩⟩)⟩⟩⟩⟩)
    refine ⟨l, _, _, ix, V.int (left.getD ix 0), rfl, rfl, gl, by rw [hixe]; lia, by rw [hixe]; lia, hsq, by simp [hix], m, _, exA rfl ⟨rfl, by rw [upd_ne (Ne.symm hlm)]; exact gm, by rw [List.length_map]; exact small1000 (by lia), ?_⟩⟩
    refine (exA rfl (exA rfl ⟨_, exA rfl ⟨rfl, ⟨by rw [hL]; lia, by rw [hL]; lia⟩, ?_⟩⟩))
    refine nx3 _ _ ⟨_, _, pk / (((left.map V.int).length : Nat) : Int), left.eraseIdx ix, made ++ [left.getD ix 0], rfl, same_over (same_over t2 hl0) hm0, ?_, ?_, ?_, by simp [e2], ?_⟩
    · rw [upd_ne hlm, upd_same]
      congr 2
      exact map_erase V.int left ix
    · rw [upd_same, List.map_append]; rfl
    · rw [List.length_eraseIdx_of_lt hix]; lia
    · rw [e3, List.append_assoc]
      congr 1
      obtain ⟨q, hq⟩ : ∃ q, left.length = q + 1 := ⟨left.length - 1, by lia⟩
      have e5 : (left.eraseIdx ix).length = q := by rw [List.length_eraseIdx_of_lt hix]; lia
      rw [e5, hL]
      rw [hL] at hixe
      have e6 : (pk % (left.length : Int)).toNat = ix := by lia
      have e7 : rear (q + 1) pk left = left.getD (pk % (left.length : Int)).toNat 0 :: rear q (pk / (left.length : Int)) (left.eraseIdx (pk % (left.length : Int)).toNat) := rfl
      rw [hq, e7, e6]
      rw [hq]
      rfl
  · obtain ⟨u, v, pk, left, made, rfl, t2, gl, gm, e1, e2, e3⟩ := h
    refine (exA rfl ⟨m, exA rfl (.inl ⟨SqL.of gm, fun t ht => ?_⟩)⟩)
    have e9 : (n : Int).toNat = n := by lia
    have e4 : left.length = 0 := by lia
    rw [e4] at e3
    have e5 : rearr pick n = made := by rw [e3]; unfold rear; simp
    rw [← e5]
    exact k _ _ (same_up t2 ht) (Dr.tup upd_same (DrL.ints _))
theorem scWhole : FnScope ["_law_found"] ["_law_found"] (defScope sWhole) := ⟨rfl, rfl, rfl, by decide +kernel, rfl, by decide +kernel, by decide +kernel⟩
theorem ok_whole (F : Fun K "_law_whole" "_law_whole" sWhole f fd) (B : Blt mg) : FnOk P w K mg base CX 1 f fd ["_law_found"] (spWhole K) := by
  refine F.okc scWhole (fun vs H Q E h => ?_) (fun cdv A outer s H vs Q E hr h => ?_)
  · obtain ⟨i, rfl, _⟩ := h
    rfl
  obtain ⟨i, rfl, q⟩ := h
  refine ⟨_, pss_one (ps_ret (pe_and (pIsi K rfl (pv 0) B.isi B.int PyProof.Rows.boot_int)
    (pe_one (pe_not (pIsi K rfl (pv 0) B.isi B.bl PyProof.Rows.boot_bool))))), ?_⟩
  exact (exA rfl ⟨_, _, exA rfl ⟨.of (.int i), rfl, exA rfl (iteT (exA rfl ⟨_, _, exA rfl ⟨.of (.int i), rfl, exA rfl q⟩⟩))⟩⟩)
theorem scLike : FnScope ["_law_found", "_law_due"] ["_law_found", "_law_due"] (defScope sLike) := ⟨rfl, rfl, rfl, by decide +kernel, rfl, by decide +kernel, by decide +kernel⟩
theorem csLike : CompS ["_law_found", "_law_due"] (defScope sLike) ["_law_k", "_law_due", "_law_found"] [none, some 1, some 0] (csc [(".0", .local), ("_law_k", .local), ("_law_like", .globalImplicit), ("_law_due", .free), ("_law_found", .free)]) := ⟨rfl, by decide +kernel, by decide +kernel, by decide +kernel, rfl, by decide +kernel, by decide +kernel⟩
theorem ok_like {n : Nat} (F : Fun K "_law_like" "_law_like" sLike f fd) (B : Blt mg) (G : FnOk P w K mg base CX 1 g gd ["_law_found"] (spWhole K)) (bG : Binds K gd ["_law_found"] []) (kG : PySem.W.keepIn K (.ref g) = true) (mG : mg "_law_whole" = some (.ref g))
    (L : FnOk P w K mg base CX (n + 1) f fd ["_law_found", "_law_due"] (spLike K n)) (bL : Binds K fd ["_law_found", "_law_due"] []) (kL : PySem.W.keepIn K (.ref f) = true) (mL : mg "_law_like" = some (.ref f)) : FnOk P w K mg base CX (n + 2) f fd ["_law_found", "_law_due"] (spLike K (n + 1)) := by
  refine F.okc scLike (fun vs H Q E h => ?_) (fun cdv A outer s H vs Q E hr h => ?_)
  · obtain ⟨a, b, d, rfl, _⟩ := h
    rfl
  obtain ⟨a, b, d, rfl, da, db, hd, hfew, q⟩ := h
  have hr1 : Room 1 _ := hr.mono (by lia)
  refine ⟨_, pss_cons (ps_if (pt_cmpR op_isN (pv 1) pe_non (nomark _)) (pss_one (ps_ret (pe_cmpR op_isN (pv 0) pe_non (nomark _)))) pss_nil)
    (pss_cons (ps_if (pt_val (pIsi K rfl (pv 1) B.isi B.bl PyProof.Rows.boot_bool))
      (pss_one (ps_ret (pe_and (pIsi K rfl (pv 0) B.isi B.bl PyProof.Rows.boot_bool) (pe_one (pe_cmpR op_eq (pv 0) (pv 1) (nomark _)))))) pss_nil)
    (pss_cons (ps_if (pt_val (pIsi K rfl (pv 1) B.isi B.int PyProof.Rows.boot_int))
      (pss_one (ps_ret (pe_and (pe_call G hr1 rfl mG kG bG .nil passN (pa_cons (pv 0) pa_nil)) (pe_one (pe_cmpR op_eq (pv 0) (pv 1) (nomark _)))))) pss_nil)
    (pss_cons (ps_if (pt_val (pIsi K rfl (pv 1) B.isi B.str PyProof.Rows.boot_str))
      (pss_one (ps_ret (pe_and (pIsi K rfl (pv 0) B.isi B.str PyProof.Rows.boot_str) (pe_one (pe_cmpR op_eq (pv 0) (pv 1) (nomark _)))))) pss_nil)
    (pss_cons (ps_if (PW.pt (pw_or (pt_cmpR op_ne (pIsi K rfl (pv 1) B.isi B.lst PyProof.Rows.boot_list)
          (pIsi K rfl (pv 0) B.isi B.lst PyProof.Rows.boot_list) (nomark _))
        (pw_or1 (pt_cmpR op_ne (pIsi K rfl (pv 1) B.isi B.tup PyProof.Rows.boot_tuple)
          (pIsi K rfl (pv 0) B.isi B.tup PyProof.Rows.boot_tuple) (nomark _)))))
      (pss_one (ps_ret pe_bl)) pss_nil)
    (pss_one (ps_ret (pe_and (pe_cmpR op_eq (pe_callB call_len_seq rfl B.len PySem.boot_len (pa_cons (pv 0) pa_nil)) (pe_callB call_len_seq rfl B.len PySem.boot_len (pa_cons (pv 1) pa_nil)) (nomark _))
      (pe_one (pe_callB (cAll K rfl rfl) rfl B.all PyProof.Rows.boot_all (pa_cons (pe_comp rfl csLike (pi_range1 rfl B.rng (pa_cons (pe_callB call_len_seq rfl B.len PySem.boot_len (pa_cons (pv 1) pa_nil)) pa_nil)) (fun _ _ _ _ _ => pg_name (i := 0) csLike.nd rfl (Or.inl rfl))
        (fun _ _ _ _ _ => pe_call L hr rfl mL kL bL .nil passN (pa_cons (pe_ix ((ixL K rfl).or (ixT K rfl)) (pv 2) (pv 0) (fun _ _ => rfl)) (pa_cons (pe_ix ((ixL K rfl).or (ixT K rfl)) (pv 1) (pv 0) (fun _ _ => rfl)) pa_nil)))) pa_nil)))))))))), ?_⟩
  have kit : ∀ t c b, PySem.W.kitOne K (.type t) (.type c) = some b → PySem.W.kitOne K (.type t) (.type c) = some b := fun _ _ _ h => h
  cases d with
  | non =>
    simp only [Dr] at da db
    subst da db
    exact (exA rfl ⟨rfl, exA rfl (iteT (exA rfl ⟨rfl, q _ (Same.refl H)⟩))⟩)
  | bl x =>
    simp only [Dr] at da db
    subst da db
    refine cutS (fun Ed nx => (exA rfl ⟨rfl, exA rfl (iteF nx)⟩)) ?_
    refine (exA rfl ⟨_, _, exA rfl ⟨.of (.bl x), rfl, exA rfl (iteT (exA rfl ⟨_, _, exA rfl ⟨.of (.bl x), rfl, exA rfl (iteT (exA rfl (exA rfl ⟨rfl, ?_⟩)))⟩⟩))⟩⟩)
    rw [decide_eq_true rfl]
    exact q _ (Same.refl H)
  | int x =>
    simp only [Dr] at da db
    subst da db
    refine cutS (fun Ed nx => (exA rfl ⟨rfl, exA rfl (iteF nx)⟩)) (cutS (fun Ed nx => (exA rfl ⟨_, _, exA rfl ⟨.of (.int x), rfl, exA rfl (iteF nx)⟩⟩)) ?_)
    refine (exA rfl ⟨_, _, exA rfl ⟨.of (.int x), rfl, exA rfl (iteT (exA rfl ⟨x, rfl, exA rfl (iteT (exA rfl (exA rfl ⟨rfl, ?_⟩)))⟩))⟩⟩)
    rw [decide_eq_true rfl]
    exact q _ (Same.refl H)
  | str x =>
    simp only [Dr] at da db
    subst da db
    refine cutS (fun Ed nx => (exA rfl ⟨rfl, exA rfl (iteF nx)⟩)) (cutS (fun Ed nx => (exA rfl ⟨_, _, exA rfl ⟨.of (.str x), rfl, exA rfl (iteF nx)⟩⟩)) (cutS (fun Ed nx => (exA rfl ⟨_, _, exA rfl ⟨.of (.str x), rfl, exA rfl (iteF nx)⟩⟩)) ?_))
    refine (exA rfl ⟨_, _, exA rfl ⟨.of (.str x), rfl, exA rfl (iteT (exA rfl ⟨_, _, exA rfl ⟨.of (.str x), rfl, exA rfl (iteT (exA rfl (exA rfl ⟨rfl, ?_⟩)))⟩⟩))⟩⟩)
    rw [decide_eq_true rfl]
    exact q _ (Same.refl H)
  | tup ds =>
    simp only [Dr] at da db
    obtain ⟨a, vs, rfl, sa, ra⟩ := da
    obtain ⟨b, us, rfl, sb, rb⟩ := db
    replace sa := SqT.of (K := K) sa
    replace sb := SqT.of (K := K) sb
    simp only [D.few] at hfew
    simp only [D.dep] at hd
    refine cutS (fun Ed nx => (exA rfl ⟨rfl, exA rfl (iteF nx)⟩)) (cutS (fun Ed nx => (exA rfl ⟨_, _, exA rfl ⟨.tup sb, rfl, exA rfl (iteF nx)⟩⟩)) (cutS (fun Ed nx => (exA rfl ⟨_, _, exA rfl ⟨.tup sb, rfl, exA rfl (iteF nx)⟩⟩)) (cutS (fun Ed nx => (exA rfl ⟨_, _, exA rfl ⟨.tup sb, rfl, exA rfl (iteF nx)⟩⟩)) (cutS (fun Ed nx => (exA rfl ⟨_, _, exA rfl ⟨.tup sb, rfl, exA rfl ⟨_, _, exA rfl ⟨.tup sa, rfl, rfl, exA rfl (iteF (exA rfl ⟨_, _, exA rfl ⟨.tup sb, rfl, exA rfl ⟨_, _, exA rfl ⟨.tup sa, rfl, rfl, exA rfl (iteF nx)⟩⟩⟩⟩))⟩⟩⟩⟩)) ?_))))
    have lav : ds.length = vs.length := ra.length
    have lbu : ds.length = us.length := rb.length
    refine (exA rfl ⟨a, exA rfl ⟨.inr sa, exA rfl ⟨b, exA rfl ⟨.inr sb, rfl, true, congrArg V.bl (decide_eq_true (congrArg V.int (by lia))), iteT ?_⟩⟩⟩⟩)
    refine ⟨_, rfl, b, _, rfl, .inr sb, (us.length : Int), rfl, by lia, by lia, fun l hl0 => comp_range (n := (us.length : Int).toNat) (fun i ys H2 => i ≤ us.length ∧ ys = List.replicate i (V.bl true) ∧ Same H H2) ⟨Nat.zero_le _, rfl, same_up (Same.refl H) hl0⟩ (line_le (by lia)) (fun i ys H2 h => by obtain ⟨_, rfl, _⟩ := h; exact List.length_replicate)
      (fun i ys H2 hi h hy => ?_) (fun ys H2 h hy => ?_)⟩
    · obtain ⟨_, rfl, s2⟩ := h
      have hiu : i < us.length := by lia
      have e0 : (0 : Int) + (i : Int) = (i : Int) := by lia
      have ed : ds[i]? = some ds[i] := List.getElem?_eq_getElem (by lia)
      obtain ⟨x, ex, dx⟩ := ra.get ed
      obtain ⟨y, ey, dy⟩ := rb.get ed
      have dl := D.depL_get ed
      refine (exA rfl (exA rfl (.inr ⟨a, _, _, x, rfl, rfl, s2.tupl sa, (by rw [e0]; exact atI_nat ex), ?_⟩)))
      refine (exA rfl (exA rfl (.inr ⟨b, _, _, y, rfl, rfl, s2.tupl sb, (by rw [e0]; exact atI_nat ey), ?_⟩)))
      refine ⟨x, y, ds[i], rfl, dx.mono s2, dy.mono s2, by lia, D.fewL_get hfew.2 ed, fun H3 s3 => ⟨s3 _ _ hy, hiu, ?_, same_over (s2.trans s3) hl0⟩⟩
      rw [List.replicate_succ']
    · obtain ⟨_, rfl, s2⟩ := h
      refine ⟨l, List.replicate ((us.length : Int).toNat) true, rfl, ?_, ?_⟩
      · rw [List.map_replicate]; exact SqL.of hy
      · have e : (List.replicate ((us.length : Int).toNat) true).all id = true := by simp
        rw [e]
        exact q _ s2
  | lst ds =>
    simp only [Dr] at da db
    obtain ⟨a, vs, rfl, sa, ra⟩ := da
    obtain ⟨b, us, rfl, sb, rb⟩ := db
    simp only [D.few] at hfew
    simp only [D.dep] at hd
    refine cutS (fun Ed nx => (exA rfl ⟨rfl, exA rfl (iteF nx)⟩)) (cutS (fun Ed nx => (exA rfl ⟨_, _, exA rfl ⟨.lst sb, rfl, exA rfl (iteF nx)⟩⟩)) (cutS (fun Ed nx => (exA rfl ⟨_, _, exA rfl ⟨.lst sb, rfl, exA rfl (iteF nx)⟩⟩)) (cutS (fun Ed nx => (exA rfl ⟨_, _, exA rfl ⟨.lst sb, rfl, exA rfl (iteF nx)⟩⟩)) (cutS (fun Ed nx => (exA rfl ⟨_, _, exA rfl ⟨.lst sb, rfl, exA rfl ⟨_, _, exA rfl ⟨.lst sa, rfl, rfl, exA rfl (iteF (exA rfl ⟨_, _, exA rfl ⟨.lst sb, rfl, exA rfl ⟨_, _, exA rfl ⟨.lst sa, rfl, rfl, exA rfl (iteF nx)⟩⟩⟩⟩))⟩⟩⟩⟩)) ?_))))
    have lav : ds.length = vs.length := ra.length
    have lbu : ds.length = us.length := rb.length
    refine (exA rfl ⟨a, exA rfl ⟨.inl sa, exA rfl ⟨b, exA rfl ⟨.inl sb, rfl, true, congrArg V.bl (decide_eq_true (congrArg V.int (by lia))), iteT ?_⟩⟩⟩⟩)
    refine ⟨_, rfl, b, _, rfl, .inl sb, (us.length : Int), rfl, by lia, by lia, fun l hl0 => comp_range (n := (us.length : Int).toNat) (fun i ys H2 => i ≤ us.length ∧ ys = List.replicate i (V.bl true) ∧ Same H H2) ⟨Nat.zero_le _, rfl, same_up (Same.refl H) hl0⟩ (line_le (by lia)) (fun i ys H2 h => by obtain ⟨_, rfl, _⟩ := h; exact List.length_replicate)
      (fun i ys H2 hi h hy => ?_) (fun ys H2 h hy => ?_)⟩
    · obtain ⟨_, rfl, s2⟩ := h
      have hiu : i < us.length := by lia
      have e0 : (0 : Int) + (i : Int) = (i : Int) := by lia
      have ed : ds[i]? = some ds[i] := List.getElem?_eq_getElem (by lia)
      obtain ⟨x, ex, dx⟩ := ra.get ed
      obtain ⟨y, ey, dy⟩ := rb.get ed
      have dl := D.depL_get ed
      refine (exA rfl (exA rfl (.inl ⟨a, _, _, x, rfl, rfl, s2.seq sa, (by rw [e0]; exact atI_nat ex), ?_⟩)))
      refine (exA rfl (exA rfl (.inl ⟨b, _, _, y, rfl, rfl, s2.seq sb, (by rw [e0]; exact atI_nat ey), ?_⟩)))
      refine ⟨x, y, ds[i], rfl, dx.mono s2, dy.mono s2, by lia, D.fewL_get hfew.2 ed, fun H3 s3 => ⟨s3 _ _ hy, hiu, ?_, same_over (s2.trans s3) hl0⟩⟩
      rw [List.replicate_succ']
    · obtain ⟨_, rfl, s2⟩ := h
      refine ⟨l, List.replicate ((us.length : Int).toNat) true, rfl, ?_, ?_⟩
      · rw [List.map_replicate]; exact SqL.of hy
      · have e : (List.replicate ((us.length : Int).toNat) true).all id = true := by simp
        rw [e]
        exact q _ s2
theorem like_none : FnOk P w K mg base CX 1 f fd ["_law_found", "_law_due"] (spLike K 0) := by
  have no : ∀ vs H Q E, ¬ spLike K 0 vs H Q E := fun vs H Q E h => by
    obtain ⟨a, b, d, _, _, _, hd, _⟩ := h
    lia
  exact ⟨fun vs H Q E h => absurd h (no vs H Q E), fun A outer s H args us vs Q E _ _ _ _ h => absurd h (no vs H Q E)⟩
theorem all_like (F : Fun K "_law_like" "_law_like" sLike f fd) (B : Blt mg) (G : FnOk P w K mg base CX 1 g gd ["_law_found"] (spWhole K)) (bG : Binds K gd ["_law_found"] []) (kG : PySem.W.keepIn K (.ref g) = true) (mG : mg "_law_whole" = some (.ref g))
    (bL : Binds K fd ["_law_found", "_law_due"] []) (kL : PySem.W.keepIn K (.ref f) = true) (mL : mg "_law_like" = some (.ref f)) : ∀ n : Nat, FnOk P w K mg base CX (n + 1) f fd ["_law_found", "_law_due"] (spLike K n)
  | 0 => like_none
  | n + 1 => ok_like F B G bG kG mG (all_like F B G bG kG mG bL kL mL n) bL kL mL
end
end Gu
namespace Gu
open PySem L2
section
variable {P : Program} {w : World} {K : PySem.W.Frag} {mg : Str → Option Value} {base : Heap} {f g : Addr} {fd gd : FuncData} {CX : CXT} [NoE CX]
theorem scNumbers : FnScope ["_law_cell_here", "_law_many", "_law_row", "_law_rest", "_law_seed"] ["_law_cell_here", "_law_many"] (defScope sNumbers) := ⟨rfl, rfl, rfl, by decide +kernel, rfl, by decide +kernel, by decide +kernel⟩
theorem ok_numbers (F : Fun K "_law_numbers" "_law_numbers" sNumbers f fd) (ml : mg "len" = none) : FnOk P w K mg base CX 1 f fd ["_law_cell_here", "_law_many"] (spNumbers K) := by
  refine F.okc scNumbers (fun vs H Q E h => ?_) (fun cdv A outer s H vs Q E hr h => ?_)
  · obtain ⟨c, m, rfl, _⟩ := h
    rfl
  obtain ⟨c, m, rfl, hm, q⟩ := h
  refine ⟨_, pss_cons (ps_set (i := 2) scNumbers.nd rfl (Or.inl rfl) (pe_lst pa_nil))
    (pss_cons (ps_set (i := 3) scNumbers.nd rfl (Or.inl rfl) (pe_op op_sub (pv 0) (pe_op op_pow pe_int pe_int)))
    (pss_cons (ps_while PassesOwn.never (PW.pt (pw_and (pt_cmpR op_gt (pv 3) pe_int (nomark _)) (pw_and1 (pt_cmpR op_lt (pe_callB call_len_seq rfl ml PySem.boot_len (pa_cons (pv 2) pa_nil)) (pv 1) (nomark _)))))
      (pss_cons (ps_expr (pe_bm PySem.F.plainAttrs_list PySem.F.slot_list_append PySem.F.type_list_append mt_append (pv 2) (pa_cons (pe_op op_mod (pv 3) pe_int) pa_nil)))
      (pss_one (ps_set (i := 3) scNumbers.nd rfl (Or.inl rfl) (pe_op op_fdiv (pv 3) pe_int)))))
    (pss_cons (ps_set (i := 4) scNumbers.nd rfl (Or.inl rfl) (pe_op op_mod (pv 0) pe_int))
    (pss_cons (ps_while PassesOwn.never (pt_cmpR op_lt (pe_callB call_len_seq rfl ml PySem.boot_len (pa_cons (pv 2) pa_nil)) (pv 1) (nomark _))
      (pss_cons (ps_set (i := 4) scNumbers.nd rfl (Or.inl rfl) (pe_op op_mod (pe_op op_add (pe_op op_add (pe_op op_mul (pv 4) pe_int) pe_int) (pe_callB call_len_seq rfl ml PySem.boot_len (pa_cons (pv 2) pa_nil))) pe_int))
      (pss_one (ps_expr (pe_bm PySem.F.plainAttrs_list PySem.F.slot_list_append PySem.F.type_list_append mt_append (pv 2) (pa_cons (pe_op op_mod (pe_op op_fdiv (pe_op op_mod (pe_op op_mul (pv 4) pe_int) pe_int) pe_int) pe_int) pa_nil))))))
    (pss_one (ps_ret (pv 2))))))), ?_⟩
  refine ⟨by show 0 ≤ sizeLine; decide, fun l hl => (exA rfl ⟨_, exA rfl ⟨rfl, ⟨by decide, by decide, by decide⟩, _, exA rfl ⟨rfl, ?_⟩⟩⟩)⟩
  show tWhile _ _ _ _ _
  refine cutW (fun σ' H' => ∃ (k : Nat) (r : Int) (ns : List Int), σ' = [some (.int c), some (.int m), some (.ref l), some (.int r), none] ∧ Same H H' ∧ H' l = some (.lst (ns.map V.int)) ∧ k + ns.length = m ∧ ∀ x ∈ ns, 0 ≤ x ∧ x < 1009) (fun Ed nx => ?_) (fun σ' H' p => ?_)
  rotate_left
  · obtain ⟨k, r, ns, rfl, s2, e2, hk, hns⟩ := p
    refine (exA rfl ⟨_, exA rfl ⟨rfl, pmod, ?_⟩⟩)
    refine ⟨fun k σ H2 => ∃ (v : Int) (ns : List Int), σ = [some (.int c), some (.int m), some (.ref l), some (.int r), some (.int v)] ∧ Same H H2 ∧ H2 l = some (.lst (ns.map V.int)) ∧ k + ns.length = m ∧ ∀ x ∈ ns, 0 ≤ x ∧ x < 1009,
      ⟨k, _, ns, rfl, s2, e2, hk, hns⟩, ?_⟩
    rintro k σ H2 ⟨v, ns, rfl, s2, e2, hk, hns⟩
    have hnl : (ns.map V.int).length = ns.length := List.length_map _
    refine (exA rfl ⟨l, exA rfl ⟨.inl (SqL.of e2), exA rfl ⟨_, exA rfl ⟨rfl, exA rfl (ite2 (fun c2 => ?_) (fun c2 => ?_))⟩⟩⟩⟩)
    · have c2' := of_decide_eq_true c2
      rw [hnl] at c2'
      have hkp : ns.length < m := by lia
      refine cutN fun N nx2 => ?_
      refine (exA rfl ⟨_, exA rfl ⟨rfl, .inr ⟨by decide, by decide⟩, _, exA rfl ⟨rfl, exA rfl ⟨l, exA rfl ⟨.inl (SqL.of e2), _, exA rfl ⟨rfl, _, exA rfl ⟨rfl, pmod, ?_⟩⟩⟩⟩⟩⟩⟩)
      refine (exA rfl ⟨.inl ⟨rfl, _, SqL.of e2⟩, exA rfl ⟨_, exA rfl ⟨rfl, .inr ⟨by decide, by decide⟩, _, exA rfl ⟨rfl, pmod, _, exA rfl ⟨rfl, ⟨by decide, by decide⟩, _, exA rfl ⟨rfl, pmod, l, _, exA rfl ⟨rfl, e2, by rw [hnl]; exact small1000 (by lia), ?_⟩⟩⟩⟩⟩⟩⟩)
      refine nx2 (k - 1) _ _ (by lia) ⟨_, ns ++ [(v * 48271 + 9973 + ((ns.map V.int).length : Nat)) % 2147483647 * 39373 % 2147483629 / 11 % 1009], rfl, same_over s2 hl, ?_, ?_, nums_snoc hns (mod1009 _)⟩
      · rw [upd_same, List.map_append]; rfl
      · rw [List.length_append]; show k - 1 + (ns.length + 1) = m; lia
    · have c2' := of_decide_eq_false (Bool.eq_false_iff.mpr c2)
      rw [hnl] at c2'
      exact (exA rfl (q l H2 ns s2 e2 ⟨by lia, hns⟩))
  refine ⟨fun k σ H2 => ∃ (r : Int) (ns : List Int), σ = [some (.int c), some (.int m), some (.ref l), some (.int r), none] ∧ Same H H2 ∧ H2 l = some (.lst (ns.map V.int)) ∧ k + ns.length = m ∧ ∀ x ∈ ns, 0 ≤ x ∧ x < 1009,
    ⟨m, _, [], rfl, same_up (Same.refl H) hl, upd_same, rfl, fun x hx => by simp at hx⟩, ?_⟩
  rintro k σ H2 ⟨r, ns, rfl, s2, e2, hk, hns⟩
  have hnl : (ns.map V.int).length = ns.length := List.length_map _
  refine (exA rfl ⟨_, exA rfl ⟨rfl, exA rfl (ite2 (fun c1 => (exA rfl ⟨l, exA rfl ⟨.inl (SqL.of e2), exA rfl ⟨_, exA rfl ⟨rfl, exA rfl (ite2 (fun c2 => ?_) (fun c2 => ?_))⟩⟩⟩⟩)) (fun c1 => iteF ?_))⟩⟩)
  · have c2' := of_decide_eq_true c2
    rw [hnl] at c2'
    have hkp : ns.length < m := by lia
    refine cutN fun N nx2 => ?_
    refine (exA rfl ⟨.inl ⟨rfl, _, SqL.of e2⟩, exA rfl ⟨_, exA rfl ⟨rfl, pmod, l, _, exA rfl ⟨rfl, e2, by rw [hnl]; exact small1000 (by lia), ?_⟩⟩⟩⟩)
    refine (exA rfl ⟨_, exA rfl ⟨rfl, ⟨by decide, by decide⟩, nx2 (k - 1) _ _ (by lia) ⟨_, ns ++ [r % 1009], rfl, same_over s2 hl, ?_, ?_, nums_snoc hns (mod1009 r)⟩⟩⟩)
    · rw [upd_same, List.map_append]; rfl
    · rw [List.length_append]; show k - 1 + (ns.length + 1) = m; lia
  all_goals exact nx _ _ ⟨k, r, ns, rfl, s2, e2, hk, hns⟩
noncomputable abbrev nWd : List Str := ["_law_letters_here", "_law_cell_here", "_law_most", "_law_nums"]
theorem scWd : FnScope nWd ["_law_letters_here", "_law_cell_here", "_law_most"] (defScope sWordL) := ⟨rfl, rfl, rfl, by decide +kernel, rfl, by decide +kernel, by decide +kernel⟩
theorem csWd : CompS nWd (defScope sWordL) ["_law_pick", "_law_letters_here"] [none, some 0] (csc [(".0", .local), ("_law_pick", .local), ("_law_letters_here", .free)]) := ⟨rfl, by decide +kernel, by decide +kernel, by decide +kernel, rfl, by decide +kernel, by decide +kernel⟩
theorem ok_wordl (F : Fun K "_law_word" "_law_word" sWordL f fd) (mt : mg "tuple" = none)
    (G : FnOk P w K mg base CX 1 g gd ["_law_cell_here", "_law_many"] (spNumbers K)) (bG : Binds K gd ["_law_cell_here", "_law_many"] []) (kG : PySem.W.keepIn K (.ref g) = true) (mG : mg "_law_numbers" = some (.ref g)) : FnOk P w K mg base CX 2 f fd ["_law_letters_here", "_law_cell_here", "_law_most"] (spWordL K) := by
  refine F.okc scWd (fun vs H Q E h => ?_) (fun cdv A outer s H vs Q E hr h => ?_)
  · obtain ⟨n, c, m, rfl, _⟩ := h
    rfl
  obtain ⟨n, c, m, rfl, n2, n5, hm, q⟩ := h
  refine ⟨_, pss_cons (ps_set (i := 3) scWd.nd rfl (Or.inl rfl) (pe_call G hr rfl mG kG bG .nil passN (pa_cons (pv 1) (pa_cons (pe_op op_add (pv 2) pe_int) pa_nil))))
    (pss_one (ps_ret (pe_callTy call_tuple_of rfl mt PyProof.Rows.boot_tuple (pa_cons (pe_comp rfl csWd (pi_list (pe_slice sl_list (pv 3) (po_some pe_int) (po_some (pe_op op_add pe_int (pe_op op_mod (pe_ix ix_list (pv 3) pe_int (fun _ _ => rfl)) (pe_op op_add (pv 2) pe_int)))))) (fun _ _ _ _ _ => pg_name (i := 0) csWd.nd rfl (Or.inl rfl)) (fun _ _ _ _ _ => pe_op op_mod (pv 0) (pv 1))) pa_nil)))), ?_⟩
  have e1 : (m : Int) + 1 = ((m + 1 : Nat) : Int) := by lia
  refine (exA rfl (exA rfl ⟨_, exA rfl ⟨rfl, c, m + 1, (by rw [← e1]; rfl), by lia, fun ln H1 nn s1 en hnn => ?_⟩⟩))
  have hnl := hnn.1
  obtain ⟨z0, ez0⟩ : ∃ z : Int, nn[0]? = some z := ⟨nn[0]'(by lia), List.getElem?_eq_getElem (by lia)⟩
  have hz0 : z0 % ((m : Int) + 1) < (m : Int) + 1 := Int.emod_lt_of_pos _ (by lia)
  have hz0' : 0 ≤ z0 % ((m : Int) + 1) := Int.emod_nonneg _ (by lia)
  obtain ⟨k0, hk0⟩ := nat_of (x := (1 : Int) + z0 % ((m : Int) + 1)) (by lia)
  refine (exA rfl (exA rfl (exA rfl ⟨ln, _, _, V.int z0, rfl, rfl, SqL.of en, atI_nat (j := 0) (by rw [List.getElem?_map, ez0]; rfl), exA rfl ⟨_, exA rfl ⟨rfl, _, exA rfl ⟨rfl, by lia, _, exA rfl ⟨rfl, exA rfl ⟨ln, exA rfl ⟨SqL.of en, fun p hp => ?_⟩⟩⟩⟩⟩⟩⟩)))
  have sp := same_up (o := HO.lst (cutV (nn.map V.int) (some 1) (some (1 + z0 % ((m : Int) + 1))))) (Same.refl H1) hp
  have ep : upd H1 p (HO.lst (cutV (nn.map V.int) (some 1) (some (1 + z0 % ((m : Int) + 1))))) p = some (.lst ((cutI nn (some ((1 : Nat) : Int)) (some (k0 : Int))).map V.int)) := by rw [upd_same, cutV_I, hk0]; rfl
  have lcut : (cutI nn (some ((1 : Nat) : Int)) (some (k0 : Int))).length = k0 - 1 := cutI_len (by lia)
  generalize upd H1 p (HO.lst (cutV (nn.map V.int) (some 1) (some (1 + z0 % ((m : Int) + 1))))) = H2 at sp ep
  generalize cutI nn (some ((1 : Nat) : Int)) (some (k0 : Int)) = cs at ep lcut
  have lcm : (cs.map V.int).length = cs.length := List.length_map _
  refine ⟨p, rfl, ⟨_, SqL.of ep⟩, fun la hla => comp_list (xs := cs.map V.int) (GI n H2) (GI.nil hla) (fun i ys H3 _ h => by obtain ⟨_, _, _, _, s3⟩ := h; exact SqL.of (s3 _ _ ep)) (by rw [lcm]; exact line_le (by lia)) (fun i ys H3 h => h.len) (fun i x ys H3 hx h hy => ?_) (fun ys H3 h hy => ?_)⟩
  · have hi : i < cs.length := by have := (List.getElem?_eq_some_iff.mp hx).1; lia
    have ex : x = V.int cs[i] := by rw [List.getElem?_map, List.getElem?_eq_getElem hi] at hx; exact (Option.some.inj hx).symm
    subst ex
    exact (exA rfl (exA rfl ⟨_, exA rfl ⟨rfl, by lia, hy, h.snoc hla ⟨Int.emod_nonneg _ (by lia), Int.emod_lt_of_pos _ (by lia)⟩⟩⟩))
  obtain ⟨as, rfl, hal, iia, s3⟩ := h
  refine ⟨la, exA rfl (.inl ⟨SqL.of hy, fun t ht => ?_⟩)⟩
  have s4 := same_up (o := HO.tup (as.map V.int)) (Same.refl H3) ht
  exact q _ _ as ((s1.trans sp).trans (s3.trans s4)) (Dr.tup upd_same (DrL.ints _)) iia (by rw [lcm] at hal; lia)
end
end Gu
namespace Gu
open PySem L2
section
variable {P : Program} {w : World} {K : PySem.W.Frag} {mg : Str → Option Value} {base : Heap} {f g : Addr} {fd gd : FuncData} {CX : CXT} [NoE CX]
noncomputable abbrev nL32 : List Str := ["_law_script", "_law_letters_here", "_law_others", "_law_one", "_law_other", "_law_guise_here", "_law_cell_here"]
theorem scL32 : FnScope nL32 ["_law_script"] (defScope sLaw) := ⟨rfl, rfl, rfl, by decide +kernel, rfl, by decide +kernel, by decide +kernel⟩
noncomputable def PX32 (K : PySem.W.Frag) (H : Hp) (x : V) : Prop := ∃ (p : Addr) (vv : V) (j : Nat) (rows : List Row) (n : Nat), x = .ref p ∧ H p = some (.tup [vv, .int j]) ∧ j ≤ 1000 ∧ Dr K H (D.tup (rowsD rows)) vv ∧ GoodM n rows ∧ 2 ≤ n ∧ n ≤ 5 ∧ rows.length ≤ 60
theorem PX32.monoL {K : PySem.W.Frag} {Ts : List Tb} {H H' : Hp} {x : V} (h : PX32 K H x) (s : SameL Ts H H') : PX32 K H' x := by
  obtain ⟨p, vv, j, rows, n, a, b, c, d, e⟩ := h
  exact ⟨p, vv, j, rows, n, a, s.g b, c, d.monoL s, e⟩
theorem ok_law {Ts : List Tb} (F : Fun K "law" "law" sLaw f fd)
    {aC aL aG aR : Addr} {dC dL dG dR : FuncData}
    (C : FnOk P w K mg base (CXx P w) 9 aC dC ["_law_script", "_law_at"] (spCell K)) (bC : Binds K dC ["_law_script", "_law_at"] []) (kC : PySem.W.keepIn K (.ref aC) = true) (mC : mg "_law_cell" = some (.ref aC))
    (L : FnOk P w K mg base (CXx P w) 9 aL dL ["_law_script", "_law_at"] (spLetters K)) (bL : Binds K dL ["_law_script", "_law_at"] []) (kL : PySem.W.keepIn K (.ref aL) = true) (mL : mg "_law_letters" = some (.ref aL))
    (G : FnOk P w K mg base (CXx P w) 9 aG dG ["_law_letters_here", "_law_cell_here"] (spGuise K)) (bG : Binds K dG ["_law_letters_here", "_law_cell_here"] []) (kG : PySem.W.keepIn K (.ref aG) = true) (mG : mg "_law_guise" = some (.ref aG))
    (R : FnOk P w K mg base (CXx P w) 9 aR dR ["_law_one", "_law_cell_here"] (spRight32 Ts K)) (bR : Binds K dR ["_law_one", "_law_cell_here"] []) (kR : PySem.W.keepIn K (.ref aR) = true) (mR : mg "_law_right" = some (.ref aR)) :
    FnOk P w K mg base (CXx P w) 10 f fd ["_law_script"] (spLawL Ts K) := by
  refine F.okc scL32 (fun vs H Q E h => ?_) (fun cdv A' outer s H vs Q E' hr h => ?_)
  · obtain ⟨a, ns, rfl, _⟩ := h
    rfl
  obtain ⟨a, ns, rfl, hS, h63, hTb, q⟩ := h
  refine ⟨_, pss_cons (ps_set (i := 1) scL32.nd rfl (Or.inl rfl) (pe_call L hr rfl mL kL bL .nil passN (pa_cons (pv 0) (pa_cons pe_int pa_nil))))
    (pss_cons (ps_set (i := 2) scL32.nd rfl (Or.inl rfl) (pe_op op_add pe_int (pe_op op_mod (pe_op op_add (pe_op op_sub (pv 1) pe_int) (pe_op op_mod (pe_call C hr rfl mC kC bC .nil passN (pa_cons (pv 0) (pa_cons pe_int pa_nil))) pe_int)) pe_int)))
    (pss_cons (ps_set (i := 3) scL32.nd rfl (Or.inl rfl) (pe_call G hr rfl mG kG bG .nil passN (pa_cons (pv 1) (pa_cons (pe_call C hr rfl mC kC bC .nil passN (pa_cons (pv 0) (pa_cons pe_int pa_nil))) pa_nil))))
    (pss_cons (ps_set (i := 4) scL32.nd rfl (Or.inl rfl) (pe_call G hr rfl mG kG bG .nil passN (pa_cons (pv 2) (pa_cons (pe_call C hr rfl mC kC bC .nil passN (pa_cons (pv 0) (pa_cons pe_int pa_nil))) pa_nil))))
    (pss_cons (ps_for PassesOwn.never rfl (pi_tup (pe_tup (pa_cons (pe_tup (pa_cons (pv 3) (pa_cons pe_int pa_nil))) (pa_cons (pe_tup (pa_cons (pv 4) (pa_cons pe_int pa_nil))) (pa_cons (pe_tup (pa_cons (pv 3) (pa_cons pe_int pa_nil))) (pa_cons (pe_tup (pa_cons (pv 4) (pa_cons pe_int pa_nil))) (pa_cons (pe_tup (pa_cons (pv 3) (pa_cons pe_int pa_nil))) pa_nil))))))) (pg_tup rfl (pgs_cons (pg_name (i := 5) scL32.nd rfl (Or.inl rfl)) (pgs_cons (pg_name (i := 6) scL32.nd rfl (Or.inl rfl)) pgs_nil)))
      (pss_one (ps_if (pt_not (pt_val (pe_call R hr rfl mR kR bR .nil passN (pa_cons (pv 5) (pa_cons (pe_call C hr rfl mC kC bC .nil passN (pa_cons (pv 0) (pa_cons (pv 6) pa_nil))) pa_nil))))) (pss_one (ps_ret pe_bl)) pss_nil)))
    (pss_one (ps_ret pe_bl)))))), ?_⟩
  have n2 := letN_ge ns 0
  have n5 := letN_le ns 0
  generalize hn : letN ns 0 = n at *
  obtain ⟨m, hm⟩ := nat_of (x := ((n : Int) - 1 + cell ns 1 % 3) % 4) (Int.emod_nonneg _ (by decide))
  have hm4 : m < 4 := by have := Int.emod_lt_of_pos ((n : Int) - 1 + cell ns 1 % 3) (show (0 : Int) < 4 by decide); lia
  refine (exA rfl ⟨a, ns, 0, rfl, hS, h63, by lia, ?_⟩)
  rw [hn]
  refine (exA rfl ⟨_, exA rfl ⟨rfl, exA rfl ⟨a, ns, 1, rfl, hS, h63, by lia, _, exA rfl ⟨rfl, pmod, _, exA rfl ⟨rfl, _, exA rfl ⟨rfl, pmod, _, exA rfl ⟨rfl, ?_⟩⟩⟩⟩⟩⟩⟩)
  refine (exA rfl (exA rfl ⟨a, ns, 2, rfl, hS, h63, by lia, n, exA rfl ⟨n2, n5, fun v1 H1 rows1 s1 G1 h8 d1 => ?_⟩⟩))
  refine (exA rfl (exA rfl ⟨a, ns, 2, rfl, s1.seq hS, h63, by lia, 2 + m, _, (by rw [Int.natCast_add, ← hm]; rfl), by lia, by lia, fun v2 H2 rows2 s2 G2 h82 d2 => ?_⟩))
  have l1 := shr_le G1
  have l2 := shr_le G2
  replace G1 := shr_good G1
  replace G2 := shr_good G2
  replace d1 := d1.mono s2
  have s02 := s1.trans s2
  generalize shr rows1 = one at *
  generalize shr rows2 = oth at *
  refine (exA rfl ⟨by show 2 ≤ sizeLine; decide, fun t1 k1 => ?_⟩)
  have z1 := same_up (o := HO.tup [v1, V.int 3]) (Same.refl H2) k1
  have e1 : upd H2 t1 (.tup [v1, V.int 3]) t1 = some (.tup [v1, V.int 3]) := upd_same
  generalize upd H2 t1 (.tup [v1, V.int 3]) = J1 at z1 e1 ⊢
  refine (exA rfl ⟨by show 2 ≤ sizeLine; decide, fun t2 k2 => ?_⟩)
  have z2 := same_up (o := HO.tup [v2, V.int 3]) (Same.refl J1) k2
  have e2 : upd J1 t2 (.tup [v2, V.int 3]) t2 = some (.tup [v2, V.int 3]) := upd_same
  generalize upd J1 t2 (.tup [v2, V.int 3]) = J2 at z2 e2 ⊢
  refine (exA rfl ⟨by show 2 ≤ sizeLine; decide, fun t3 k3 => ?_⟩)
  have z3 := same_up (o := HO.tup [v1, V.int 3]) (Same.refl J2) k3
  have e3 : upd J2 t3 (.tup [v1, V.int 3]) t3 = some (.tup [v1, V.int 3]) := upd_same
  generalize upd J2 t3 (.tup [v1, V.int 3]) = J3 at z3 e3 ⊢
  refine (exA rfl ⟨by show 2 ≤ sizeLine; decide, fun t4 k4 => ?_⟩)
  have z4 := same_up (o := HO.tup [v2, V.int 4]) (Same.refl J3) k4
  have e4 : upd J3 t4 (.tup [v2, V.int 4]) t4 = some (.tup [v2, V.int 4]) := upd_same
  generalize upd J3 t4 (.tup [v2, V.int 4]) = J4 at z4 e4 ⊢
  refine (exA rfl ⟨by show 2 ≤ sizeLine; decide, fun t5 k5 => ?_⟩)
  have z5 := same_up (o := HO.tup [v1, V.int 4]) (Same.refl J4) k5
  have e5 : upd J4 t5 (.tup [v1, V.int 4]) t5 = some (.tup [v1, V.int 4]) := upd_same
  generalize upd J4 t5 (.tup [v1, V.int 4]) = J5 at z5 e5 ⊢
  refine ⟨by show 5 ≤ sizeLine; decide, fun tp kp => ?_⟩
  have z6 := same_up (o := HO.tup [V.ref t1, V.ref t2, V.ref t3, V.ref t4, V.ref t5]) (Same.refl J5) kp
  have e6 : upd J5 tp (.tup [V.ref t1, V.ref t2, V.ref t3, V.ref t4, V.ref t5]) tp = some (.tup [V.ref t1, V.ref t2, V.ref t3, V.ref t4, V.ref t5]) := upd_same
  generalize upd J5 tp (.tup [V.ref t1, V.ref t2, V.ref t3, V.ref t4, V.ref t5]) = J6 at z6 e6 ⊢
  have y5 := z6
  have y4 := z5.trans y5
  have y3 := z4.trans y4
  have y2 := z3.trans y3
  have y1 := z2.trans y2
  have y0 := z1.trans y1
  have D1 := d1.mono y0
  have D2 := d2.mono y0
  have px : ∀ x ∈ [V.ref t1, V.ref t2, V.ref t3, V.ref t4, V.ref t5], PX32 K J6 x := fun x hx => by
    simp only [List.mem_cons, List.not_mem_nil, or_false] at hx
    rcases hx with rfl | rfl | rfl | rfl | rfl
    · exact ⟨t1, v1, 3, one, n, rfl, y1 _ _ e1, by lia, D1, G1, n2, n5, by lia⟩
    · exact ⟨t2, v2, 3, oth, 2 + m, rfl, y2 _ _ e2, by lia, D2, G2, by lia, by lia, by lia⟩
    · exact ⟨t3, v1, 3, one, n, rfl, y3 _ _ e3, by lia, D1, G1, n2, n5, by lia⟩
    · exact ⟨t4, v2, 4, oth, 2 + m, rfl, y4 _ _ e4, by lia, D2, G2, by lia, by lia, by lia⟩
    · exact ⟨t5, v1, 4, one, n, rfl, y5 _ _ e5, by lia, D1, G1, n2, n5, by lia⟩
  have s06 := s02.trans y0
  refine ⟨tp, rfl, ⟨_, SqT.of e6⟩, tupO (xs := [V.ref t1, V.ref t2, V.ref t3, V.ref t4, V.ref t5]) (fun i σ H5 => ∃ (u2 : V) (u5 u6 : Option V), σ = [some (.ref a), some (.int n), some u2, some v1, some v2, u5, u6] ∧ SameL Ts J6 H5)
    ⟨_, _, _, rfl, SameL.refl _⟩ (fun i σ H5 _ h => by obtain ⟨_, _, _, _, t5⟩ := h; exact SqT.of (t5.g e6)) (fun i x σ H5 hx h Ed nx3 => ?_) (fun σ H5 h => ?_)⟩
  · obtain ⟨u2, u5, u6, rfl, t5⟩ := h
    obtain ⟨p, vv, j, rows, n', rfl, ep, hj, dp, Gp, m2, m5, hl⟩ := (px x (List.mem_of_getElem? hx)).monoL t5
    have sl := (Same.l s06).trans t5
    refine ⟨p, exA rfl ⟨SqT.of ep, rfl, _, exA rfl ⟨_, exA rfl ⟨rfl, ?_⟩⟩⟩⟩
    refine (exA rfl (exA rfl (exA rfl ⟨a, ns, j, rfl, sl.seq hS, h63, hj, vv, _, rows, n', rfl, sl.tabs hTb, dp, Gp, m2, m5, hl, fun H7 s7 => (exA rfl (iteF ?_))⟩)))
    exact nx3 _ _ ⟨_, _, exA rfl (t5.trans s7)⟩
  · obtain ⟨u2, u5, u6, rfl, t5⟩ := h
    exact q H5
end
end Gu
namespace Gu
open PySem L2
section
variable {P : Program} {w : World} {K : PySem.W.Frag} {mg : Str → Option Value} {base : Heap} {f g : Addr} {fd gd : FuncData} {CX : CXT} [NoE CX]
theorem scNumbered : FnScope ["things", "numbers", "thing"] ["things"] (defScope sNumbered) := ⟨rfl, rfl, rfl, by decide +kernel, rfl, by decide +kernel, by decide +kernel⟩
theorem csNumbered : CompS ["things", "numbers", "thing"] (defScope sNumbered) ["thing", "numbers"] [none, some 1] (csc [(".0", .local), ("thing", .local), ("numbers", .free)]) := ⟨rfl, by decide +kernel, by decide +kernel, by decide +kernel, rfl, by decide +kernel, by decide +kernel⟩
theorem ok_numbered (F : Fun K "numbered" "numbered" sNumbered f fd) (ml : mg "len" = none) : FnOk P w K mg base CX 1 f fd ["things"] (spNumbered K) := by
  refine F.okc scNumbered (fun vs H Q E h => ?_) (fun cdv A outer s H vs Q E hr h => ?_)
  · obtain ⟨a, us, ds, rfl, _⟩ := h
    rfl
  obtain ⟨a, us, ds, rfl, ha, hd, hT, hlen, q⟩ := h
  have hu9 : (A.deeper (PyProof.Rows.envOfC "numbered" (defScope sNumbered) s.heap.objs.size f cdv)).units + 9 < cLine := by have := hr.units; lia
  refine ⟨_, pss_cons (ps_set (i := 1) scNumbered.nd rfl (Or.inr rfl) (pe_newD (K := K)))
    (pss_cons (ps_for PassesOwn.never rfl (pi_list (pv 0)) (pg_name (i := 2) scNumbered.nd rfl (Or.inl rfl))
      (pss_one (ps_if (pt_cmp (pc_notinD (K := K) hu9 (pv 2) (pv 1))) (pss_one (ps_putD (K := K) hu9 (pv 1) (pv 2) (pe_callB (cLenD K) rfl ml PySem.boot_len (pa_cons (pv 1) pa_nil)))) pss_nil)))
    (pss_one (ps_ret (pe_comp rfl csNumbered (pi_list (pv 0)) (fun _ _ _ _ _ => pg_name (i := 0) csNumbered.nd rfl (Or.inl rfl)) (fun _ _ _ _ _ => peGetD P w K rfl rfl hu9 (pv 1) (pv 0) (fun _ _ => rfl)))))), ?_⟩
  intro d hd0 ob0 g0
  have hul : ds.length = us.length := hd.length
  have s0 : Same H (upd H d ob0) := same_up (Same.refl H) hd0
  refine ⟨_, rfl, a, rfl, ⟨_, SqL.of (s0 _ _ ha)⟩, listO (xs := us) (fun i σ H2 => ∃ v : Option V, σ = [some (.ref a), some (.ref d), v] ∧ Same H H2 ∧ DD P w K H2 d (prs id (uniq (ds.take i))))
    ⟨none, rfl, s0, g0⟩ (fun i σ H2 _ h => by obtain ⟨_, _, s2, _⟩ := h; exact SqL.of (s2 _ _ ha)) (fun i x σ H2 hx h Ed nx3 => ?_) (fun σ H2 h => ?_)⟩
  · obtain ⟨v, rfl, s2, g⟩ := h
    have hiu : i < us.length := (List.getElem?_eq_some_iff.mp hx).1
    have ed : ds[i]? = some ds[i] := List.getElem?_eq_getElem (by lia)
    obtain ⟨x', ex, dx⟩ := hd.get ed
    rw [hx] at ex
    cases ex
    have hk := hT _ (List.getElem_mem (show i < ds.length by lia))
    generalize ds[i] = di at ed dx hk
    have et : uniq (ds.take (i + 1)) = addN (uniq (ds.take i)) di := by
      unfold uniq
      rw [List.take_add_one, ed]
      exact addAll_snoc _ _ _
    have hlu : (uniq (ds.take i)).length ≤ 4900 := by
      have := addAll_len (ds.take i) []
      rw [List.length_take] at this
      unfold uniq
      simp at this
      lia
    refine (exA rfl (exA rfl ⟨d, _, di, rfl, g, keyV hk (dx.mono s2), exA rfl ?_⟩))
    have hv : valV (prs id (uniq (ds.take i))) di = _ := prs_val id (fun _ _ e => e) (uniq (ds.take i)) di
    by_cases hm : di ∈ uniq (ds.take i)
    · rw [hv, if_pos hm]
      refine iteF (nx3 _ _ (exA rfl ⟨s2, ?_⟩))
      rw [et, addN_mem hm]
      exact g
    · rw [hv, if_neg hm]
      refine iteT (exA rfl ⟨d, exA rfl ⟨g, exA rfl (exA rfl ⟨d, _, di, rfl, g, keyV hk (dx.mono s2), by rw [prsF_len]; exact small5 hlu, fun ob g2 => nx3 _ _ (exA rfl ⟨same_over s2 hd0, ?_⟩)⟩)⟩⟩)
      rw [et, addN_new hm, ← prs_put id (fun _ _ e => e) hm]
      rw [prsF_len] at g2
      exact g2
  · obtain ⟨v, rfl, s2, g⟩ := h
    rw [List.take_of_length_le (by lia)] at g
    refine (exA rfl ⟨a, rfl, ⟨_, SqL.of (s2 _ _ ha)⟩, fun l hl0 => comp_list (xs := us) (fun i ys H3 => i ≤ ds.length ∧ ys = ((numb ds).take i).map V.int ∧ Same H2 H3) ⟨Nat.zero_le _, rfl, same_up (Same.refl H2) hl0⟩ (fun i ys H3 _ h => SqL.of (h.2.2 _ _ (s2 _ _ ha))) (line_le (by lia)) (fun i ys H3 h => ?_) (fun i x ys H3 hx h hy => ?_) (fun ys H3 h hy => ?_)⟩)
    · obtain ⟨hi, rfl, _⟩ := h
      unfold numb
      rw [List.length_map, List.length_take, List.length_map]
      lia
    · obtain ⟨_, rfl, s3⟩ := h
      have hiu : i < us.length := (List.getElem?_eq_some_iff.mp hx).1
      have ed : ds[i]? = some ds[i] := List.getElem?_eq_getElem (by lia)
      obtain ⟨x', ex, dx⟩ := hd.get ed
      rw [hx] at ex
      cases ex
      have hmem : ds[i] ∈ ds := List.getElem_mem (show i < ds.length by lia)
      have hk := hT _ hmem
      generalize ds[i] = di at ed dx hk hmem
      have hm : di ∈ uniq ds := addAll_mem.mpr (.inr hmem)
      have hv : valV (prs id (uniq ds)) di = _ := prs_val id (fun _ _ e => e) (uniq ds) di
      rw [if_pos hm] at hv
      refine (exA rfl (exA rfl ⟨d, _, di, exA rfl ⟨g.mono s3, keyV hk (dx.mono (s2.trans s3)), hv, hy, by lia, ?_, same_over s3 hl0⟩⟩))
      have en : (numb ds)[i]? = some (((uniq ds).idxOf di : Nat) : Int) := by unfold numb; rw [List.getElem?_map, ed]; rfl
      rw [take_snoc _ en]
    · obtain ⟨_, rfl, s3⟩ := h
      have e : ((numb ds).take us.length) = numb ds := List.take_of_length_le (by unfold numb; rw [List.length_map]; lia)
      rw [e] at hy
      exact q l H3 (s2.trans s3) hy
theorem scBreadth : FnScope ["guise", "rearranging", "goings"] ["guise"] (defScope sBreadth) := ⟨rfl, rfl, rfl, by decide +kernel, rfl, by decide +kernel, by decide +kernel⟩
theorem ok_breadth (F : Fun K "breadth" "breadth" sBreadth f fd) (ml : mg "len" = none) : FnOk P w K mg base CX 1 f fd ["guise"] (spBreadth K) := by
  refine F.okc scBreadth (fun vs H Q E h => ?_) (fun cdv A outer s H vs Q E hr h => ?_)
  · obtain ⟨a, r, rest, rfl, _⟩ := h
    rfl
  obtain ⟨a, r, rest, rfl, ha, hl, q⟩ := h
  refine ⟨_, pss_cons (ps_asg (pe_ix ix_tup (pv 0) pe_int (fun _ _ => rfl)) (pg_tup rfl (pgs_cons (pg_name (i := 1) scBreadth.nd rfl (Or.inl rfl)) (pgs_cons (pg_name (i := 2) scBreadth.nd rfl (Or.inl rfl)) pgs_nil))))
    (pss_one (ps_ret (pe_callB call_len_seq rfl ml PySem.boot_len (pa_cons (pv 1) pa_nil)))), ?_⟩
  simp only [Dr, DrL] at ha
  obtain ⟨a, vs, rfl, ea, v, l, rfl, hv, _⟩ := ha
  obtain ⟨t, b, c, rfl, et, eb, ec⟩ := rowD_inv hv
  refine (exA rfl ⟨a, _, _, .ref t, rfl, rfl, SqT.of ea, atI_nat (j := 0) rfl, t, exA rfl ⟨SqT.of et, rfl, _, exA rfl ⟨_, exA rfl ⟨rfl, exA rfl ⟨b, exA rfl ⟨.inr (SqT.of eb), ?_⟩⟩⟩⟩⟩⟩)
  rw [List.length_map]
  exact q _ (Same.refl H)
theorem scGone : FnScope ["kinds", "goings"] ["kinds", "goings"] (defScope sGone) := ⟨rfl, rfl, rfl, by decide +kernel, rfl, by decide +kernel, by decide +kernel⟩
theorem csGone : CompS ["kinds", "goings"] (defScope sGone) ["going", "kinds"] [none, some 0] (csc [(".0", .local), ("going", .local), ("kinds", .free)]) := ⟨rfl, by decide +kernel, by decide +kernel, by decide +kernel, rfl, by decide +kernel, by decide +kernel⟩
theorem ok_gone (F : Fun K "kinds_gone_to" "kinds_gone_to" sGone f fd) (mt : mg "tuple" = none) : FnOk P w K mg base CX 1 f fd ["kinds", "goings"] (spGone K) := by
  refine F.okc scGone (fun vs H Q E h => ?_) (fun cdv A outer s H vs Q E hr h => ?_)
  · obtain ⟨a, b, ks, gs, rfl, _⟩ := h
    rfl
  obtain ⟨a, b, ks, gs, rfl, ha, hb, hg, hl, q⟩ := h
  refine ⟨_, pss_one (ps_ret (pe_callTy call_tuple_of rfl mt PyProof.Rows.boot_tuple (pa_cons (pe_comp rfl csGone (pi_tup (pv 1)) (fun _ _ _ _ _ => pg_name (i := 0) csGone.nd rfl (Or.inl rfl)) (fun _ _ _ _ _ => pe_ix (ixL K rfl) (pv 1) (pv 0) (fun _ _ => rfl))) pa_nil))), ?_⟩
  obtain ⟨b, rfl, eb⟩ := Dr.its_inv hb
  refine (exA rfl ⟨b, rfl, ⟨_, SqT.of eb⟩, fun l hl0 => comp_tup (xs := gs.map V.int) (fun i ys H2 => i ≤ gs.length ∧ ys = ((gs.take i).map fun g => ks.getD g.toNat 0).map V.int ∧ Same H H2) ⟨Nat.zero_le _, rfl, same_up (Same.refl H) hl0⟩ (fun i ys H2 _ h => SqT.of (h.2.2 _ _ eb)) (by rw [List.length_map]; exact line_le (by lia)) (fun i ys H2 h => ?_) (fun i x ys H2 hx h hy => ?_) (fun ys H2 h hy => ?_)⟩)
  · obtain ⟨hi, rfl, _⟩ := h
    rw [List.length_map, List.length_map, List.length_take]
    lia
  · obtain ⟨hi, rfl, s2⟩ := h
    have hil : i < gs.length := by have := (List.getElem?_eq_some_iff.mp hx).1; rwa [List.length_map] at this
    have eg : gs[i]? = some gs[i] := List.getElem?_eq_getElem hil
    obtain ⟨h0, h1⟩ := hg _ (List.getElem_mem hil)
    generalize gs[i] = gi at eg h0 h1
    have ex : x = V.int gi := by rw [List.getElem?_map, eg] at hx; exact (Option.some.inj hx).symm
    subst ex
    have hk : gi.toNat < ks.length := by lia
    refine (exA rfl (exA rfl ⟨a, _, gi, V.int (ks.getD gi.toNat 0), rfl, rfl, SqL.of (s2 _ _ ha), atI_of h0 (by simp [hk]), hy, hil, ?_, same_over s2 hl0⟩))
    rw [take_snoc _ eg, List.map_append]
    rfl
  · obtain ⟨_, rfl, s2⟩ := h
    refine ⟨l, exA rfl (.inl ⟨SqL.of hy, fun t ht => ?_⟩)⟩
    rw [List.length_map, List.take_length]
    exact q _ _ (same_up s2 ht) (Dr.tup upd_same (DrL.ints _))
theorem scStill : FnScope ["letters"] ["letters"] (defScope sStill) := ⟨rfl, rfl, rfl, by decide +kernel, rfl, by decide +kernel, by decide +kernel⟩
theorem ok_still (F : Fun K "still" "still" sStill f fd) (G : FnOk P w K mg base CX 1 g gd ["letters"] (spSame K)) (bG : Binds K gd ["letters"] []) (kG : PySem.W.keepIn K (.ref g) = true) (mG : mg "same_letters" = some (.ref g)) : FnOk P w K mg base CX 2 f fd ["letters"] (spStill K) := by
  refine F.okc scStill (fun vs H Q E h => ?_) (fun cdv A outer s H vs Q E hr h => ?_)
  · obtain ⟨n, rfl, _⟩ := h
    rfl
  obtain ⟨n, rfl, h2, hn, q⟩ := h
  refine ⟨_, pss_one (ps_ret (pe_tup (pa_cons (pe_tup (pa_cons (pe_call G hr rfl mG kG bG .nil passN (pa_cons (pv 0) pa_nil)) (pa_cons (pe_op op_repT (pe_tup (pa_cons pe_int pa_nil)) (pv 0)) pa_nil))) pa_nil))), ?_⟩
  refine (exA rfl ⟨n, rfl, by lia, fun v1 H1 s1 d1 => ?_⟩)
  obtain ⟨b, rfl, eb⟩ := Dr.its_inv d1
  refine ⟨by show 1 ≤ sizeLine; decide, fun z hz => (exA rfl ⟨z, (n : Int), exA rfl ⟨rfl, upd_same, by simp, by lia, by lia, ?_, fun c hc => ⟨by show 2 ≤ sizeLine; decide, fun t ht => ⟨by show 1 ≤ sizeLine; decide, fun g hg => ?_⟩⟩⟩⟩)⟩
  · show 1 * (n : Int).toNat ≤ sizeLine
    exact line_le (by lia)
  have e : (List.replicate ((n : Int).toNat) [V.int 0]).flatten = (List.replicate n (0 : Int)).map V.int := by simp
  rw [e]
  have s2 : Same H1 (upd H1 z (.tup [.int 0])) := same_up (Same.refl H1) hz
  rw [e] at ht hg
  have s3 : Same H1 (upd (upd H1 z (.tup [.int 0])) c (.tup ((List.replicate n (0 : Int)).map V.int))) := same_up s2 hc
  have s4 := same_up (o := HO.tup [.ref b, .ref c]) s3 ht
  have s5 := same_up (o := HO.tup [.ref t]) s4 hg
  refine q _ _ (s1.trans s5) (Dr.tup upd_same (DrL.one ?_))
  have kt : ∀ x u, upd (upd (upd H1 z (.tup [.int 0])) c (.tup ((List.replicate n (0 : Int)).map V.int))) t (.tup [.ref b, .ref c]) x = some u → upd (upd (upd (upd H1 z (.tup [.int 0])) c (.tup ((List.replicate n (0 : Int)).map V.int))) t (.tup [.ref b, .ref c])) g (.tup [.ref t]) x = some u := fun x u e => by rw [upd_ne (ne_of_none e hg)]; exact e
  refine rowD_mk (b := b) (c := c) (kt _ _ upd_same) (s5 _ _ eb) (kt _ _ ?_)
  rw [upd_ne (ne_of_none upd_same ht)]
  exact upd_same
theorem scCalm : FnScope ["_law_letters_here"] ["_law_letters_here"] (defScope sCalm) := ⟨rfl, rfl, rfl, by decide +kernel, rfl, by decide +kernel, by decide +kernel⟩
theorem ok_calm (F : Fun K "_law_calm" "_law_calm" sCalm f fd) (mt : mg "tuple" = none) (mr : mg "range" = none) : FnOk P w K mg base CX 1 f fd ["_law_letters_here"] (spStill K) := by
  refine F.okc scCalm (fun vs H Q E h => ?_) (fun cdv A outer s H vs Q E hr h => ?_)
  · obtain ⟨n, rfl, _⟩ := h
    rfl
  obtain ⟨n, rfl, h2, hn, q⟩ := h
  refine ⟨_, pss_one (ps_ret (pe_tup (pa_cons (pe_tup (pa_cons (pe_callTy (call_tuple_rng rfl) rfl mt PyProof.Rows.boot_tuple (pa_cons (pe_callTy call_rng rfl mr PyProof.Rows.boot_range (pa_cons (pv 0) pa_nil)) pa_nil)) (pa_cons (pe_op op_repT (pe_tup (pa_cons pe_int pa_nil)) (pv 0)) pa_nil))) pa_nil))), ?_⟩
  refine (exA rfl ⟨(n : Int), rfl, by lia, by lia, fun p hp => ⟨p, 0, (n : Int), rfl, upd_same, ⟨by decide, by decide, by lia, by lia⟩, by lia, fun b hb => ?_⟩⟩)
  have e0 : ((n : Int) - 0).toNat = n := by lia
  rw [e0, rint_iota]
  have s1 : Same H (upd (upd H p (.rng 0 n)) b (.tup ((iota n).map V.int))) := same_up (same_up (Same.refl H) hp) hb
  have eb : upd (upd H p (.rng 0 n)) b (.tup ((iota n).map V.int)) b = some (.tup ((iota n).map V.int)) := upd_same
  generalize upd (upd H p (.rng 0 n)) b (.tup ((iota n).map V.int)) = H1 at *
  refine ⟨by show 1 ≤ sizeLine; decide, fun z hz => (exA rfl ⟨z, (n : Int), exA rfl ⟨rfl, upd_same, by simp, by lia, by lia, ?_, fun c hc => ⟨by show 2 ≤ sizeLine; decide, fun t ht => ⟨by show 1 ≤ sizeLine; decide, fun g hg => ?_⟩⟩⟩⟩)⟩
  · show 1 * (n : Int).toNat ≤ sizeLine
    exact line_le (by lia)
  have e : (List.replicate ((n : Int).toNat) [V.int 0]).flatten = (List.replicate n (0 : Int)).map V.int := by simp
  rw [e]
  have s2 : Same H1 (upd H1 z (.tup [.int 0])) := same_up (Same.refl H1) hz
  rw [e] at ht hg
  have s3 : Same H1 (upd (upd H1 z (.tup [.int 0])) c (.tup ((List.replicate n (0 : Int)).map V.int))) := same_up s2 hc
  have s4 := same_up (o := HO.tup [.ref b, .ref c]) s3 ht
  have s5 := same_up (o := HO.tup [.ref t]) s4 hg
  refine q _ _ (s1.trans s5) (Dr.tup upd_same (DrL.one ?_))
  have kt : ∀ x u, upd (upd (upd H1 z (.tup [.int 0])) c (.tup ((List.replicate n (0 : Int)).map V.int))) t (.tup [.ref b, .ref c]) x = some u → upd (upd (upd (upd H1 z (.tup [.int 0])) c (.tup ((List.replicate n (0 : Int)).map V.int))) t (.tup [.ref b, .ref c])) g (.tup [.ref t]) x = some u := fun x u e => by rw [upd_ne (ne_of_none e hg)]; exact e
  refine rowD_mk (b := b) (c := c) (kt _ _ upd_same) (s5 _ _ eb) (kt _ _ ?_)
  rw [upd_ne (ne_of_none upd_same ht)]
  exact upd_same
end
end Gu
namespace Gu
open PySem L2
section
variable {P : Program} {w : World} {K : PySem.W.Frag} {mg : Str → Option Value} {base : Heap} {f g : Addr} {fd gd : FuncData} {CX : CXT} [NoE CX]
noncomputable abbrev nR32 : List Str := ["_law_one", "_law_cell_here", "_law_letters_here", "_law_nums", "_law_many", "_law_word_here", "_law_number_here"]
theorem scR32 : FnScope nR32 ["_law_one", "_law_cell_here"] (defScope sRight) := ⟨rfl, rfl, rfl, by decide +kernel, rfl, by decide +kernel, by decide +kernel⟩
theorem csR32 : CompS nR32 (defScope sRight) ["_law_at", "_law_one"] [none, some 0] (csc [(".0", .local), ("_law_at", .local), ("_law_shrunk", .globalImplicit), ("_law_one", .free)]) := ⟨rfl, by decide +kernel, by decide +kernel, by decide +kernel, rfl, by decide +kernel, by decide +kernel⟩
theorem lst_few {ns : List Int} (h : ns.length ≤ 5000) : D.few (D.lst (ns.map D.int)) := by
  have := its_few5 h
  simp only [D.few] at this ⊢
  exact this
theorem lst_dep (ns : List Int) : D.dep (D.lst (ns.map D.int)) = 1 := by simp only [D.dep, D.depL_ints]
theorem ok_right32 {Ts : List Tb} {Ct Cb Cw : Addr} (ml : mg "len" = none) (mr : mg "range" = none) (F : Fun K "_law_right" "_law_right" sRight f fd)
    {aN aW aI aS aC aF aT aU aO aV aY aR aB aX aZ : Addr} {dN dW dI dS dC dF dT dU dO dV dY dR dB dX dZ : FuncData}
    (N : FnOk P w K mg base (CXx P w) 8 aN dN ["_law_cell_here", "_law_many"] (spNumbers K)) (bN : Binds K dN ["_law_cell_here", "_law_many"] []) (kN : PySem.W.keepIn K (.ref aN) = true) (mN : mg "_law_numbers" = some (.ref aN))
    (W : FnOk P w K mg base (CXx P w) 8 aW dW ["_law_letters_here", "_law_cell_here", "_law_most"] (spWordL K)) (bW : Binds K dW ["_law_letters_here", "_law_cell_here", "_law_most"] []) (kW : PySem.W.keepIn K (.ref aW) = true) (mW : mg "_law_word" = some (.ref aW))
    (I : FnOk P w K mg base (CXx P w) 8 aI dI ["_law_found", "_law_due"] (spLike K 5)) (bI : Binds K dI ["_law_found", "_law_due"] []) (kI : PySem.W.keepIn K (.ref aI) = true) (mI : mg "_law_like" = some (.ref aI))
    (S : FnOk P w K mg base (CXx P w) 8 aS dS ["letters"] (spStill K)) (bS : Binds K dS ["letters"] []) (kS : PySem.W.keepIn K (.ref aS) = true) (mS : mg "still" = some (.ref aS))
    (C : FnOk P w K mg base (CXx P w) 8 aC dC ["_law_letters_here"] (spStill K)) (bC : Binds K dC ["_law_letters_here"] []) (kC : PySem.W.keepIn K (.ref aC) = true) (mC : mg "_law_calm" = some (.ref aC))
    (F0 : FnOk P w K mg base (CXx P w) 8 aF dF ["guise", "many"] (spFloor K Ct Cb)) (bF0 : Binds K dF ["guise", "many"] []) (kF0 : PySem.W.keepIn K (.ref aF) = true) (mF0 : mg "floor" = some (.ref aF))
    (T : FnOk P w K mg base (CXx P w) 8 aT dT ["_law_one", "_law_many"] (spTable K)) (bT : Binds K dT ["_law_one", "_law_many"] []) (kT : PySem.W.keepIn K (.ref aT) = true) (mT : mg "_law_table" = some (.ref aT))
    (U : FnOk P w K mg base (CXx P w) 8 aU dU ["_law_letters_here", "_law_word_here"] (spNumL K)) (bU : Binds K dU ["_law_letters_here", "_law_word_here"] []) (kU : PySem.W.keepIn K (.ref aU) = true) (mU : mg "_law_number" = some (.ref aU))
    (O : FnOk P w K mg base (CXx P w) 8 aO dO ["letters", "word"] (spNumOf K Cw)) (bO : Binds K dO ["letters", "word"] []) (kO : PySem.W.keepIn K (.ref aO) = true) (mO : mg "number_of" = some (.ref aO))
    (V0 : FnOk P w K mg base (CXx P w) 8 aV dV ["letters", "many", "number"] (spWordOf K Cb)) (bV0 : Binds K dV ["letters", "many", "number"] []) (kV0 : PySem.W.keepIn K (.ref aV) = true) (mV0 : mg "word_of" = some (.ref aV))
    (Y : FnOk P w K mg base (CXx P w) 8 aY dY ["guise", "word"] (spWorn K Cw)) (bY : Binds K dY ["guise", "word"] []) (kY : PySem.W.keepIn K (.ref aY) = true) (mY : mg "worn" = some (.ref aY))
    (R : FnOk P w K mg base (CXx P w) 8 aR dR ["_law_rows_here", "_law_at", "_law_word_here"] (spReadO K)) (bR : Binds K dR ["_law_rows_here", "_law_at", "_law_word_here"] []) (kR : PySem.W.keepIn K (.ref aR) = true) (mR : mg "_law_read" = some (.ref aR))
    (B0 : FnOk P w K mg base (CXx P w) 8 aB dB ["guise"] (spBreadth K)) (bB0 : Binds K dB ["guise"] []) (kB0 : PySem.W.keepIn K (.ref aB) = true) (mB0 : mg "breadth" = some (.ref aB))
    (X : FnOk P w K mg base (CXx P w) 8 aX dX ["guise"] (spSections Ts K)) (bX : Binds K dX ["guise"] []) (kX : PySem.W.keepIn K (.ref aX) = true) (mX : mg "sections" = some (.ref aX))
    (Z : FnOk P w K mg base (CXx P w) 8 aZ dZ ["_law_rows_here", "_law_start"] (spShrunkN K)) (bZ : Binds K dZ ["_law_rows_here", "_law_start"] []) (kZ : PySem.W.keepIn K (.ref aZ) = true) (mZ : mg "_law_shrunk" = some (.ref aZ)) :
    FnOk P w K mg base (CXx P w) 9 f fd ["_law_one", "_law_cell_here"] (spRight32 Ts K) := by
  refine F.okc scR32 (fun vs H Q E h => ?_) (fun cdv A outer s H vs Q E hr h => ?_)
  · obtain ⟨v, c, rows, n, rfl, _⟩ := h
    rfl
  obtain ⟨v, c, one, n, rfl, hTb, dv, GM, n2, n5, h60, gv⟩ := h
  refine ⟨_, pss_cons (ps_set (i := 2) scR32.nd rfl (Or.inl rfl) (pe_callB call_len_seq rfl ml PySem.boot_len (pa_cons (pe_ix ix_tup (pe_ix ix_tup (pv 0) pe_int (fun _ _ => rfl)) pe_int (fun _ _ => rfl)) pa_nil)))
    (pss_cons (ps_set (i := 3) scR32.nd rfl (Or.inl rfl) (pe_call N hr rfl mN kN bN .nil passN (pa_cons (pv 1) (pa_cons pe_int pa_nil))))
    (pss_cons (ps_set (i := 4) scR32.nd rfl (Or.inl rfl) (pe_op op_mod (pe_ix ix_list (pv 3) pe_int (fun _ _ => rfl)) pe_int))
    (pss_cons (ps_set (i := 5) scR32.nd rfl (Or.inl rfl) (pe_call W hr rfl mW kW bW .nil passN (pa_cons (pv 2) (pa_cons (pv 1) (pa_cons pe_int pa_nil)))))
    (pss_cons (ps_if (PW.pt (pw_or (pt_not (pt_val (pe_call I hr rfl mI kI bI .nil passN (pa_cons (pe_call S hr rfl mS kS bS .nil passN (pa_cons (pv 2) pa_nil)) (pa_cons (pe_call C hr rfl mC kC bC .nil passN (pa_cons (pv 2) pa_nil)) pa_nil))))) (pw_or1 (pt_not (pt_val (pe_call I hr rfl mI kI bI .nil passN (pa_cons (pe_call F0 hr rfl mF0 kF0 bF0 .nil passN (pa_cons (pv 0) (pa_cons (pv 4) pa_nil))) (pa_cons (pe_call T hr rfl mT kT bT .nil passN (pa_cons (pv 0) (pa_cons (pv 4) pa_nil))) pa_nil)))))))) (pss_one (ps_ret pe_bl)) pss_nil)
    (pss_cons (ps_set (i := 6) scR32.nd rfl (Or.inl rfl) (pe_call U hr rfl mU kU bU .nil passN (pa_cons (pv 2) (pa_cons (pv 5) pa_nil))))
    (pss_cons (ps_if (PW.pt (pw_or (pt_not (pt_val (pe_call I hr rfl mI kI bI .nil passN (pa_cons (pe_call O hr rfl mO kO bO .nil passN (pa_cons (pv 2) (pa_cons (pv 5) pa_nil))) (pa_cons (pv 6) pa_nil))))) (pw_or1 (pt_not (pt_val (pe_call I hr rfl mI kI bI .nil passN (pa_cons (pe_call V0 hr rfl mV0 kV0 bV0 .nil passN (pa_cons (pv 2) (pa_cons (pe_callB call_len_seq rfl ml PySem.boot_len (pa_cons (pv 5) pa_nil)) (pa_cons (pv 6) pa_nil)))) (pa_cons (pv 5) pa_nil)))))))) (pss_one (ps_ret pe_bl)) pss_nil)
    (pss_cons (ps_if (PW.pt (pw_or (pt_not (pt_val (pe_call I hr rfl mI kI bI .nil passN (pa_cons (pe_call Y hr rfl mY kY bY .nil passN (pa_cons (pv 0) (pa_cons (pv 5) pa_nil))) (pa_cons (pe_ix ix_tup (pe_call R hr rfl mR kR bR .nil passN (pa_cons (pv 0) (pa_cons pe_int (pa_cons (pv 5) pa_nil)))) pe_int (fun _ _ => rfl)) pa_nil))))) (pw_or1 (pt_not (pt_val (pe_call I hr rfl mI kI bI .nil passN (pa_cons (pe_call B0 hr rfl mB0 kB0 bB0 .nil passN (pa_cons (pv 0) pa_nil)) (pa_cons (pv 2) pa_nil)))))))) (pss_one (ps_ret pe_bl)) pss_nil)
    (pss_one (ps_ret (pe_call I hr rfl mI kI bI .nil passN (pa_cons (pe_call X hr rfl mX kX bX .nil passN (pa_cons (pv 0) pa_nil)) (pa_cons (pe_comp rfl csR32 (pi_range1 rfl mr (pa_cons (pe_callB call_len_seq rfl ml PySem.boot_len (pa_cons (pv 0) pa_nil)) pa_nil)) (fun _ _ _ _ _ => pg_name (i := 0) csR32.nd rfl (Or.inl rfl)) (fun _ _ _ _ _ => pe_call Z hr rfl mZ kZ bZ .nil passN (pa_cons (pv 1) (pa_cons (pv 0) pa_nil)))) pa_nil)))))))))))), ?_⟩
  have h1 := GM.some
  obtain ⟨r0, rt, er⟩ : ∃ r0 rt, one = r0 :: rt := by
    cases one with
    | nil => simp at h1
    | cons r0 rt => exact ⟨r0, rt, rfl⟩
  have hl0 := (GM.perm r0 (by rw [er]; simp)).len
  obtain ⟨av, us, rfl, eav, dus⟩ : ∃ (av : Addr) (us : List V), v = .ref av ∧ H av = some (.tup us) ∧ DrL K H (rowsD one) us := by
    simp only [Dr] at dv
    exact dv
  have hlu : us.length = one.length := by rw [← dus.length]; unfold rowsD; rw [List.length_map]
  obtain ⟨x0, ex0, dx0⟩ := rows_at dus (show one[0]? = some r0 by rw [er]; rfl)
  obtain ⟨t, b', c', rfl, et, eb, ec⟩ := rowD_inv dx0
  refine (exA rfl ⟨av, _, _, .ref t, rfl, rfl, SqT.of eav, atI_nat (j := 0) ex0, t, _, _, .ref b', rfl, rfl, SqT.of et, atI_nat (j := 0) rfl, b', exA rfl ⟨.inr (SqT.of eb), ?_⟩⟩)
  rw [List.length_map, hl0]
  refine (exA rfl ⟨c, 3, rfl, by lia, fun an H1 nums s1 e1 hN => ?_⟩)
  obtain ⟨y0, ey0⟩ : ∃ y0, nums[0]? = some y0 := ⟨_, List.getElem?_eq_getElem (by have := hN.1; lia)⟩
  obtain ⟨m, hm⟩ := nat_of (x := y0 % 4) (Int.emod_nonneg _ (by decide))
  have hm4 : m < 4 := by have := Int.emod_lt_of_pos y0 (show (0 : Int) < 4 by decide); lia
  have hf : n ^ m ≤ 1024 := Nat.le_trans (Nat.pow_le_pow_left n5 m) (Nat.le_trans (Nat.pow_le_pow_right (by decide) (show m ≤ 3 by lia)) (by decide))
  refine (exA rfl ⟨an, _, _, .int y0, rfl, rfl, SqL.of e1, atI_nat (j := 0) (by rw [List.getElem?_map, ey0]; rfl), _, exA rfl ⟨rfl, pmod, ?_⟩⟩)
  refine (exA rfl (exA rfl ⟨n, c, 12, rfl, n2, n5, by lia, fun vw H2 wd s2 dw lw hwl => ?_⟩))
  have s02 := s1.trans s2
  obtain ⟨aw, rfl, eaw⟩ := Dr.its_inv dw
  refine (exA rfl ⟨n, rfl, n2, by lia, fun z1 H3 s3 d3 => (exA rfl ⟨n, rfl, n2, by lia, fun z2 H4 s4 d4 => ?_⟩)⟩)
  obtain ⟨sd0, sf0⟩ := still_small (n := n) (by lia)
  refine ⟨_, _, exA rfl ⟨d3.mono s4, d4, Nat.lt_succ_of_lt sd0, sf0, fun H5 s5 => (exA rfl (iteF ?_))⟩⟩
  have s25 := s3.trans (s4.trans s5)
  have s05 := s02.trans s25
  refine (exA rfl (exA rfl ⟨.ref av, one, n, (m : Int), (by rw [← hm]; rfl), dv.mono s05, GM, n2, n5, by lia, fun z => absurd z (by lia), fun _ z => absurd hf (by rw [Int.toNat_natCast] at z; lia), fun _ _ r6 H6 s6 _ e6 => ?_⟩))
  rw [Int.toNat_natCast] at e6
  refine (exA rfl (exA rfl ⟨.ref av, one, n, m, (by rw [← hm]; rfl), dv.mono (s05.trans s6), GM, n2, n5, hf, fun r7 H7 s7 _ e7 => ?_⟩))
  have hl := tabW_len n one m
  refine ⟨_, _, .lst ((tabW n one m).map D.int), rfl, Dr.lst (s7 _ _ e6) (DrL.ints _), Dr.lst e7 (DrL.ints _), by rw [lst_dep]; decide, lst_few (by lia), fun H8 s8 => (exA rfl (iteF ?_))⟩
  have s58 := s6.trans (s7.trans s8)
  have s08 := s05.trans s58
  have s28 := s25.trans s58
  have dw8 := dw.mono s28
  obtain ⟨fw, nw0, nw1⟩ := num_word' (n := n) (by lia) lw
  refine (exA rfl (exA rfl ⟨n, .ref aw, wd, rfl, dw8, by lia, fun H9 s9 => ?_⟩))
  refine (exA rfl (exA rfl ⟨n, .ref aw, wd, rfl, dw8.mono s9, by lia, by lia, fun _ H10 s10 => (exA rfl ?_), fun z => absurd lw z⟩))
  refine ⟨_, _, .int (numW n wd), rfl, Dr.int _, Dr.int _, by simp [D.dep], by simp [D.few], fun H11 s11 => (exA rfl (iteF ?_))⟩
  have s811 := s9.trans (s10.trans s11)
  have hgx : GoodX n (wd.length : Int) (numW n wd) := ⟨by lia, by lia, nw0, by rw [Int.toNat_natCast]; exact nw1⟩
  refine (exA rfl (exA rfl ⟨aw, exA rfl ⟨.inr (SqT.of (s811 _ _ (s28 _ _ eaw))), exA rfl ⟨n, (wd.length : Int), numW n wd, (by rw [List.length_map]; rfl), by lia, by lia, fun _ t12 H12 s12 e12 => ?_, fun z => absurd hgx z⟩⟩⟩))
  rw [Int.toNat_natCast, fw] at e12
  have s812 := s811.trans s12
  refine (exA rfl ⟨_, _, D.its wd, rfl, Dr.tup e12 (DrL.ints _), dw8.mono s812, by rw [its_dep]; decide, its_few5 (by lia), fun H13 s13 => (exA rfl (iteF ?_))⟩)
  have s813 := s812.trans s13
  have s013 := s08.trans s813
  have dw13 := dw8.mono s813
  refine (exA rfl (exA rfl ⟨.ref av, .ref aw, one, n, wd, rfl, dv.mono s013, dw13, GM, by lia, by lia, fun _ t14 H14 s14 e14 => ?_, fun z => absurd lw z⟩))
  refine (exA rfl (exA rfl ⟨.ref av, .ref aw, one, n, wd, 0, rfl, dv.mono (s013.trans s14), dw13.mono s14, GM, by lia, by lia, lw, Int.le_refl 0, by lia, fun r15 t15 H15 s15 er15 et15 => ?_⟩))
  have hlo : (outW one 0 wd).length ≤ 5000 := by rw [outW_len]; lia
  refine ⟨r15, _, _, .ref t15, rfl, rfl, SqT.of er15, atI_nat (j := 0) rfl, _, _, D.its (outW one 0 wd), rfl, Dr.tup (s15 _ _ e14) (DrL.ints _), Dr.tup et15 (DrL.ints _), by rw [its_dep]; decide, its_few5 hlo, fun H16 s16 => (exA rfl (iteF ?_))⟩
  have s016 := s013.trans (s14.trans (s15.trans s16))
  refine (exA rfl ⟨.ref av, r0, rowsD rt, rfl, (by rw [er] at dv; exact dv.mono s016), by lia, fun H17 s17 => (exA rfl ⟨_, _, .int n, rfl, (by rw [hl0]; exact Dr.int _), Dr.int _, by simp [D.dep], by simp [D.few], fun H18 s18 => (exA rfl (iteF ?_))⟩)⟩)
  have s018 := s016.trans (s17.trans s18)
  obtain ⟨sd1, sf1⟩ := secs_small GM (by lia) h60
  refine (exA rfl ⟨.ref av, one, n, rfl, Tabs.mono hTb s018, dv.mono s018, GM, by lia, h60, fun vx H19 s19 d19 => ?_⟩)
  have sl19 := (Same.l s018).trans s19
  have eav19 := sl19.g eav
  refine (exA rfl ⟨av, exA rfl ⟨.inr (SqT.of eav19), ?_⟩⟩)
  rw [hlu]
  refine ⟨((one.length : Nat) : Int), rfl, by lia, by lia, fun l hl => comp_range (n := ((one.length : Nat) : Int).toNat) (fun i ys H2 => ys.length = i ∧ i ≤ one.length ∧ Same H19 H2 ∧ DrL K H2 (fmD (secs one i)) ys) ⟨rfl, Nat.zero_le _, same_up (Same.refl H19) hl, DrL.nil⟩ (by rw [Int.toNat_natCast]; exact line_le (by lia)) (fun i ys H2 h => h.1) (fun i ys H2 hi h hy => ?_) (fun ys H2 h hy => ?_)⟩
  · obtain ⟨hyl, _, s2', d2'⟩ := h
    have hi' : i < one.length := by lia
    have G2 := swM_good GM (s := (i : Int)) (by lia) (by lia)
    have sl := sl19.trans (Same.l s2')
    refine (exA rfl (exA rfl ⟨av, n, swM one i, sw i, us, (by rw [sw_zero, Int.zero_add]; rfl), .inr (SqT.of (s2' _ _ eav19)), swM_rowsN (by lia) (by lia) (dus.monoL sl), sw_inj i, G2, by lia, fun x H3 s3 d3 => ?_⟩))
    have e3 := s3 _ _ hy
    refine ⟨e3, by rw [List.length_append, hyl]; rfl, by lia, same_over (s2'.trans s3) hl, ?_⟩
    rw [secs_snoc, fmD_snoc]
    refine DrL.append ((d2'.mono s3).keyed (tup_over e3) (gs_key _)) (DrL.one (d3.keyed (tup_over e3) ?_))
    have := gs_key [shr (swM one (i : Int))]
    simp only [List.map_cons, List.map_nil, D.keyL] at this
    exact this.1
  · obtain ⟨hyl, _, s2', d2'⟩ := h
    rw [Int.toNat_natCast] at d2'
    exact ⟨_, _, exA rfl ⟨d19.mono s2', Dr.lst hy d2', sd1, sf1, fun H21 s21 => gv H21 (sl19.trans (Same.l (s2'.trans s21)))⟩⟩
end
end Gu
namespace Gu
open PySem L2
section
variable {P : Program} {w : World} {K : PySem.W.Frag} {mg : Str → Option Value} {base : Heap} {f g : Addr} {fd gd : FuncData} {CX : CXT} [NoE CX]
noncomputable abbrev nComeF : List Str := ["first", "row_at", "order", "places", "found", "rearranging", "goings", "going"]
theorem scComeF : FnScope nComeF ["first", "row_at"] (defScope sCome) := ⟨rfl, rfl, rfl, by decide +kernel, rfl, by decide +kernel, by decide +kernel⟩
theorem csComeF : CompS nComeF (defScope sCome) ["going", "places"] [none, some 3] (csc [(".0", .local), ("going", .local), ("places", .free)]) := ⟨rfl, by decide +kernel, by decide +kernel, by decide +kernel, rfl, by decide +kernel, by decide +kernel⟩
theorem ok_comeF (F : Fun K "rows_come_to" "rows_come_to" sCome f fd) (ml : mg "len" = none) (mt : mg "tuple" = none) : FnOk P w K mg base CX 5 f fd ["first", "row_at"] (spComeF P w K mg base CX 4) := by
  refine F.okc scComeF (fun vs H Q E h => ?_) (fun cdv A outer s H vs Q E hr h => ?_)
  · obtain ⟨a, n, rows, nm, rfl, _⟩ := h
    rfl
  obtain ⟨fa, n, rows, nm, rfl, ni, hV, G, hn, q⟩ := h
  have hu := hu_of hr
  refine ⟨_, pss_cons (ps_set (i := 2) scComeF.nd rfl (Or.inl rfl) (pe_lst (pa_cons (pv 0) pa_nil)))
    (pss_cons (ps_set (i := 3) scComeF.nd rfl (Or.inr rfl) (pe_disp (pps_cons (pv 0) pe_int pps_nil) rfl rfl (by simp) (by decide)))
    (pss_cons (ps_set (i := 4) scComeF.nd rfl (Or.inl rfl) (pe_lst pa_nil))
    (pss_cons (ps_while PassesOwn.never (pt_cmpR op_lt (pe_callB call_len_seq rfl ml PySem.boot_len (pa_cons (pv 4) pa_nil)) (pe_callB call_len_seq rfl ml PySem.boot_len (pa_cons (pv 2) pa_nil)) (nomark _))
      (pss_cons (ps_asg (pe_callV (CX := CX) 1 hr (pa_cons (pe_ix ix_list (pv 2) (pe_callB call_len_seq rfl ml PySem.boot_len (pa_cons (pv 4) pa_nil)) (fun _ _ => rfl)) pa_nil)) (pg_tup rfl (pgs_cons (pg_name (i := 5) scComeF.nd rfl (Or.inl rfl)) (pgs_cons (pg_name (i := 6) scComeF.nd rfl (Or.inl rfl)) pgs_nil))))
      (pss_cons (ps_for PassesOwn.never rfl (pi_tup (pv 6)) (pg_name (i := 7) scComeF.nd rfl (Or.inl rfl))
        (pss_one (ps_if (pt_cmp (pc_dnotin hu (pv 7) (pv 3)))
          (pss_cons (ps_dput hu (pv 3) (pv 7) (pe_callB call_len_seq rfl ml PySem.boot_len (pa_cons (pv 2) pa_nil)) rfl)
          (pss_one (ps_expr (pe_bm PySem.F.plainAttrs_list PySem.F.slot_list_append PySem.F.type_list_append mt_append (pv 2) (pa_cons (pv 7) pa_nil))))) pss_nil)))
      (pss_one (ps_expr (pe_bm PySem.F.plainAttrs_list PySem.F.slot_list_append PySem.F.type_list_append mt_append (pv 4) (pa_cons (pe_tup (pa_cons (pv 5) (pa_cons (pe_callTy call_tuple_of rfl mt PyProof.Rows.boot_tuple
        (pa_cons (pe_comp rfl csComeF (pi_tup (pv 6)) (fun _ _ _ _ _ => pg_name (i := 0) csComeF.nd rfl (Or.inl rfl)) (fun _ _ _ _ _ => pe_dget hu (pv 1) (pv 0) (fun _ _ => rfl))) pa_nil)) pa_nil))) pa_nil)))))))
    (pss_one (ps_ret (pv 4)))))), ?_⟩
  refine (exA rfl ⟨by show 1 ≤ sizeLine; decide, fun lo hlo => fun lp hlp => (exA rfl ⟨upd_same, [(Sum.inl (nm 0), V.int 0)], rfl, by simp, by show 0 ≤ sizeLine; decide, fun lf hlf => ?_⟩)⟩)
  have s1 : Same H (upd H lo (.lst [.int (nm 0)])) := same_up (Same.refl H) hlo
  have hlp0 : H lp = none := s1.free hlp
  have nlo : lo ≠ lp := ne_of_none upd_same hlp
  have s2 : Same H (upd (upd (upd H lo (.lst [.int (nm 0)])) lp (.dK [])) lp (.dK (mergeK [] [(Sum.inl (nm 0), V.int 0)]))) := same_over (same_up s1 hlp) hlp0
  have hlf0 : H lf = none := s2.free hlf
  have nlf : lo ≠ lf := ne_of_none (show upd (upd (upd H lo (.lst [.int (nm 0)])) lp (.dK [])) lp (.dK (mergeK [] [(Sum.inl (nm 0), V.int 0)])) lo = _ by rw [upd_ne nlo, upd_ne nlo]; exact upd_same) hlf
  have nlpf : lp ≠ lf := ne_of_none upd_same hlf
  have s3 := same_up (o := HO.lst []) s2 hlf
  have OL := order_line G
  have hol := OL.1.len
  have h400 := G.few
  refine ⟨fun m σ H2 => ∃ (i : Nat) (o : List Int) (u1 u2 u3 : Option V) (fs : List V), m = rows.length + 1 - i ∧ σ = [some (.int (nm 0)), some (.ref fa), some (.ref lo), some (.ref lp), some (.ref lf), u1, u2, u3] ∧ Same H H2 ∧ H2 lo = some (.lst (o.map (nV nm))) ∧ H2 lp = some (.dK (prs (kN nm) o)) ∧ H2 lf = some (.lst fs) ∧
      DrL K H2 (rowsD ((found rows).take i)) fs ∧ Line rows o ∧ i ≤ o.length ∧ bfs rows (rows.length + 1 - i) i o = order rows, ⟨_, 0, [0], none, none, none, [], rfl, rfl, s3, ?_, ?_, upd_same, DrL.nil, line0 G, by simp, rfl⟩, ?_⟩
  · rw [upd_ne nlf, upd_ne nlo, upd_ne nlo]; exact upd_same
  · rw [upd_ne nlpf]; exact upd_same
  rintro m σ H2 ⟨i, o, u1, u2, u3, fs, rfl, rfl, t2, glo, glp, glf, df, L, hi, hb⟩
  have hfl : fs.length = i := by
    have := df.length
    unfold rowsD at this
    rw [List.length_map, List.length_take] at this
    obtain ⟨mm, em⟩ := bfs_sub rows (rows.length + 1 - i) i o
    rw [hb] at em
    have : (found rows).length = (order rows).length := by unfold found foundOf; rw [List.length_map]
    have : o.length ≤ (order rows).length := by rw [em, List.length_append]; lia
    lia
  refine (exA rfl ⟨lf, exA rfl ⟨.inl (SqL.of glf), exA rfl ⟨lo, exA rfl ⟨.inl (SqL.of glo), _, exA rfl ⟨rfl, exA rfl ?_⟩⟩⟩⟩⟩)
  have hol2 : (o.map (nV nm)).length = o.length := List.length_map _
  refine ite2 (fun c => ?_) (fun c => ?_)
  · have c' := of_decide_eq_true c
    rw [hfl, hol2] at c'
    have hio : i < o.length := by lia
    have eo : o[i]? = some o[i] := List.getElem?_eq_getElem hio
    have hro : o[i] ∈ o := List.getElem_mem hio
    generalize o[i] = r at eo hro
    obtain ⟨r0, r1⟩ := L.rg r hro
    have hrow := row_mem r0 r1
    have hgl := G.len _ hrow
    have hgo := G.go _ hrow
    have hlen := L.len
    refine cutN fun N nx2 => ?_
    refine ⟨fa, spRow K rows nm, rfl, (hV.mono t2).1, exA rfl (exA rfl ⟨lf, exA rfl ⟨.inl (SqL.of glf), lo, _, _, V.int (nm r), rfl, rfl, SqL.of glo, atI_nat (by rw [List.getElem?_map, hfl, eo]; rfl), hV.mono t2, r, rfl, r0, r1, fun v Hc sc dv => ?_⟩⟩)⟩
    obtain ⟨t, b, cc, rfl, et, eb, ec⟩ := rowD_inv dv
    have t2 := t2.trans sc
    have glo := sc _ _ glo
    have glp := sc _ _ glp
    have glf := sc _ _ glf
    have df := df.mono sc
    refine ⟨t, exA rfl ⟨SqT.of et, rfl, _, exA rfl ⟨_, exA rfl ⟨rfl, ?_⟩⟩⟩⟩
    unfold rowN at eb ec
    simp only at eb ec
    generalize hgs : (row rows r).2 = gs at *
    refine ⟨_, rfl, cc, rfl, ⟨_, SqT.of ec⟩, tupO (xs := (gs.map nm).map V.int) (fun j σ H3 => ∃ u : Option V, σ = [some (.int (nm 0)), some (.ref fa), some (.ref lo), some (.ref lp), some (.ref lf), some (.ref b), some (.ref cc), u] ∧ Same H H3 ∧ TupK Hc H3 ∧ H3 lo = some (.lst ((addAll o (gs.take j)).map (nV nm))) ∧ H3 lp = some (.dK (prs (kN nm) (addAll o (gs.take j)))) ∧ H3 lf = some (.lst fs))
      ⟨_, rfl, t2, TupK.refl _, glo, glp, glf⟩ (fun j σ H3 _ h => by obtain ⟨_, _, _, k3, _⟩ := h; exact SqT.of (k3 _ _ ec)) (fun j x σ H3 hx h Ed nx3 => ?_) (fun σ H3 h => ?_)⟩
    · obtain ⟨u, rfl, t3, k3, e1, e2, e3⟩ := h
      have hjl : j < gs.length := by have := (List.getElem?_eq_some_iff.mp hx).1; rwa [List.length_map, List.length_map] at this
      have eg : gs[j]? = some gs[j] := List.getElem?_eq_getElem hjl
      generalize gs[j] = gj at eg
      have ex : x = V.int (nm gj) := by rw [List.getElem?_map, List.getElem?_map, eg] at hx; exact (Option.some.inj hx).symm
      subst ex
      have et' : addAll o (gs.take (j + 1)) = addN (addAll o (gs.take j)) gj := by rw [List.take_add_one, eg]; exact addAll_snoc _ _ _
      have hal : (addAll o (gs.take j)).length ≤ 4500 := by
        have := addAll_len (gs.take j) o
        rw [List.length_take] at this
        lia
      generalize addAll o (gs.take j) = oj at *
      refine (exA rfl (exA rfl ⟨lp, exA rfl ⟨DGet.k (k := kN nm gj) e2, exA rfl ?_⟩⟩))
      have hv := prs_val (κ := Key) (kN nm) (kN_inj ni) oj gj
      by_cases hm : gj ∈ oj
      · rw [hv, if_pos hm]
        refine iteF (nx3 _ _ (exA rfl ⟨t3, k3, ?_, ?_, e3⟩))
        · rw [et', addN_mem hm]; exact e1
        · rw [et', addN_mem hm]; exact e2
      · rw [hv, if_neg hm]
        have nlop : lo ≠ lp := ne_of e1 e2 (by intro z; cases z)
        refine iteT (exA rfl ⟨lo, exA rfl ⟨.inl (SqL.of e1), exA rfl (exA rfl ⟨lp, exA rfl ⟨DPut.k (k := kN nm gj) e2 (by rw [prsF_len]; exact small5 (by lia)), ?_⟩⟩)⟩⟩)
        have e1' : upd H3 lp (.dK (putK (prs (kN nm) oj) (kN nm gj) (V.int ((oj.map (nV nm)).length : Nat)))) lo = some (.lst (oj.map (nV nm))) := by rw [upd_ne nlop]; exact e1
        refine (exA rfl ⟨.inl ⟨rfl, _, SqL.of e1'⟩, exA rfl ⟨lo, _, exA rfl ⟨rfl, e1', by rw [List.length_map]; exact small5 (by lia), ?_⟩⟩⟩)
        refine nx3 _ _ (exA rfl ⟨same_over (same_over t3 hlp0) hlo, TupK.up (TupK.up k3 e2 (fun _ z => by cases z)) e1' (fun _ z => by cases z), ?_, ?_, ?_⟩)
        · rw [upd_same, et', addN_new hm, List.map_append]; rfl
        · rw [upd_ne nlop.symm, upd_same, et', addN_new hm, List.length_map, prs_put (kN nm) (kN_inj ni) hm]
        · rw [upd_ne nlf.symm, upd_ne nlpf.symm]; exact e3
    · obtain ⟨u, rfl, t3, k3, e1, e2, e3⟩ := h
      rw [List.length_map, List.length_map, List.take_length] at e1 e2
      obtain ⟨mm, em⟩ := bfs_sub rows (rows.length + 1 - (i + 1)) (i + 1) (addAll o gs)
      have hb' : bfs rows (rows.length + 1 - (i + 1)) (i + 1) (addAll o gs) = order rows := by
        rw [← hb, show rows.length + 1 - i = (rows.length + 1 - (i + 1)) + 1 by lia, bfs_step eo, hgs]
      rw [hb'] at em
      have L' : Line rows (addAll o gs) := by rw [← hgs]; exact L.add G hro
      obtain ⟨m1, em1⟩ := addAll_sub gs o
      have hoi : (order rows)[i]? = some r := by rw [em, em1, List.append_assoc, List.getElem?_append_left hio]; exact eo
      have hi' : i + 1 ≤ (addAll o gs).length := by rw [em1, List.length_append]; lia
      have hmem : ∀ g ∈ gs, g ∈ addAll o gs := fun g hg => addAll_mem.mpr (.inr hg)
      have efound : (found rows).take (i + 1) = (found rows).take i ++ [((row rows r).1, gs.map fun g => (((addAll o gs).idxOf g : Nat) : Int))] := by
        have e4 : (found rows)[i]? = some ((row rows r).1, gs.map fun g => (((addAll o gs).idxOf g : Nat) : Int)) := by
          unfold found foundOf
          rw [List.getElem?_map, hoi]
          show some ((row rows r).1, (row rows r).2.map fun g => (((order rows).idxOf g : Nat) : Int)) = _
          rw [hgs]
          congr 2
          refine List.map_congr_left fun g hg => ?_
          rw [em, idxOf_app (hmem g hg)]
        rw [List.take_add_one, e4]
        rfl
      generalize addAll o gs = o' at *
      refine (exA rfl ⟨.inl ⟨rfl, _, SqL.of e3⟩, exA rfl (exA rfl ⟨cc, rfl, ⟨_, SqT.of (k3 _ _ ec)⟩, fun l4 hl4 => comp_tup (xs := (gs.map nm).map V.int) (fun j ys H4 => j ≤ gs.length ∧ ys = ((gs.take j).map fun g => ((o'.idxOf g : Nat) : Int)).map V.int ∧ Same H3 H4) ⟨Nat.zero_le _, rfl, same_up (Same.refl H3) hl4⟩ (fun j ys H4 _ h => SqT.of (h.2.2 _ _ (k3 _ _ ec))) (by rw [List.length_map, List.length_map]; exact line_le (by lia)) (fun j ys H4 h => ?_) (fun j x ys H4 hx h hy => ?_) (fun ys H4 h hy => ?_)⟩)⟩)
      · obtain ⟨hj, rfl, _⟩ := h
        rw [List.length_map, List.length_map, List.length_take]
        lia
      · obtain ⟨hj, rfl, s4⟩ := h
        have hjl : j < gs.length := by have := (List.getElem?_eq_some_iff.mp hx).1; rwa [List.length_map, List.length_map] at this
        have eg : gs[j]? = some gs[j] := List.getElem?_eq_getElem hjl
        have hgm := hmem _ (List.getElem_mem hjl)
        generalize gs[j] = gj at eg hgm
        have ex : x = V.int (nm gj) := by rw [List.getElem?_map, List.getElem?_map, eg] at hx; exact (Option.some.inj hx).symm
        subst ex
        have hv := prs_val (κ := Key) (kN nm) (kN_inj ni) o' gj
        rw [if_pos hgm] at hv
        refine (exA rfl (exA rfl ⟨lp, exA rfl ⟨(by rw [← hv]; exact DGet.k (k := kN nm gj) (s4 _ _ e2)), hy, hjl, ?_, same_over s4 hl4⟩⟩))
        rw [take_snoc _ eg, List.map_append]
        rfl
      · obtain ⟨_, rfl, s4⟩ := h
        rw [List.length_map, List.length_map, List.take_length] at hy
        refine ⟨l4, exA rfl (.inl ⟨SqL.of hy, fun t4 ht4 => ⟨by show 2 ≤ sizeLine; decide, fun t5 ht5 => ?_⟩⟩)⟩
        have s5 := same_up (o := HO.tup ((gs.map fun g => ((o'.idxOf g : Nat) : Int)).map V.int)) s4 ht4
        have s6 := same_up (o := HO.tup [.ref b, .ref t4]) s5 ht5
        have e3' := s6 _ _ e3
        refine ⟨lf, fs, .ref t5, rfl, rfl, e3', by rw [hfl]; exact small5 (by lia), ?_⟩
        have kk : TupK Hc (upd (upd (upd H4 t4 (.tup ((gs.map fun g => ((o'.idxOf g : Nat) : Int)).map V.int))) t5 (.tup [.ref b, .ref t4])) lf (.lst (fs ++ [.ref t5]))) := TupK.up (k3.trans (TupK.of s6)) e3' (fun _ z => by cases z)
        have nt5 : t5 ≠ lf := ne_of upd_same e3' (by intro z; cases z)
        have nt4 : t4 ≠ t5 := ne_of_none upd_same ht5
        have nt4f : t4 ≠ lf := ne_of (show upd (upd H4 t4 (.tup ((gs.map fun g => ((o'.idxOf g : Nat) : Int)).map V.int))) t5 (.tup [.ref b, .ref t4]) t4 = some (.tup ((gs.map fun g => ((o'.idxOf g : Nat) : Int)).map V.int)) by rw [upd_ne nt4]; exact upd_same) e3' (by intro z; cases z)
        refine nx2 (rows.length + 1 - (i + 1)) _ _ (by lia) ⟨i + 1, o', _, _, _, fs ++ [.ref t5], rfl, rfl, same_over (t3.trans s6) hlf0, ?_, ?_, upd_same, ?_, L', hi', hb'⟩
        · rw [upd_ne nlf]; exact s6 _ _ e1
        · rw [upd_ne nlpf]; exact s6 _ _ e2
        · rw [efound]
          unfold rowsD
          rw [List.map_append]
          refine DrL.append (df.keyed kk (rows_key _)) (DrL.one (rowD_mk (b := b) (c := t4) ?_ (kk _ _ eb) ?_))
          · rw [upd_ne nt5]; exact upd_same
          · rw [upd_ne nt4f, upd_ne nt4]; exact upd_same
  · have c' := of_decide_eq_false (Bool.eq_false_iff.mpr c)
    rw [hfl, hol2] at c'
    have e : order rows = o := by rw [← hb]; exact bfs_stop (by lia)
    have e2 : (found rows).take i = found rows := List.take_of_length_le (by unfold found foundOf; rw [List.length_map, e]; lia)
    rw [e2] at df
    exact (exA rfl (q lf H2 t2 ⟨fs, glf, df⟩))
end
end Gu
namespace Gu
open PySem L2
section
variable {P : Program} {w : World} {K : PySem.W.Frag} {mg : Str → Option Value} {base : Heap} {f g : Addr} {fd gd : FuncData} {CX : CXT} [NoE CX]
theorem scKinds : FnScope ["rows", "kinds", "count"] ["rows"] (defScope sKinds) := ⟨rfl, rfl, rfl, by decide +kernel, rfl, by decide +kernel, by decide +kernel⟩
theorem csKinds1 : CompS ["rows", "kinds", "count"] (defScope sKinds) ["rearranging", "goings"] [none, none] (csc [(".0", .local), ("rearranging", .local), ("goings", .local)]) := ⟨rfl, by decide +kernel, by decide +kernel, by decide +kernel, rfl, by decide +kernel, by decide +kernel⟩
theorem csKinds2 : CompS ["rows", "kinds", "count"] (defScope sKinds) ["kind", "rearranging", "goings", "kinds"] [none, none, none, some 1] (csc [(".0", .local), ("kind", .local), ("rearranging", .local), ("goings", .local), ("kinds_gone_to", .globalImplicit), ("kinds", .free)]) := ⟨rfl, by decide +kernel, by decide +kernel, by decide +kernel, rfl, by decide +kernel, by decide +kernel⟩
theorem ok_kindsX {k Ct : Addr} {kd : FuncData} {tm : Tok} {bmB : List Value} {B newId initId : String} (mC : mg "TooMany" = some (.ref Ct)) (xC : PySem.W.excIn K Ct bmB newId = true) (hB : ExcBaseFacts B newId initId bmB) (F : Fun K "kinds_of_rows" "kinds_of_rows" sKinds f fd) (mz : mg "zip" = none) (mx : mg "max" = none) (mM : mg "MOST_FORM_ROWS" = some (.int 60 tm))
    (G : FnOk P w K mg base (CXx P w) 1 g gd ["things"] (spNumbered K)) (bG : Binds K gd ["things"] []) (kG : PySem.W.keepIn K (.ref g) = true) (mG : mg "numbered" = some (.ref g))
    (T : FnOk P w K mg base (CXx P w) 1 k kd ["kinds", "goings"] (spGone K)) (bT : Binds K kd ["kinds", "goings"] []) (kT : PySem.W.keepIn K (.ref k) = true) (mT : mg "kinds_gone_to" = some (.ref k)) : FnOk P w K mg base (CXx P w) 2 f fd ["rows"] (spKindsX K Ct) := by
  refine F.okx scKinds (fun vs H Q E h => ?_) (fun cdv A outer s H vs Q E hr h => ?_)
  · obtain ⟨a, n, rows, rfl, _⟩ := h
    rfl
  obtain ⟨a, n, rows, rfl, ⟨us, ea, da⟩, GF, hn, q, qx⟩ := h
  have h400 := GF.few
  refine ⟨_, pss_cons (ps_set (i := 1) scKinds.nd rfl (Or.inr rfl) (pe_call G hr rfl mG kG bG .nil passN (pa_cons (pe_comp rfl csKinds1 (pi_list (pv 0)) (fun _ _ _ _ _ => pgT K (n := 2) rfl rfl (pgs_cons (pg_name (i := 0) csKinds1.nd rfl (Or.inl rfl)) (pgs_cons (pg_name (i := 1) csKinds1.nd rfl (Or.inl rfl)) pgs_nil))) (fun _ _ _ _ _ => pv 0)) pa_nil)))
    (pss_cons (ps_set (i := 2) scKinds.nd rfl (Or.inl rfl) pe_int)
    (pss_cons (ps_while PassesOwn.leaving (pt_cmpR op_lt (pv 2) (pe_op op_add (pe_callB (cMax K rfl rfl) rfl mx PyProof.Rows.boot_max (pa_cons (pv 1) pa_nil)) pe_int) (nomark _))
      (pss_cons (ps_set (i := 2) scKinds.nd rfl (Or.inl rfl) (pe_op op_add (pe_callB (cMax K rfl rfl) rfl mx PyProof.Rows.boot_max (pa_cons (pv 1) pa_nil)) pe_int))
      (pss_cons (ps_if (pt_cmpR op_gt (pv 2) (pe_glob (v := .int 60) rfl mM ⟨_, rfl⟩) (nomark _)) (pss_one (ps_raise mC rfl xC hB pe_str)) pss_nil)
      (pss_one (ps_set (i := 1) scKinds.nd rfl (Or.inr rfl) (pe_call G hr rfl mG kG bG .nil passN (pa_cons (pe_comp rfl csKinds2 (piZip K rfl rfl mz (pa_cons (pv 1) (pa_cons (pv 0) pa_nil)))
        (fun _ _ _ _ _ => pgT K (n := 2) rfl rfl (pgs_cons (pg_name (i := 0) csKinds2.nd rfl (Or.inl rfl)) (pgs_cons (pgT K (n := 2) rfl rfl (pgs_cons (pg_name (i := 1) csKinds2.nd rfl (Or.inl rfl)) (pgs_cons (pg_name (i := 2) csKinds2.nd rfl (Or.inl rfl)) pgs_nil))) pgs_nil)))
        (fun _ _ _ _ _ => pe_tup (pa_cons (pv 0) (pa_cons (pe_call T hr rfl mT kT bT .nil passN (pa_cons (pv 3) (pa_cons (pv 2) pa_nil))) pa_nil)))) pa_nil)))))))
    (pss_one (ps_ret (pv 1))))), ?_⟩
  have hul : us.length = rows.length := by have := da.length; unfold rowsD at this; rw [List.length_map] at this; exact this.symm
  have hrs := GF.some
  refine (exA rfl ⟨a, rfl, ⟨_, SqL.of ea⟩, fun l1 hl1 => comp_list (xs := us) (fun i ys H2 => i ≤ us.length ∧ ys.length = i ∧ Same H H2 ∧ DrL K H2 ((rows.take i).map fun r => D.its r.1) ys) ⟨Nat.zero_le _, rfl, same_up (Same.refl H) hl1, DrL.nil⟩ (fun i ys H2 _ h => SqL.of (h.2.2.1 _ _ ea)) (line_le (by lia)) (fun i ys H2 h => h.2.1) (fun i x ys H2 hx h hy => ?_) (fun ys H2 h hy => ?_)⟩)
  · obtain ⟨hi, hyl, s2, d2⟩ := h
    have hil : i < us.length := (List.getElem?_eq_some_iff.mp hx).1
    have er : rows[i]? = some rows[i] := List.getElem?_eq_getElem (by lia)
    obtain ⟨x', ex, dx⟩ := rows_at da er
    rw [hx] at ex
    cases ex
    generalize rows[i] = ri at er dx
    obtain ⟨t, b, c, rfl, et, eb, ec⟩ := rowD_inv (dx.mono s2)
    refine ⟨t, exA rfl ⟨SqT.of et, rfl, _, exA rfl ⟨_, exA rfl ⟨rfl, exA rfl ⟨hy, hil, by rw [List.length_append, hyl]; rfl, same_over s2 hl1, ?_⟩⟩⟩⟩⟩
    rw [take_snoc _ er]
    have kk : TupK H2 (upd H2 l1 (.lst (ys ++ [.ref b]))) := TupK.up (TupK.refl _) hy (fun _ z => by cases z)
    exact DrL.append (d2.keyed kk (by have := its_keys ((rows.take i).map (·.1)); rw [List.map_map] at this; exact this)) (DrL.one (Dr.tup (kk _ _ eb) (DrL.ints _)))
  obtain ⟨_, hyl, s2, d2⟩ := h
  rw [List.take_of_length_le (by lia)] at d2
  have e1 : (rows.map fun r => D.its r.1) = (rows.map (·.1)).map D.its := by rw [List.map_map]; rfl
  rw [e1] at d2
  refine ⟨l1, ys, exA rfl ⟨hy, d2, fun d hd => ?_, by rw [List.length_map, List.length_map]; lia, fun l2 H3 s3 e3 => ?_⟩⟩
  · obtain ⟨p, _, rfl⟩ := List.mem_map.mp hd
    exact ⟨its_key p, by rw [its_dep]; decide, _, rfl⟩
  rw [numb_map D.its (fun _ _ => its_inj)] at e3
  have K0 := goodK0 GF
  refine ⟨fun m σ H4 => ∃ (c : Int) (ks : List Int) (l : Addr), σ = [some (.ref a), some (.ref l), some (.int c)] ∧ Same H H4 ∧ H4 l = some (.lst (ks.map V.int)) ∧ GoodK rows ks ∧ NumbK rows ks ∧ (c = 0 ∨ c ≤ 60) ∧ 0 ≤ c ∧ (rows.length : Int) + 1 ≤ m + c ∧ kloop rows m c ks = kinds rows,
    ⟨rows.length + 1, 0, _, l2, rfl, s2.trans s3, e3, K0, numbK0 rows, .inl rfl, Int.le_refl _, by lia, rfl⟩, ?_⟩
  rintro m σ H4 ⟨c, ks, l, rfl, t4, e4, GK, NK, hc6, hc0, hm, hk⟩
  obtain ⟨x1, x2⟩ := cnt_max (ks_ne GF GK) fun k hk => (GK.rg k hk).1
  obtain ⟨c1, c2⟩ := cnt_le (ks_ne GF GK) GK.rg
  have ec : cnt ks - 1 + 1 = cnt ks := by lia
  refine (exA rfl (exA rfl ⟨l, ks, cnt ks - 1, rfl, SqL.of e4, x1, x2, _, exA rfl ⟨rfl, _, exA rfl ⟨rfl, exA rfl ?_⟩⟩⟩))
  refine ite2 (fun cc => ?_) (fun cc => ?_)
  · have c' := of_decide_eq_true cc
    rw [ec] at c'
    refine cutN fun N nx2 => ?_
    refine (exA rfl ⟨l, ks, cnt ks - 1, rfl, SqL.of e4, x1, x2, _, exA rfl ⟨rfl, exA rfl ⟨_, exA rfl ⟨rfl, exA rfl ?_⟩⟩⟩⟩)
    have hmono := kloop_mono GF m c ks NK GK
    rw [hk] at hmono
    refine ite2 (fun cc2 => ?_) (fun cc2 => ?_)
    · have c'' := of_decide_eq_true cc2
      exact fun ea => qx (by lia) ea H4 t4
    have c60 := of_decide_eq_false (Bool.eq_false_iff.mpr cc2)
    have hkl := GK.len
    have hsl := stepK_len GK
    have hn400 := GF.few
    refine (exA rfl (exA rfl ⟨l, a, rfl, ⟨_, SqL.of e4⟩, ⟨_, SqL.of (t4 _ _ ea)⟩, fun l5 hl5 => comp_zip (xs := ks.map V.int) (zs := us) (by rw [List.length_map]; lia) (fun i ys H5 => i ≤ rows.length ∧ ys.length = i ∧ Same H4 H5 ∧ DrL K H5 (((stepK ks rows).take i).map stepD) ys) ⟨Nat.zero_le _, rfl, same_up (Same.refl H4) hl5, DrL.nil⟩ (fun i ys H5 _ h => ⟨SqL.of (h.2.2.1 _ _ e4), SqL.of (h.2.2.1 _ _ (t4 _ _ ea))⟩) (by rw [List.length_map]; exact line_le (by lia)) (fun i ys H5 h => h.2.1) (fun i x y p ys H5 hx hz h hy hp => ?_) (fun ys H5 h hy => ?_)⟩))
    · obtain ⟨hi, hyl, s5, d5⟩ := h
      have hil : i < rows.length := by have := (List.getElem?_eq_some_iff.mp hz).1; lia
      have er : rows[i]? = some rows[i] := List.getElem?_eq_getElem hil
      have ek : ks[i]? = some ks[i] := List.getElem?_eq_getElem (by lia)
      have hrm : rows[i] ∈ rows := List.getElem_mem hil
      obtain ⟨y', ey, dy⟩ := rows_at da er
      rw [hz] at ey
      cases ey
      have es : (stepK ks rows)[i]? = some (ks[i], rows[i].2.map fun g => ks.getD g.toNat 0) := by
        unfold stepK
        rw [List.getElem?_map, List.getElem?_zip_eq_some (z := (ks[i], rows[i])) |>.mpr ⟨ek, er⟩]
        rfl
      generalize rows[i] = ri at er dy es hrm
      generalize ks[i] = ki at ek es
      have ex : x = V.int ki := by rw [List.getElem?_map, ek] at hx; exact (Option.some.inj hx).symm
      subst ex
      have sp : Same H (upd H5 p (.tup [V.int ki, y])) := (t4.trans s5).trans (same_up (Same.refl H5) hp)
      have sp5 : Same H5 (upd H5 p (.tup [V.int ki, y])) := same_up (Same.refl H5) hp
      obtain ⟨t, b, c, rfl, et, eb, ec⟩ := rowD_inv (dy.mono sp)
      refine ⟨p, exA rfl ⟨SqT.of upd_same, rfl, _, exA rfl ⟨_, exA rfl ⟨t, exA rfl ⟨SqT.of et, rfl, _, exA rfl ⟨_, exA rfl ⟨rfl, rfl, exA rfl (exA rfl (exA rfl ⟨l, .ref c, ks, ri.2, rfl, sp5 _ _ (s5 _ _ e4), Dr.tup ec (DrL.ints _), fun g hg => by rw [hkl]; exact GF.go ri hrm g hg, by rw [GF.len ri hrm]; lia, fun v H6 s6 dv => ⟨by show 2 ≤ sizeLine; decide, fun t7 ht7 => ?_⟩⟩))⟩⟩⟩⟩⟩⟩⟩
      have s67 := same_up (o := HO.tup [V.int ki, v]) s6 ht7
      have hy7 := s67 _ _ (sp5 _ _ hy)
      refine ⟨hy7, hil, by rw [List.length_append, hyl]; rfl, same_over (s5.trans (sp5.trans s67)) hl5, ?_⟩
      rw [take_snoc _ es]
      have kk : TupK H5 (upd (upd H6 t7 (.tup [V.int ki, v])) l5 (.lst (ys ++ [.ref t7]))) := TupK.up (TupK.of (sp5.trans s67)) hy7 (fun _ z => by cases z)
      have k6 : TupK H6 (upd (upd H6 t7 (.tup [V.int ki, v])) l5 (.lst (ys ++ [.ref t7]))) := TupK.up (TupK.of (same_up (Same.refl H6) ht7)) hy7 (fun _ z => by cases z)
      have nt7 : t7 ≠ l5 := ne_of upd_same hy7 (by intro z; cases z)
      refine DrL.append (d5.keyed kk (steps_key _)) (DrL.one ?_)
      exact Dr.tup (vs := [V.int ki, v]) (by rw [upd_ne nt7]; exact upd_same) (DrL.cons (Dr.int ki) (DrL.one (dv.keyed k6 (its_key _))))
    obtain ⟨_, hyl5, s5, d5⟩ := h
    rw [List.length_map, hkl, List.take_of_length_le (by lia)] at d5
    refine ⟨l5, ys, exA rfl ⟨hy, d5, fun d hd => ?_, by rw [List.length_map]; lia, fun l6 H6 s6 e6 => ?_⟩⟩
    · obtain ⟨p, _, rfl⟩ := List.mem_map.mp hd
      exact ⟨step_key p, step_dep p, _, rfl⟩
    rw [numb_map stepD stepD_inj] at e6
    cases m with
    | zero => lia
    | succ m =>
      refine nx2 m _ _ (Nat.lt_succ_self m) ⟨cnt ks, _, l6, (by show [some (V.ref a), some (V.ref l6), some (V.int (cnt ks - 1 + 1))] = _; rw [ec]), (t4.trans s5).trans s6, e6, goodK1 GK, numbK1 hkl, .inr (by lia), by lia, by lia, ?_⟩
      rw [← hk]
      exact (if_pos c').symm
  · have c' := of_decide_eq_false (Bool.eq_false_iff.mpr cc)
    rw [ec] at c'
    have hkk : kinds rows = ks := by
      rw [← hk]
      cases m with
      | zero => rfl
      | succ m => exact if_neg c'
    refine (exA rfl (q (by rw [hkk]; lia) l H4 t4 ?_))
    rw [hkk]
    exact e4
end
end Gu
namespace Gu
open PySem L2
section
variable {P : Program} {w : World} {K : PySem.W.Frag} {mg : Str → Option Value} {base : Heap} {f g : Addr} {fd gd : FuncData} {CX : CXT} [NoE CX]
noncomputable abbrev nLeastG : List Str := ["first", "row_at", "found", "kinds", "least", "rearranging", "goings", "kind"]
theorem scLeastG : FnScope nLeastG ["first", "row_at"] (defScope sLeast) := ⟨rfl, rfl, rfl, by decide +kernel, rfl, by decide +kernel, by decide +kernel⟩
theorem ok_leastG {Cm : V → Addr → Hp → List Row → Prop} {k q Ct : Addr} {kd qd : FuncData} (F : Fun K "least_form" "least_form" sLeast f fd) (ml : mg "len" = none) (mt : mg "tuple" = none) (mz : mg "zip" = none)
    (G : FnOk P w K mg base (CXx P w) 5 g gd ["first", "row_at"] (spComeG K Cm)) (bG : Binds K gd ["first", "row_at"] []) (kG : PySem.W.keepIn K (.ref g) = true) (mG : mg "rows_come_to" = some (.ref g))
    (T : FnOk P w K mg base (CXx P w) 5 k kd ["rows"] (spKindsX K Ct)) (bT : Binds K kd ["rows"] []) (kT : PySem.W.keepIn K (.ref k) = true) (mT : mg "kinds_of_rows" = some (.ref k))
    (U : FnOk P w K mg base (CXx P w) 5 q qd ["kinds", "goings"] (spGone K)) (bU : Binds K qd ["kinds", "goings"] []) (kU : PySem.W.keepIn K (.ref q) = true) (mU : mg "kinds_gone_to" = some (.ref q)) : FnOk P w K mg base (CXx P w) 6 f fd ["first", "row_at"] (spLeastG K Cm Ct) := by
  refine F.okx scLeastG (fun vs H Q E h => ?_) (fun cdv A outer s H vs Q E hr h => ?_)
  · obtain ⟨a, v0, n, rows, rfl, _⟩ := h
    rfl
  obtain ⟨fa, v0, n, rows, rfl, hC, GM, hn, gv, gx⟩ := h
  have hsc := shr_cnt GM
  have h400 := GM.few
  refine ⟨_, pss_cons (ps_set (i := 2) scLeastG.nd rfl (Or.inl rfl) (pe_call G hr rfl mG kG bG .nil passN (pa_cons (pv 0) (pa_cons (pv 1) pa_nil))))
    (pss_cons (ps_set (i := 3) scLeastG.nd rfl (Or.inl rfl) (pe_call T hr rfl mT kT bT .nil (passX fun _ _ _ z => z) (pa_cons (pv 2) pa_nil)))
    (pss_cons (ps_set (i := 4) scLeastG.nd rfl (Or.inl rfl) (pe_lst pa_nil))
    (pss_cons (ps_for PassesOwn.leaving rfl (pi_zip rfl mz (pa_cons (pv 2) (pa_cons (pv 3) pa_nil)))
      (pg_tup rfl (pgs_cons (pg_tup rfl (pgs_cons (pg_name (i := 5) scLeastG.nd rfl (Or.inl rfl)) (pgs_cons (pg_name (i := 6) scLeastG.nd rfl (Or.inl rfl)) pgs_nil))) (pgs_cons (pg_name (i := 7) scLeastG.nd rfl (Or.inl rfl)) pgs_nil)))
      (pss_one (ps_if (pt_cmp (pc_eqI (pv 7) (pe_callB call_len_seq rfl ml PySem.boot_len (pa_cons (pv 4) pa_nil))))
        (pss_one (ps_expr (pe_bm PySem.F.plainAttrs_list PySem.F.slot_list_append PySem.F.type_list_append mt_append (pv 4) (pa_cons (pe_tup (pa_cons (pv 5) (pa_cons (pe_call U hr rfl mU kU bU .nil passN (pa_cons (pv 3) (pa_cons (pv 6) pa_nil))) pa_nil))) pa_nil)))) pss_nil)))
    (pss_one (ps_ret (pe_callTy call_tuple_of rfl mt PyProof.Rows.boot_tuple (pa_cons (pv 4) pa_nil))))))), ?_⟩
  have GF := found_good GM
  have hfl := found_le GM
  refine (exA rfl (exA rfl ⟨fa, v0, n, rows, rfl, hC, GM, hn, fun lf H1 s1 rf => ?_⟩))
  refine (exA rfl ⟨lf, n, found rows, rfl, rf, GF, hn, fun h6 lk H2 s2 ek => ?_, fun h6 ea H' s' => gx (by lia) ea H' (s1.trans s')⟩)
  have gv := gv (by lia)
  rw [← least_shr GM] at gv
  clear hsc h6
  have GK := kinds_good GF
  have hkl := GK.len
  unfold least at gv
  generalize kinds (found rows) = ks at *
  generalize found rows = fs at *
  obtain ⟨us, ef, df⟩ := rf.mono s2
  have hul : us.length = fs.length := by have := df.length; unfold rowsD at this; rw [List.length_map] at this; exact this.symm
  have s12 := s1.trans s2
  refine ⟨by show 0 ≤ sizeLine; decide, fun ll hll => (exA rfl (exA rfl ⟨lf, lk, rfl, ?_⟩))⟩
  have hll0 : H2 ll = none := hll
  have s3 : Same H2 (upd H2 ll (.lst [])) := same_up (Same.refl H2) hll
  refine ⟨⟨_, SqL.of (s3 _ _ ef)⟩, ⟨_, SqL.of (s3 _ _ ek)⟩, zipO (xs := us) (ys := ks.map V.int) (by rw [List.length_map]; lia) (fun i σ H3 => ∃ (u1 u2 u3 : Option V) (ws : List V), σ = [some v0, some (.ref fa), some (.ref lf), some (.ref lk), some (.ref ll), u1, u2, u3] ∧ Same H2 H3 ∧ H3 ll = some (.lst ws) ∧ DrL K H3 (rowsD (leastP fs ks i)) ws)
    ⟨_, _, _, [], rfl, s3, upd_same, DrL.nil⟩ (fun i σ H3 _ h => by obtain ⟨_, _, _, _, _, t3, _, _⟩ := h; exact ⟨SqL.of (t3 _ _ ef), SqL.of (t3 _ _ ek)⟩) (fun i x y p σ H3 hx hy h hp Ed nx3 => ?_) (fun σ H3 h => ?_)⟩
  · obtain ⟨u1, u2, u3, ws, rfl, t3, e3, d3⟩ := h
    have hil : i < fs.length := by have := (List.getElem?_eq_some_iff.mp hx).1; lia
    have er : fs[i]? = some fs[i] := List.getElem?_eq_getElem hil
    have ek' : ks[i]? = some ks[i] := List.getElem?_eq_getElem (by lia)
    have hrm : fs[i] ∈ fs := List.getElem_mem hil
    obtain ⟨x', ex, dx⟩ := rows_at df er
    rw [hx] at ex
    cases ex
    generalize fs[i] = ri at er dx hrm
    generalize ks[i] = ki at ek'
    have ey : y = V.int ki := by rw [List.getElem?_map, ek'] at hy; exact (Option.some.inj hy).symm
    subst ey
    have hst := leastP_step er ek'
    have hll2 := leastP_len fs ks i
    have hwl : ws.length = (leastP fs ks i).length := by have := d3.length; unfold rowsD at this; rw [List.length_map] at this; exact this.symm
    generalize leastP fs ks i = lp at *
    have sp3 : Same H3 (upd H3 p (.tup [x, V.int ki])) := same_up (Same.refl H3) hp
    have sp : Same H2 (upd H3 p (.tup [x, V.int ki])) := t3.trans sp3
    obtain ⟨t, b, c, rfl, et, eb, ec⟩ := rowD_inv (dx.mono sp)
    refine ⟨p, exA rfl ⟨SqT.of upd_same, rfl, _, exA rfl ⟨t, exA rfl ⟨SqT.of et, rfl, _, exA rfl ⟨_, exA rfl ⟨rfl, _, exA rfl ⟨rfl, exA rfl (exA rfl ⟨ll, exA rfl ⟨.inl (SqL.of (sp3 _ _ e3)), _, exA rfl ⟨rfl, exA rfl ?_⟩⟩⟩)⟩⟩⟩⟩⟩⟩⟩
    refine ite2 (fun c' => ?_) (fun c' => ?_)
    · have c'' := of_decide_eq_true c'
      have hst2 : leastP fs ks (i + 1) = lp ++ [(ri.1, ri.2.map fun g => ks.getD g.toNat 0)] := by
        rw [hst]; unfold lstep
        exact if_pos (by rw [← hwl]; exact c'')
      refine (exA rfl ⟨.inl ⟨rfl, _, SqL.of (sp3 _ _ e3)⟩, exA rfl (exA rfl (exA rfl ⟨lk, .ref c, ks, ri.2, rfl, sp _ _ ek, Dr.tup ec (DrL.ints _), fun g hg => by rw [hkl]; exact GF.go ri hrm g hg, by rw [GF.len ri hrm]; lia, fun v H6 s6 dv => ⟨by show 2 ≤ sizeLine; decide, fun t7 ht7 => ?_⟩⟩))⟩)
      have s67 := same_up (o := HO.tup [.ref b, v]) s6 ht7
      have e7 := s67 _ _ (sp3 _ _ e3)
      refine ⟨ll, ws, .ref t7, rfl, rfl, e7, small5 (by lia), ?_⟩
      have kk : TupK H3 (upd (upd H6 t7 (.tup [.ref b, v])) ll (.lst (ws ++ [.ref t7]))) := TupK.up (TupK.of (sp3.trans s67)) e7 (fun _ z => by cases z)
      have k6 : TupK H6 (upd (upd H6 t7 (.tup [.ref b, v])) ll (.lst (ws ++ [.ref t7]))) := TupK.up (TupK.of (same_up (Same.refl H6) ht7)) e7 (fun _ z => by cases z)
      have nt7 : t7 ≠ ll := ne_of upd_same e7 (by intro z; cases z)
      have eb' : H6 b = some (.tup (ri.1.map V.int)) := s6 _ _ eb
      obtain ⟨c2, rfl, ec2⟩ := Dr.its_inv dv
      refine nx3 _ _ ⟨_, _, _, ws ++ [.ref t7], rfl, same_over (sp.trans s67) hll0, upd_same, ?_⟩
      rw [hst2]
      unfold rowsD
      rw [List.map_append]
      refine DrL.append (d3.keyed kk (rows_key _)) (DrL.one (rowD_mk (b := b) (c := c2) ?_ (k6 _ _ eb') (k6 _ _ ec2)))
      rw [upd_ne nt7]; exact upd_same
    · have c'' := of_decide_eq_false (Bool.eq_false_iff.mpr c')
      have hst2 : leastP fs ks (i + 1) = lp := by
        rw [hst]; unfold lstep
        exact if_neg (by rw [← hwl]; exact c'')
      refine nx3 _ _ ⟨_, _, _, ws, rfl, sp, sp3 _ _ e3, ?_⟩
      rw [hst2]
      exact d3.mono sp3
  · obtain ⟨u1, u2, u3, ws, rfl, t3, e3, d3⟩ := h
    rw [hul, leastP_all hkl] at d3
    refine (exA rfl ⟨ll, exA rfl (.inl ⟨SqL.of e3, fun t ht => ?_⟩)⟩)
    exact gv _ _ ((s12.trans t3).trans (same_up (Same.refl H3) ht)) (Dr.tup upd_same (d3.mono (same_up (Same.refl H3) ht)))
end
end Gu
namespace Gu
open PySem L2
section
variable {P : Program} {w : World} {K : PySem.W.Frag} {mg : Str → Option Value} {base : Heap} {f g : Addr} {fd gd : FuncData} {CX : CXT} [NoE CX]
noncomputable abbrev nCkW : List Str := ["letters", "word"]
theorem scCkW : FnScope nCkW ["letters", "word"] (defScope sCheckW) := ⟨rfl, rfl, rfl, by decide +kernel, rfl, by decide +kernel, by decide +kernel⟩
theorem csCkW : CompS nCkW (defScope sCheckW) ["letter", "letters"] [none, some 0] (csc [(".0", .local), ("letter", .local), ("letters", .free)]) := ⟨rfl, by decide +kernel, by decide +kernel, by decide +kernel, rfl, by decide +kernel, by decide +kernel⟩
noncomputable def badL (n : Nat) (l : Int) : Bool := !(decide (0 ≤ l) && decide (l < (n : Int)))
theorem badL_any {n : Nat} {w : List Int} : ((w.map (badL n)).any _root_.id = true) ↔ ¬ LW n w := by
  unfold LW badL
  rw [List.any_map]
  simp only [List.any_eq_true, Function.comp, _root_.id, Bool.not_eq_true', Bool.and_eq_false_iff, decide_eq_false_iff_not]
  constructor
  · rintro ⟨x, hx, h⟩ z
    have := z x hx
    lia
  · intro h
    apply Classical.byContradiction
    intro h2
    exact h fun l hl => Classical.byContradiction fun h3 => h2 ⟨l, hl, by lia⟩
theorem ok_checkw {Ct : Addr} {bmB : List Value} {B newId initId : String} (mC : mg "BadWord" = some (.ref Ct)) (xC : PySem.W.excIn K Ct bmB newId = true) (hB : ExcBaseFacts B newId initId bmB) (F : Fun K "check_word" "check_word" sCheckW f fd) (many : mg "any" = none) : FnOk P w K mg base (CXx P w) 1 f fd ["letters", "word"] (spCheckW K Ct) := by
  refine F.okx scCkW (fun vs H Q E h => ?_) (fun cdv A outer s H vs Q E hr h => ?_)
  · obtain ⟨n, u, w, rfl, _⟩ := h
    rfl
  obtain ⟨n, u, w, rfl, dw, h5, q, qx⟩ := h
  obtain ⟨a, rfl, ea⟩ := Dr.its_inv dw
  refine ⟨_, pss_one (ps_if (pt_val (pe_callB (cAny K rfl rfl) rfl many PyProof.Rows.boot_any (pa_cons (pe_comp rfl csCkW (pi_tup (pv 1)) (fun _ _ _ _ _ => pg_name (i := 0) csCkW.nd rfl (Or.inl rfl)) (fun _ _ _ _ _ => pe_not (pe_chain op_le op_lt pe_int (pv 0) (pv 1)))) pa_nil))) (pss_one (ps_raise mC rfl xC hB pe_str)) pss_nil), ?_⟩
  refine (exA rfl ⟨a, rfl, ⟨_, SqT.of ea⟩, fun l hl0 => comp_tup (xs := w.map V.int) (fun i ys H4 => i ≤ w.length ∧ ys = ((w.take i).map (badL n)).map V.bl ∧ Same H H4) ⟨Nat.zero_le _, rfl, same_up (Same.refl H) hl0⟩ (fun i ys H4 _ h => SqT.of (h.2.2 _ _ ea)) (by rw [List.length_map]; exact line_le (by lia)) (fun i ys H4 h => ?_) (fun i x ys H4 hx h hy => ?_) (fun ys H4 h hy => ?_)⟩)
  · obtain ⟨_, rfl, _⟩ := h
    rw [List.length_map, List.length_map, List.length_take]; lia
  · obtain ⟨_, rfl, s4⟩ := h
    have hil : i < w.length := by have := (List.getElem?_eq_some_iff.mp hx).1; rwa [List.length_map] at this
    have eg : w[i]? = some w[i] := List.getElem?_eq_getElem hil
    generalize w[i] = gi at eg
    have ex : x = V.int gi := by rw [List.getElem?_map, eg] at hx; exact (Option.some.inj hx).symm
    subst ex
    have et : (w.take (i + 1)).map (badL n) = (w.take i).map (badL n) ++ [badL n gi] := take_snoc _ eg
    refine (exA rfl ⟨_, exA rfl ⟨rfl, exA rfl (ite2 (fun c => (exA rfl ⟨_, exA rfl ⟨rfl, exA rfl ⟨hy, hil, ?_, same_over s4 hl0⟩⟩⟩)) (fun c => (exA rfl ⟨hy, hil, ?_, same_over s4 hl0⟩)))⟩⟩)
    · rw [et, List.map_append]
      have c' := of_decide_eq_true c
      unfold badL
      rw [decide_eq_true c', Bool.true_and]
      rfl
    · rw [et, List.map_append]
      have c' := of_decide_eq_false (Bool.eq_false_iff.mpr c)
      unfold badL
      rw [decide_eq_false c', Bool.false_and]
      rfl
  · obtain ⟨_, rfl, s4⟩ := h
    refine ⟨l, exA rfl ⟨SqL.of hy, exA rfl (ite2 (fun c => ?_) (fun c => ?_))⟩⟩
    · rw [List.length_map, List.take_length] at c
      exact fun e => qx (badL_any.mp c) e H4 s4
    · rw [List.length_map, List.take_length] at c
      exact q (Decidable.byContradiction fun z => c (badL_any.mpr z)) H4 s4
noncomputable abbrev nRf : List Str := ["guise", "row", "word", "made", "at", "letter", "rearranging", "goings"]
theorem scRf : FnScope nRf ["guise", "row", "word"] (defScope sReadF) := ⟨rfl, rfl, rfl, by decide +kernel, rfl, by decide +kernel, by decide +kernel⟩
theorem ok_readf (F : Fun K "read_from" "read_from" sReadF f fd) (mt : mg "tuple" = none) : FnOk P w K mg base CX 1 f fd ["guise", "row", "word"] (spReadF K) := by
  refine F.okc scRf (fun vs H Q E h => ?_) (fun cdv A outer s H vs Q E hr h => ?_)
  · obtain ⟨v, u, rows, n, wd, s0, rfl, _⟩ := h
    rfl
  obtain ⟨v, u, rows, n, wd, s0, rfl, dv, dw, GM, hn, h5, hw, h0, h1, q⟩ := h
  obtain ⟨av, us, rfl, eav, dus⟩ : ∃ (av : Addr) (us : List V), v = .ref av ∧ H av = some (.tup us) ∧ DrL K H (rowsD rows) us := by
    simp only [Dr] at dv
    exact dv
  obtain ⟨aw, rfl, eaw⟩ := Dr.its_inv dw
  refine ⟨_, pss_cons (ps_set (i := 3) scRf.nd rfl (Or.inl rfl) (pe_lst pa_nil))
    (pss_cons (ps_set (i := 4) scRf.nd rfl (Or.inl rfl) (pv 1))
    (pss_cons (ps_for PassesOwn.never rfl (pi_tup (pv 2)) (pg_name (i := 5) scRf.nd rfl (Or.inl rfl))
      (pss_cons (ps_asg (pe_ix ix_tup (pv 0) (pv 4) (fun _ _ => rfl)) (pg_tup rfl (pgs_cons (pg_name (i := 6) scRf.nd rfl (Or.inl rfl)) (pgs_cons (pg_name (i := 7) scRf.nd rfl (Or.inl rfl)) pgs_nil))))
      (pss_cons (ps_expr (pe_bm PySem.F.plainAttrs_list PySem.F.slot_list_append PySem.F.type_list_append mt_append (pv 3) (pa_cons (pe_ix ix_tup (pv 6) (pv 5) (fun _ _ => rfl)) pa_nil)))
      (pss_one (ps_set (i := 4) scRf.nd rfl (Or.inl rfl) (pe_ix ix_tup (pv 7) (pv 5) (fun _ _ => rfl)))))))
    (pss_one (ps_ret (pe_tup (pa_cons (pe_callTy call_tuple_of rfl mt PyProof.Rows.boot_tuple (pa_cons (pv 3) pa_nil)) (pa_cons (pv 4) pa_nil))))))), ?_⟩
  refine ⟨by show 0 ≤ sizeLine; decide, fun lm hlm => ?_⟩
  have s1 := same_up (o := HO.lst []) (Same.refl H) hlm
  refine ⟨_, rfl, _, rfl, aw, rfl, ⟨_, SqT.of (s1 _ _ eaw)⟩, for_tup (xs := wd.map V.int) (fun i σ H3 => ∃ (u5 u6 u7 : Option V), σ = [some (.ref av), some (.int s0), some (.ref aw), some (.ref lm), some (.int (goW rows s0 (wd.take i))), u5, u6, u7] ∧ Same H H3 ∧ H3 lm = some (.lst ((outW rows s0 (wd.take i)).map V.int)))
    ⟨_, _, _, rfl, s1, upd_same⟩ (fun i σ H3 _ h => by obtain ⟨_, _, _, _, t3, _⟩ := h; exact SqT.of (t3 _ _ eaw)) (fun i x σ H3 hx h => ?_) (fun σ H3 h => ?_)⟩
  · obtain ⟨u5, u6, u7, rfl, t3, em⟩ := h
    have hil : i < wd.length := by have := (List.getElem?_eq_some_iff.mp hx).1; rwa [List.length_map] at this
    have eg : wd[i]? = some wd[i] := List.getElem?_eq_getElem hil
    obtain ⟨l0, l1⟩ := hw _ (List.getElem_mem hil)
    generalize wd[i] = l at eg l0 l1
    have ex : x = V.int l := by rw [List.getElem?_map, eg] at hx; exact (Option.some.inj hx).symm
    subst ex
    have hwt : LW n (wd.take i) := fun x hx => hw x (List.mem_of_mem_take hx)
    obtain ⟨g0, g1⟩ := goW_rg GM hwt h0 h1
    have est : goW rows s0 (wd.take (i + 1)) = (row rows (goW rows s0 (wd.take i))).2.getD l.toNat 0 := by
      rw [List.take_add_one, eg, Option.toList, goW_app]
      rfl
    have eot : outW rows s0 (wd.take (i + 1)) = outW rows s0 (wd.take i) ++ [(row rows (goW rows s0 (wd.take i))).1.getD l.toNat 0] := by
      rw [List.take_add_one, eg, Option.toList, outW_app]
      rfl
    have hol : (outW rows s0 (wd.take i)).length = i := by rw [outW_len, List.length_take]; lia
    rw [est, eot]
    generalize outW rows s0 (wd.take i) = ms at em hol
    generalize goW rows s0 (wd.take i) = g at g0 g1
    obtain ⟨vr, evr, dvr⟩ := rows_at dus (row_get g0 g1)
    obtain ⟨t, b', c', rfl, et, eb, ec⟩ := rowD_inv (dvr.mono t3)
    have hgl := GM.len _ (row_mem g0 g1)
    have hpl := (GM.perm _ (row_mem g0 g1)).len
    have hll : l.toNat < (row rows g).2.length := by lia
    have hl1 : l.toNat < (row rows g).1.length := by lia
    refine (exA rfl (exA rfl ⟨av, _, g, .ref t, rfl, rfl, SqT.of (t3 _ _ eav), atI_of g0 evr, t, exA rfl ⟨SqT.of et, rfl, _, exA rfl ⟨_, exA rfl ⟨rfl, ?_⟩⟩⟩⟩))
    refine (exA rfl ⟨.inl ⟨rfl, _, SqL.of em⟩, exA rfl (exA rfl ⟨b', _, l, V.int ((row rows g).1.getD l.toNat 0), rfl, rfl, SqT.of eb, atI_of l0 ?_, lm, _, exA rfl ⟨rfl, em, small5 (by rw [List.length_map]; lia), ?_⟩⟩)⟩)
    · rw [List.getElem?_map, List.getD_eq_getElem?_getD, List.getElem?_eq_getElem hl1]
      rfl
    have kk : TupK H3 (upd H3 lm (.lst (ms.map V.int ++ [V.int ((row rows g).1.getD l.toNat 0)]))) := TupK.up (TupK.refl _) em (fun _ z => by cases z)
    have t4 : Same H (upd H3 lm (.lst (ms.map V.int ++ [V.int ((row rows g).1.getD l.toNat 0)]))) := same_over t3 hlm
    refine (exA rfl (exA rfl ⟨c', _, l, V.int ((row rows g).2.getD l.toNat 0), rfl, rfl, SqT.of (kk _ _ ec), atI_of l0 ?_, _, _, exA rfl ⟨t4, ?_⟩⟩))
    · rw [List.getElem?_map, List.getD_eq_getElem?_getD, List.getElem?_eq_getElem hll]
      rfl
    · rw [List.map_append]
      exact upd_same
  · obtain ⟨u5, u6, u7, rfl, t3, em⟩ := h
    rw [List.length_map, List.take_length] at *
    refine (exA rfl ⟨lm, exA rfl (.inl ⟨SqL.of em, fun t ht => (exA rfl ⟨by show 2 ≤ sizeLine; decide, fun r hr' => ?_⟩)⟩)⟩)
    exact q r t _ (same_up (same_up t3 ht) hr') upd_same (same_up (Same.refl _) hr' _ _ upd_same)
noncomputable abbrev lcSec : Scope := csc [("at", .local), ("guise", .free)]
theorem scSec : FnScope ["guise", "row"] ["guise", "row"] (defScope sSect) := ⟨rfl, rfl, rfl, by decide +kernel, rfl, by decide +kernel, by decide +kernel⟩
theorem csSec : CompS ["guise", "row"] (defScope sSect) ["at", "guise"] [none, some 0] lcSec := ⟨rfl, by decide +kernel, by decide +kernel, by decide +kernel, rfl, by decide +kernel, by decide +kernel⟩
theorem lsSec : LamS ["at", "guise"] ["at"] lcSec := ⟨rfl, rfl, rfl, by decide +kernel, rfl, by decide +kernel, by decide +kernel, by decide +kernel⟩
theorem ok_sect {k Ct cc : Addr} {kd : FuncData} {Ts : List Tb} {T0 : Tb} (F : Fun K "section_at" "section_at" sSect f fd) (hcd : fd.code = .ref cc) (hC : PySem.W.CodeHd base cc T0.at_) (hB : BMain base mg) (hT : T0 ∈ Ts) (hTn : ∀ T' ∈ Ts, T'.at_ = T0.at_ → T' = T0) (hTp : T0.pos = lamPos (defBody sSect)) (hTq : T0.qual = ("section_at.<locals>." ++ "<lambda>" : Str))
    (T : FnOk P w K mg base (CXx P w) 6 k kd ["first", "row_at"] (spLeastF P w K mg base (CXx P w) 4 Ct)) (bT : Binds K kd ["first", "row_at"] []) (kT : PySem.W.keepIn K (.ref k) = true) (mT : mg "least_form" = some (.ref k)) : FnOk P w K mg base (CXx P w) 7 f fd ["guise", "row"] (spSect Ts K) := by
  refine F.okL hcd scSec (fun vs H Q E h => ?_) (fun A outer s H vs Q E hr h => ?_)
  · obtain ⟨v, rows, n, g, rfl, _⟩ := h
    rfl
  obtain ⟨v, rows, n, g, rfl, hTb, dv, GM, hn, h60, g0, g1, gv⟩ := h
  refine ⟨_, pss_one (ps_ret (pe_callL (Ts := Ts) (T := T0) T hr rfl mT kT bT (passX fun _ _ _ z => z) (pv 1) (fun σ H Q Q' h ⟨v, e, q⟩ => ⟨v, e, h _ _ q⟩) csSec rfl hC hB (fun _ => rfl) hT hTn hTp hTq)), ?_⟩
  obtain ⟨av, us, rfl, eav, dus⟩ : ∃ (av : Addr) (us : List V), v = .ref av ∧ H av = some (.tup us) ∧ DrL K H (rowsD rows) us := by
    simp only [Dr] at dv
    exact dv
  have G2 := swM_good GM g0 g1
  refine (exA rfl ⟨hTb, fun fa H4 cs f1 f2 f3 C => ?_⟩)
  have fin : ∀ {H5 : Hp}, Same H4 H5 → SameL Ts H (utk H5 cs) := fun s5 => (Same.l (Same.refl H)).trans (f2 _ s5)
  have eav4 := f1 _ _ (fun _ z => by cases z) ((Same.refl H) _ _ eav)
  have dus4 : DrL K H4 (rowsD rows) us := (dus.mono (Same.refl H)).monoL (Ts := []) ⟨f1, fun _ _ h => absurd h (by simp)⟩
  have RN := swM_rowsN (s := g) g0 g1 dus4
  refine ⟨fa, n, swM rows g, sw g, (by rw [sw_zero]), sw_inj g, ?_, G2, hn, fun h6 v H5 s5 d => gv v _ (fin s5) (d.nfr (NFr.utk f3 s5)), fun h6 => absurd h6 (by have := shr_le G2; rw [swM_len] at this; lia)⟩
  refine CallV.lam (k := 3) C lsSec (fun _ _ _ _ us hl => by obtain ⟨a9, rfl⟩ := len1 hl; rfl) rfl (fun vs H Q h => ?_) (fun H' s' A outer s cd clos cs vs Q hr nf h => ?_)
  · obtain ⟨i, rfl, _⟩ := h
    rfl
  obtain ⟨i, rfl, h0, h1', gq⟩ := h
  obtain ⟨j0, v, ev, dv'⟩ := RN i h0 h1'
  refine ⟨_, pe_ix ix_tup (pv 1) (pv 0) (fun _ _ => rfl), ?_⟩
  refine (exA rfl (exA rfl ⟨av, us, sw g i, v, rfl, rfl, SqT.of (nf _ _ (fun _ z => by cases z) (s' _ _ eav4)), atI_of j0 ev, fun hc => ?_⟩))
  have sr := Same.rtk (H := H') (H1 := utk H' cs) (cs := cs) (Same.refl _)
  exact gq v _ sr ((dv'.mono s').mono sr)
noncomputable abbrev nWr : List Str := ["guise", "word", "made", "at"]
theorem scWr : FnScope nWr ["guise", "word"] (defScope sWorn) := ⟨rfl, rfl, rfl, by decide +kernel, rfl, by decide +kernel, by decide +kernel⟩
theorem ok_worn {b c Cw : Addr} {bd cd : FuncData} (F : Fun K "worn" "worn" sWorn f fd)
    (G : FnOk P w K mg base (CXx P w) 1 g gd ["letters", "word"] (spCheckW K Cw)) (bG : Binds K gd ["letters", "word"] []) (kG : PySem.W.keepIn K (.ref g) = true) (mG : mg "check_word" = some (.ref g))
    (R : FnOk P w K mg base (CXx P w) 1 b bd ["guise"] (spBreadth K)) (bR : Binds K bd ["guise"] []) (kR : PySem.W.keepIn K (.ref b) = true) (mR : mg "breadth" = some (.ref b))
    (U : FnOk P w K mg base (CXx P w) 1 c cd ["guise", "row", "word"] (spReadF K)) (bU : Binds K cd ["guise", "row", "word"] []) (kU : PySem.W.keepIn K (.ref c) = true) (mU : mg "read_from" = some (.ref c)) : FnOk P w K mg base (CXx P w) 2 f fd ["guise", "word"] (spWorn K Cw) := by
  refine F.okx scWr (fun vs H Q E h => ?_) (fun cdv A outer s H vs Q E hr h => ?_)
  · obtain ⟨v, u, rows, n, w, rfl, _⟩ := h
    rfl
  obtain ⟨v, u, rows, n, wd, rfl, dv, dw, GM, hn, h5, gv, gx⟩ := h
  refine ⟨_, pss_cons (ps_expr (pe_call G hr rfl mG kG bG .nil (passX fun _ _ _ z => z) (pa_cons (pe_call R hr rfl mR kR bR .nil passN (pa_cons (pv 0) pa_nil)) (pa_cons (pv 1) pa_nil))))
    (pss_cons (ps_asg (pe_call U hr rfl mU kU bU .nil passN (pa_cons (pv 0) (pa_cons pe_int (pa_cons (pv 1) pa_nil)))) (pg_tup rfl (pgs_cons (pg_name (i := 2) scWr.nd rfl (Or.inl rfl)) (pgs_cons (pg_name (i := 3) scWr.nd rfl (Or.inl rfl)) pgs_nil))))
    (pss_one (ps_ret (pv 2)))), ?_⟩
  have h1 := GM.some
  obtain ⟨r0, rt, er⟩ : ∃ r0 rt, rows = r0 :: rt := by
    cases rows with
    | nil => simp at h1
    | cons r0 rt => exact ⟨r0, rt, rfl⟩
  have hp0 := GM.perm r0 (by rw [er]; simp)
  have hl0 := hp0.len
  refine (exA rfl ⟨v, r0, rowsD rt, rfl, (by rw [er] at dv; exact dv), by lia, fun H1 s1 => (exA rfl ⟨n, u, wd, (by rw [hl0]; rfl), dw.mono s1, by lia, fun hw H2 s2 => ?_, fun hw ea H2 s2 => gx hw ea H2 (s1.trans s2)⟩)⟩)
  have s02 := s1.trans s2
  refine (exA rfl (exA rfl ⟨v, u, rows, n, wd, 0, rfl, dv.mono s02, dw.mono s02, GM, hn, h5, hw, Int.le_refl 0, by lia, fun r t H3 s3 er' et => ?_⟩))
  exact ⟨r, exA rfl ⟨SqT.of er', rfl, _, exA rfl ⟨_, exA rfl ⟨rfl, exA rfl (gv hw t H3 (s02.trans s3) et)⟩⟩⟩⟩
end
end Gu
namespace Gu
open PySem L2
section
variable {P : Program} {w : World} {K : PySem.W.Frag} {mg : Str → Option Value} {base : Heap} {f g : Addr} {fd gd : FuncData} {CX : CXT} [NoE CX]
noncomputable abbrev nScs : List Str := ["guise"]
theorem scScs : FnScope nScs ["guise"] (defScope sSections) := ⟨rfl, rfl, rfl, by decide +kernel, rfl, by decide +kernel, by decide +kernel⟩
theorem csScs : CompS nScs (defScope sSections) ["row", "guise"] [none, some 0] (csc [(".0", .local), ("row", .local), ("section_at", .globalImplicit), ("guise", .free)]) := ⟨rfl, by decide +kernel, by decide +kernel, by decide +kernel, rfl, by decide +kernel, by decide +kernel⟩
theorem ok_sections {k : Addr} {kd : FuncData} {Ts : List Tb} (ml : mg "len" = none) (mr : mg "range" = none) (F : Fun K "sections" "sections" sSections f fd)
    (T : FnOk P w K mg base (CXx P w) 7 k kd ["guise", "row"] (spSect Ts K)) (bT : Binds K kd ["guise", "row"] []) (kT : PySem.W.keepIn K (.ref k) = true) (mT : mg "section_at" = some (.ref k)) : FnOk P w K mg base (CXx P w) 8 f fd ["guise"] (spSections Ts K) := by
  refine F.okc scScs (fun vs H Q E h => ?_) (fun cdv A outer s H vs Q E hr h => ?_)
  · obtain ⟨v, rows, n, rfl, _⟩ := h
    rfl
  obtain ⟨v, rows, n, rfl, hTb, dv, GM, hn, h60, gv⟩ := h
  refine ⟨_, pss_one (ps_ret (pe_comp rfl csScs (pi_range1 rfl mr (pa_cons (pe_callB call_len_seq rfl ml PySem.boot_len (pa_cons (pv 0) pa_nil)) pa_nil)) (fun _ _ _ _ _ => pg_name (i := 0) csScs.nd rfl (Or.inl rfl)) (fun _ _ _ _ _ => pe_call T hr rfl mT kT bT .nil passN (pa_cons (pv 1) (pa_cons (pv 0) pa_nil))))), ?_⟩
  obtain ⟨av, us, rfl, eav, dus⟩ : ∃ (av : Addr) (us : List V), v = .ref av ∧ H av = some (.tup us) ∧ DrL K H (rowsD rows) us := by
    simp only [Dr] at dv
    exact dv
  have hlu : us.length = rows.length := by rw [← dus.length]; unfold rowsD; rw [List.length_map]
  refine (exA rfl ⟨av, exA rfl ⟨.inr (SqT.of eav), ?_⟩⟩)
  rw [hlu]
  refine ⟨((rows.length : Nat) : Int), rfl, by lia, by lia, fun l hl => comp_range (n := ((rows.length : Nat) : Int).toNat) (fun i ys H2 => ys.length = i ∧ i ≤ rows.length ∧ SameL Ts H H2 ∧ DrL K H2 (fmD (secs rows i)) ys) ⟨rfl, Nat.zero_le _, Same.l (same_up (Same.refl H) hl), DrL.nil⟩ (by rw [Int.toNat_natCast]; exact line_le (by lia)) (fun i ys H2 h => h.1) (fun i ys H2 hi h hy => ?_) (fun ys H2 h hy => ?_)⟩
  · obtain ⟨hyl, _, s2, d2⟩ := h
    have hi' : i < rows.length := by lia
    refine (exA rfl (exA rfl ⟨.ref av, rows, n, (i : Int), (by rw [Int.zero_add]; rfl), s2.tabs hTb, dv.monoL s2, GM, hn, h60, by lia, by lia, fun x H3 s3 d3 => ?_⟩))
    have e3 := s3.g hy
    refine ⟨e3, by rw [List.length_append, hyl]; rfl, by lia, SameL.over (s2.trans s3) hl e3, ?_⟩
    rw [secs_snoc, fmD_snoc]
    refine DrL.append ((d2.monoL s3).keyed (tup_over e3) (gs_key _)) (DrL.one (d3.keyed (tup_over e3) ?_))
    have := gs_key [shr (swM rows (i : Int))]
    simp only [List.map_cons, List.map_nil, D.keyL] at this
    exact this.1
  · obtain ⟨hyl, _, s2, d2⟩ := h
    rw [Int.toNat_natCast] at d2
    exact gv _ _ s2 (Dr.lst hy d2)
end
end Gu
namespace Gu
open PySem L2
section
variable {P : Program} {w : World} {K : PySem.W.Frag} {mg : Str → Option Value} {base : Heap} {f g : Addr} {fd gd : FuncData} {CX : CXT} [NoE CX]
noncomputable abbrev nRows : List Str := ["_law_letters_here", "_law_cell_here", "_law_nums", "_law_many", "_law_kind", "_law_rows_here", "_law_at", "_law_pick", "_law_first", "_law_goings"]
theorem scRows : FnScope nRows ["_law_letters_here", "_law_cell_here"] (defScope sRows) := ⟨rfl, rfl, rfl, by decide +kernel, rfl, by decide +kernel, by decide +kernel⟩
theorem csRows1 : CompS nRows (defScope sRows) ["_law_k", "_law_many", "_law_pick"] [none, some 3, some 7] (csc [(".0", .local), ("_law_k", .local), ("_law_many", .free), ("_law_pick", .free)]) := ⟨rfl, by decide +kernel, by decide +kernel, by decide +kernel, rfl, by decide +kernel, by decide +kernel⟩
theorem csRows2 : CompS nRows (defScope sRows) ["_law_to", "_law_at", "_law_many"] [none, some 6, some 3] (csc [(".0", .local), ("_law_to", .local), ("min", .globalImplicit), ("_law_at", .free), ("_law_many", .free)]) := ⟨rfl, by decide +kernel, by decide +kernel, by decide +kernel, rfl, by decide +kernel, by decide +kernel⟩
theorem csRows3 : CompS nRows (defScope sRows) ["_law_k", "_law_goings", "_law_letters_here", "_law_many", "_law_pick"] [none, some 9, some 0, some 3, some 7] (csc [(".0", .local), ("_law_k", .local), ("_law_goings", .free), ("_law_letters_here", .free), ("_law_many", .free), ("_law_pick", .free)]) := ⟨rfl, by decide +kernel, by decide +kernel, by decide +kernel, rfl, by decide +kernel, by decide +kernel⟩
theorem ok_rows {k : Addr} {kd : FuncData} (F : Fun K "_law_rows" "_law_rows" sRows f fd) (mr : mg "range" = none) (mt : mg "tuple" = none) (mm : mg "min" = none)
    (G : FnOk P w K mg base CX 1 g gd ["_law_cell_here", "_law_many"] (spNumbers K)) (bG : Binds K gd ["_law_cell_here", "_law_many"] []) (kG : PySem.W.keepIn K (.ref g) = true) (mG : mg "_law_numbers" = some (.ref g))
    (T : FnOk P w K mg base CX 1 k kd ["_law_pick", "_law_letters_here"] (spRear K)) (bT : Binds K kd ["_law_pick", "_law_letters_here"] []) (kT : PySem.W.keepIn K (.ref k) = true) (mT : mg "_law_rearranged" = some (.ref k)) : FnOk P w K mg base CX 2 f fd ["_law_letters_here", "_law_cell_here"] (spRows K) := by
  refine F.okc scRows (fun vs H Q E h => ?_) (fun cdv A outer s H vs Q E hr h => ?_)
  · obtain ⟨n, c, rfl, _⟩ := h
    rfl
  obtain ⟨n, c, rfl, hn2, hn5, q⟩ := h
  refine ⟨_, pss_cons (ps_set (i := 2) scRows.nd rfl (Or.inl rfl) (pe_call G hr rfl mG kG bG .nil passN (pa_cons (pv 1) (pa_cons pe_int pa_nil))))
    (pss_cons (ps_set (i := 3) scRows.nd rfl (Or.inr rfl) (pe_op op_add pe_int (pe_op op_mod (pe_ix ix_list (pv 2) pe_int (fun _ _ => rfl)) pe_int)))
    (pss_cons (ps_set (i := 4) scRows.nd rfl (Or.inl rfl) (pe_op op_mod (pe_ix ix_list (pv 2) pe_int (fun _ _ => rfl)) pe_int))
    (pss_cons (ps_set (i := 5) scRows.nd rfl (Or.inl rfl) (pe_lst pa_nil))
    (pss_cons (ps_for PassesOwn.never rfl (pi_range1 rfl mr (pa_cons (pv 3) pa_nil)) (pg_name (i := 6) scRows.nd rfl (Or.inr rfl))
      (pss_cons (ps_set (i := 7) scRows.nd rfl (Or.inr rfl) (pe_slice sl_list (pv 2) (po_some (pe_op op_add pe_int (pe_op op_mul pe_int (pv 6)))) (po_some (pe_op op_add pe_int (pe_op op_mul pe_int (pv 6))))))
      (pss_cons (ps_set (i := 8) scRows.nd rfl (Or.inl rfl) (pe_call T hr rfl mT kT bT .nil passN (pa_cons (pe_ix ix_list (pv 7) pe_int (fun _ _ => rfl)) (pa_cons (pv 0) pa_nil))))
      (pss_cons (ps_set (i := 9) scRows.nd rfl (Or.inr rfl) (pe_comp rfl csRows1 (pi_range1 rfl mr (pa_cons (pv 0) pa_nil)) (fun _ _ _ _ _ => pg_name (i := 0) csRows1.nd rfl (Or.inl rfl)) (fun _ _ _ _ _ => pe_op op_mod (pe_ix (ixL K rfl) (pv 2) (pe_op op_add pe_int (pv 0)) (fun _ _ => rfl)) (pv 1))))
      (pss_cons (PS.weak (tRI K) (ps_if (pt_cmp (pc_eqI (pv 4) pe_int)) (pss_one (ps_set (i := 9) scRows.nd rfl (Or.inr rfl) (pe_comp rfl csRows2 (pi_list (pv 9)) (fun _ _ _ _ _ => pg_name (i := 0) csRows2.nd rfl (Or.inl rfl)) (fun _ _ _ _ _ => pe_callB (call_min2 rfl) rfl mm PyProof.Rows.boot_min (pa_cons (pe_op op_sub (pv 2) pe_int) (pa_cons (pe_op op_add (pe_op op_add (pv 1) pe_int) (pv 0)) pa_nil)))))) pss_nil) ?_)
      (pss_cons (PS.weak (tRI K) (ps_if (pt_cmp (pc_eqI (pv 4) pe_int)) (pss_one (ps_set (i := 9) scRows.nd rfl (Or.inr rfl) (pe_comp rfl csRows3 (pi_range1 rfl mr (pa_cons (pv 0) pa_nil)) (fun _ _ _ _ _ => pg_name (i := 0) csRows3.nd rfl (Or.inl rfl)) (fun _ _ _ _ _ => pe_ifExp (pt_cmp (pc_eqI (pv 0) (pe_op op_mod (pe_op op_fdiv (pe_ix (ixL K rfl) (pv 4) pe_int (fun _ _ => rfl)) pe_int) (pv 2)))) (pe_ix (ixL K rfl) (pv 1) (pv 0) (fun _ _ => rfl)) (pe_op op_sub (pv 3) pe_int))))) pss_nil) ?_)
      (pss_cons (PS.weak (tRI K) (ps_if (PT.weak (tAny (PreRI K)) (PW.pt (pw_or (PW.pt (pw_and (pt_chain op_le op_le pe_int (pv 4) pe_int) (pw_and1 (pt_cmp (pc_eqI (pv 6) (pe_op op_sub (pv 3) pe_int)))))) (pw_or1 (PW.pt (pw_and (pt_cmp (pc_eqI (pv 4) pe_int)) (pw_and1 (pt_cmp (pc_eqI (pe_op op_mod (pe_ix ix_list (pv 7) pe_int (fun _ _ => rfl)) pe_int) pe_int)))))))) ?_)
        (pss_one (ps_set (i := 8) scRows.nd rfl (Or.inl rfl) (pe_callTy (call_tuple_rng rfl) rfl mt PyProof.Rows.boot_tuple (pa_cons (pe_callTy call_rng rfl mr PyProof.Rows.boot_range (pa_cons (pv 0) pa_nil)) pa_nil)))) pss_nil) ?_)
      (pss_cons (PS.weak (tRI K) (ps_if (PT.weak (tAny (PreRI K)) (PW.pt (pw_and (pt_chain op_le op_le pe_int (pv 4) pe_int) (pw_and1 (pt_cmp (pc_eqI (pv 6) (pe_op op_sub (pv 3) pe_int)))))) ?_)
        (pss_one (ps_set (i := 9) scRows.nd rfl (Or.inr rfl) (pe_op op_rep (pe_lst (pa_cons (pv 6) pa_nil)) (pv 0)))) pss_nil) ?_)
      (pss_one (ps_expr (pe_bm PySem.F.plainAttrs_list PySem.F.slot_list_append PySem.F.type_list_append mt_append (pv 5) (pa_cons (pe_tup (pa_cons (pv 8) (pa_cons (pe_callTy call_tuple_of rfl mt PyProof.Rows.boot_tuple (pa_cons (pv 9) pa_nil)) pa_nil))) pa_nil))))))))))))
    (pss_one (ps_ret (pv 5))))))), ?_⟩
  · intro D σ H h
    obtain ⟨n, m, c, kd, j, ln, lr, lp, ps, H0, rf, ri, nx⟩ := h
    obtain ⟨b, lg, p, gs, rfl, s0, db, hp, eg, hgl, hgr⟩ := ri.ex
    have h5 := rf.n5
    have hjm := rf.jm
    refine (exA rfl ⟨_, exA rfl ⟨rfl, exA rfl (ite2 (fun _ => ?_) (fun _ => nx _ _ ri))⟩⟩)
    refine ⟨_, rfl, lg, rfl, ⟨_, SqL.of eg⟩, fun l hl => comp_list (xs := gs.map V.int) (GI m H) (GI.nil hl) (fun i ys H2 _ h => by obtain ⟨_, _, _, _, s⟩ := h; exact SqL.of (s _ _ eg)) (by rw [List.length_map]; exact line_le (by lia)) (fun i ys H2 h => h.len) (fun i x ys H2 hx h hy => ?_) (fun ys H2 h hy => ?_)⟩
    · have hil : i < gs.length := by have := (List.getElem?_eq_some_iff.mp hx).1; rwa [List.length_map] at this
      have eg' : gs[i]? = some gs[i] := List.getElem?_eq_getElem hil
      obtain ⟨h0, h1⟩ := hgr _ (List.getElem_mem hil)
      generalize gs[i] = gi at eg' h0 h1
      have ex : x = V.int gi := by rw [List.getElem?_map, eg'] at hx; exact (Option.some.inj hx).symm
      subst ex
      exact (exA rfl ⟨_, exA rfl ⟨rfl, exA rfl ⟨_, exA rfl ⟨rfl, exA rfl ⟨_, exA rfl ⟨rfl, _, exA rfl ⟨hy, h.snoc hl ⟨by split <;> lia, by split <;> lia⟩⟩⟩⟩⟩⟩⟩⟩)
    · obtain ⟨gs', rfl, el, r', s'⟩ := h
      rw [List.length_map] at el
      exact nx _ _ ⟨b, l, p, gs', rfl, s0.trans s', db.mono s', hp, hy, by lia, r'⟩
  · intro D σ H h
    obtain ⟨n, m, c, kd, j, ln, lr, lp, ps, H0, rf, ri, nx⟩ := h
    obtain ⟨b, lg, p, gs, rfl, s0, db, hp, eg, hgl, hgr⟩ := ri.ex
    have h5 := rf.n5
    have h2 := rf.n2
    have hjm := rf.jm
    have elp := s0 _ _ rf.lp
    have h6 := rf.len
    have ep : ps[0]? = some ps[0] := List.getElem?_eq_getElem (by lia)
    refine (exA rfl ⟨_, exA rfl ⟨rfl, exA rfl (ite2 (fun _ => ?_) (fun _ => nx _ _ ri))⟩⟩)
    refine (exA rfl ⟨(n : Int), rfl, by lia, by lia, fun l hl => comp_range (n := (n : Int).toNat) (GI m H) (GI.nil hl) (line_le (by lia)) (fun i ys H2 h => h.len) (fun i ys H2 hi h hy => ?_) (fun ys H2 h hy => ?_)⟩)
    · have e0 : (0 : Int) + (i : Int) = (i : Int) := by lia
      rw [e0]
      have hil : i < gs.length := by lia
      have eg' : gs[i]? = some gs[i] := List.getElem?_eq_getElem hil
      obtain ⟨h0, h1⟩ := hgr _ (List.getElem_mem hil)
      generalize gs[i] = gi at eg' h0 h1
      obtain ⟨_, _, _, _, s2⟩ := id h
      refine (exA rfl (exA rfl ⟨lp, _, _, V.int ps[0], rfl, rfl, SqL.of (s2 _ _ elp), atI_nat (j := 0) (by rw [List.getElem?_map, ep]; rfl), _, exA rfl ⟨rfl, ⟨by decide, by decide⟩, exA rfl ⟨_, exA rfl ⟨rfl, pmod (by lia), _, exA rfl ⟨rfl, exA rfl (ite2 (fun _ => ?_) (fun _ => ?_))⟩⟩⟩⟩⟩))
      · exact (exA rfl (exA rfl ⟨lg, _, _, V.int gi, rfl, rfl, SqL.of (s2 _ _ eg), atI_nat (by rw [List.getElem?_map, eg']; rfl), hy, h.snoc hl ⟨h0, h1⟩⟩))
      · exact (exA rfl ⟨_, exA rfl ⟨rfl, hy, h.snoc hl ⟨by lia, by lia⟩⟩⟩)
    · obtain ⟨gs', rfl, el, r', s'⟩ := h
      exact nx _ _ ⟨b, l, p, gs', rfl, s0.trans s', db.mono s', hp, hy, by lia, r'⟩
  · intro σ H Q h
    obtain ⟨⟨n, m, c, kd, j, ln, lr, lp, ps, H0, rf, ri⟩, q⟩ := h
    obtain ⟨b, lg, p, gs, rfl, s0, db, hp, eg, hgl, hgr⟩ := ri.ex
    have elp := s0 _ _ rf.lp
    have h6 := rf.len
    have ep : ps[0]? = some ps[0] := List.getElem?_eq_getElem (by lia)
    refine (exA rfl ⟨_, exA rfl ⟨rfl, exA rfl (ite2 (fun _ => ⟨_, exA rfl ⟨rfl, exA rfl (ite2 (fun _ => (exA rfl (exA rfl ⟨_, exA rfl ⟨rfl, _, exA rfl ⟨rfl, exA rfl (ite2 (fun _ => q _) (fun _ => ?_))⟩⟩⟩))) (fun _ => iteF ?_))⟩⟩) (fun _ => (exA rfl (iteF (iteF ?_)))))⟩⟩)
    all_goals exact (exA rfl ⟨_, exA rfl ⟨rfl, exA rfl (ite2 (fun _ => (exA rfl ⟨lp, _, _, V.int ps[0], rfl, rfl, SqL.of elp, atI_nat (j := 0) (by rw [List.getElem?_map, ep]; rfl), _, exA rfl ⟨rfl, pmod, _, exA rfl ⟨rfl, exA rfl (q _)⟩⟩⟩)) (fun _ => q _))⟩⟩)
  · intro D σ H h
    obtain ⟨n, m, c, kd, j, ln, lr, lp, ps, H0, rf, ri, nx⟩ := h
    obtain ⟨b, lg, p, gs, rfl, s0, db, hp, eg, hgl, hgr⟩ := ri.ex
    have h5 := rf.n5
    refine ⟨⟨n, m, c, kd, j, ln, lr, lp, ps, H0, rf, ri⟩, fun cc => ite2 (fun _ => ?_) (fun _ => nx _ _ ri)⟩
    refine (exA rfl ⟨(n : Int), rfl, by lia, by lia, fun r hr0 => ⟨r, 0, (n : Int), rfl, upd_same, ⟨by decide, by decide, by lia, by lia⟩, by lia, fun l hl => ?_⟩⟩)
    have e : ((n : Int) - 0).toNat = n := by lia
    rw [e, rint_iota]
    have s' := same_up (o := HO.tup ((iota n).map V.int)) (same_up (o := HO.rng 0 n) (Same.refl H) hr0) hl
    exact nx _ _ ⟨.ref l, lg, iota n, gs, rfl, s0.trans s', Dr.tup upd_same (DrL.ints _), isP_iota n, s' _ _ eg, hgl, hgr⟩
  · intro σ H Q h
    obtain ⟨⟨n, m, c, kd, j, ln, lr, lp, ps, H0, rf, ri⟩, q⟩ := h
    obtain ⟨b, lg, p, gs, rfl, s0, db, hp, eg, hgl, hgr⟩ := ri.ex
    exact (exA rfl ⟨_, exA rfl ⟨rfl, exA rfl (ite2 (fun _ => ⟨_, exA rfl ⟨rfl, exA rfl (ite2 (fun _ => (exA rfl (exA rfl ⟨_, exA rfl ⟨rfl, _, exA rfl ⟨rfl, exA rfl (q _)⟩⟩⟩))) (fun _ => q _))⟩⟩) (fun _ => (exA rfl (iteF (q _)))))⟩⟩)
  · intro D σ H h
    obtain ⟨n, m, c, kd, j, ln, lr, lp, ps, H0, rf, ri, nx⟩ := h
    obtain ⟨b, lg, p, gs, rfl, s0, db, hp, eg, hgl, hgr⟩ := ri.ex
    have h5 := rf.n5
    have hjm := rf.jm
    refine ⟨⟨n, m, c, kd, j, ln, lr, lp, ps, H0, rf, ri⟩, fun cc => ite2 (fun _ => ?_) (fun _ => nx _ _ ri)⟩
    refine (exA rfl ⟨by show 1 ≤ sizeLine; decide, fun l0 hl0 => (exA rfl ⟨l0, (n : Int), exA rfl ⟨rfl, upd_same, by lia, by lia, ?_, fun l hl => ?_⟩⟩)⟩)
    · show 1 * (n : Int).toNat ≤ sizeLine
      exact line_le (by lia)
    have e : ((n : Int)).toNat = n := by lia
    rw [e, flat1]
    have s' := same_up (o := HO.lst ((List.replicate n (j : Int)).map V.int)) (same_up (o := HO.lst [V.int (j : Int)]) (Same.refl H) hl0) hl
    exact nx _ _ ⟨b, l, p, List.replicate n (j : Int), rfl, s0.trans s', db.mono s', hp, upd_same, List.length_replicate, fun g hg => by rw [(List.mem_replicate.mp hg).2]; lia⟩
  refine (exA rfl ⟨c, 64, rfl, by lia, fun ln H1 ns s1 e1 hns => ?_⟩)
  have hnl := hns.1
  have en0 : ns[0]? = some ns[0] := List.getElem?_eq_getElem (by lia)
  have en1 : ns[1]? = some ns[1] := List.getElem?_eq_getElem (by lia)
  obtain ⟨m, hm⟩ := nat_of (x := (1 : Int) + ns[0] % 8) (by lia)
  have hm1 : 1 ≤ m := by lia
  have hm8 : m ≤ 8 := by lia
  refine (exA rfl ⟨ln, _, _, V.int ns[0], rfl, rfl, SqL.of e1, atI_nat (j := 0) (by rw [List.getElem?_map, en0]; rfl), _, exA rfl ⟨rfl, pmod, _, exA rfl ⟨rfl, ?_⟩⟩⟩)
  generalize ns[1] = n1 at en1
  refine (exA rfl ⟨ln, _, _, V.int n1, rfl, rfl, SqL.of e1, atI_nat (j := 1) (by rw [List.getElem?_map, en1]; rfl), _, exA rfl ⟨rfl, pmod, by show 0 ≤ sizeLine; decide, fun lr hlr => ?_⟩⟩)
  obtain ⟨kd, hkd⟩ : ∃ kd, kd = n1 % 6 := ⟨_, rfl⟩
  have s2 := same_up (o := HO.lst []) (Same.refl H1) hlr
  refine ⟨_, rfl, (m : Int), (by rw [← hm]), by lia, by lia, rangeO (n := (m : Int).toNat) (fun i σ H2 => ∃ (u6 u7 u8 u9 : Option V) (us : List V) (rs : List Row), σ = [some (.int n), some (.int c), some (.ref ln), some (.int m), some (.int kd), some (.ref lr), u6, u7, u8, u9] ∧ Same H1 H2 ∧ H2 lr = some (.lst us) ∧ DrL K H2 (rowsD rs) us ∧ rs.length = i ∧ GR n m rs)
    ⟨_, _, _, _, [], [], (by rw [← hm, hkd]; rfl), s2, upd_same, DrL.nil, rfl, fun r hr => by simp at hr⟩ (fun i σ H2 hi h Ed nx3 => ?_) (fun σ H2 h => ?_)⟩
  · obtain ⟨u6, u7, u8, u9, us, rs, rfl, t2, elr, drs, hrl, gr⟩ := h
    have e0 : (0 : Int) + (i : Int) = (i : Int) := by lia
    rw [e0]
    have him : i < m := by lia
    obtain ⟨ps, ecut, hp6, hpr⟩ := cut6 (i := i) hns (by lia)
    have ep : ps[0]? = some ps[0] := List.getElem?_eq_getElem (by lia)
    refine (exA rfl (exA rfl ⟨_, exA rfl ⟨rfl, .inl ⟨by decide, by decide⟩, _, exA rfl ⟨rfl, exA rfl (exA rfl ⟨_, exA rfl ⟨rfl, .inl ⟨by decide, by decide⟩, _, exA rfl ⟨rfl, exA rfl ⟨ln, exA rfl ⟨SqL.of (t2 _ _ e1), fun lp hlp => ?_⟩⟩⟩⟩⟩)⟩⟩⟩))
    rw [ecut]
    have s3 := same_up (o := HO.lst (ps.map V.int)) (Same.refl H2) hlp
    refine (exA rfl ⟨lp, _, _, V.int ps[0], rfl, rfl, SqL.of upd_same, atI_nat (j := 0) (by rw [List.getElem?_map, ep]; rfl), exA rfl ⟨ps[0], n, rfl, by lia, fun b H3 s4 d3 => ?_⟩⟩)
    have elp3 : H3 lp = some (.lst (ps.map V.int)) := s4 _ _ upd_same
    refine (exA rfl ⟨(n : Int), rfl, by lia, by lia, fun lg hlg => comp_range (n := (n : Int).toNat) (GI m H3) (GI.nil hlg) (line_le (by lia)) (fun i ys H h => h.len) (fun k ys H4 hk h hy => ?_) (fun ys H4 h hy => ?_)⟩)
    · have ek : (1 : Int) + (0 + (k : Int)) = ((1 + k : Nat) : Int) := by lia
      have ek' : ps[1 + k]? = some (ps[1 + k]'(by lia)) := List.getElem?_eq_getElem (by lia)
      generalize ps[1 + k]'(by lia) = pk at ek'
      obtain ⟨_, _, _, _, s5⟩ := id h
      refine (exA rfl (exA rfl ⟨_, exA rfl ⟨rfl, lp, _, _, V.int pk, rfl, rfl, SqL.of (s5 _ _ elp3), (by rw [ek]; exact atI_nat (by rw [List.getElem?_map, ek']; rfl)), exA rfl ⟨_, exA rfl ⟨rfl, pmod (by lia), hy, h.snoc hlg ⟨?_, ?_⟩⟩⟩⟩⟩))
      · exact Int.emod_nonneg _ (by lia)
      · exact Int.emod_lt_of_pos _ (by lia)
    obtain ⟨gs, rfl, hgl, hgr, s5⟩ := h
    have rf : RF n m i ps lp H3 := ⟨hn2, hn5, him, hm8, elp3, hp6, hpr⟩
    refine ⟨n, m, c, kd, i, ln, lr, lp, ps, H3, rf, ⟨b, lg, _, gs, rfl, s5, d3.mono s5, rearr_perm _ _, hy, by lia, hgr⟩, fun σ1 H5 r1 => ⟨n, m, c, kd, i, ln, lr, lp, ps, H3, rf, r1, fun σ2 H6 r2 => ⟨n, m, c, kd, i, ln, lr, lp, ps, H3, rf, r2, fun σ3 H7 r3 => ⟨n, m, c, kd, i, ln, lr, lp, ps, H3, rf, r3, fun σ4 H8 r4 => ?_⟩⟩⟩⟩
    clear hgl hgr hy
    obtain ⟨b, lg, p, gs, rfl, s0, db, hp, eg, hgl, hgr⟩ := r4.ex
    have s28 : Same H2 H8 := (s3.trans s4).trans s0
    refine (exA rfl ⟨.inl ⟨rfl, _, SqL.of (s28 _ _ elr)⟩, exA rfl (exA rfl ⟨lg, exA rfl (.inl ⟨SqL.of eg, fun t4 ht4 => ⟨by show 2 ≤ sizeLine; decide, fun t5 ht5 => ?_⟩⟩)⟩)⟩)
    have s9 := same_up (o := HO.tup (gs.map V.int)) (Same.refl H8) ht4
    have s10 := same_up (o := HO.tup [b, .ref t4]) s9 ht5
    have elr' := s10 _ _ (s28 _ _ elr)
    have hul : us.length = i := by have := drs.length; unfold rowsD at this; rw [List.length_map] at this; lia
    refine ⟨lr, us, .ref t5, rfl, rfl, elr', small1000 (by lia), ?_⟩
    obtain ⟨b0, rfl, eb⟩ := Dr.its_inv db
    have kk : TupK H8 (upd (upd (upd H8 t4 (.tup (gs.map V.int))) t5 (.tup [.ref b0, .ref t4])) lr (.lst (us ++ [.ref t5]))) := TupK.up (TupK.of s10) elr' (fun _ z => by cases z)
    have nt5 : t5 ≠ lr := ne_of upd_same elr' (by intro z; cases z)
    have nt4 : t4 ≠ t5 := ne_of_none upd_same ht5
    have nt4f : t4 ≠ lr := ne_of (show upd (upd H8 t4 (.tup (gs.map V.int))) t5 (.tup [.ref b0, .ref t4]) t4 = some (.tup (gs.map V.int)) by rw [upd_ne nt4]; exact upd_same) elr' (by intro z; cases z)
    refine nx3 _ _ ⟨_, _, _, _, us ++ [.ref t5], rs ++ [(p, gs)], rfl, same_over (t2.trans (s28.trans s10)) hlr, upd_same, ?_, by rw [List.length_append, hrl]; rfl, gr.snoc ⟨hp, hgl, hgr⟩⟩
    unfold rowsD
    rw [List.map_append]
    refine DrL.append ((drs.mono s28).keyed kk (rows_key _)) (DrL.one (rowD_mk (r := (p, gs)) (b := b0) (c := t4) ?_ (kk _ _ eb) ?_))
    · rw [upd_ne nt5]; exact upd_same
    · rw [upd_ne nt4f, upd_ne nt4]; exact upd_same
  · obtain ⟨u6, u7, u8, u9, us, rs, rfl, t2, elr, drs, hrl, gr⟩ := h
    exact (exA rfl (q lr H2 rs (s1.trans t2) ⟨us, elr, drs⟩ (gr.good (by lia) hm1 (by lia)) (by lia)))
end
end Gu
namespace Gu
open PySem L2
section
variable {P : Program} {w : World} {K : PySem.W.Frag} {mg : Str → Option Value} {base : Heap} {f g : Addr} {fd gd : FuncData} {CX : CXT} [NoE CX]
noncomputable abbrev nIlN : List Str := ["_law_rows_here", "_law_line", "_law_marks", "_law_place", "_law_heads", "_law_row"]
noncomputable abbrev nIlN1 : List Str := ["_law_row", "_law_marks", "_law_place", "_law_rows_here"]
noncomputable abbrev cIlN1 : Scope := csc [(".0", .local), ("_law_row", .local), ("tuple", .globalImplicit), ("_law_marks", .free), ("_law_place", .free), ("_law_rows_here", .free)]
theorem scIlN : FnScope nIlN ["_law_rows_here", "_law_line", "_law_marks"] (defScope sInLine) := ⟨rfl, rfl, rfl, by decide +kernel, rfl, by decide +kernel, by decide +kernel⟩
theorem csIlN1 : CompS nIlN (defScope sInLine) nIlN1 [none, some 2, some 3, some 0] cIlN1 := ⟨rfl, by decide +kernel, by decide +kernel, by decide +kernel, rfl, by decide +kernel, by decide +kernel⟩
noncomputable abbrev cIlN2 : Scope := csc [(".0", .local), ("_law_row", .local), ("tuple", .globalImplicit), ("_law_marks", .cell), ("_law_place", .cell), ("_law_rows_here", .cell)]
theorem csIlN2 : CompS nIlN1 cIlN2 ["_law_to", "_law_marks", "_law_place"] [none, some 1, some 2] (csc [(".0", .local), ("_law_to", .local), ("_law_marks", .free), ("_law_place", .free)]) := ⟨rfl, by decide +kernel, by decide +kernel, by decide +kernel, rfl, by decide +kernel, by decide +kernel⟩
theorem ok_inlineN (F : Fun K "_law_in_line" "_law_in_line" sInLine f fd) (ml : mg "len" = none) (mt : mg "tuple" = none) : FnOk P w K mg base CX 1 f fd ["_law_rows_here", "_law_line", "_law_marks"] (spInLineN K) := by
  refine F.okc scIlN (fun vs H Q E h => ?_) (fun cdv A outer s H vs Q E hr h => ?_)
  · obtain ⟨a, l, m, n, rows, nm, us, o, k, kvs, rfl, _⟩ := h
    rfl
  obtain ⟨a, l, m, n, rows, nm, us, o, k, kvs, rfl, Sa, da, ni, GM, hn, el, em, mk, L, cl, q⟩ := h
  have hu := hu_of hr
  refine ⟨_, pss_cons (ps_set (i := 3) scIlN.nd rfl (Or.inr rfl) pe_dnewK)
    (pss_cons (ps_set (i := 4) scIlN.nd rfl (Or.inl rfl) (pe_lst pa_nil))
    (pss_cons (ps_for PassesOwn.never rfl (pi_list (pv 1)) (pg_name (i := 5) scIlN.nd rfl (Or.inl rfl))
      (pss_one (ps_if (pt_cmp (pc_dnotin hu (pe_dget hu (pv 2) (pv 5) (fun _ _ => rfl)) (pv 3)))
        (pss_cons (ps_dput hu (pv 3) (pe_dget hu (pv 2) (pv 5) (fun _ _ => rfl)) (pe_callB call_len_seq rfl ml PySem.boot_len (pa_cons (pv 4) pa_nil)) rfl)
        (pss_one (ps_expr (pe_bm PySem.F.plainAttrs_list PySem.F.slot_list_append PySem.F.type_list_append mt_append (pv 4) (pa_cons (pv 5) pa_nil))))) pss_nil)))
    (pss_one (ps_ret (pe_callTy call_tuple_of rfl mt PyProof.Rows.boot_tuple (pa_cons (pe_comp rfl csIlN1 (pi_list (pv 4)) (fun _ _ _ _ _ => pg_name (i := 0) csIlN1.nd rfl (Or.inl rfl))
      (fun _ _ _ _ _ => pe_tup (pa_cons (pe_callTy (cTup K rfl) rfl mt PyProof.Rows.boot_tuple (pa_cons (pe_ix (ixT K rfl) (pe_ix (ixQ K rfl) (pv 3) (pv 0) (fun _ _ => rfl)) pe_int (fun _ _ => rfl)) pa_nil))
        (pa_cons (pe_callTy (cTup K rfl) rfl mt PyProof.Rows.boot_tuple (pa_cons (pe_comp rfl csIlN2 (piT K rfl (pe_ix (ixT K rfl) (pe_ix (ixQ K rfl) (pv 3) (pv 0) (fun _ _ => rfl)) pe_int (fun _ _ => rfl))) (fun _ _ _ _ _ => pg_name (i := 0) csIlN2.nd rfl (Or.inl rfl))
          (fun _ _ _ _ _ => pe_dget hu (pv 2) (pe_dget hu (pv 1) (pv 0) (fun _ _ => rfl)) (fun _ _ => rfl))) pa_nil)) pa_nil)))) pa_nil)))))), ?_⟩
  have hol := L.len
  have h400 := GM.few
  have gk : ∀ r ∈ o, valV kvs (kN nm r) = some (V.int (k r)) := fun r hr => by
    obtain ⟨v, hv, d⟩ := mk.get ni hr
    simp only [Dr] at d
    rw [hv, d]
  refine fun lp hlp => ⟨by show 0 ≤ sizeLine; decide, fun lh hlh => ?_⟩
  have s1 := same_up (o := HO.dK []) (Same.refl H) hlp
  have hlh0 : H lh = none := s1.free hlh
  have nph : lp ≠ lh := ne_of_none upd_same hlh
  have s2 := same_up (o := HO.lst []) s1 hlh
  refine ⟨_, rfl, l, rfl, ⟨_, SqL.of (s2 _ _ el)⟩, listO (xs := o.map (nV nm)) (fun i σ H2 => ∃ (u : Option V), σ = [some (.ref a), some (.ref l), some (.ref m), some (.ref lp), some (.ref lh), u] ∧ Same H H2 ∧ H2 lh = some (.lst ((heads k (o.take i)).map (nV nm))) ∧ H2 lp = some (.dK (prs Sum.inl ((heads k (o.take i)).map k))))
    ⟨_, rfl, s2, upd_same, by rw [upd_ne nph]; exact upd_same⟩ (fun i σ H2 _ h => by obtain ⟨_, _, t2, _⟩ := h; exact SqL.of (t2 _ _ el)) (fun i x σ H2 hx h Ed nx3 => ?_) (fun σ H2 h => ?_)⟩
  · obtain ⟨u, rfl, t2, e1, e2⟩ := h
    have hil : i < o.length := by have := (List.getElem?_eq_some_iff.mp hx).1; rwa [List.length_map] at this
    have eo : o[i]? = some o[i] := List.getElem?_eq_getElem hil
    have hro : o[i] ∈ o := List.getElem_mem hil
    generalize o[i] = r at eo hro
    have ex : x = V.int (nm r) := by rw [List.getElem?_map, eo] at hx; exact (Option.some.inj hx).symm
    subst ex
    have et : heads k (o.take (i + 1)) = hdStep k (heads k (o.take i)) r := by rw [List.take_add_one, eo]; exact heads_snoc k _ _
    have hhl := (heads_has k (o.take i)).2.2
    rw [List.length_take] at hhl
    generalize heads k (o.take i) = hs at *
    have gm : DGet H2 m (V.int (nm r)) (some (V.int (k r))) := by rw [← gk r hro]; exact DGet.k (k := kN nm r) (t2 _ _ em)
    refine (exA rfl (exA rfl ⟨m, exA rfl ⟨gm, exA rfl ⟨lp, exA rfl ⟨DGet.k (k := Sum.inl (k r)) e2, exA rfl ?_⟩⟩⟩⟩))
    have hv := prs_val (κ := Key) Sum.inl inl_inj (hs.map k) (k r)
    by_cases hm : k r ∈ hs.map k
    · rw [hv, if_pos hm]
      refine iteF (nx3 _ _ (exA rfl ⟨t2, ?_, ?_⟩))
      · rw [et, hdStep, if_pos hm]; exact e1
      · rw [et, hdStep, if_pos hm]; exact e2
    · rw [hv, if_neg hm]
      have nlop : lh ≠ lp := Ne.symm nph
      refine iteT (exA rfl ⟨lh, exA rfl ⟨.inl (SqL.of e1), exA rfl (exA rfl (exA rfl ⟨m, exA rfl ⟨gm, lp, exA rfl ⟨DPut.k (k := Sum.inl (k r)) e2 (by rw [prsF_len, List.length_map]; exact small5 (by lia)), ?_⟩⟩⟩))⟩⟩)
      have e1' : upd H2 lp (.dK (putK (prs Sum.inl (hs.map k)) (Sum.inl (k r) : Key) (V.int ((hs.map (nV nm)).length : Nat)))) lh = some (.lst (hs.map (nV nm))) := by rw [upd_ne nlop]; exact e1
      refine (exA rfl ⟨.inl ⟨rfl, _, SqL.of e1'⟩, exA rfl ⟨lh, _, exA rfl ⟨rfl, e1', by rw [List.length_map]; exact small5 (by lia), ?_⟩⟩⟩)
      refine nx3 _ _ (exA rfl ⟨same_over (same_over t2 hlp) hlh0, ?_, ?_⟩)
      · rw [upd_same, et, hdStep, if_neg hm, List.map_append]; rfl
      · rw [upd_ne nph, upd_same, et, hdStep, if_neg hm, List.map_append]
        have := prs_put (κ := Key) Sum.inl inl_inj hm
        rw [List.length_map] at this ⊢
        rw [this]; rfl
  · obtain ⟨u, rfl, t2, e1, e2⟩ := h
    rw [List.length_map, List.take_length] at e1 e2
    obtain ⟨hh1, hh2, hh3⟩ := heads_has k o
    unfold inLine at q
    generalize heads k o = hs at *
    refine (exA rfl ⟨lh, rfl, ⟨_, SqL.of e1⟩, fun l3 hl3 => comp_list (xs := hs.map (nV nm)) (fun i ys H3 => i ≤ hs.length ∧ ys.length = i ∧ Same H2 H3 ∧ DrL K H3 (((hs.take i).map fun r => rowD ((row rows r).1, (row rows r).2.map fun g => (((hs.map k).idxOf (k g) : Nat) : Int)))) ys) ⟨Nat.zero_le _, rfl, same_up (Same.refl H2) hl3, DrL.nil⟩ (fun i ys H3 _ h => SqL.of (h.2.2.1 _ _ e1)) (by rw [List.length_map]; exact line_le (by lia)) (fun i ys H3 h => h.2.1) (fun i x ys H3 hx h hy => ?_) (fun ys H3 h hy => ?_)⟩)
    · obtain ⟨_, hyl, s3, d3⟩ := h
      have hil : i < hs.length := by have := (List.getElem?_eq_some_iff.mp hx).1; rwa [List.length_map] at this
      have eo : hs[i]? = some hs[i] := List.getElem?_eq_getElem hil
      have hrh : hs[i] ∈ hs := List.getElem_mem hil
      generalize hs[i] = r at eo hrh
      have hro := hh2 r hrh
      have ex : x = V.int (nm r) := by rw [List.getElem?_map, eo] at hx; exact (Option.some.inj hx).symm
      subst ex
      obtain ⟨r0, r1⟩ := L.rg r hro
      obtain ⟨nr0, v, ev, dv⟩ := da r r0 r1
      have t3 := t2.trans s3
      obtain ⟨t, b, cc, rfl, et, eb, ec⟩ := rowD_inv (dv.mono t3)
      dsimp only [rowN] at eb ec
      have hgl := GM.len _ (row_mem r0 r1)
      have hgo := cl r hro
      have esn := take_snoc (fun r => rowD ((row rows r).1, (row rows r).2.map fun g => (((hs.map k).idxOf (k g) : Nat) : Int))) eo
      generalize hrr : (row rows r).2 = gs at *
      refine (exA rfl (exA rfl ⟨a, _, nm r, .ref t, rfl, rfl, Sa.mono t3, atI_of nr0 ev, t, _, _, .ref b, rfl, rfl, SqT.of et, atI_nat (j := 0) rfl, b, exA rfl (.inr ⟨SqT.of eb, ?_⟩)⟩))
      refine (exA rfl (exA rfl ⟨a, _, nm r, .ref t, rfl, rfl, Sa.mono t3, atI_of nr0 ev, t, _, _, .ref cc, rfl, rfl, SqT.of et, atI_nat (j := 1) rfl, cc, rfl, ⟨_, SqT.of ec⟩, fun l4 hl4 => comp_tup (xs := (gs.map nm).map V.int) (fun j zs H4 => j ≤ gs.length ∧ zs = ((gs.take j).map fun g => (((hs.map k).idxOf (k g) : Nat) : Int)).map V.int ∧ Same H3 H4) ⟨Nat.zero_le _, rfl, same_up (Same.refl H3) hl4⟩ (fun j zs H4 _ h => SqT.of (h.2.2 _ _ ec)) (by rw [List.length_map, List.length_map]; exact line_le (by lia)) (fun j zs H4 h => ?_) (fun j x zs H4 hx h hy4 => ?_) (fun zs H4 h hy4 => ?_)⟩))
      · obtain ⟨hj, rfl, _⟩ := h
        rw [List.length_map, List.length_map, List.length_take]
        lia
      · obtain ⟨hj, rfl, s4⟩ := h
        have hjl : j < gs.length := by have := (List.getElem?_eq_some_iff.mp hx).1; rwa [List.length_map, List.length_map] at this
        have eg : gs[j]? = some gs[j] := List.getElem?_eq_getElem hjl
        have hgm := hgo _ (List.getElem_mem hjl)
        generalize gs[j] = gj at eg hgm
        have ex : x = V.int (nm gj) := by rw [List.getElem?_map, List.getElem?_map, eg] at hx; exact (Option.some.inj hx).symm
        subst ex
        have t4 := t3.trans s4
        have gm : DGet H4 m (V.int (nm gj)) (some (V.int (k gj))) := by rw [← gk gj hgm]; exact DGet.k (k := kN nm gj) (t4 _ _ em)
        have hv := prs_val (κ := Key) Sum.inl inl_inj (hs.map k) (k gj)
        rw [if_pos (hh1 gj hgm)] at hv
        refine (exA rfl (exA rfl (exA rfl ⟨m, exA rfl ⟨gm, lp, exA rfl ⟨(by rw [← hv]; exact DGet.k (k := Sum.inl (k gj)) (s4 _ _ (s3 _ _ e2))), hy4, hjl, ?_, same_over s4 hl4⟩⟩⟩)))
        rw [take_snoc _ eg, List.map_append]
        rfl
      · obtain ⟨_, rfl, s4⟩ := h
        rw [List.length_map, List.length_map, List.take_length] at hy4
        refine ⟨l4, exA rfl (.inl ⟨SqL.of hy4, fun t4 ht4 => ⟨by show 2 ≤ sizeLine; decide, fun t5 ht5 => ?_⟩⟩)⟩
        have s5 := same_up (o := HO.tup ((gs.map fun g => (((hs.map k).idxOf (k g) : Nat) : Int)).map V.int)) s4 ht4
        have s6 := same_up (o := HO.tup [.ref b, .ref t4]) s5 ht5
        have hy6 := s6 _ _ hy
        refine ⟨hy6, hil, by rw [List.length_append, hyl]; rfl, same_over (s3.trans s6) hl3, ?_⟩
        have kk : TupK H3 (upd (upd (upd H4 t4 (.tup ((gs.map fun g => (((hs.map k).idxOf (k g) : Nat) : Int)).map V.int))) t5 (.tup [.ref b, .ref t4])) l3 (.lst (ys ++ [.ref t5]))) := TupK.up (TupK.of s6) hy6 (fun _ z => by cases z)
        have nt5 : t5 ≠ l3 := ne_of upd_same hy6 (by intro z; cases z)
        have nt4 : t4 ≠ t5 := ne_of_none upd_same ht5
        have nt4f : t4 ≠ l3 := ne_of (show upd (upd H4 t4 (.tup ((gs.map fun g => (((hs.map k).idxOf (k g) : Nat) : Int)).map V.int))) t5 (.tup [.ref b, .ref t4]) t4 = _ by rw [upd_ne nt4]; exact upd_same) hy6 (by intro z; cases z)
        rw [esn]
        refine DrL.append (d3.keyed kk (by have := rows_key ((hs.take i).map fun r => ((row rows r).1, (row rows r).2.map fun g => (((hs.map k).idxOf (k g) : Nat) : Int))); unfold rowsD at this; rw [List.map_map] at this; exact this)) (DrL.one (rowD_mk (b := b) (c := t4) ?_ (kk _ _ eb) ?_))
        · rw [upd_ne nt5]; exact upd_same
        · rw [upd_ne nt4f, upd_ne nt4]; exact upd_same
    · obtain ⟨_, _, s3, d3⟩ := h
      rw [List.length_map, List.take_length] at d3
      refine ⟨l3, exA rfl (.inl ⟨SqL.of hy, fun t ht => ?_⟩)⟩
      refine q _ _ ((t2.trans s3).trans (same_up (Same.refl H3) ht)) (Dr.tup upd_same ?_)
      unfold rowsD
      rw [List.map_map]
      exact d3.mono (same_up (Same.refl H3) ht)
end
end Gu
namespace Gu
open PySem L2
section
variable {P : Program} {w : World} {K : PySem.W.Frag} {mg : Str → Option Value} {base : Heap} {f g : Addr} {fd gd : FuncData} {CX : CXT} [NoE CX]
noncomputable abbrev nShN : List Str := ["_law_rows_here", "_law_start", "_law_line", "_law_marks", "_law_at", "_law_to", "_law_many", "_law_grown", "_law_known", "_law_fresh", "_law_row", "_law_key"]
theorem scShN : FnScope nShN ["_law_rows_here", "_law_start"] (defScope sShrunk) := ⟨rfl, rfl, rfl, by decide +kernel, rfl, by decide +kernel, by decide +kernel⟩
theorem csShN : CompS nShN (defScope sShrunk) ["_law_to", "_law_marks"] [none, some 3] (csc [(".0", .local), ("_law_to", .local), ("_law_marks", .free)]) := ⟨rfl, by decide +kernel, by decide +kernel, by decide +kernel, rfl, by decide +kernel, by decide +kernel⟩
theorem put_addN2 (u : List D) (d : D) (hn : u.Nodup) : putK (prs id u) d ((valV (prs id u) d).getD (V.int ((prs id u).length : Nat))) = prs id (addN u d) := by
  have hv : valV (prs id u) d = _ := prs_val id (fun _ _ e => e) u d
  by_cases hm : d ∈ u
  · rw [hv, if_pos hm, addN_mem hm]
    have := prs_put_same 0 u d hm hn
    rw [Nat.zero_add] at this
    exact this
  · rw [hv, if_neg hm, addN_new hm, ← prs_put id (fun _ _ e => e) hm]
    rw [prsF_len]
    rfl
theorem ok_shrunkN (F : Fun K "_law_shrunk" "_law_shrunk" sShrunk f fd) (ml : mg "len" = none) (mt : mg "tuple" = none)
    (G : FnOk P w K mg base CX 1 g gd ["_law_rows_here", "_law_line", "_law_marks"] (spInLineN K)) (bG : Binds K gd ["_law_rows_here", "_law_line", "_law_marks"] []) (kG : PySem.W.keepIn K (.ref g) = true) (mG : mg "_law_in_line" = some (.ref g)) : FnOk P w K mg base CX 2 f fd ["_law_rows_here", "_law_start"] (spShrunkN K) := by
  refine F.okc scShN (fun vs H Q E h => ?_) (fun cdv A outer s H vs Q E hr h => ?_)
  · obtain ⟨a, n, rows, nm, us, rfl, _⟩ := h
    rfl
  obtain ⟨a, n, rows, nm, us, rfl, Sa, da, ni, GM, hn, q⟩ := h
  have hu := hu_of hr
  have hu9 : (A.deeper (PyProof.Rows.envOfC "_law_shrunk" (defScope sShrunk) s.heap.objs.size f cdv)).units + 9 < cLine := by have := hr.units; lia
  refine ⟨_, pss_cons (ps_set (i := 2) scShN.nd rfl (Or.inl rfl) (pe_lst (pa_cons (pv 1) pa_nil)))
    (pss_cons (ps_set (i := 3) scShN.nd rfl (Or.inr rfl) (pe_disp (pps_cons (pv 1) (pe_ix ix_tup (pe_ix (ixQ K rfl) (pv 0) (pv 1) (fun _ _ => rfl)) pe_int (fun _ _ => rfl)) pps_nil) rfl rfl (by simp) (by decide)))
    (pss_cons (ps_set (i := 4) scShN.nd rfl (Or.inl rfl) pe_int)
    (pss_cons (ps_while PassesOwn.never (pt_cmpR op_lt (pv 4) (pe_callB call_len_seq rfl ml PySem.boot_len (pa_cons (pv 2) pa_nil)) (nomark _))
      (pss_cons (ps_for PassesOwn.never rfl (pi_tup (pe_ix ix_tup (pe_ix (ixQ K rfl) (pv 0) (pe_ix ix_list (pv 2) (pv 4) (fun _ _ => rfl)) (fun _ _ => rfl)) pe_int (fun _ _ => rfl))) (pg_name (i := 5) scShN.nd rfl (Or.inl rfl))
        (pss_one (ps_if (pt_cmp (pc_dnotin hu (pv 5) (pv 3)))
          (pss_cons (ps_dput hu (pv 3) (pv 5) (pe_ix ix_tup (pe_ix (ixQ K rfl) (pv 0) (pv 5) (fun _ _ => rfl)) pe_int (fun _ _ => rfl)) rfl)
          (pss_one (ps_expr (pe_bm PySem.F.plainAttrs_list PySem.F.slot_list_append PySem.F.type_list_append mt_append (pv 2) (pa_cons (pv 5) pa_nil))))) pss_nil)))
      (pss_one (ps_aug (i := 4) scShN.nd rfl (Or.inl rfl) pe_int ip_add))))
    (pss_cons (ps_set (i := 6) scShN.nd rfl (Or.inl rfl) pe_int)
    (pss_cons (ps_set (i := 7) scShN.nd rfl (Or.inl rfl) pe_bl)
    (pss_cons (ps_while PassesOwn.never (pt_val (pv 7))
      (pss_cons (ps_set (i := 8) scShN.nd rfl (Or.inl rfl) (pe_newD (K := K)))
      (pss_cons (ps_set (i := 9) scShN.nd rfl (Or.inl rfl) pe_dnewK)
      (pss_cons (ps_for PassesOwn.never rfl (pi_list (pv 2)) (pg_name (i := 10) scShN.nd rfl (Or.inl rfl))
        (pss_cons (ps_set (i := 11) scShN.nd rfl (Or.inl rfl) (pe_tup (pa_cons (pe_dget hu (pv 3) (pv 10) (fun _ _ => rfl)) (pa_cons (pe_callTy call_tuple_of rfl mt PyProof.Rows.boot_tuple (pa_cons
          (pe_comp rfl csShN (pi_tup (pe_ix ix_tup (pe_ix (ixQ K rfl) (pv 0) (pv 10) (fun _ _ => rfl)) pe_int (fun _ _ => rfl))) (fun _ _ _ _ _ => pg_name (i := 0) csShN.nd rfl (Or.inl rfl)) (fun _ _ _ _ _ => pe_dget hu (pv 1) (pv 0) (fun _ _ => rfl))) pa_nil)) pa_nil))))
        (pss_cons (ps_putD (K := K) hu9 (pv 8) (pv 11) (pe_get2D (K := K) hu9 (pv 8) (pv 11) (pe_callB (cLenD K) rfl ml PySem.boot_len (pa_cons (pv 8) pa_nil)) ⟨rfl, rfl, rfl, rfl⟩))
        (pss_one (ps_dput hu (pv 9) (pv 10) (pe_getD (K := K) hu9 (pv 8) (pv 11) (fun _ _ => rfl)) rfl)))))
      (pss_cons (ps_set (i := 7) scShN.nd rfl (Or.inl rfl) (pe_cmpR op_gt (pe_callB (cLenD K) rfl ml PySem.boot_len (pa_cons (pv 8) pa_nil)) (pv 6) (nomark _)))
      (pss_cons (ps_set (i := 6) scShN.nd rfl (Or.inl rfl) (pe_callB (cLenD K) rfl ml PySem.boot_len (pa_cons (pv 8) pa_nil)))
      (pss_one (ps_set (i := 3) scShN.nd rfl (Or.inr rfl) (pv 9)))))))))
    (pss_one (ps_ret (pe_call G hr rfl mG kG bG .nil passN (pa_cons (pv 0) (pa_cons (pv 2) (pa_cons (pv 3) pa_nil)))))))))))), ?_⟩
  have h400 := GM.few
  have h1 := GM.some
  have hz1 : (0 : Int) < (rows.length : Int) := by lia
  refine (exA rfl ⟨by show 1 ≤ sizeLine; decide, fun lo hlo => ?_⟩)
  refine fun lm hlm => (exA rfl ?_)
  have s1 := same_up (o := HO.lst [V.int (nm 0)]) (Same.refl H) hlo
  have s2 := same_up (o := HO.dK []) s1 hlm
  have nlo : lo ≠ lm := ne_of_none upd_same hlm
  have hlm0 : H lm = none := s1.free hlm
  obtain ⟨nz0, v0, ev0, dv0⟩ := da 0 (Int.le_refl 0) hz1
  obtain ⟨t0, b0, c0, rfl, et0, eb0, ec0⟩ := rowD_inv (dv0.mono s2)
  refine (exA rfl (exA rfl ⟨a, _, nm 0, .ref t0, rfl, rfl, Sa.mono s2, atI_of nz0 ev0, t0, _, _, .ref b0, rfl, rfl, SqT.of et0, atI_nat (j := 0) rfl, upd_same, [(Sum.inl (nm 0), V.ref b0)], rfl, by simp, ?_⟩))
  have s3 : Same H (upd (upd (upd H lo (.lst [.int (nm 0)])) lm (.dK [])) lm (.dK (mergeK [] [(Sum.inl (nm 0), V.ref b0)]))) := same_over s2 hlm0
  have hF0 := FK.its rows
  have L0 := line0 GM
  have OL := order_line GM
  have hol := OL.1.len
  show tWhile _ _ _ _ _
  refine cutW (fun σ' H' => ∃ (i0 : Int) (o : List Int) (u5 : Option V) (kvs : List (Key × V)), σ' = [some (.ref a), some (.int (nm 0)), some (.ref lo), some (.ref lm), some (.int i0), u5, none, none, none, none, none, none] ∧ Same H H' ∧ H' lo = some (.lst (o.map (nV nm))) ∧ H' lm = some (.dK kvs) ∧ MkN nm K H' o (fun r => D.its (row rows r).1) kvs ∧ Line rows o ∧ order rows = o) (fun Ed nx => ?_) (fun σ' H' p => ?_)
  rotate_left
  · obtain ⟨i0, o, u5, kvs, rfl, t2, glo, glm, mk2, L, eoo⟩ := p
    have cl : ∀ r ∈ o, ∀ g ∈ (row rows r).2, g ∈ o := by have := OL.2; rwa [eoo] at this
    have hln := L.len
    refine ⟨fun m σ H3 => ∃ (f : Int → D) (many : Nat) (gr : Bool) (lm : Addr) (kvs : List (Key × V)) (u8 u9 u10 u11 : Option V), σ = [some (.ref a), some (.int (nm 0)), some (.ref lo), some (.ref lm), some (.int i0), u5, some (.int many), some (.bl gr), u8, u9, u10, u11] ∧ Same H H3 ∧ H3 lo = some (.lst (o.map (nV nm))) ∧ H3 lm = some (.dK kvs) ∧ MkN nm K H3 o f kvs ∧ FK f ∧
        ((gr = true ∧ o.length + 2 ≤ m + many ∧ many ≤ o.length ∧ sloop rows o m many f = smarks rows) ∨ (gr = false ∧ f = smarks rows)),
      ⟨rows.length + 2, _, 0, true, lm, kvs, _, _, _, _, rfl, t2, glo, glm, mk2, hF0, .inl ⟨rfl, by lia, by lia, by unfold smarks; rw [eoo]⟩⟩, ?_⟩
    clear glm mk2
    rintro m σ H3 ⟨f, many, gr, lm, kvs, u8, u9, u10, u11, rfl, t3, elo, elm, mk3, hf, alt⟩
    refine (exA rfl (exA rfl (ite2 (fun c => ?_) (fun c => ?_))))
    · obtain ⟨_, hm1, hm2, hsl⟩ := alt.resolve_right fun z => by rw [z.1] at c; cases c
      clear alt
      refine cutN fun N nx2 => ?_
      intro lk hlk ob0 g0 lf hlf
      have s4 := same_up (o := ob0) (Same.refl H3) hlk
      have hlf0 : H3 lf = none := s4.free hlf
      have nkf : lk ≠ lf := ne_of_none upd_same hlf
      have s5 := same_up (o := HO.dK []) s4 hlf
      refine ⟨_, rfl, lo, rfl, ⟨_, SqL.of (s5 _ _ elo)⟩, listO (xs := o.map (nV nm)) (fun i σ H4 => ∃ (u10 u11 : Option V) (kv4 : List (Key × V)), σ = [some (.ref a), some (.int (nm 0)), some (.ref lo), some (.ref lm), some (.int i0), u5, some (.int many), some (.bl gr), some (.ref lk), some (.ref lf), u10, u11] ∧ Same H3 H4 ∧ DD P w K H4 lk (prs id (uniq ((skeys rows o f).take i))) ∧ H4 lf = some (.dK kv4) ∧ MkN nm K H4 (o.take i) (sround rows o f) kv4)
        ⟨_, _, [], rfl, s5, ?_, upd_same, MkN.nil⟩ (fun i σ H4 _ h => by obtain ⟨_, _, _, _, t4, _⟩ := h; exact SqL.of (t4 _ _ elo)) (fun i x σ H4 hx h Ed nx3 => ?_) (fun σ H4 h => ?_)⟩
      · exact g0.mono (same_up (Same.refl _) hlf)
      · obtain ⟨u10, u11, kv4, rfl, t4, g4, elf, mk4⟩ := h
        have hil : i < o.length := by have := (List.getElem?_eq_some_iff.mp hx).1; rwa [List.length_map] at this
        have eo : o[i]? = some o[i] := List.getElem?_eq_getElem hil
        have hro : o[i] ∈ o := List.getElem_mem hil
        have hnew : o[i] ∉ o.take i := nd_take L.nd eo
        generalize o[i] = r at eo hro hnew
        have ex : x = V.int (nm r) := by rw [List.getElem?_map, eo] at hx; exact (Option.some.inj hx).symm
        subst ex
        obtain ⟨r0, r1⟩ := L.rg r hro
        have t34 := t3.trans t4
        obtain ⟨nr0, vr, evr, dvr⟩ := da r r0 r1
        obtain ⟨t, b, cc, rfl, et, eb, ec⟩ := rowD_inv (dvr.mono t34)
        dsimp only [rowN] at eb ec
        have hgl := GM.len _ (row_mem r0 r1)
        have hgo := cl r hro
        obtain ⟨v, hv, dv⟩ := mk3.get ni hro
        have gm : DGet H4 lm (V.int (nm r)) (some v) := by rw [← hv]; exact DGet.k (k := kN nm r) (t4 _ _ elm)
        have ekey : keyOf rows f r = D.tup [f r, D.tup ((row rows r).2.map f)] := rfl
        have ks := hf.key (rows := rows) r
        have esk : (skeys rows o f)[i]? = some (keyOf rows f r) := by unfold skeys; rw [List.getElem?_map, eo]; rfl
        have hidx : (((uniq ((skeys rows o f).take (i + 1))).idxOf (keyOf rows f r) : Nat) : Int) = sroundI rows o f r := by
          unfold sroundI
          obtain ⟨m2, e2⟩ := addAll_sub ((skeys rows o f).drop (i + 1)) (uniq ((skeys rows o f).take (i + 1)))
          have e3 : uniq (skeys rows o f) = uniq ((skeys rows o f).take (i + 1)) ++ m2 := by
            rw [← e2]
            unfold uniq addAll
            rw [← List.foldl_append, List.take_append_drop]
          rw [e3, idxOf_app]
          refine addAll_mem.mpr (.inr ?_)
          rw [List.take_add_one, esk]
          simp
        have hun : uniq ((skeys rows o f).take (i + 1)) = addN (uniq ((skeys rows o f).take i)) (keyOf rows f r) := by
          unfold uniq
          rw [List.take_add_one, esk]
          exact addAll_snoc _ _ _
        have hund : (uniq ((skeys rows o f).take i)).Nodup := addAll_nodup _ _ List.nodup_nil
        have hunl : (uniq ((skeys rows o f).take i)).length ≤ 4000 := by
          have := uniq_le ((skeys rows o f).take i)
          rw [List.length_take] at this
          lia
        rw [hun] at hidx
        generalize uniq ((skeys rows o f).take i) = un at *
        generalize hgs : (row rows r).2 = gs at *
        dsimp only [gName]
        refine cutQ (fun σ' H' => ∃ t7 : Addr, σ' = [some (.ref a), some (.int (nm 0)), some (.ref lo), some (.ref lm), some (.int i0), u5, some (.int many), some (.bl gr), some (.ref lk), some (.ref lf), some (.int (nm r)), some (.ref t7)] ∧ Same H4 H' ∧ Dr K H' (keyOf rows f r) (.ref t7)) (fun Eq nxq => ?_) (fun σ' H7 p => ?_)
        rotate_left
        · obtain ⟨t7, rfl, s47, dk⟩ := p
          have g7 := g4.mono s47
          have e7f := s47 _ _ elf
          have t7' := t4.trans s47
          refine (exA rfl ⟨lk, exA rfl ⟨g7, exA rfl (exA rfl ⟨lk, exA rfl ⟨g7, _, _, g7, keyV ks dk, exA rfl (exA rfl ⟨lk, _, exA rfl ⟨g7, keyV ks dk, by rw [prsF_len]; exact small5 (by lia), fun ob g8 => ?_⟩⟩)⟩⟩)⟩⟩)
          rw [put_addN2 un _ hund] at g8
          have k8 : TupK H7 (upd H7 lk ob) := by
            obtain ⟨xs, e0, _⟩ := g7
            exact TupK.up (TupK.refl _) e0 (fun _ z => by unfold dExt at z; cases z)
          have dk8 := dk.keyed k8 ks.1
          have hval : valV (prs id (addN un (keyOf rows f r))) (keyOf rows f r) = some (V.int (sroundI rows o f r)) := by
            have := prs_val (κ := D) id (fun _ _ e => e) (addN un (keyOf rows f r)) (keyOf rows f r)
            rw [if_pos (addN_has _ _), hidx] at this
            exact this
          have e8f : upd H7 lk ob lf = some (.dK kv4) := by rw [upd_ne nkf.symm]; exact e7f
          refine (exA rfl (exA rfl ⟨lk, _, _, exA rfl ⟨g8, keyV ks dk8, hval, exA rfl (exA rfl ⟨lf, exA rfl ⟨DPut.k (k := kN nm r) e8f (by rw [mk4.len, List.length_take]; exact small5 (by lia)), ?_⟩⟩)⟩⟩))
          have k9 : TupK (upd H7 lk ob) (upd (upd H7 lk ob) lf (.dK (putK kv4 (kN nm r) (V.int (sroundI rows o f r))))) := TupK.up (TupK.refl _) e8f (fun _ z => by cases z)
          refine nx3 _ _ ⟨_, _, exA rfl ⟨same_over (same_over t7' hlk) hlf0, ?_, upd_same, ?_⟩⟩
          · rw [hun]
            exact DD.keyed g8 k9 (by rw [upd_ne nkf])
          · rw [List.take_add_one, eo]
            exact (mk4.mono s47).put ni hnew (((mk4.mono s47).keyed k8 (FK.int _)).keyed k9 (FK.int _)) (Dr.int _)
        refine (exA rfl (exA rfl ⟨lm, v, rfl, gm, exA rfl (exA rfl ⟨a, _, nm r, .ref t, rfl, rfl, Sa.mono t34, atI_of nr0 evr, t, _, _, .ref cc, rfl, rfl, SqT.of et, atI_nat (j := 1) rfl, cc, rfl, ⟨_, SqT.of ec⟩, fun l5 hl5 => comp_tup (xs := (gs.map nm).map V.int) (fun j zs H5 => j ≤ gs.length ∧ zs.length = j ∧ Same H4 H5 ∧ DrL K H5 ((gs.take j).map f) zs) ⟨Nat.zero_le _, rfl, same_up (Same.refl H4) hl5, DrL.nil⟩ (fun j zs H5 _ h => SqT.of (h.2.2.1 _ _ ec)) (by rw [List.length_map, List.length_map]; exact line_le (by lia)) (fun j zs H5 h => h.2.1) (fun j x zs H5 hx h hy5 => ?_) (fun zs H5 h hy5 => ?_)⟩)⟩))
        · obtain ⟨hj, hzl, s5', d5⟩ := h
          have hjl : j < gs.length := by have := (List.getElem?_eq_some_iff.mp hx).1; rwa [List.length_map, List.length_map] at this
          have eg : gs[j]? = some gs[j] := List.getElem?_eq_getElem hjl
          have hgm := hgo _ (List.getElem_mem hjl)
          generalize gs[j] = gj at eg hgm
          have ex : x = V.int (nm gj) := by rw [List.getElem?_map, List.getElem?_map, eg] at hx; exact (Option.some.inj hx).symm
          subst ex
          obtain ⟨vg, hvg, dvg⟩ := mk3.get ni hgm
          have gmg : DGet H5 lm (V.int (nm gj)) (some vg) := by rw [← hvg]; exact DGet.k (k := kN nm gj) (s5' _ _ (t4 _ _ elm))
          have kk : TupK H5 (upd H5 l5 (.lst (zs ++ [vg]))) := TupK.up (TupK.refl _) hy5 (fun _ z => by cases z)
          refine (exA rfl (exA rfl ⟨lm, vg, rfl, gmg, hy5, hjl, by rw [List.length_append, hzl]; rfl, same_over s5' hl5, ?_⟩))
          rw [take_snoc _ eg]
          exact DrL.append (d5.keyed kk (hf.keyL _)) (DrL.one ((dvg.mono (t4.trans s5')).keyed kk (hf gj).1))
        · obtain ⟨_, hzl, s5', d5⟩ := h
          rw [List.length_map, List.length_map, List.take_length] at d5
          refine ⟨l5, exA rfl (.inl ⟨SqL.of hy5, fun t6 ht6 => ⟨by show 2 ≤ sizeLine; decide, fun t7 ht7 => ?_⟩⟩)⟩
          have s6 := same_up (o := HO.tup zs) (Same.refl H5) ht6
          have s7 := same_up (o := HO.tup [v, .ref t6]) s6 ht7
          have s47 := s5'.trans s7
          have nt6 : t6 ≠ t7 := ne_of_none upd_same ht7
          have dk : Dr K (upd (upd H5 t6 (.tup zs)) t7 (.tup [v, .ref t6])) (keyOf rows f r) (.ref t7) := by
            rw [ekey]
            exact Dr.tup upd_same (DrL.cons (dv.mono (t4.trans s47)) (DrL.one (Dr.tup (by rw [upd_ne nt6]; exact upd_same) (d5.mono s7))))
          exact nxq _ _ ⟨t7, rfl, s47, dk⟩
      · obtain ⟨u10, u11, kv4, rfl, t4, g4, elf, mk4⟩ := h
        rw [List.length_map] at g4 mk4
        rw [List.take_length] at mk4
        rw [List.take_of_length_le (by unfold skeys; rw [List.length_map]; lia)] at g4
        have hcl := scount_le rows o f
        refine (exA rfl ⟨lk, exA rfl ⟨g4, exA rfl ⟨_, exA rfl ⟨rfl, exA rfl ⟨lk, exA rfl ⟨g4, exA rfl ?_⟩⟩⟩⟩⟩⟩)
        have hpl : (prs id (uniq (skeys rows o f))).length = scount rows o f := prsF_len _ _ _
        cases m with
        | zero => lia
        | succ m =>
          refine nx2 m _ _ (Nat.lt_succ_self m) ⟨sround rows o f, scount rows o f, decide ((many : Int) < (scount rows o f : Nat)), lf, kv4, _, _, _, _, (by rw [← hpl]; rfl), t3.trans t4, t4 _ _ elo, elf, mk4, FK.int _, ?_⟩
          unfold sloop at hsl
          by_cases hc : many < scount rows o f
          · rw [if_pos hc] at hsl
            exact .inl ⟨decide_eq_true (by lia), by lia, hcl, hsl⟩
          · rw [if_neg hc] at hsl
            exact .inr ⟨decide_eq_false (by lia), hsl⟩
    · rcases alt with ⟨hg, _⟩ | ⟨_, hfs⟩
      · exact absurd hg c
      refine (exA rfl (exA rfl (exA rfl ⟨a, lo, lm, n, rows, nm, us, o, kOf rows, kvs, rfl, Sa.mono t3, da.mono t3, ni, GM, hn, elo, elm, ?_, L, cl, fun v H4 s4 d4 => ?_⟩)))
      · rw [hfs, smarks_int rows] at mk3; exact mk3
      · refine q v H4 (t3.trans s4) ?_
        unfold shr
        rw [eoo]
        exact d4
  refine ⟨fun m σ H2 => ∃ (i : Nat) (o : List Int) (u5 : Option V) (kvs : List (Key × V)), m = rows.length + 1 - i ∧ σ = [some (.ref a), some (.int (nm 0)), some (.ref lo), some (.ref lm), some (.int i), u5, none, none, none, none, none, none] ∧ Same H H2 ∧ H2 lo = some (.lst (o.map (nV nm))) ∧ H2 lm = some (.dK kvs) ∧
      MkN nm K H2 o (fun r => D.its (row rows r).1) kvs ∧ Line rows o ∧ i ≤ o.length ∧ bfs rows (rows.length + 1 - i) i o = order rows,
    ⟨_, 0, [0], none, _, rfl, rfl, s3, ?_, upd_same, ?_, L0, by simp, rfl⟩, ?_⟩
  · rw [upd_ne nlo, upd_ne nlo]; exact upd_same
  · refine ⟨[.ref b0], rfl, ?_⟩
    show DrL K _ [D.its (row rows 0).1] [.ref b0]
    exact DrL.one (Dr.tup (by rw [upd_ne (ne_of eb0 upd_same (by intro z; cases z))]; exact eb0) (DrL.ints _))
  rintro m σ H2 ⟨i, o, u5, kvs, rfl, rfl, t2, glo, glm, mk2, L, hi, hb⟩
  have hol2 : (o.map (nV nm)).length = o.length := List.length_map _
  refine (exA rfl (exA rfl ⟨lo, exA rfl ⟨.inl (SqL.of glo), _, exA rfl ⟨rfl, exA rfl (ite2 (fun c => ?_) (fun c => ?_))⟩⟩⟩))
  · have c' := of_decide_eq_true c
    rw [hol2] at c'
    have hio : i < o.length := by lia
    have eo : o[i]? = some o[i] := List.getElem?_eq_getElem hio
    have hro : o[i] ∈ o := List.getElem_mem hio
    generalize o[i] = r at eo hro
    obtain ⟨r0, r1⟩ := L.rg r hro
    obtain ⟨nr0, v, ev, dv⟩ := da r r0 r1
    obtain ⟨t, b, cc, rfl, et, eb, ec⟩ := rowD_inv (dv.mono t2)
    dsimp only [rowN] at eb ec
    have hrow := row_mem r0 r1
    have hgl := GM.len _ hrow
    have hgo := GM.go _ hrow
    have hlen := L.len
    refine cutN fun N nx2 => ?_
    refine (exA rfl (exA rfl (exA rfl ⟨lo, _, _, V.int (nm r), rfl, rfl, SqL.of glo, atI_nat (by rw [List.getElem?_map, eo]; rfl), a, _, nm r, .ref t, rfl, rfl, Sa.mono t2, atI_of nr0 ev, t, _, _, .ref cc, rfl, rfl, SqT.of et, atI_nat (j := 1) rfl, cc, rfl, ⟨_, SqT.of ec⟩, ?_⟩)))
    generalize hgs : (row rows r).2 = gs at *
    refine tupO (xs := (gs.map nm).map V.int) (fun j σ H3 => ∃ (u : Option V) (kv3 : List (Key × V)), σ = [some (.ref a), some (.int (nm 0)), some (.ref lo), some (.ref lm), some (.int i), u, none, none, none, none, none, none] ∧ Same H H3 ∧ TupK H2 H3 ∧ H3 lo = some (.lst ((addAll o (gs.take j)).map (nV nm))) ∧ H3 lm = some (.dK kv3) ∧ MkN nm K H3 (addAll o (gs.take j)) (fun r => D.its (row rows r).1) kv3)
      ⟨_, kvs, rfl, t2, TupK.refl _, glo, glm, mk2⟩ (fun j σ H3 _ h => by obtain ⟨_, _, _, _, k3, _⟩ := h; exact SqT.of (k3 _ _ ec)) (fun j x σ H3 hx h Ed nx3 => ?_) (fun σ H3 h => ?_)
    · obtain ⟨u, kv3, rfl, t3, k3, e1, e2, mk3⟩ := h
      have hjl : j < gs.length := by have := (List.getElem?_eq_some_iff.mp hx).1; rwa [List.length_map, List.length_map] at this
      have eg : gs[j]? = some gs[j] := List.getElem?_eq_getElem hjl
      obtain ⟨g0, g1⟩ := hgo _ (List.getElem_mem hjl)
      generalize gs[j] = gj at eg g0 g1
      have ex : x = V.int (nm gj) := by rw [List.getElem?_map, List.getElem?_map, eg] at hx; exact (Option.some.inj hx).symm
      subst ex
      have et' : addAll o (gs.take (j + 1)) = addN (addAll o (gs.take j)) gj := by rw [List.take_add_one, eg]; exact addAll_snoc _ _ _
      have hal : (addAll o (gs.take j)).length ≤ 4500 := by
        have := addAll_len (gs.take j) o
        rw [List.length_take] at this
        lia
      generalize addAll o (gs.take j) = oj at *
      refine (exA rfl (exA rfl ⟨lm, exA rfl ⟨DGet.k (k := kN nm gj) e2, exA rfl ?_⟩⟩))
      by_cases hm : gj ∈ oj
      · obtain ⟨v', hv', _⟩ := mk3.get ni hm
        rw [hv']
        refine iteF (nx3 _ _ ⟨_, kv3, rfl, t3, k3, ?_, e2, ?_⟩)
        · rw [et', addN_mem hm]; exact e1
        · rw [et', addN_mem hm]; exact mk3
      · rw [mk3.no ni hm]
        have nlop : lo ≠ lm := nlo
        obtain ⟨ng0, v', ev', dv'⟩ := da gj g0 g1
        obtain ⟨t', b', c'', rfl, et'', eb'', ec''⟩ := rowD_inv (dv'.mono t3)
        refine iteT (exA rfl (exA rfl ⟨a, _, nm gj, .ref t', rfl, rfl, Sa.mono t3, atI_of ng0 ev', t', _, _, .ref b', rfl, rfl, SqT.of et'', atI_nat (j := 0) rfl, exA rfl (exA rfl ⟨lm, exA rfl ⟨DPut.k (k := kN nm gj) e2 (by rw [mk3.len]; exact small5 (by lia)), ?_⟩⟩)⟩))
        have e1' : upd H3 lm (.dK (putK kv3 (kN nm gj) (V.ref b'))) lo = some (.lst (oj.map (nV nm))) := by rw [upd_ne nlop]; exact e1
        refine (exA rfl ⟨.inl ⟨rfl, _, SqL.of e1'⟩, exA rfl ⟨lo, _, exA rfl ⟨rfl, e1', by rw [List.length_map]; exact small5 (by lia), ?_⟩⟩⟩)
        have kk : TupK H3 (upd (upd H3 lm (.dK (putK kv3 (kN nm gj) (V.ref b')))) lo (.lst (oj.map (nV nm) ++ [V.int (nm gj)]))) := TupK.up (TupK.up (TupK.refl _) e2 (fun _ z => by cases z)) e1' (fun _ z => by cases z)
        refine nx3 _ _ ⟨_, exA rfl ⟨same_over (same_over t3 hlm0) hlo, k3.trans kk, ?_, (by rw [upd_ne nlo.symm]; exact upd_same), ?_⟩⟩
        · rw [upd_same, et', addN_new hm, List.map_append]; rfl
        · rw [et', addN_new hm]
          exact mk3.put ni hm (mk3.keyed kk hF0) (Dr.tup (kk _ _ eb'') (DrL.ints _))
    · obtain ⟨u, kv3, rfl, t3, k3, e1, e2, mk3⟩ := h
      rw [List.length_map, List.length_map, List.take_length] at e1 mk3
      obtain ⟨mm, em⟩ := bfs_sub rows (rows.length + 1 - (i + 1)) (i + 1) (addAll o gs)
      have hb' : bfs rows (rows.length + 1 - (i + 1)) (i + 1) (addAll o gs) = order rows := by
        rw [← hb, show rows.length + 1 - i = (rows.length + 1 - (i + 1)) + 1 by lia, bfs_step eo, hgs]
      have L' : Line rows (addAll o gs) := by rw [← hgs]; exact L.add GM hro
      obtain ⟨m1, em1⟩ := addAll_sub gs o
      have hi' : i + 1 ≤ (addAll o gs).length := by rw [em1, List.length_append]; lia
      exact (exA rfl ⟨_, exA rfl ⟨rfl, nx2 (rows.length + 1 - (i + 1)) _ _ (by lia) ⟨i + 1, addAll o gs, _, kv3, rfl, rfl, t3, e1, e2, mk3, L', hi', hb'⟩⟩⟩)
  have c' := of_decide_eq_false (Bool.eq_false_iff.mpr c)
  rw [hol2] at c'
  have eoo : order rows = o := by rw [← hb]; exact bfs_stop (by lia)
  exact nx _ _ ⟨_, o, u5, kvs, rfl, t2, glo, glm, mk2, L, eoo⟩
end
end Gu
namespace Gu
open PySem L2
section
variable {P : Program} {w : World} {K : PySem.W.Frag} {mg : Str → Option Value} {base : Heap} {f g : Addr} {fd gd : FuncData} {CX : CXT} [NoE CX]
theorem scGuise : FnScope ["_law_letters_here", "_law_cell_here"] ["_law_letters_here", "_law_cell_here"] (defScope sGuise) := ⟨rfl, rfl, rfl, by decide +kernel, rfl, by decide +kernel, by decide +kernel⟩
theorem ok_guise {k : Addr} {kd : FuncData} (F : Fun K "_law_guise" "_law_guise" sGuise f fd)
    (G : FnOk P w K mg base CX 2 g gd ["_law_letters_here", "_law_cell_here"] (spRows K)) (bG : Binds K gd ["_law_letters_here", "_law_cell_here"] []) (kG : PySem.W.keepIn K (.ref g) = true) (mG : mg "_law_rows" = some (.ref g))
    (T : FnOk P w K mg base CX 2 k kd ["_law_rows_here", "_law_start"] (spShrunk K)) (bT : Binds K kd ["_law_rows_here", "_law_start"] []) (kT : PySem.W.keepIn K (.ref k) = true) (mT : mg "_law_shrunk" = some (.ref k)) : FnOk P w K mg base CX 3 f fd ["_law_letters_here", "_law_cell_here"] (spGuise K) := by
  refine F.okc scGuise (fun vs H Q E h => ?_) (fun cdv A outer s H vs Q E hr h => ?_)
  · obtain ⟨n, c, rfl, _⟩ := h
    rfl
  obtain ⟨n, c, rfl, h2, h5, q⟩ := h
  refine ⟨_, pss_one (ps_ret (pe_call T hr rfl mT kT bT .nil passN (pa_cons (pe_call G hr rfl mG kG bG .nil passN (pa_cons (pv 0) (pa_cons (pv 1) pa_nil))) (pa_cons pe_int pa_nil)))), ?_⟩
  refine (exA rfl (exA rfl ⟨n, c, rfl, h2, h5, fun r H1 rows s1 hr1 G1 h8 => ⟨r, n, rows, rfl, hr1, G1, by lia, fun v H2 s2 d => q v H2 rows (s1.trans s2) G1 h8 d⟩⟩))
end
end Gu
namespace Gu
open PySem L2
section
variable {P : Program} {w : World} {K : PySem.W.Frag} {mg : Str → Option Value} {base : Heap} {f g : Addr} {fd gd : FuncData} {CX : CXT} [NoE CX]
noncomputable abbrev nRo : List Str := ["_law_rows_here", "_law_at", "_law_word_here", "_law_made", "_law_letter"]
theorem scRo : FnScope nRo ["_law_rows_here", "_law_at", "_law_word_here"] (defScope sReadL) := ⟨rfl, rfl, rfl, by decide +kernel, rfl, by decide +kernel, by decide +kernel⟩
theorem ok_reado (F : Fun K "_law_read" "_law_read" sReadL f fd) (mt : mg "tuple" = none) : FnOk P w K mg base CX 1 f fd ["_law_rows_here", "_law_at", "_law_word_here"] (spReadO K) := by
  refine F.okc scRo (fun vs H Q E h => ?_) (fun cdv A outer s H vs Q E hr h => ?_)
  · obtain ⟨v, u, rows, n, wd, s0, rfl, _⟩ := h
    rfl
  obtain ⟨v, u, rows, n, wd, s0, rfl, dv, dw, GM, hn, h1000, hw, h0, h1, q⟩ := h
  obtain ⟨av, us, rfl, eav, dus⟩ : ∃ (av : Addr) (us : List V), v = .ref av ∧ H av = some (.tup us) ∧ DrL K H (rowsD rows) us := by
    simp only [Dr] at dv
    exact dv
  obtain ⟨aw, rfl, eaw⟩ := Dr.its_inv dw
  refine ⟨_, pss_cons (ps_set (i := 3) scRo.nd rfl (Or.inl rfl) (pe_lst pa_nil))
    (pss_cons (ps_for PassesOwn.never rfl (pi_tup (pv 2)) (pg_name (i := 4) scRo.nd rfl (Or.inl rfl))
      (pss_cons (ps_expr (pe_bm PySem.F.plainAttrs_list PySem.F.slot_list_append PySem.F.type_list_append mt_append (pv 3) (pa_cons (pe_ix ix_tup (pe_ix ix_tup (pe_ix ix_tup (pv 0) (pv 1) (fun _ _ => rfl)) pe_int (fun _ _ => rfl)) (pv 4) (fun _ _ => rfl)) pa_nil)))
      (pss_one (ps_set (i := 1) scRo.nd rfl (Or.inl rfl) (pe_ix ix_tup (pe_ix ix_tup (pe_ix ix_tup (pv 0) (pv 1) (fun _ _ => rfl)) pe_int (fun _ _ => rfl)) (pv 4) (fun _ _ => rfl))))))
    (pss_one (ps_ret (pe_tup (pa_cons (pe_callTy call_tuple_of rfl mt PyProof.Rows.boot_tuple (pa_cons (pv 3) pa_nil)) (pa_cons (pv 1) pa_nil)))))), ?_⟩
  refine ⟨by show 0 ≤ sizeLine; decide, fun lm hlm => ?_⟩
  have s1 := same_up (o := HO.lst []) (Same.refl H) hlm
  refine ⟨_, rfl, aw, rfl, ⟨_, SqT.of (s1 _ _ eaw)⟩, for_tup (xs := wd.map V.int) (fun i σ H3 => ∃ (u4 : Option V), σ = [some (.ref av), some (.int (goW rows s0 (wd.take i))), some (.ref aw), some (.ref lm), u4] ∧ Same H H3 ∧ H3 lm = some (.lst ((outW rows s0 (wd.take i)).map V.int)))
    ⟨_, rfl, s1, upd_same⟩ (fun i σ H3 _ h => by obtain ⟨_, _, t3, _⟩ := h; exact SqT.of (t3 _ _ eaw)) (fun i x σ H3 hx h => ?_) (fun σ H3 h => ?_)⟩
  · obtain ⟨u4, rfl, t3, em⟩ := h
    have hil : i < wd.length := by have := (List.getElem?_eq_some_iff.mp hx).1; rwa [List.length_map] at this
    have eg : wd[i]? = some wd[i] := List.getElem?_eq_getElem hil
    obtain ⟨l0, l1⟩ := hw _ (List.getElem_mem hil)
    generalize wd[i] = l at eg l0 l1
    have ex : x = V.int l := by rw [List.getElem?_map, eg] at hx; exact (Option.some.inj hx).symm
    subst ex
    have hwt : LW n (wd.take i) := fun x hx => hw x (List.mem_of_mem_take hx)
    obtain ⟨g0, g1⟩ := goW_rg GM hwt h0 h1
    have est : goW rows s0 (wd.take (i + 1)) = (row rows (goW rows s0 (wd.take i))).2.getD l.toNat 0 := by
      rw [List.take_add_one, eg, Option.toList, goW_app]
      rfl
    have eot : outW rows s0 (wd.take (i + 1)) = outW rows s0 (wd.take i) ++ [(row rows (goW rows s0 (wd.take i))).1.getD l.toNat 0] := by
      rw [List.take_add_one, eg, Option.toList, outW_app]
      rfl
    have hol : (outW rows s0 (wd.take i)).length = i := by rw [outW_len, List.length_take]; lia
    rw [est, eot]
    generalize outW rows s0 (wd.take i) = ms at em hol
    generalize goW rows s0 (wd.take i) = g at g0 g1
    obtain ⟨vr, evr, dvr⟩ := rows_at dus (row_get g0 g1)
    obtain ⟨t, b', c', rfl, et, eb, ec⟩ := rowD_inv (dvr.mono t3)
    have hgl := GM.len _ (row_mem g0 g1)
    have hpl := (GM.perm _ (row_mem g0 g1)).len
    have hll : l.toNat < (row rows g).2.length := by lia
    have hl1 : l.toNat < (row rows g).1.length := by lia
    refine (exA rfl ⟨.inl ⟨rfl, _, SqL.of em⟩, exA rfl (exA rfl ⟨av, _, g, .ref t, rfl, rfl, SqT.of (t3 _ _ eav), atI_of g0 evr, t, _, _, .ref b', rfl, rfl, SqT.of et, atI_nat (j := 0) rfl, exA rfl ⟨b', _, l, V.int ((row rows g).1.getD l.toNat 0), rfl, rfl, SqT.of eb, atI_of l0 ?_, lm, _, exA rfl ⟨rfl, em, small5 (by rw [List.length_map]; lia), ?_⟩⟩⟩)⟩)
    · rw [List.getElem?_map, List.getD_eq_getElem?_getD, List.getElem?_eq_getElem hl1]
      rfl
    have kk : TupK H3 (upd H3 lm (.lst (ms.map V.int ++ [V.int ((row rows g).1.getD l.toNat 0)]))) := TupK.up (TupK.refl _) em (fun _ z => by cases z)
    have t4 : Same H (upd H3 lm (.lst (ms.map V.int ++ [V.int ((row rows g).1.getD l.toNat 0)]))) := same_over t3 hlm
    refine (exA rfl (exA rfl ⟨av, _, g, .ref t, rfl, rfl, SqT.of (t4 _ _ eav), atI_of g0 evr, t, _, _, .ref c', rfl, rfl, SqT.of (kk _ _ et), atI_nat (j := 1) rfl, exA rfl ⟨c', _, l, V.int ((row rows g).2.getD l.toNat 0), rfl, rfl, SqT.of (kk _ _ ec), atI_of l0 ?_, exA rfl ⟨t4, ?_⟩⟩⟩))
    · rw [List.getElem?_map, List.getD_eq_getElem?_getD, List.getElem?_eq_getElem hll]
      rfl
    · rw [List.map_append]
      exact upd_same
  · obtain ⟨u4, rfl, t3, em⟩ := h
    rw [List.length_map, List.take_length] at *
    refine (exA rfl ⟨lm, exA rfl (.inl ⟨SqL.of em, fun t ht => (exA rfl ⟨by show 2 ≤ sizeLine; decide, fun r hr' => ?_⟩)⟩)⟩)
    exact q r t _ (same_up (same_up t3 ht) hr') upd_same (same_up (Same.refl _) hr' _ _ upd_same)
noncomputable abbrev nNL : List Str := ["_law_letters_here", "_law_word_here", "_law_number_here", "_law_letter"]
theorem scNL : FnScope nNL ["_law_letters_here", "_law_word_here"] (defScope sNumberL) := ⟨rfl, rfl, rfl, by decide +kernel, rfl, by decide +kernel, by decide +kernel⟩
theorem ok_numl (F : Fun K "_law_number" "_law_number" sNumberL f fd) : FnOk P w K mg base CX 1 f fd ["_law_letters_here", "_law_word_here"] (spNumL K) := by
  refine F.okc scNL (fun vs H Q E h => ?_) (fun cdv A outer s H vs Q E hr h => ?_)
  · obtain ⟨n, u, wd, rfl, _⟩ := h
    rfl
  obtain ⟨n, u, wd, rfl, dw, hn, gv⟩ := h
  refine ⟨_, pss_cons (ps_set (i := 2) scNL.nd rfl (Or.inl rfl) pe_int)
    (pss_cons (ps_for PassesOwn.never rfl (pi_tup (pv 1)) (pg_name (i := 3) scNL.nd rfl (Or.inl rfl))
      (pss_one (ps_set (i := 2) scNL.nd rfl (Or.inl rfl) (pe_op op_add (pe_op op_mul (pv 2) (pv 0)) (pv 3)))))
    (pss_one (ps_ret (pv 2)))), ?_⟩
  obtain ⟨aw, rfl, eaw⟩ := Dr.its_inv dw
  refine ⟨_, rfl, aw, rfl, ⟨_, SqT.of eaw⟩, for_tup (xs := wd.map V.int) (fun i σ H3 => ∃ (u3 : Option V), σ = [some (.int n), some (.ref aw), some (.int (numW n (wd.take i))), u3] ∧ H3 = H)
    ⟨_, rfl, rfl⟩ (fun i σ H3 _ h => by obtain ⟨_, _, t3⟩ := h; rw [t3]; exact SqT.of eaw) (fun i x σ H3 hx h => ?_) (fun σ H3 h => ?_)⟩
  · obtain ⟨u3, rfl, t3⟩ := h
    have hil : i < wd.length := by have := (List.getElem?_eq_some_iff.mp hx).1; rwa [List.length_map] at this
    have eg : wd[i]? = some wd[i] := List.getElem?_eq_getElem hil
    generalize wd[i] = l at eg
    have ex : x = V.int l := by rw [List.getElem?_map, eg] at hx; exact (Option.some.inj hx).symm
    subst ex
    have est : numW n (wd.take (i + 1)) = numW n (wd.take i) * (n : Int) + l := by
      rw [List.take_add_one, eg, Option.toList, numW_snoc]
    rw [est]
    exact (exA rfl (exA rfl ⟨_, exA rfl ⟨rfl, Or.inr ⟨by lia, by lia⟩, exA rfl ⟨_, exA rfl ⟨rfl, exA rfl t3⟩⟩⟩⟩))
  · obtain ⟨u3, rfl, t3⟩ := h
    rw [List.length_map, List.take_length]
    exact (exA rfl (gv H3 (by rw [t3]; exact Same.refl H)))
noncomputable abbrev nFS : List Str := ["_law_letters_here", "_law_many", "_law_found", "_law_turn"]
theorem scFS : FnScope nFS ["_law_letters_here", "_law_many"] (defScope sFloorSize) := ⟨rfl, rfl, rfl, by decide +kernel, rfl, by decide +kernel, by decide +kernel⟩
theorem ok_fsize (F : Fun K "_law_floor_size" "_law_floor_size" sFloorSize f fd) (mr : mg "range" = none) : FnOk P w K mg base CX 1 f fd ["_law_letters_here", "_law_many"] (spFSize K) := by
  refine F.okc scFS (fun vs H Q E h => ?_) (fun cdv A outer s H vs Q E hr h => ?_)
  · obtain ⟨n, m, rfl, _⟩ := h
    rfl
  obtain ⟨n, m, rfl, n0, hn, hm, q⟩ := h
  refine ⟨_, pss_cons (ps_set (i := 2) scFS.nd rfl (Or.inl rfl) pe_int)
    (pss_cons (ps_for PassesOwn.never rfl (pi_range1 rfl mr (pa_cons (pv 1) pa_nil)) (pg_name (i := 3) scFS.nd rfl (Or.inl rfl))
      (pss_one (ps_set (i := 2) scFS.nd rfl (Or.inl rfl) (pe_op op_mul (pv 2) (pv 0)))))
    (pss_one (ps_ret (pv 2)))), ?_⟩
  refine (exA rfl ⟨(m : Int), rfl, by lia, by lia, for_range (n := (m : Int).toNat) (fun i σ H3 => ∃ (u3 : Option V), σ = [some (.int n), some (.int m), some (.int ((n : Int) ^ i)), u3] ∧ H3 = H) (exA rfl rfl) (fun i σ H3 hi h => ?_) (fun σ H3 h => ?_)⟩)
  · obtain ⟨u3, rfl, t3⟩ := h
    rw [Int.pow_succ]
    exact (exA rfl (exA rfl ⟨_, exA rfl ⟨rfl, Or.inr ⟨by lia, by lia⟩, exA rfl t3⟩⟩))
  · obtain ⟨u3, rfl, t3⟩ := h
    rw [Int.toNat_natCast, t3]
    exact (exA rfl q)
noncomputable abbrev nFg : List Str := ["_law_letters_here", "_law_many", "_law_number_here", "_law_made", "_law_turn"]
theorem scFg : FnScope nFg ["_law_letters_here", "_law_many", "_law_number_here"] (defScope sFigures) := ⟨rfl, rfl, rfl, by decide +kernel, rfl, by decide +kernel, by decide +kernel⟩
theorem ok_figs (F : Fun K "_law_figures" "_law_figures" sFigures f fd) (mr : mg "range" = none) : FnOk P w K mg base CX 1 f fd ["_law_letters_here", "_law_many", "_law_number_here"] (spFigs K) := by
  refine F.okc scFg (fun vs H Q E h => ?_) (fun cdv A outer s H vs Q E hr h => ?_)
  · obtain ⟨n, m, x, rfl, _⟩ := h
    rfl
  obtain ⟨n, m, x, rfl, n0, hn, hm, q⟩ := h
  refine ⟨_, pss_cons (ps_set (i := 3) scFg.nd rfl (Or.inl rfl) (pe_tup pa_nil))
    (pss_cons (ps_for PassesOwn.never rfl (pi_range1 rfl mr (pa_cons (pv 1) pa_nil)) (pg_name (i := 4) scFg.nd rfl (Or.inl rfl))
      (pss_cons (ps_set (i := 3) scFg.nd rfl (Or.inl rfl) (pe_op op_catU (pe_tup (pa_cons (pe_op op_mod (pv 2) (pv 0)) pa_nil)) (pv 3)))
      (pss_one (ps_set (i := 2) scFg.nd rfl (Or.inl rfl) (pe_op op_fdiv (pv 2) (pv 0))))))
    (pss_one (ps_ret (pv 3)))), ?_⟩
  refine ⟨by show 0 ≤ sizeLine; decide, fun p0 hp0 => ?_⟩
  have s0 := same_up (o := HO.tup []) (Same.refl H) hp0
  refine (exA rfl ⟨(m : Int), rfl, by lia, by lia, for_range (n := (m : Int).toNat) (fun i σ H3 => ∃ (u4 : Option V) (t : Addr), σ = [some (.int n), some (.int m), some (.int (dvn n i x)), some (.ref t), u4] ∧ Same H H3 ∧ H3 t = some (.tup ((figW n i x).map V.int))) ⟨_, p0, rfl, s0, upd_same⟩ (fun i σ H3 hi h => ?_) (fun σ H3 h => ?_)⟩)
  · obtain ⟨u4, t, rfl, s3, e3⟩ := h
    refine (exA rfl (exA rfl ⟨_, exA rfl ⟨rfl, by lia, by show 1 ≤ sizeLine; decide, fun p hp => ?_⟩⟩))
    have s4 := same_up (o := HO.tup [V.int (dvn n i x % (n : Int))]) (Same.refl H3) hp
    refine (exA rfl ⟨p, t, _, exA rfl ⟨rfl, upd_same, s4 _ _ e3, ?_, fun p2 H4 s5 e4 => ?_⟩⟩)
    · rw [List.length_map, figW_len]
      show 1 + i ≤ sizeLine
      exact line_le (by lia)
    refine (exA rfl (exA rfl ⟨_, exA rfl ⟨rfl, ⟨by lia, by lia⟩, ?_⟩⟩))
    rw [dvn_snoc]
    refine ⟨_, p2, rfl, s3.trans (s4.trans s5), ?_⟩
    show H4 p2 = some (.tup ((lit n (i + 1) x).reverse.map V.int))
    rw [lit_snoc, List.reverse_append]
    exact e4
  · obtain ⟨u4, t, rfl, s3, e3⟩ := h
    rw [Int.toNat_natCast] at e3
    exact (exA rfl (q t H3 s3 e3))
end
end Gu
namespace Gu
open PySem L2
section
variable {P : Program} {w : World} {K : PySem.W.Frag} {mg : Str → Option Value} {base : Heap} {f g : Addr} {fd gd : FuncData} {CX : CXT} [NoE CX]
noncomputable abbrev nNO : List Str := ["letters", "word", "number", "letter"]
theorem scNO : FnScope nNO ["letters", "word"] (defScope sNumberOf) := ⟨rfl, rfl, rfl, by decide +kernel, rfl, by decide +kernel, by decide +kernel⟩
theorem ok_numberof {Ct aCk : Addr} {dCk : FuncData} (F : Fun K "number_of" "number_of" sNumberOf f fd)
    (Ck : FnOk P w K mg base (CXx P w) 1 aCk dCk ["letters", "word"] (spCheckW K Ct)) (bCk : Binds K dCk ["letters", "word"] []) (kCk : PySem.W.keepIn K (.ref aCk) = true) (mCk : mg "check_word" = some (.ref aCk)) : FnOk P w K mg base (CXx P w) 2 f fd ["letters", "word"] (spNumOf K Ct) := by
  refine F.okx scNO (fun vs H Q E h => ?_) (fun cdv A outer s H vs Q E hr h => ?_)
  · obtain ⟨n, u, wd, rfl, _⟩ := h
    rfl
  obtain ⟨n, u, wd, rfl, dw, hn, h5, gv, gx⟩ := h
  refine ⟨_, pss_cons (ps_expr (pe_call Ck hr rfl mCk kCk bCk .nil (passX fun _ _ _ z => z) (pa_cons (pv 0) (pa_cons (pv 1) pa_nil))))
    (pss_cons (ps_set (i := 2) scNO.nd rfl (Or.inl rfl) pe_int)
    (pss_cons (ps_for PassesOwn.leaving rfl (pi_tup (pv 1)) (pg_name (i := 3) scNO.nd rfl (Or.inl rfl))
      (pss_one (ps_set (i := 2) scNO.nd rfl (Or.inl rfl) (pe_op op_add (pe_op op_mul (pv 2) (pv 0)) (pv 3)))))
    (pss_one (ps_ret (pv 2))))), ?_⟩
  refine (exA rfl (exA rfl ⟨n, u, wd, rfl, dw, by lia, fun hw H2 s2 => ?_, fun hw ea H2 s2 => gx hw ea H2 s2⟩))
  obtain ⟨aw, rfl, eaw⟩ := Dr.its_inv dw
  refine ⟨_, rfl, aw, rfl, ⟨_, SqT.of (s2 _ _ eaw)⟩, for_tup (xs := wd.map V.int) (fun i σ H3 => ∃ (u3 : Option V), σ = [some (.int n), some (.ref aw), some (.int (numW n (wd.take i))), u3] ∧ Same H H3)
    ⟨_, rfl, s2⟩ (fun i σ H3 _ h => by obtain ⟨_, _, t3⟩ := h; exact SqT.of (t3 _ _ eaw)) (fun i x σ H3 hx h => ?_) (fun σ H3 h => ?_)⟩
  · obtain ⟨u3, rfl, t3⟩ := h
    have hil : i < wd.length := by have := (List.getElem?_eq_some_iff.mp hx).1; rwa [List.length_map] at this
    have eg : wd[i]? = some wd[i] := List.getElem?_eq_getElem hil
    generalize wd[i] = l at eg
    have ex : x = V.int l := by rw [List.getElem?_map, eg] at hx; exact (Option.some.inj hx).symm
    subst ex
    have est : numW n (wd.take (i + 1)) = numW n (wd.take i) * (n : Int) + l := by
      rw [List.take_add_one, eg, Option.toList, numW_snoc]
    rw [est]
    exact (exA rfl (exA rfl ⟨_, exA rfl ⟨rfl, Or.inr ⟨by lia, by lia⟩, exA rfl ⟨_, exA rfl ⟨rfl, exA rfl t3⟩⟩⟩⟩))
  · obtain ⟨u3, rfl, t3⟩ := h
    rw [List.length_map, List.take_length]
    exact (exA rfl (gv hw H3 t3))
noncomputable abbrev nWO : List Str := ["letters", "many", "number", "lightest_first", "left", "place", "letter"]
theorem scWO : FnScope nWO ["letters", "many", "number"] (defScope sWordOf) := ⟨rfl, rfl, rfl, by decide +kernel, rfl, by decide +kernel, by decide +kernel⟩
theorem ok_wordof {Cb : Addr} {bmB : List Value} {B newId initId : String} {tm : Tok} (mC : mg "BadCount" = some (.ref Cb)) (xC : PySem.W.excIn K Cb bmB newId = true) (hB : ExcBaseFacts B newId initId bmB) (m_MOST_LETTERS_TOLD : mg "MOST_LETTERS_TOLD" = some (.int 1000 tm)) (mr : mg "range" = none) (mdm : mg "divmod" = none) (mt : mg "tuple" = none) (F : Fun K "word_of" "word_of" sWordOf f fd) : FnOk P w K mg base (CXx P w) 1 f fd ["letters", "many", "number"] (spWordOf K Cb) := by
  refine F.okx scWO (fun vs H Q E h => ?_) (fun cdv A outer s H vs Q E hr h => ?_)
  · obtain ⟨n, many, x, rfl, _⟩ := h
    rfl
  obtain ⟨n, many, x, rfl, n0, hn, gv, gb⟩ := h
  refine ⟨_, pss_cons (ps_if (pt_not (pt_chain op_le op_le pe_int (pv 1) (pe_glob (v := .int 1000) rfl m_MOST_LETTERS_TOLD ⟨_, rfl⟩))) (pss_one (ps_raise mC rfl xC hB pe_str)) pss_nil)
    (pss_cons (ps_set (i := 3) scWO.nd rfl (Or.inl rfl) (pe_lst pa_nil))
    (pss_cons (ps_set (i := 4) scWO.nd rfl (Or.inl rfl) (pv 2))
    (pss_cons (ps_for PassesOwn.leaving rfl (pi_range1 rfl mr (pa_cons (pv 1) pa_nil)) (pg_name (i := 5) scWO.nd rfl (Or.inl rfl))
      (pss_cons (ps_asg (pe_callB call_divmod rfl mdm PyProof.Rows.boot_divmod (pa_cons (pv 4) (pa_cons (pv 0) pa_nil))) (pg_tup rfl (pgs_cons (pg_name (i := 4) scWO.nd rfl (Or.inl rfl)) (pgs_cons (pg_name (i := 6) scWO.nd rfl (Or.inl rfl)) pgs_nil))))
      (pss_one (ps_expr (pe_bm PySem.F.plainAttrs_list PySem.F.slot_list_append PySem.F.type_list_append mt_append (pv 3) (pa_cons (pv 6) pa_nil))))))
    (pss_cons (ps_if (pt_cmp (pc_neI (pv 4) pe_int)) (pss_one (ps_raise mC rfl xC hB pe_str)) pss_nil)
    (pss_one (ps_ret (pe_callTy call_tuple_of rfl mt PyProof.Rows.boot_tuple (pa_cons (pe_revL (pv 3) (pe_un un_neg pe_int)) pa_nil)))))))), ?_⟩
  have bad : ¬ (0 ≤ many ∧ many ≤ 1000) → ∀ ea : Addr, E (.ref ea) (some Cb) H := fun z ea => gb (fun y => z ⟨y.1, y.2.1⟩) ea H (Same.refl _)
  refine (exA rfl ⟨_, exA rfl ⟨rfl, exA rfl (ite2 (fun c1 => ⟨_, exA rfl ⟨rfl, exA rfl ?_⟩⟩) (fun c1 => ?_))⟩⟩)
  rotate_left
  · have c1' := of_decide_eq_false (Bool.eq_false_iff.mpr c1)
    refine (exA rfl (ite2 (fun _ => bad (by lia)) (fun z => absurd rfl z)))
  have c1' := of_decide_eq_true c1
  refine ite2 (fun z => bad (fun y => by rw [decide_eq_true y.2] at z; cases z)) (fun z => ?_)
  have c2' : many ≤ 1000 := by
    by_cases y : many ≤ 1000
    · exact y
    · exact absurd (by rw [decide_eq_false y]; rfl) z
  obtain ⟨m, rfl⟩ := nat_of c1'
  have hgx : GoodX n m x ↔ dvn n m x = 0 := by
    rw [dvn_zero (by lia)]
    unfold GoodX
    rw [Int.toNat_natCast]
    constructor
    · exact fun h => h.2.2
    · exact fun h => ⟨by lia, c2', h⟩
  refine ⟨by show 0 ≤ sizeLine; decide, fun lm hlm => ?_⟩
  have s1 := same_up (o := HO.lst []) (Same.refl H) hlm
  refine (exA rfl (exA rfl ⟨(m : Int), rfl, by lia, by lia, for_range (n := (m : Int).toNat) (fun i σ H3 => ∃ (u5 u6 : Option V), σ = [some (.int n), some (.int m), some (.int x), some (.ref lm), some (.int (dvn n i x)), u5, u6] ∧ Same H H3 ∧ H3 lm = some (.lst ((lit n i x).map V.int))) ⟨_, exA rfl ⟨s1, upd_same⟩⟩ (fun i σ H3 hi h => ?_) (fun σ H3 h => ?_)⟩))
  · obtain ⟨u5, u6, rfl, s3, e3⟩ := h
    refine (exA rfl (exA rfl ⟨_, exA rfl ⟨⟨by lia, by lia⟩, fun p hp => ?_⟩⟩))
    have s4 := same_up (o := HO.tup [V.int (dvn n i x / (n : Int)), V.int (dvn n i x % (n : Int))]) (Same.refl H3) hp
    refine ⟨p, exA rfl ⟨SqT.of upd_same, rfl, _, exA rfl ⟨_, exA rfl ⟨rfl, ?_⟩⟩⟩⟩
    refine (exA rfl ⟨.inl ⟨rfl, _, SqL.of (s4 _ _ e3)⟩, exA rfl ⟨lm, _, exA rfl ⟨rfl, s4 _ _ e3, small5 (by rw [List.length_map, lit_len]; lia), ?_⟩⟩⟩)
    rw [dvn_snoc, lit_snoc, List.map_append]
    exact ⟨_, exA rfl ⟨same_over (s3.trans s4) hlm, upd_same⟩⟩
  · obtain ⟨u5, u6, rfl, s3, e3⟩ := h
    rw [Int.toNat_natCast] at *
    refine (exA rfl ⟨_, exA rfl ⟨rfl, exA rfl (ite2 (fun c => ?_) (fun c => ?_))⟩⟩)
    · exact fun ea => gb (fun y => by have := hgx.mp y; simp [this] at c) ea H3 s3
    · have c' : dvn n m x = 0 := Classical.byContradiction fun y => c (by simp [y])
      refine (exA rfl (exA rfl ⟨rfl, lm, exA rfl ⟨SqL.of e3, fun p hp => ?_⟩⟩))
      have s4 := same_up (o := HO.lst ((lit n m x).map V.int).reverse) (Same.refl H3) hp
      refine ⟨p, exA rfl (.inl ⟨SqL.of upd_same, fun l hl => ?_⟩)⟩
      refine gv (hgx.mpr c') l _ ((s3.trans s4).trans (same_up (Same.refl _) hl)) ?_
      show upd _ l _ l = some (.tup ((lit n m x).reverse.map V.int))
      rw [← List.map_reverse]
      exact upd_same
noncomputable abbrev nOF : List Str := ["letters", "many", "count", "place"]
theorem scOF : FnScope nOF ["letters", "many"] (defScope sOnFloor) := ⟨rfl, rfl, rfl, by decide +kernel, rfl, by decide +kernel, by decide +kernel⟩
theorem ok_onfloor {Ct Cb : Addr} {bmB bmB2 : List Value} {B newId initId B2 newId2 initId2 : String} {tm : Tok} (mC : mg "BadCount" = some (.ref Cb)) (xC : PySem.W.excIn K Cb bmB newId = true) (hB : ExcBaseFacts B newId initId bmB) (mC2 : mg "TooMany" = some (.ref Ct)) (xC2 : PySem.W.excIn K Ct bmB2 newId2 = true) (hB2 : ExcBaseFacts B2 newId2 initId2 bmB2) (m_MOST_WORDS : mg "MOST_WORDS" = some (.int 1024 tm)) (mr : mg "range" = none) (F : Fun K "words_on_floor" "words_on_floor" sOnFloor f fd) : FnOk P w K mg base (CXx P w) 1 f fd ["letters", "many"] (spOnFloor K Ct Cb) := by
  refine F.okx scOF (fun vs H Q E h => ?_) (fun cdv A outer s H vs Q E hr h => ?_)
  · obtain ⟨n, many, rfl, _⟩ := h
    rfl
  obtain ⟨n, many, rfl, n2, n5, hm, gb, gx, gv⟩ := h
  refine ⟨_, pss_cons (ps_if (pt_cmpR op_lt (pv 1) pe_int (nomark _)) (pss_one (ps_raise mC rfl xC hB pe_str)) pss_nil)
    (pss_cons (ps_set (i := 2) scOF.nd rfl (Or.inl rfl) pe_int)
    (pss_cons (ps_for PassesOwn.leaving rfl (pi_range1 rfl mr (pa_cons (pv 1) pa_nil)) (pg_name (i := 3) scOF.nd rfl (Or.inl rfl))
      (pss_cons (ps_set (i := 2) scOF.nd rfl (Or.inl rfl) (pe_op op_mul (pv 2) (pv 0)))
      (pss_one (ps_if (pt_cmpR op_gt (pv 2) (pe_glob (v := .int 1024) rfl m_MOST_WORDS ⟨_, rfl⟩) (nomark _)) (pss_one (ps_raise mC2 rfl xC2 hB2 pe_str)) pss_nil))))
    (pss_one (ps_ret (pv 2))))), ?_⟩
  refine (exA rfl ⟨_, exA rfl ⟨rfl, exA rfl (ite2 (fun c => ?_) (fun c => ?_))⟩⟩)
  · exact fun ea => gb (of_decide_eq_true c) ea H (Same.refl _)
  have c' := of_decide_eq_false (Bool.eq_false_iff.mpr c)
  obtain ⟨m, rfl⟩ := nat_of (x := many) (by lia)
  rw [Int.toNat_natCast] at gx gv
  refine (exA rfl ⟨(m : Int), rfl, by lia, by lia, for_range (n := (m : Int).toNat) (fun i σ H3 => ∃ (u3 : Option V), σ = [some (.int n), some (.int m), some (.int ((n ^ i : Nat) : Int)), u3] ∧ H3 = H ∧ n ^ i ≤ 1024) (exA rfl ⟨rfl, by simp⟩) (fun i σ H3 hi h => ?_) (fun σ H3 h => ?_)⟩)
  · obtain ⟨u3, rfl, rfl, h4⟩ := h
    refine (exA rfl (exA rfl ⟨_, exA rfl ⟨rfl, Or.inr ⟨by lia, by lia⟩, ?_⟩⟩))
    have ep : ((n ^ i : Nat) : Int) * (n : Int) = ((n ^ (i + 1) : Nat) : Int) := by rw [Nat.pow_succ, Int.natCast_mul]
    refine (exA rfl ⟨_, exA rfl ⟨rfl, exA rfl (ite2 (fun c2 => ?_) (fun c2 => ?_))⟩⟩)
    · have c2' := of_decide_eq_true c2
      rw [ep] at c2'
      have him : i + 1 ≤ m := by lia
      have := Nat.pow_le_pow_right (show 1 ≤ n by lia) him
      exact fun ea => gx (by lia) (by lia) ea _ (Same.refl _)
    · have c2' := of_decide_eq_false (Bool.eq_false_iff.mpr c2)
      rw [ep] at c2'
      refine ⟨some (V.int (0 + (i : Int))), ?_, rfl, by lia⟩
      show [some (V.int n), some (V.int m), some (V.int (((n ^ i : Nat) : Int) * (n : Int))), some (V.int (0 + (i : Int)))] = _
      rw [ep]
  · obtain ⟨u3, rfl, rfl, h4⟩ := h
    rw [Int.toNat_natCast] at *
    exact (exA rfl (gv (by lia) h4))
noncomputable abbrev nFl : List Str := ["guise", "many", "letters", "count"]
theorem scFl : FnScope nFl ["guise", "many"] (defScope sFloor) := ⟨rfl, rfl, rfl, by decide +kernel, rfl, by decide +kernel, by decide +kernel⟩
theorem csFl : CompS nFl (defScope sFloor) ["number", "guise", "letters", "many"] [none, some 0, some 2, some 1] (csc [(".0", .local), ("number", .local), ("number_of", .globalImplicit), ("worn", .globalImplicit), ("word_of", .globalImplicit), ("guise", .free), ("letters", .free), ("many", .free)]) := ⟨rfl, by decide +kernel, by decide +kernel, by decide +kernel, rfl, by decide +kernel, by decide +kernel⟩
theorem ok_floor {Ct Cb Cw aR aO aN aW aV : Addr} {dR dO dN dW dV : FuncData} (mr : mg "range" = none) (F : Fun K "floor" "floor" sFloor f fd)
    (R : FnOk P w K mg base (CXx P w) 2 aR dR ["guise"] (spBreadth K)) (bR : Binds K dR ["guise"] []) (kR : PySem.W.keepIn K (.ref aR) = true) (mR : mg "breadth" = some (.ref aR))
    (O : FnOk P w K mg base (CXx P w) 2 aO dO ["letters", "many"] (spOnFloor K Ct Cb)) (bO : Binds K dO ["letters", "many"] []) (kO : PySem.W.keepIn K (.ref aO) = true) (mO : mg "words_on_floor" = some (.ref aO))
    (N : FnOk P w K mg base (CXx P w) 2 aN dN ["letters", "word"] (spNumOf K Cw)) (bN : Binds K dN ["letters", "word"] []) (kN : PySem.W.keepIn K (.ref aN) = true) (mN : mg "number_of" = some (.ref aN))
    (W : FnOk P w K mg base (CXx P w) 2 aW dW ["guise", "word"] (spWorn K Cw)) (bW : Binds K dW ["guise", "word"] []) (kW : PySem.W.keepIn K (.ref aW) = true) (mW : mg "worn" = some (.ref aW))
    (Vo : FnOk P w K mg base (CXx P w) 2 aV dV ["letters", "many", "number"] (spWordOf K Cb)) (bV : Binds K dV ["letters", "many", "number"] []) (kV : PySem.W.keepIn K (.ref aV) = true) (mV : mg "word_of" = some (.ref aV)) : FnOk P w K mg base (CXx P w) 3 f fd ["guise", "many"] (spFloor K Ct Cb) := by
  refine F.okx scFl (fun vs H Q E h => ?_) (fun cdv A outer s H vs Q E hr h => ?_)
  · obtain ⟨v, one, n, many, rfl, _⟩ := h
    rfl
  obtain ⟨v, one, n, many, rfl, dv, GM, n2, n5, hm, gb, gx, gv⟩ := h
  refine ⟨_, pss_cons (ps_set (i := 2) scFl.nd rfl (Or.inr rfl) (pe_call R hr rfl mR kR bR .nil passN (pa_cons (pv 0) pa_nil)))
    (pss_cons (ps_set (i := 3) scFl.nd rfl (Or.inl rfl) (pe_call O hr rfl mO kO bO .nil (passX fun _ _ _ z => z) (pa_cons (pv 2) (pa_cons (pv 1) pa_nil))))
    (pss_one (ps_ret (pe_comp rfl csFl (pi_range1 rfl mr (pa_cons (pv 3) pa_nil)) (fun _ _ _ _ _ => pg_name (i := 0) csFl.nd rfl (Or.inl rfl)) (fun _ _ _ _ _ => pe_call N hr rfl mN kN bN .nil passN (pa_cons (pv 2) (pa_cons (pe_call W hr rfl mW kW bW .nil passN (pa_cons (pv 1) (pa_cons (pe_call Vo hr rfl mV kV bV .nil passN (pa_cons (pv 2) (pa_cons (pv 3) (pa_cons (pv 0) pa_nil)))) pa_nil))) pa_nil))))))), ?_⟩
  have h1 := GM.some
  obtain ⟨r0, rt, er⟩ : ∃ r0 rt, one = r0 :: rt := by
    cases one with
    | nil => simp at h1
    | cons r0 rt => exact ⟨r0, rt, rfl⟩
  have hl0 := (GM.perm r0 (by rw [er]; simp)).len
  refine (exA rfl ⟨v, r0, rowsD rt, rfl, (by rw [er] at dv; exact dv), by lia, fun H1 s1 => ?_⟩)
  refine (exA rfl (exA rfl ⟨n, many, (by rw [hl0]; rfl), n2, n5, hm, fun z ea H2 s2 => gb z ea H2 (s1.trans s2), fun z y ea H2 s2 => gx z y ea H2 (s1.trans s2), fun m0 hf => ?_⟩))
  replace gv := gv m0 hf
  obtain ⟨m, rfl⟩ := nat_of m0
  rw [Int.toNat_natCast] at hf gv
  have hm10 := floor_few n2 hf
  refine (exA rfl ⟨((n ^ m : Nat) : Int), rfl, by lia, by lia, fun l hl0' => comp_range (n := ((n ^ m : Nat) : Int).toNat) (fun i ys H3 => i ≤ n ^ m ∧ ys = ((tabW n one m).take i).map V.int ∧ Same H1 H3) ⟨Nat.zero_le _, rfl, same_up (Same.refl H1) hl0'⟩ (by rw [Int.toNat_natCast]; exact line_le (by lia)) (fun i ys H3 h => ?_) (fun i ys H3 hi h hy => ?_) (fun ys H3 h hy => ?_)⟩)
  · obtain ⟨_, rfl, _⟩ := h
    rw [List.length_map, List.length_take, tabW_len]
    lia
  · obtain ⟨_, rfl, s3⟩ := h
    have hi' : i < n ^ m := by lia
    have gx : GoodX n m (i : Int) := ⟨by lia, by lia, by lia, by rw [Int.toNat_natCast, ← Int.natCast_pow]; lia⟩
    have lf := figW_lw (n := n) (by lia) m (i : Int)
    have ll := figW_len (n : Int) m (i : Int)
    refine (exA rfl (exA rfl (exA rfl (exA rfl (exA rfl ⟨n, m, (i : Int), (by rw [hl0, Int.zero_add]; rfl), by lia, by lia, fun _ t H4 s4 e4 => ?_, fun z => absurd gx z⟩)))))
    rw [Int.toNat_natCast] at e4
    refine ⟨v, .ref t, one, n, exA rfl ⟨dv.mono (s1.trans (s3.trans s4)), Dr.tup e4 (DrL.ints _), GM, by lia, by lia, fun _ t5 H5 s5 e5 => ?_, fun z => absurd lf z⟩⟩
    have lo := outW_lw GM _ 0 lf (Int.le_refl 0) (by lia)
    refine ⟨n, .ref t5, _, (by rw [hl0]; rfl), Dr.tup e5 (DrL.ints _), by lia, by rw [outW_len]; lia, fun _ H6 s6 => ?_, fun z => absurd lo z⟩
    have s36 := s4.trans (s5.trans s6)
    refine ⟨s36 _ _ hy, by lia, ?_, same_over (s3.trans s36) hl0'⟩
    unfold tabW
    rw [iota_map_take _ _ _ hi', List.map_append]
    rfl
  · obtain ⟨_, rfl, s3⟩ := h
    rw [Int.toNat_natCast, List.take_of_length_le (by rw [tabW_len]; exact Nat.le_refl _)] at hy
    exact gv l H3 (s1.trans s3) (Decidable.byContradiction fun z => by
      cases e : H l with
      | none => exact z e
      | some o => have := s1 l o e; rw [hl0'] at this; cases this) hy
end
end Gu
namespace Gu
open PySem L2
section
variable {P : Program} {w : World} {K : PySem.W.Frag} {mg : Str → Option Value} {base : Heap} {f g : Addr} {fd gd : FuncData} {CX : CXT} [NoE CX]
noncomputable abbrev nTb : List Str := ["_law_one", "_law_many", "_law_letters_here", "_law_made", "_law_number_here", "_law_word_here"]
theorem scTb : FnScope nTb ["_law_one", "_law_many"] (defScope sTable) := ⟨rfl, rfl, rfl, by decide +kernel, rfl, by decide +kernel, by decide +kernel⟩
theorem ok_table {aZ aR aG aN : Addr} {dZ dR dG dN : FuncData} (ml : mg "len" = none) (mr : mg "range" = none) (F : Fun K "_law_table" "_law_table" sTable f fd)
    (Z : FnOk P w K mg base CX 1 aZ dZ ["_law_letters_here", "_law_many"] (spFSize K)) (bZ : Binds K dZ ["_law_letters_here", "_law_many"] []) (kZ : PySem.W.keepIn K (.ref aZ) = true) (mZ : mg "_law_floor_size" = some (.ref aZ))
    (R : FnOk P w K mg base CX 1 aR dR ["_law_rows_here", "_law_at", "_law_word_here"] (spReadO K)) (bR : Binds K dR ["_law_rows_here", "_law_at", "_law_word_here"] []) (kR : PySem.W.keepIn K (.ref aR) = true) (mR : mg "_law_read" = some (.ref aR))
    (G : FnOk P w K mg base CX 1 aG dG ["_law_letters_here", "_law_many", "_law_number_here"] (spFigs K)) (bG : Binds K dG ["_law_letters_here", "_law_many", "_law_number_here"] []) (kG : PySem.W.keepIn K (.ref aG) = true) (mG : mg "_law_figures" = some (.ref aG))
    (N : FnOk P w K mg base CX 1 aN dN ["_law_letters_here", "_law_word_here"] (spNumL K)) (bN : Binds K dN ["_law_letters_here", "_law_word_here"] []) (kN : PySem.W.keepIn K (.ref aN) = true) (mN : mg "_law_number" = some (.ref aN)) : FnOk P w K mg base CX 2 f fd ["_law_one", "_law_many"] (spTable K) := by
  refine F.okc scTb (fun vs H Q E h => ?_) (fun cdv A outer s H vs Q E hr h => ?_)
  · obtain ⟨v, one, n, m, rfl, _⟩ := h
    rfl
  obtain ⟨v, one, n, m, rfl, dv, GM, n2, n5, hf, gv⟩ := h
  refine ⟨_, pss_cons (ps_set (i := 2) scTb.nd rfl (Or.inl rfl) (pe_callB call_len_seq rfl ml PySem.boot_len (pa_cons (pe_ix ix_tup (pe_ix ix_tup (pv 0) pe_int (fun _ _ => rfl)) pe_int (fun _ _ => rfl)) pa_nil)))
    (pss_cons (ps_set (i := 3) scTb.nd rfl (Or.inl rfl) (pe_lst pa_nil))
    (pss_cons (ps_for PassesOwn.never rfl (pi_range1 rfl mr (pa_cons (pe_call Z hr rfl mZ kZ bZ .nil passN (pa_cons (pv 2) (pa_cons (pv 1) pa_nil))) pa_nil)) (pg_name (i := 4) scTb.nd rfl (Or.inl rfl))
      (pss_cons (ps_set (i := 5) scTb.nd rfl (Or.inl rfl) (pe_ix ix_tup (pe_call R hr rfl mR kR bR .nil passN (pa_cons (pv 0) (pa_cons pe_int (pa_cons (pe_call G hr rfl mG kG bG .nil passN (pa_cons (pv 2) (pa_cons (pv 1) (pa_cons (pv 4) pa_nil)))) pa_nil)))) pe_int (fun _ _ => rfl)))
      (pss_one (ps_expr (pe_bm PySem.F.plainAttrs_list PySem.F.slot_list_append PySem.F.type_list_append mt_append (pv 3) (pa_cons (pe_call N hr rfl mN kN bN .nil passN (pa_cons (pv 2) (pa_cons (pv 5) pa_nil))) pa_nil))))))
    (pss_one (ps_ret (pv 3))))), ?_⟩
  have h1 := GM.some
  have hm10 := floor_few n2 hf
  obtain ⟨r0, rt, er⟩ : ∃ r0 rt, one = r0 :: rt := by
    cases one with
    | nil => simp at h1
    | cons r0 rt => exact ⟨r0, rt, rfl⟩
  have hl0 := (GM.perm r0 (by rw [er]; simp)).len
  obtain ⟨av, us, rfl, eav, dus⟩ : ∃ (av : Addr) (us : List V), v = .ref av ∧ H av = some (.tup us) ∧ DrL K H (rowsD one) us := by
    simp only [Dr] at dv
    exact dv
  obtain ⟨x0, ex0, dx0⟩ := rows_at dus (show one[0]? = some r0 by rw [er]; rfl)
  obtain ⟨t, b', c', rfl, et, eb, ec⟩ := rowD_inv dx0
  refine (exA rfl ⟨av, _, _, .ref t, rfl, rfl, SqT.of eav, atI_nat (j := 0) ex0, t, _, _, .ref b', rfl, rfl, SqT.of et, atI_nat (j := 0) rfl, b', exA rfl ⟨.inr (SqT.of eb), ?_⟩⟩)
  rw [List.length_map, hl0]
  refine ⟨by show 0 ≤ sizeLine; decide, fun lm hlm => ?_⟩
  have s1 := same_up (o := HO.lst []) (Same.refl H) hlm
  refine (exA rfl (exA rfl ⟨n, m, rfl, by lia, by lia, by lia, ((n ^ m : Nat) : Int), (by rw [Int.natCast_pow]), by lia, by lia, for_range (n := ((n ^ m : Nat) : Int).toNat) (fun i σ H3 => ∃ (u4 u5 : Option V), σ = [some (.ref av), some (.int m), some (.int n), some (.ref lm), u4, u5] ∧ Same H H3 ∧ H3 lm = some (.lst (((tabW n one m).take i).map V.int))) ⟨_, exA rfl ⟨s1, upd_same⟩⟩ (fun i σ H3 hi h => ?_) (fun σ H3 h => ?_)⟩))
  · obtain ⟨u4, u5, rfl, s3, e3⟩ := h
    have hi' : i < n ^ m := by lia
    have lf := figW_lw (n := n) (by lia) m (i : Int)
    have ll := figW_len (n : Int) m (i : Int)
    refine (exA rfl (exA rfl (exA rfl (exA rfl ⟨n, m, (i : Int), (by rw [Int.zero_add]; rfl), by lia, by lia, by lia, fun t H4 s4 e4 => ?_⟩))))
    refine ⟨_, .ref t, one, n, _, 0, rfl, dv.mono (s3.trans s4), Dr.tup e4 (DrL.ints _), GM, by lia, by lia, lf, Int.le_refl 0, by lia, fun r t5 H5 s5 e5 et5 => ?_⟩
    refine ⟨r, _, _, .ref t5, rfl, rfl, SqT.of e5, atI_nat (j := 0) rfl, ?_⟩
    have s35 := s4.trans s5
    refine (exA rfl ⟨.inl ⟨rfl, _, SqL.of (s35 _ _ e3)⟩, exA rfl (exA rfl ⟨n, .ref t5, exA rfl ⟨Dr.tup et5 (DrL.ints _), by lia, fun H6 s6 => ?_⟩⟩)⟩)
    refine ⟨lm, _, exA rfl ⟨rfl, s6 _ _ (s35 _ _ e3), small5 (by rw [List.length_map, List.length_take, tabW_len]; lia), ?_⟩⟩
    refine ⟨_, exA rfl ⟨same_over (s3.trans (s35.trans s6)) hlm, ?_⟩⟩
    unfold tabW
    rw [iota_map_take _ _ _ hi', List.map_append]
    exact upd_same
  · obtain ⟨u4, u5, rfl, s3, e3⟩ := h
    rw [Int.toNat_natCast, List.take_of_length_le (by rw [tabW_len]; exact Nat.le_refl _)] at e3
    exact (exA rfl (gv lm H3 s3 hlm e3))
end
end Gu
namespace Gu
open PySem L2
noncomputable abbrev TsOf (P4 : Addr) : List Tb := [⟨P4, lamPos (defBody sSect), ("section_at.<locals>." ++ "<lambda>" : Str)⟩]
theorem all_mk {l : PySem.W.OpenLaw} {w : World} {K : PySem.W.Frag} {h : Heap} {mg : Str → Option Value} {fa f1 f2 f3 f4 f5 f6 f7 f8 f9 f10 f11 f12 f13 f14 f15 f16 f17 f18 f19 f20 f21 f22 f23 f24 f25 f26 f27 f28 f29 f30 f31 f32 f33 f34 f35 f36 : Addr} (X : K.In h) (G : h.Ns mainGlobals mg) (hfa : mg "law" = some (.ref fa))
    {od1 an1 od2 an2 od3 an3 od4 an4 od5 an5 od6 an6 od7 an7 od8 an8 od9 an9 od10 an10 od11 an11 od12 an12 od13 an13 od14 an14 od15 an15 od16 an16 od17 an17 od18 an18 od19 an19 od20 an20 od21 an21 od22 an22 od23 an23 od24 an24 od25 an25 od26 an26 od27 an27 od28 an28 od29 an29 od30 an30 od31 an31 od32 an32 od33 an33 od34 an34 od35 an35 od36 an36 : Option Addr} {sl1 sl2 sl3 sl4 sl5 sl6 sl7 sl8 sl9 sl10 sl11 sl12 sl13 sl14 sl15 sl16 sl17 sl18 sl19 sl20 sl21 sl22 sl23 sl24 sl25 sl26 sl27 sl28 sl29 sl30 sl31 sl32 sl33 sl34 sl35 sl36 : Array (Option Value)} {tk1 tk2 tk3 : Tok}
    {oc1 kV1 dc1 pm1 ct1 cd1 oc2 kV2 dc2 pm2 ct2 cd2 oc3 kV3 dc3 pm3 ct3 cd3 oc4 kV4 dc4 pm4 ct4 oc5 kV5 dc5 pm5 ct5 cd5 oc6 kV6 dc6 pm6 ct6 cd6 oc7 kV7 dc7 pm7 ct7 cd7 oc8 kV8 dc8 pm8 ct8 cd8 oc9 kV9 dc9 pm9 ct9 cd9 oc10 kV10 dc10 pm10 ct10 cd10 oc11 kV11 dc11 pm11 ct11 cd11 oc12 kV12 dc12 pm12 ct12 cd12 oc13 kV13 dc13 pm13 ct13 cd13 oc14 kV14 dc14 pm14 ct14 cd14 oc15 kV15 dc15 pm15 ct15 cd15 oc16 kV16 dc16 pm16 ct16 cd16 oc17 kV17 dc17 pm17 ct17 cd17 oc18 kV18 dc18 pm18 ct18 cd18 oc19 kV19 dc19 pm19 ct19 cd19 oc20 kV20 dc20 pm20 ct20 cd20 oc21 kV21 dc21 pm21 ct21 cd21 oc22 kV22 dc22 pm22 ct22 cd22 oc23 kV23 dc23 pm23 ct23 cd23 oc24 kV24 dc24 pm24 ct24 cd24 oc25 kV25 dc25 pm25 ct25 cd25 oc26 kV26 dc26 pm26 ct26 cd26 oc27 kV27 dc27 pm27 ct27 cd27 oc28 kV28 dc28 pm28 ct28 cd28 oc29 kV29 dc29 pm29 ct29 cd29 oc30 kV30 dc30 pm30 ct30 cd30 oc31 kV31 dc31 pm31 ct31 cd31 oc32 kV32 dc32 pm32 ct32 cd32 oc33 kV33 dc33 pm33 ct33 cd33 oc34 kV34 dc34 pm34 ct34 cd34 oc35 kV35 dc35 pm35 ct35 cd35 oc36 kV36 dc36 pm36 ct36 cd36 : Value}
    {cc4 P4 : Addr}
    (a1 : PySem.W.nsIn K mainGlobals "same_letters" = some (some (.ref f1))) (l1 : K.lookup f1 = some ⟨oc1, od1, .func (PySem.W.fnOf "same_letters" "same_letters" (defArgs sSame) (defBody sSame) (defScope sSame) .none kV1 dc1 pm1 an1 cd1 ct1), sl1⟩) (c1 : PySem.W.codeIn K cd1 "same_letters" = true) (k1 : PySem.W.keepIn K (.ref f1) = true)
    (a2 : PySem.W.nsIn K mainGlobals "still" = some (some (.ref f2))) (l2 : K.lookup f2 = some ⟨oc2, od2, .func (PySem.W.fnOf "still" "still" (defArgs sStill) (defBody sStill) (defScope sStill) .none kV2 dc2 pm2 an2 cd2 ct2), sl2⟩) (c2 : PySem.W.codeIn K cd2 "still" = true) (k2 : PySem.W.keepIn K (.ref f2) = true)
    (a3 : PySem.W.nsIn K mainGlobals "breadth" = some (some (.ref f3))) (l3 : K.lookup f3 = some ⟨oc3, od3, .func (PySem.W.fnOf "breadth" "breadth" (defArgs sBreadth) (defBody sBreadth) (defScope sBreadth) .none kV3 dc3 pm3 an3 cd3 ct3), sl3⟩) (c3 : PySem.W.codeIn K cd3 "breadth" = true) (k3 : PySem.W.keepIn K (.ref f3) = true)
    (a4 : PySem.W.nsIn K mainGlobals "section_at" = some (some (.ref f4))) (l4 : K.lookup f4 = some ⟨oc4, od4, .func (PySem.W.fnOf "section_at" "section_at" (defArgs sSect) (defBody sSect) (defScope sSect) .none kV4 dc4 pm4 an4 (.ref cc4) ct4), sl4⟩) (c4 : PySem.W.codeIn K (.ref cc4) "section_at" = true) (k4 : PySem.W.keepIn K (.ref f4) = true)
    (a5 : PySem.W.nsIn K mainGlobals "read_from" = some (some (.ref f5))) (l5 : K.lookup f5 = some ⟨oc5, od5, .func (PySem.W.fnOf "read_from" "read_from" (defArgs sReadF) (defBody sReadF) (defScope sReadF) .none kV5 dc5 pm5 an5 cd5 ct5), sl5⟩) (c5 : PySem.W.codeIn K cd5 "read_from" = true) (k5 : PySem.W.keepIn K (.ref f5) = true)
    (a6 : PySem.W.nsIn K mainGlobals "least_form" = some (some (.ref f6))) (l6 : K.lookup f6 = some ⟨oc6, od6, .func (PySem.W.fnOf "least_form" "least_form" (defArgs sLeast) (defBody sLeast) (defScope sLeast) .none kV6 dc6 pm6 an6 cd6 ct6), sl6⟩) (c6 : PySem.W.codeIn K cd6 "least_form" = true) (k6 : PySem.W.keepIn K (.ref f6) = true)
    (a7 : PySem.W.nsIn K mainGlobals "rows_come_to" = some (some (.ref f7))) (l7 : K.lookup f7 = some ⟨oc7, od7, .func (PySem.W.fnOf "rows_come_to" "rows_come_to" (defArgs sCome) (defBody sCome) (defScope sCome) .none kV7 dc7 pm7 an7 cd7 ct7), sl7⟩) (c7 : PySem.W.codeIn K cd7 "rows_come_to" = true) (k7 : PySem.W.keepIn K (.ref f7) = true)
    (a8 : PySem.W.nsIn K mainGlobals "kinds_of_rows" = some (some (.ref f8))) (l8 : K.lookup f8 = some ⟨oc8, od8, .func (PySem.W.fnOf "kinds_of_rows" "kinds_of_rows" (defArgs sKinds) (defBody sKinds) (defScope sKinds) .none kV8 dc8 pm8 an8 cd8 ct8), sl8⟩) (c8 : PySem.W.codeIn K cd8 "kinds_of_rows" = true) (k8 : PySem.W.keepIn K (.ref f8) = true)
    (a9 : PySem.W.nsIn K mainGlobals "kinds_gone_to" = some (some (.ref f9))) (l9 : K.lookup f9 = some ⟨oc9, od9, .func (PySem.W.fnOf "kinds_gone_to" "kinds_gone_to" (defArgs sGone) (defBody sGone) (defScope sGone) .none kV9 dc9 pm9 an9 cd9 ct9), sl9⟩) (c9 : PySem.W.codeIn K cd9 "kinds_gone_to" = true) (k9 : PySem.W.keepIn K (.ref f9) = true)
    (a10 : PySem.W.nsIn K mainGlobals "numbered" = some (some (.ref f10))) (l10 : K.lookup f10 = some ⟨oc10, od10, .func (PySem.W.fnOf "numbered" "numbered" (defArgs sNumbered) (defBody sNumbered) (defScope sNumbered) .none kV10 dc10 pm10 an10 cd10 ct10), sl10⟩) (c10 : PySem.W.codeIn K cd10 "numbered" = true) (k10 : PySem.W.keepIn K (.ref f10) = true)
    (a11 : PySem.W.nsIn K mainGlobals "check_word" = some (some (.ref f11))) (l11 : K.lookup f11 = some ⟨oc11, od11, .func (PySem.W.fnOf "check_word" "check_word" (defArgs sCheckW) (defBody sCheckW) (defScope sCheckW) .none kV11 dc11 pm11 an11 cd11 ct11), sl11⟩) (c11 : PySem.W.codeIn K cd11 "check_word" = true) (k11 : PySem.W.keepIn K (.ref f11) = true)
    (a12 : PySem.W.nsIn K mainGlobals "worn" = some (some (.ref f12))) (l12 : K.lookup f12 = some ⟨oc12, od12, .func (PySem.W.fnOf "worn" "worn" (defArgs sWorn) (defBody sWorn) (defScope sWorn) .none kV12 dc12 pm12 an12 cd12 ct12), sl12⟩) (c12 : PySem.W.codeIn K cd12 "worn" = true) (k12 : PySem.W.keepIn K (.ref f12) = true)
    (a13 : PySem.W.nsIn K mainGlobals "number_of" = some (some (.ref f13))) (l13 : K.lookup f13 = some ⟨oc13, od13, .func (PySem.W.fnOf "number_of" "number_of" (defArgs sNumberOf) (defBody sNumberOf) (defScope sNumberOf) .none kV13 dc13 pm13 an13 cd13 ct13), sl13⟩) (c13 : PySem.W.codeIn K cd13 "number_of" = true) (k13 : PySem.W.keepIn K (.ref f13) = true)
    (a14 : PySem.W.nsIn K mainGlobals "word_of" = some (some (.ref f14))) (l14 : K.lookup f14 = some ⟨oc14, od14, .func (PySem.W.fnOf "word_of" "word_of" (defArgs sWordOf) (defBody sWordOf) (defScope sWordOf) .none kV14 dc14 pm14 an14 cd14 ct14), sl14⟩) (c14 : PySem.W.codeIn K cd14 "word_of" = true) (k14 : PySem.W.keepIn K (.ref f14) = true)
    (a15 : PySem.W.nsIn K mainGlobals "words_on_floor" = some (some (.ref f15))) (l15 : K.lookup f15 = some ⟨oc15, od15, .func (PySem.W.fnOf "words_on_floor" "words_on_floor" (defArgs sOnFloor) (defBody sOnFloor) (defScope sOnFloor) .none kV15 dc15 pm15 an15 cd15 ct15), sl15⟩) (c15 : PySem.W.codeIn K cd15 "words_on_floor" = true) (k15 : PySem.W.keepIn K (.ref f15) = true)
    (a16 : PySem.W.nsIn K mainGlobals "floor" = some (some (.ref f16))) (l16 : K.lookup f16 = some ⟨oc16, od16, .func (PySem.W.fnOf "floor" "floor" (defArgs sFloor) (defBody sFloor) (defScope sFloor) .none kV16 dc16 pm16 an16 cd16 ct16), sl16⟩) (c16 : PySem.W.codeIn K cd16 "floor" = true) (k16 : PySem.W.keepIn K (.ref f16) = true)
    (a17 : PySem.W.nsIn K mainGlobals "sections" = some (some (.ref f17))) (l17 : K.lookup f17 = some ⟨oc17, od17, .func (PySem.W.fnOf "sections" "sections" (defArgs sSections) (defBody sSections) (defScope sSections) .none kV17 dc17 pm17 an17 cd17 ct17), sl17⟩) (c17 : PySem.W.codeIn K cd17 "sections" = true) (k17 : PySem.W.keepIn K (.ref f17) = true)
    (a18 : PySem.W.nsIn K mainGlobals "_law_numbers" = some (some (.ref f18))) (l18 : K.lookup f18 = some ⟨oc18, od18, .func (PySem.W.fnOf "_law_numbers" "_law_numbers" (defArgs sNumbers) (defBody sNumbers) (defScope sNumbers) .none kV18 dc18 pm18 an18 cd18 ct18), sl18⟩) (c18 : PySem.W.codeIn K cd18 "_law_numbers" = true) (k18 : PySem.W.keepIn K (.ref f18) = true)
    (a19 : PySem.W.nsIn K mainGlobals "_law_word" = some (some (.ref f19))) (l19 : K.lookup f19 = some ⟨oc19, od19, .func (PySem.W.fnOf "_law_word" "_law_word" (defArgs sWordL) (defBody sWordL) (defScope sWordL) .none kV19 dc19 pm19 an19 cd19 ct19), sl19⟩) (c19 : PySem.W.codeIn K cd19 "_law_word" = true) (k19 : PySem.W.keepIn K (.ref f19) = true)
    (a20 : PySem.W.nsIn K mainGlobals "_law_whole" = some (some (.ref f20))) (l20 : K.lookup f20 = some ⟨oc20, od20, .func (PySem.W.fnOf "_law_whole" "_law_whole" (defArgs sWhole) (defBody sWhole) (defScope sWhole) .none kV20 dc20 pm20 an20 cd20 ct20), sl20⟩) (c20 : PySem.W.codeIn K cd20 "_law_whole" = true) (k20 : PySem.W.keepIn K (.ref f20) = true)
    (a21 : PySem.W.nsIn K mainGlobals "_law_like" = some (some (.ref f21))) (l21 : K.lookup f21 = some ⟨oc21, od21, .func (PySem.W.fnOf "_law_like" "_law_like" (defArgs sLike) (defBody sLike) (defScope sLike) .none kV21 dc21 pm21 an21 cd21 ct21), sl21⟩) (c21 : PySem.W.codeIn K cd21 "_law_like" = true) (k21 : PySem.W.keepIn K (.ref f21) = true)
    (a22 : PySem.W.nsIn K mainGlobals "_law_calm" = some (some (.ref f22))) (l22 : K.lookup f22 = some ⟨oc22, od22, .func (PySem.W.fnOf "_law_calm" "_law_calm" (defArgs sCalm) (defBody sCalm) (defScope sCalm) .none kV22 dc22 pm22 an22 cd22 ct22), sl22⟩) (c22 : PySem.W.codeIn K cd22 "_law_calm" = true) (k22 : PySem.W.keepIn K (.ref f22) = true)
    (a23 : PySem.W.nsIn K mainGlobals "_law_floor_size" = some (some (.ref f23))) (l23 : K.lookup f23 = some ⟨oc23, od23, .func (PySem.W.fnOf "_law_floor_size" "_law_floor_size" (defArgs sFloorSize) (defBody sFloorSize) (defScope sFloorSize) .none kV23 dc23 pm23 an23 cd23 ct23), sl23⟩) (c23 : PySem.W.codeIn K cd23 "_law_floor_size" = true) (k23 : PySem.W.keepIn K (.ref f23) = true)
    (a24 : PySem.W.nsIn K mainGlobals "_law_read" = some (some (.ref f24))) (l24 : K.lookup f24 = some ⟨oc24, od24, .func (PySem.W.fnOf "_law_read" "_law_read" (defArgs sReadL) (defBody sReadL) (defScope sReadL) .none kV24 dc24 pm24 an24 cd24 ct24), sl24⟩) (c24 : PySem.W.codeIn K cd24 "_law_read" = true) (k24 : PySem.W.keepIn K (.ref f24) = true)
    (a25 : PySem.W.nsIn K mainGlobals "_law_figures" = some (some (.ref f25))) (l25 : K.lookup f25 = some ⟨oc25, od25, .func (PySem.W.fnOf "_law_figures" "_law_figures" (defArgs sFigures) (defBody sFigures) (defScope sFigures) .none kV25 dc25 pm25 an25 cd25 ct25), sl25⟩) (c25 : PySem.W.codeIn K cd25 "_law_figures" = true) (k25 : PySem.W.keepIn K (.ref f25) = true)
    (a26 : PySem.W.nsIn K mainGlobals "_law_number" = some (some (.ref f26))) (l26 : K.lookup f26 = some ⟨oc26, od26, .func (PySem.W.fnOf "_law_number" "_law_number" (defArgs sNumberL) (defBody sNumberL) (defScope sNumberL) .none kV26 dc26 pm26 an26 cd26 ct26), sl26⟩) (c26 : PySem.W.codeIn K cd26 "_law_number" = true) (k26 : PySem.W.keepIn K (.ref f26) = true)
    (a27 : PySem.W.nsIn K mainGlobals "_law_table" = some (some (.ref f27))) (l27 : K.lookup f27 = some ⟨oc27, od27, .func (PySem.W.fnOf "_law_table" "_law_table" (defArgs sTable) (defBody sTable) (defScope sTable) .none kV27 dc27 pm27 an27 cd27 ct27), sl27⟩) (c27 : PySem.W.codeIn K cd27 "_law_table" = true) (k27 : PySem.W.keepIn K (.ref f27) = true)
    (a28 : PySem.W.nsIn K mainGlobals "_law_in_line" = some (some (.ref f28))) (l28 : K.lookup f28 = some ⟨oc28, od28, .func (PySem.W.fnOf "_law_in_line" "_law_in_line" (defArgs sInLine) (defBody sInLine) (defScope sInLine) .none kV28 dc28 pm28 an28 cd28 ct28), sl28⟩) (c28 : PySem.W.codeIn K cd28 "_law_in_line" = true) (k28 : PySem.W.keepIn K (.ref f28) = true)
    (a29 : PySem.W.nsIn K mainGlobals "_law_shrunk" = some (some (.ref f29))) (l29 : K.lookup f29 = some ⟨oc29, od29, .func (PySem.W.fnOf "_law_shrunk" "_law_shrunk" (defArgs sShrunk) (defBody sShrunk) (defScope sShrunk) .none kV29 dc29 pm29 an29 cd29 ct29), sl29⟩) (c29 : PySem.W.codeIn K cd29 "_law_shrunk" = true) (k29 : PySem.W.keepIn K (.ref f29) = true)
    (a30 : PySem.W.nsIn K mainGlobals "_law_cell" = some (some (.ref f30))) (l30 : K.lookup f30 = some ⟨oc30, od30, .func (PySem.W.fnOf "_law_cell" "_law_cell" (defArgs sCell) (defBody sCell) (defScope sCell) .none kV30 dc30 pm30 an30 cd30 ct30), sl30⟩) (c30 : PySem.W.codeIn K cd30 "_law_cell" = true) (k30 : PySem.W.keepIn K (.ref f30) = true)
    (a31 : PySem.W.nsIn K mainGlobals "_law_letters" = some (some (.ref f31))) (l31 : K.lookup f31 = some ⟨oc31, od31, .func (PySem.W.fnOf "_law_letters" "_law_letters" (defArgs sLetters) (defBody sLetters) (defScope sLetters) .none kV31 dc31 pm31 an31 cd31 ct31), sl31⟩) (c31 : PySem.W.codeIn K cd31 "_law_letters" = true) (k31 : PySem.W.keepIn K (.ref f31) = true)
    (a32 : PySem.W.nsIn K mainGlobals "_law_rearranged" = some (some (.ref f32))) (l32 : K.lookup f32 = some ⟨oc32, od32, .func (PySem.W.fnOf "_law_rearranged" "_law_rearranged" (defArgs sRear) (defBody sRear) (defScope sRear) .none kV32 dc32 pm32 an32 cd32 ct32), sl32⟩) (c32 : PySem.W.codeIn K cd32 "_law_rearranged" = true) (k32 : PySem.W.keepIn K (.ref f32) = true)
    (a33 : PySem.W.nsIn K mainGlobals "_law_rows" = some (some (.ref f33))) (l33 : K.lookup f33 = some ⟨oc33, od33, .func (PySem.W.fnOf "_law_rows" "_law_rows" (defArgs sRows) (defBody sRows) (defScope sRows) .none kV33 dc33 pm33 an33 cd33 ct33), sl33⟩) (c33 : PySem.W.codeIn K cd33 "_law_rows" = true) (k33 : PySem.W.keepIn K (.ref f33) = true)
    (a34 : PySem.W.nsIn K mainGlobals "_law_guise" = some (some (.ref f34))) (l34 : K.lookup f34 = some ⟨oc34, od34, .func (PySem.W.fnOf "_law_guise" "_law_guise" (defArgs sGuise) (defBody sGuise) (defScope sGuise) .none kV34 dc34 pm34 an34 cd34 ct34), sl34⟩) (c34 : PySem.W.codeIn K cd34 "_law_guise" = true) (k34 : PySem.W.keepIn K (.ref f34) = true)
    (a35 : PySem.W.nsIn K mainGlobals "_law_right" = some (some (.ref f35))) (l35 : K.lookup f35 = some ⟨oc35, od35, .func (PySem.W.fnOf "_law_right" "_law_right" (defArgs sRight) (defBody sRight) (defScope sRight) .none kV35 dc35 pm35 an35 cd35 ct35), sl35⟩) (c35 : PySem.W.codeIn K cd35 "_law_right" = true) (k35 : PySem.W.keepIn K (.ref f35) = true)
    (a36 : PySem.W.nsIn K mainGlobals "law" = some (some (.ref f36))) (l36 : K.lookup f36 = some ⟨oc36, od36, .func (PySem.W.fnOf "law" "law" (defArgs sLaw) (defBody sLaw) (defScope sLaw) .none kV36 dc36 pm36 an36 cd36 ct36), sl36⟩) (c36 : PySem.W.codeIn K cd36 "law" = true) (k36 : PySem.W.keepIn K (.ref f36) = true)
    (t4 : PySem.W.codeHdIn K cc4 P4 = true) (u4 : K.lookup P4 = none)
    (nP : ([P4] : List Addr).Nodup)
    (i1 : PySem.W.nsIn K mainGlobals "MOST_FORM_ROWS" = some (some (.int 60 tk1)))
    (i2 : PySem.W.nsIn K mainGlobals "MOST_WORDS" = some (some (.int 1024 tk2)))
    (i3 : PySem.W.nsIn K mainGlobals "MOST_LETTERS_TOLD" = some (some (.int 1000 tk3)))
    (z1 : PySem.W.nsIn K mainGlobals "len" = some none)
    (z2 : PySem.W.nsIn K mainGlobals "tuple" = some none)
    (z3 : PySem.W.nsIn K mainGlobals "list" = some none)
    (z4 : PySem.W.nsIn K mainGlobals "range" = some none)
    (z5 : PySem.W.nsIn K mainGlobals "isinstance" = some none)
    (z6 : PySem.W.nsIn K mainGlobals "int" = some none)
    (z7 : PySem.W.nsIn K mainGlobals "bool" = some none)
    (z8 : PySem.W.nsIn K mainGlobals "str" = some none)
    (z9 : PySem.W.nsIn K mainGlobals "all" = some none)
    (z10 : PySem.W.nsIn K mainGlobals "any" = some none)
    (z11 : PySem.W.nsIn K mainGlobals "sorted" = some none)
    (z12 : PySem.W.nsIn K mainGlobals "zip" = some none)
    (z13 : PySem.W.nsIn K mainGlobals "max" = some none)
    (z14 : PySem.W.nsIn K mainGlobals "min" = some none)
    (z15 : PySem.W.nsIn K mainGlobals "enumerate" = some none)
    (z16 : PySem.W.nsIn K mainGlobals "abs" = some none)
    (z17 : PySem.W.nsIn K mainGlobals "divmod" = some none)
    {CtTooMany : Addr} (yTooMany : PySem.W.nsIn K mainGlobals "TooMany" = some (some (.ref CtTooMany))) (xTooMany : PySem.W.excIn K CtTooMany [.type "ValueError", .type "Exception", .type "BaseException", .type "object"] "ValueError.__new__" = true)
    {CtBadWord : Addr} (yBadWord : PySem.W.nsIn K mainGlobals "BadWord" = some (some (.ref CtBadWord))) (xBadWord : PySem.W.excIn K CtBadWord [.type "ValueError", .type "Exception", .type "BaseException", .type "object"] "ValueError.__new__" = true)
    {CtBadCount : Addr} (yBadCount : PySem.W.nsIn K mainGlobals "BadCount" = some (some (.ref CtBadCount))) (xBadCount : PySem.W.excIn K CtBadCount [.type "ValueError", .type "Exception", .type "BaseException", .type "object"] "ValueError.__new__" = true)
    : ∃ fd : FuncData, (∀ (s : Shared) (v : Value), BindsTo s fd ⟨[v], []⟩ [("_law_script", v)]) ∧ (∀ T ∈ (TsOf P4), K.lookup T.at_ = none ∧ ∃ c, PySem.W.codeHdIn K c T.at_ = true) ∧ ∀ base : Heap, K.In base → base.Ns mainGlobals mg → BMain base mg → FnOk l.prog w K mg base (CXx l.prog w) 10 fa fd ["_law_script"] (spLawL (TsOf P4) K) := by
  have e := hfa.symm.trans (PySem.W.mg_of X G a36)
  cases e
  have F1 := fun_mk (st := sSame) l1 c1 k1
  have b1 := F1.binds (ps := ["letters"]) fun _ _ _ _ _ _ us hl => by obtain ⟨a0, rfl⟩ := len1 hl; rfl
  have m1 := PySem.W.mg_of X G a1
  have F2 := fun_mk (st := sStill) l2 c2 k2
  have b2 := F2.binds (ps := ["letters"]) fun _ _ _ _ _ _ us hl => by obtain ⟨a0, rfl⟩ := len1 hl; rfl
  have m2 := PySem.W.mg_of X G a2
  have F3 := fun_mk (st := sBreadth) l3 c3 k3
  have b3 := F3.binds (ps := ["guise"]) fun _ _ _ _ _ _ us hl => by obtain ⟨a0, rfl⟩ := len1 hl; rfl
  have m3 := PySem.W.mg_of X G a3
  have F4 := fun_mk (st := sSect) l4 c4 k4
  have b4 := F4.binds (ps := ["guise", "row"]) fun _ _ _ _ _ _ us hl => by obtain ⟨a0, a1, rfl⟩ := len2 hl; rfl
  have m4 := PySem.W.mg_of X G a4
  have F5 := fun_mk (st := sReadF) l5 c5 k5
  have b5 := F5.binds (ps := ["guise", "row", "word"]) fun _ _ _ _ _ _ us hl => by obtain ⟨a0, a1, a2, rfl⟩ := len3 hl; rfl
  have m5 := PySem.W.mg_of X G a5
  have F6 := fun_mk (st := sLeast) l6 c6 k6
  have b6 := F6.binds (ps := ["first", "row_at"]) fun _ _ _ _ _ _ us hl => by obtain ⟨a0, a1, rfl⟩ := len2 hl; rfl
  have m6 := PySem.W.mg_of X G a6
  have F7 := fun_mk (st := sCome) l7 c7 k7
  have b7 := F7.binds (ps := ["first", "row_at"]) fun _ _ _ _ _ _ us hl => by obtain ⟨a0, a1, rfl⟩ := len2 hl; rfl
  have m7 := PySem.W.mg_of X G a7
  have F8 := fun_mk (st := sKinds) l8 c8 k8
  have b8 := F8.binds (ps := ["rows"]) fun _ _ _ _ _ _ us hl => by obtain ⟨a0, rfl⟩ := len1 hl; rfl
  have m8 := PySem.W.mg_of X G a8
  have F9 := fun_mk (st := sGone) l9 c9 k9
  have b9 := F9.binds (ps := ["kinds", "goings"]) fun _ _ _ _ _ _ us hl => by obtain ⟨a0, a1, rfl⟩ := len2 hl; rfl
  have m9 := PySem.W.mg_of X G a9
  have F10 := fun_mk (st := sNumbered) l10 c10 k10
  have b10 := F10.binds (ps := ["things"]) fun _ _ _ _ _ _ us hl => by obtain ⟨a0, rfl⟩ := len1 hl; rfl
  have m10 := PySem.W.mg_of X G a10
  have F11 := fun_mk (st := sCheckW) l11 c11 k11
  have b11 := F11.binds (ps := ["letters", "word"]) fun _ _ _ _ _ _ us hl => by obtain ⟨a0, a1, rfl⟩ := len2 hl; rfl
  have m11 := PySem.W.mg_of X G a11
  have F12 := fun_mk (st := sWorn) l12 c12 k12
  have b12 := F12.binds (ps := ["guise", "word"]) fun _ _ _ _ _ _ us hl => by obtain ⟨a0, a1, rfl⟩ := len2 hl; rfl
  have m12 := PySem.W.mg_of X G a12
  have F13 := fun_mk (st := sNumberOf) l13 c13 k13
  have b13 := F13.binds (ps := ["letters", "word"]) fun _ _ _ _ _ _ us hl => by obtain ⟨a0, a1, rfl⟩ := len2 hl; rfl
  have m13 := PySem.W.mg_of X G a13
  have F14 := fun_mk (st := sWordOf) l14 c14 k14
  have b14 := F14.binds (ps := ["letters", "many", "number"]) fun _ _ _ _ _ _ us hl => by obtain ⟨a0, a1, a2, rfl⟩ := len3 hl; rfl
  have m14 := PySem.W.mg_of X G a14
  have F15 := fun_mk (st := sOnFloor) l15 c15 k15
  have b15 := F15.binds (ps := ["letters", "many"]) fun _ _ _ _ _ _ us hl => by obtain ⟨a0, a1, rfl⟩ := len2 hl; rfl
  have m15 := PySem.W.mg_of X G a15
  have F16 := fun_mk (st := sFloor) l16 c16 k16
  have b16 := F16.binds (ps := ["guise", "many"]) fun _ _ _ _ _ _ us hl => by obtain ⟨a0, a1, rfl⟩ := len2 hl; rfl
  have m16 := PySem.W.mg_of X G a16
  have F17 := fun_mk (st := sSections) l17 c17 k17
  have b17 := F17.binds (ps := ["guise"]) fun _ _ _ _ _ _ us hl => by obtain ⟨a0, rfl⟩ := len1 hl; rfl
  have m17 := PySem.W.mg_of X G a17
  have F18 := fun_mk (st := sNumbers) l18 c18 k18
  have b18 := F18.binds (ps := ["_law_cell_here", "_law_many"]) fun _ _ _ _ _ _ us hl => by obtain ⟨a0, a1, rfl⟩ := len2 hl; rfl
  have m18 := PySem.W.mg_of X G a18
  have F19 := fun_mk (st := sWordL) l19 c19 k19
  have b19 := F19.binds (ps := ["_law_letters_here", "_law_cell_here", "_law_most"]) fun _ _ _ _ _ _ us hl => by obtain ⟨a0, a1, a2, rfl⟩ := len3 hl; rfl
  have m19 := PySem.W.mg_of X G a19
  have F20 := fun_mk (st := sWhole) l20 c20 k20
  have b20 := F20.binds (ps := ["_law_found"]) fun _ _ _ _ _ _ us hl => by obtain ⟨a0, rfl⟩ := len1 hl; rfl
  have m20 := PySem.W.mg_of X G a20
  have F21 := fun_mk (st := sLike) l21 c21 k21
  have b21 := F21.binds (ps := ["_law_found", "_law_due"]) fun _ _ _ _ _ _ us hl => by obtain ⟨a0, a1, rfl⟩ := len2 hl; rfl
  have m21 := PySem.W.mg_of X G a21
  have F22 := fun_mk (st := sCalm) l22 c22 k22
  have b22 := F22.binds (ps := ["_law_letters_here"]) fun _ _ _ _ _ _ us hl => by obtain ⟨a0, rfl⟩ := len1 hl; rfl
  have m22 := PySem.W.mg_of X G a22
  have F23 := fun_mk (st := sFloorSize) l23 c23 k23
  have b23 := F23.binds (ps := ["_law_letters_here", "_law_many"]) fun _ _ _ _ _ _ us hl => by obtain ⟨a0, a1, rfl⟩ := len2 hl; rfl
  have m23 := PySem.W.mg_of X G a23
  have F24 := fun_mk (st := sReadL) l24 c24 k24
  have b24 := F24.binds (ps := ["_law_rows_here", "_law_at", "_law_word_here"]) fun _ _ _ _ _ _ us hl => by obtain ⟨a0, a1, a2, rfl⟩ := len3 hl; rfl
  have m24 := PySem.W.mg_of X G a24
  have F25 := fun_mk (st := sFigures) l25 c25 k25
  have b25 := F25.binds (ps := ["_law_letters_here", "_law_many", "_law_number_here"]) fun _ _ _ _ _ _ us hl => by obtain ⟨a0, a1, a2, rfl⟩ := len3 hl; rfl
  have m25 := PySem.W.mg_of X G a25
  have F26 := fun_mk (st := sNumberL) l26 c26 k26
  have b26 := F26.binds (ps := ["_law_letters_here", "_law_word_here"]) fun _ _ _ _ _ _ us hl => by obtain ⟨a0, a1, rfl⟩ := len2 hl; rfl
  have m26 := PySem.W.mg_of X G a26
  have F27 := fun_mk (st := sTable) l27 c27 k27
  have b27 := F27.binds (ps := ["_law_one", "_law_many"]) fun _ _ _ _ _ _ us hl => by obtain ⟨a0, a1, rfl⟩ := len2 hl; rfl
  have m27 := PySem.W.mg_of X G a27
  have F28 := fun_mk (st := sInLine) l28 c28 k28
  have b28 := F28.binds (ps := ["_law_rows_here", "_law_line", "_law_marks"]) fun _ _ _ _ _ _ us hl => by obtain ⟨a0, a1, a2, rfl⟩ := len3 hl; rfl
  have m28 := PySem.W.mg_of X G a28
  have F29 := fun_mk (st := sShrunk) l29 c29 k29
  have b29 := F29.binds (ps := ["_law_rows_here", "_law_start"]) fun _ _ _ _ _ _ us hl => by obtain ⟨a0, a1, rfl⟩ := len2 hl; rfl
  have m29 := PySem.W.mg_of X G a29
  have F30 := fun_mk (st := sCell) l30 c30 k30
  have b30 := F30.binds (ps := ["_law_script", "_law_at"]) fun _ _ _ _ _ _ us hl => by obtain ⟨a0, a1, rfl⟩ := len2 hl; rfl
  have m30 := PySem.W.mg_of X G a30
  have F31 := fun_mk (st := sLetters) l31 c31 k31
  have b31 := F31.binds (ps := ["_law_script", "_law_at"]) fun _ _ _ _ _ _ us hl => by obtain ⟨a0, a1, rfl⟩ := len2 hl; rfl
  have m31 := PySem.W.mg_of X G a31
  have F32 := fun_mk (st := sRear) l32 c32 k32
  have b32 := F32.binds (ps := ["_law_pick", "_law_letters_here"]) fun _ _ _ _ _ _ us hl => by obtain ⟨a0, a1, rfl⟩ := len2 hl; rfl
  have m32 := PySem.W.mg_of X G a32
  have F33 := fun_mk (st := sRows) l33 c33 k33
  have b33 := F33.binds (ps := ["_law_letters_here", "_law_cell_here"]) fun _ _ _ _ _ _ us hl => by obtain ⟨a0, a1, rfl⟩ := len2 hl; rfl
  have m33 := PySem.W.mg_of X G a33
  have F34 := fun_mk (st := sGuise) l34 c34 k34
  have b34 := F34.binds (ps := ["_law_letters_here", "_law_cell_here"]) fun _ _ _ _ _ _ us hl => by obtain ⟨a0, a1, rfl⟩ := len2 hl; rfl
  have m34 := PySem.W.mg_of X G a34
  have F35 := fun_mk (st := sRight) l35 c35 k35
  have b35 := F35.binds (ps := ["_law_one", "_law_cell_here"]) fun _ _ _ _ _ _ us hl => by obtain ⟨a0, a1, rfl⟩ := len2 hl; rfl
  have m35 := PySem.W.mg_of X G a35
  have F36 := fun_mk (st := sLaw) l36 c36 k36
  have m36 := PySem.W.mg_of X G a36
  have mTooMany := PySem.W.mg_of X G yTooMany
  have mBadWord := PySem.W.mg_of X G yBadWord
  have mBadCount := PySem.W.mg_of X G yBadCount
  have j1 := PySem.W.mg_of X G i1
  have j2 := PySem.W.mg_of X G i2
  have j3 := PySem.W.mg_of X G i3
  have n_len := PySem.W.mg_none_of X G z1
  have n_tuple := PySem.W.mg_none_of X G z2
  have n_list := PySem.W.mg_none_of X G z3
  have n_range := PySem.W.mg_none_of X G z4
  have n_isinstance := PySem.W.mg_none_of X G z5
  have n_int := PySem.W.mg_none_of X G z6
  have n_bool := PySem.W.mg_none_of X G z7
  have n_str := PySem.W.mg_none_of X G z8
  have n_all := PySem.W.mg_none_of X G z9
  have n_any := PySem.W.mg_none_of X G z10
  have n_sorted := PySem.W.mg_none_of X G z11
  have n_zip := PySem.W.mg_none_of X G z12
  have n_max := PySem.W.mg_none_of X G z13
  have n_min := PySem.W.mg_none_of X G z14
  have n_enumerate := PySem.W.mg_none_of X G z15
  have n_abs := PySem.W.mg_none_of X G z16
  have n_divmod := PySem.W.mg_none_of X G z17
  have B : Blt mg := ⟨n_len, n_tuple, n_list, n_range, n_isinstance, n_int, n_bool, n_str, n_all⟩
  refine ⟨PySem.W.fnOf "law" "law" (defArgs sLaw) (defBody sLaw) (defScope sLaw) .none kV36 dc36 pm36 an36 cd36 ct36, fun s v => .of_eq rfl, ?_, fun base hK _ hBM => ?_⟩
  · simp only [TsOf, List.forall_mem_cons]
    exact ⟨⟨u4, cc4, t4⟩, fun _ h => absurd h (by simp)⟩
  have O1 : FnOk l.prog w K mg base (CXx l.prog w) 1 f1 _ ["letters"] (spSame K) := ok_same F1 B.tup B.rng
  have O10 : FnOk l.prog w K mg base (CXx l.prog w) 1 f10 _ ["things"] (spNumbered K) := ok_numbered F10 B.len
  have O9 : FnOk l.prog w K mg base (CXx l.prog w) 1 f9 _ ["kinds", "goings"] (spGone K) := ok_gone F9 B.tup
  have O8 : FnOk l.prog w K mg base (CXx l.prog w) 2 f8 _ ["rows"] (spKindsX K CtTooMany) := ok_kindsX mTooMany xTooMany PySem.F.excBase_ValueError F8 n_zip n_max j1 O10 b10 k10 m10 O9 b9 k9 m9
  have O2 : FnOk l.prog w K mg base (CXx l.prog w) 2 f2 _ ["letters"] (spStill K) := ok_still F2 O1 b1 k1 m1
  have O3 : FnOk l.prog w K mg base (CXx l.prog w) 1 f3 _ ["guise"] (spBreadth K) := ok_breadth F3 B.len
  have O7F : FnOk l.prog w K mg base (CXx l.prog w) 5 f7 _ ["first", "row_at"] (spComeF l.prog w K mg base (CXx l.prog w) 4) := ok_comeF F7 B.len B.tup
  have O6F : FnOk l.prog w K mg base (CXx l.prog w) 6 f6 _ ["first", "row_at"] (spLeastF l.prog w K mg base (CXx l.prog w) 4 CtTooMany) := ((ok_leastG F6 B.len B.tup n_zip (O7F.sub come_F) b7 k7 m7 (O8.mono (by decide)) b8 k8 m8 (O9.mono (by decide)) b9 k9 m9).sub least_F)
  have O11 : FnOk l.prog w K mg base (CXx l.prog w) 1 f11 _ ["letters", "word"] (spCheckW K CtBadWord) := ok_checkw mBadWord xBadWord PySem.F.excBase_ValueError F11 n_any
  have O5 : FnOk l.prog w K mg base (CXx l.prog w) 1 f5 _ ["guise", "row", "word"] (spReadF K) := ok_readf F5 B.tup
  have O4 : FnOk l.prog w K mg base (CXx l.prog w) 7 f4 _ ["guise", "row"] (spSect (TsOf P4) K) := ok_sect F4 rfl (PySem.W.codeHd_of_K hK t4) hBM List.mem_cons_self (tb_uniq nP List.mem_cons_self) rfl rfl O6F b6 k6 m6
  have O17 : FnOk l.prog w K mg base (CXx l.prog w) 8 f17 _ ["guise"] (spSections (TsOf P4) K) := ok_sections B.len B.rng F17 O4 b4 k4 m4
  have O12 : FnOk l.prog w K mg base (CXx l.prog w) 2 f12 _ ["guise", "word"] (spWorn K CtBadWord) := ok_worn F12 O11 b11 k11 m11 O3 b3 k3 m3 O5 b5 k5 m5
  have O13 : FnOk l.prog w K mg base (CXx l.prog w) 2 f13 _ ["letters", "word"] (spNumOf K CtBadWord) := ok_numberof F13 O11 b11 k11 m11
  have O14 : FnOk l.prog w K mg base (CXx l.prog w) 1 f14 _ ["letters", "many", "number"] (spWordOf K CtBadCount) := ok_wordof mBadCount xBadCount PySem.F.excBase_ValueError j3 B.rng n_divmod B.tup F14
  have O15 : FnOk l.prog w K mg base (CXx l.prog w) 1 f15 _ ["letters", "many"] (spOnFloor K CtTooMany CtBadCount) := ok_onfloor mBadCount xBadCount PySem.F.excBase_ValueError mTooMany xTooMany PySem.F.excBase_ValueError j2 B.rng F15
  have O16 : FnOk l.prog w K mg base (CXx l.prog w) 3 f16 _ ["guise", "many"] (spFloor K CtTooMany CtBadCount) := ok_floor B.rng F16 (O3.mono (by decide)) b3 k3 m3 (O15.mono (by decide)) b15 k15 m15 O13 b13 k13 m13 O12 b12 k12 m12 (O14.mono (by decide)) b14 k14 m14
  have O30 : FnOk l.prog w K mg base (CXx l.prog w) 1 f30 _ ["_law_script", "_law_at"] (spCell K) := ok_cell F30 B.len
  have O31 : FnOk l.prog w K mg base (CXx l.prog w) 2 f31 _ ["_law_script", "_law_at"] (spLetters K) := ok_letters F31 O30 b30 k30 m30
  have O18 : FnOk l.prog w K mg base (CXx l.prog w) 1 f18 _ ["_law_cell_here", "_law_many"] (spNumbers K) := ok_numbers F18 B.len
  have O32 : FnOk l.prog w K mg base (CXx l.prog w) 1 f32 _ ["_law_pick", "_law_letters_here"] (spRear K) := ok_rear F32 B.len B.tup B.rng B.lst
  have O33 : FnOk l.prog w K mg base (CXx l.prog w) 2 f33 _ ["_law_letters_here", "_law_cell_here"] (spRows K) := ok_rows F33 B.rng B.tup n_min O18 b18 k18 m18 O32 b32 k32 m32
  have O28 : FnOk l.prog w K mg base (CXx l.prog w) 1 f28 _ ["_law_rows_here", "_law_line", "_law_marks"] (spInLineN K) := ok_inlineN F28 B.len B.tup
  have O29 : FnOk l.prog w K mg base (CXx l.prog w) 2 f29 _ ["_law_rows_here", "_law_start"] (spShrunkN K) := ok_shrunkN F29 B.len B.tup O28 b28 k28 m28
  have O20 : FnOk l.prog w K mg base (CXx l.prog w) 1 f20 _ ["_law_found"] (spWhole K) := ok_whole F20 B
  have O34 : FnOk l.prog w K mg base (CXx l.prog w) 3 f34 _ ["_law_letters_here", "_law_cell_here"] (spGuise K) := ok_guise F34 O33 b33 k33 m33 ((O29.mono (by decide)).sub shrunk_sub) b29 k29 m29
  have O19 : FnOk l.prog w K mg base (CXx l.prog w) 2 f19 _ ["_law_letters_here", "_law_cell_here", "_law_most"] (spWordL K) := ok_wordl F19 B.tup O18 b18 k18 m18
  have O21 : FnOk l.prog w K mg base (CXx l.prog w) 6 f21 _ ["_law_found", "_law_due"] (spLike K 5) := all_like F21 B O20 b20 k20 m20 b21 k21 m21 5
  have O22 : FnOk l.prog w K mg base (CXx l.prog w) 1 f22 _ ["_law_letters_here"] (spStill K) := ok_calm F22 B.tup B.rng
  have O24 : FnOk l.prog w K mg base (CXx l.prog w) 1 f24 _ ["_law_rows_here", "_law_at", "_law_word_here"] (spReadO K) := ok_reado F24 B.tup
  have O26 : FnOk l.prog w K mg base (CXx l.prog w) 1 f26 _ ["_law_letters_here", "_law_word_here"] (spNumL K) := ok_numl F26
  have O23 : FnOk l.prog w K mg base (CXx l.prog w) 1 f23 _ ["_law_letters_here", "_law_many"] (spFSize K) := ok_fsize F23 B.rng
  have O25 : FnOk l.prog w K mg base (CXx l.prog w) 1 f25 _ ["_law_letters_here", "_law_many", "_law_number_here"] (spFigs K) := ok_figs F25 B.rng
  have O27 : FnOk l.prog w K mg base (CXx l.prog w) 2 f27 _ ["_law_one", "_law_many"] (spTable K) := ok_table B.len B.rng F27 O23 b23 k23 m23 O24 b24 k24 m24 O25 b25 k25 m25 O26 b26 k26 m26
  have O35 : FnOk l.prog w K mg base (CXx l.prog w) 9 f35 _ ["_law_one", "_law_cell_here"] (spRight32 (TsOf P4) K) := ok_right32 B.len B.rng F35 (O18.mono (by decide)) b18 k18 m18 (O19.mono (by decide)) b19 k19 m19 (O21.mono (by decide)) b21 k21 m21 (O2.mono (by decide)) b2 k2 m2 (O22.mono (by decide)) b22 k22 m22 (O16.mono (by decide)) b16 k16 m16 (O27.mono (by decide)) b27 k27 m27 (O26.mono (by decide)) b26 k26 m26 (O13.mono (by decide)) b13 k13 m13 (O14.mono (by decide)) b14 k14 m14 (O12.mono (by decide)) b12 k12 m12 (O24.mono (by decide)) b24 k24 m24 (O3.mono (by decide)) b3 k3 m3 O17 b17 k17 m17 (O29.mono (by decide)) b29 k29 m29
  exact ok_law F36 (O30.mono (by decide)) b30 k30 m30 (O31.mono (by decide)) b31 k31 m31 (O34.mono (by decide)) b34 k34 m34 O35 b35 k35 m35
theorem walk {l : PySem.W.OpenLaw} {q : Program} {loose : List Str} {XP : (Str → Option Value) → Heap → Prop} {YP : World → Heap → Prop} {d : DefRec} {K : Params → PySem.W.Frag} {P4 : Addr} (hn : l.most = some 63) (hdf : d.params.defaults = [])
    (hY : ∀ (w : World) (h : Heap), YP w h → (K w.params).In h ∧ ∀ P ∈ ([P4] : List Addr), h.get? P = some (PySem.W.tabObj #[]))
    (F : ∀ (w : World) (mg : Str → Option Value) (fa : Addr) (h : Heap), (K w.params).In h → h.Ns mainGlobals mg → mg d.name = some (.ref fa) →
      ∃ fd : FuncData, (∀ (s : Shared) (u : Value), BindsTo s fd ⟨[u], []⟩ [("_law_script", u)]) ∧ (∀ T ∈ (TsOf P4), (K w.params).lookup T.at_ = none ∧ ∃ c, PySem.W.codeHdIn (K w.params) c T.at_ = true) ∧ ∀ base : Heap, (K w.params).In base → base.Ns mainGlobals mg → BMain base mg → FnOk l.prog w (K w.params) mg base (CXx l.prog w) 10 fa fd ["_law_script"] (spLawL (TsOf P4) (K w.params))) :
    PySem.W.WalkO q loose XP YP l.row.toRowW d [] (fun f vs => PySem.call f vs) :=
  L2.walk_of2 (Ts := (TsOf P4)) (n := 63) (k := 10) (x := "_law_script") (CX := fun w => (CXx l.prog w)) (sp := fun w => spLawL (TsOf P4) (K w.params)) hn (by decide) hdf ⟨rfl, by decide, by decide⟩ hY F (fun _ _ a ns hl hT hS => ⟨a, ns, rfl, hS, hl, hT, fun _ => rfl⟩) fun _ _ _ _ _ z => (by obtain ⟨_, _, _, _, _, _, _, _, _, h⟩ := z; exact h)
end Gu
open PySem PySem.W PyProof.Rows
set_option maxRecDepth 100000 in
set_option maxHeartbeats 0 in
theorem PySem.Challenge.cw_guisery_k32_breadths_by_turns_holds : PySem.Challenge.rw_guisery_k32_breadths_by_turns.Holds := by
  w_on; o_law; k_head; (case hw => w_witness2)
  k_fill
  refine Gu.walk (l := PySem.Challenge.rw_guisery_k32_breadths_by_turns) rfl rfl (fun w h Y => ⟨PySem.W.km_in_of Y, PySem.W.km_tabs_of Y⟩) ?F
  case F =>
    intro w mg fa h KX G hmg
    refine' Gu.all_mk KX G hmg ?a1 ?l1 ?c1 ?k1 ?a2 ?l2 ?c2 ?k2 ?a3 ?l3 ?c3 ?k3 ?a4 ?l4 ?c4 ?k4 ?a5 ?l5 ?c5 ?k5 ?a6 ?l6 ?c6 ?k6 ?a7 ?l7 ?c7 ?k7 ?a8 ?l8 ?c8 ?k8 ?a9 ?l9 ?c9 ?k9 ?a10 ?l10 ?c10 ?k10 ?a11 ?l11 ?c11 ?k11 ?a12 ?l12 ?c12 ?k12 ?a13 ?l13 ?c13 ?k13 ?a14 ?l14 ?c14 ?k14 ?a15 ?l15 ?c15 ?k15 ?a16 ?l16 ?c16 ?k16 ?a17 ?l17 ?c17 ?k17 ?a18 ?l18 ?c18 ?k18 ?a19 ?l19 ?c19 ?k19 ?a20 ?l20 ?c20 ?k20 ?a21 ?l21 ?c21 ?k21 ?a22 ?l22 ?c22 ?k22 ?a23 ?l23 ?c23 ?k23 ?a24 ?l24 ?c24 ?k24 ?a25 ?l25 ?c25 ?k25 ?a26 ?l26 ?c26 ?k26 ?a27 ?l27 ?c27 ?k27 ?a28 ?l28 ?c28 ?k28 ?a29 ?l29 ?c29 ?k29 ?a30 ?l30 ?c30 ?k30 ?a31 ?l31 ?c31 ?k31 ?a32 ?l32 ?c32 ?k32 ?a33 ?l33 ?c33 ?k33 ?a34 ?l34 ?c34 ?k34 ?a35 ?l35 ?c35 ?k35 ?a36 ?l36 ?c36 ?k36 ?t4 ?u4 ?nP ?i1 ?i2 ?i3 ?z1 ?z2 ?z3 ?z4 ?z5 ?z6 ?z7 ?z8 ?z9 ?z10 ?z11 ?z12 ?z13 ?z14 ?z15 ?z16 ?z17 ?yTooMany ?xTooMany ?yBadWord ?xBadWord ?yBadCount ?xBadCount
    (case a1 => k_is); (case l1 => k_is); (case c1 => k_is); (case k1 => k_is)
    (case a2 => k_is); (case l2 => k_is); (case c2 => k_is); (case k2 => k_is)
    (case a3 => k_is); (case l3 => k_is); (case c3 => k_is); (case k3 => k_is)
    (case a4 => k_is); (case l4 => k_is); (case c4 => k_is); (case k4 => k_is)
    (case a5 => k_is); (case l5 => k_is); (case c5 => k_is); (case k5 => k_is)
    (case a6 => k_is); (case l6 => k_is); (case c6 => k_is); (case k6 => k_is)
    (case a7 => k_is); (case l7 => k_is); (case c7 => k_is); (case k7 => k_is)
    (case a8 => k_is); (case l8 => k_is); (case c8 => k_is); (case k8 => k_is)
    (case a9 => k_is); (case l9 => k_is); (case c9 => k_is); (case k9 => k_is)
    (case a10 => k_is); (case l10 => k_is); (case c10 => k_is); (case k10 => k_is)
    (case a11 => k_is); (case l11 => k_is); (case c11 => k_is); (case k11 => k_is)
    (case a12 => k_is); (case l12 => k_is); (case c12 => k_is); (case k12 => k_is)
    (case a13 => k_is); (case l13 => k_is); (case c13 => k_is); (case k13 => k_is)
    (case a14 => k_is); (case l14 => k_is); (case c14 => k_is); (case k14 => k_is)
    (case a15 => k_is); (case l15 => k_is); (case c15 => k_is); (case k15 => k_is)
    (case a16 => k_is); (case l16 => k_is); (case c16 => k_is); (case k16 => k_is)
    (case a17 => k_is); (case l17 => k_is); (case c17 => k_is); (case k17 => k_is)
    (case a18 => k_is); (case l18 => k_is); (case c18 => k_is); (case k18 => k_is)
    (case a19 => k_is); (case l19 => k_is); (case c19 => k_is); (case k19 => k_is)
    (case a20 => k_is); (case l20 => k_is); (case c20 => k_is); (case k20 => k_is)
    (case a21 => k_is); (case l21 => k_is); (case c21 => k_is); (case k21 => k_is)
    (case a22 => k_is); (case l22 => k_is); (case c22 => k_is); (case k22 => k_is)
    (case a23 => k_is); (case l23 => k_is); (case c23 => k_is); (case k23 => k_is)
    (case a24 => k_is); (case l24 => k_is); (case c24 => k_is); (case k24 => k_is)
    (case a25 => k_is); (case l25 => k_is); (case c25 => k_is); (case k25 => k_is)
    (case a26 => k_is); (case l26 => k_is); (case c26 => k_is); (case k26 => k_is)
    (case a27 => k_is); (case l27 => k_is); (case c27 => k_is); (case k27 => k_is)
    (case a28 => k_is); (case l28 => k_is); (case c28 => k_is); (case k28 => k_is)
    (case a29 => k_is); (case l29 => k_is); (case c29 => k_is); (case k29 => k_is)
    (case a30 => k_is); (case l30 => k_is); (case c30 => k_is); (case k30 => k_is)
    (case a31 => k_is); (case l31 => k_is); (case c31 => k_is); (case k31 => k_is)
    (case a32 => k_is); (case l32 => k_is); (case c32 => k_is); (case k32 => k_is)
    (case a33 => k_is); (case l33 => k_is); (case c33 => k_is); (case k33 => k_is)
    (case a34 => k_is); (case l34 => k_is); (case c34 => k_is); (case k34 => k_is)
    (case a35 => k_is); (case l35 => k_is); (case c35 => k_is); (case k35 => k_is)
    (case a36 => k_is); (case l36 => k_is); (case c36 => k_is); (case k36 => k_is)
    (case t4 => (first | kernel_rfl | k_is))
    (case u4 => (first | kernel_rfl | k_is))
    (case nP => decide)
    (case i1 => k_is)
    (case i2 => k_is)
    (case i3 => k_is)
    (case z1 => k_is)
    (case z2 => k_is)
    (case z3 => k_is)
    (case z4 => k_is)
    (case z5 => k_is)
    (case z6 => k_is)
    (case z7 => k_is)
    (case z8 => k_is)
    (case z9 => k_is)
    (case z10 => k_is)
    (case z11 => k_is)
    (case z12 => k_is)
    (case z13 => k_is)
    (case z14 => k_is)
    (case z15 => k_is)
    (case z16 => k_is)
    (case z17 => k_is)
    (case yTooMany => k_is)
    (case xTooMany => k_exc)
    (case yBadWord => k_is)
    (case xBadWord => k_exc)
    (case yBadCount => k_is)
    (case xBadCount => k_exc)
