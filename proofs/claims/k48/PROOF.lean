import PyProof.Rows.All
import Wide.All
import OpenK.AllK
import Wide.FinOn
import Lean
import PyProof.EqAt
import PyProof.EqKinds
import PyProof.TupleCall
import PyProof.ListRange
import PyProof.TupleOfSeq
import PyProof.ConsumeWalk
import PyProof.WalksMore
import PyProof.Draws
import PyProof.EnumMake
import PyProof.ZipIter
import PyProof.Rows.EnumRows
import PyProof.Rows.FactsT2
import PyProof.MeetsSeq3
import PyProof.DictRoadsH
import PyProof.Rows.TupTab
import PyProof.Rows.SortWalk
import PyProof.Rows.SeqCalls
import PyProof.ListMulRoad
import KE.KDictLaws
import OpenK.KRaise
import KE.KLam
import KE.KNestM
import PyProof.StrLawsTight
import PyProof.Rows.StrSplitMax
import PyProof.StrCalls2
import PyProof.StrWalks
import PyProof.Rows.StrJoin2
import KE.KIntText
import KE.KUnpackStar
import KE.KTab
import PyProof.Rows.SortRuns
import PyProof.Rows.SetFrom
import KE.KDictList
import PyProof.IsRules
import PyProof.DictCompW
import KE.KSortKey
import KE.KSortTup
import PyProof.Rows.StrTempNeg
import PyProof.StrBlockH
import PyProof.StrOps2
import PyProof.DictUpdate
import KE.KListMore
import PyProof.Rows.CatFin
import PyProof.Rows.StrClose5
import PySem.Challenge.RW_guisery_k48_lines_refused
set_option Elab.async false
set_option linter.all false
set_option maxRecDepth 100000
/-! THE HAND LAYER, for ints, bools, texts, own classes, LISTS and tuples (index, slices, in, append, pop ..), calls, loops. Paste it whole ahead of your own text; what your proof does not reach may be deleted. -/
namespace L2
open PySem PySem.Spec PyProof.Rows

abbrev Key := Sum Int Str
def keyIs : Key → Value → Bool
  | .inl k, v => Value.isInt k v
  | .inr x, v => Value.isStrOf x v
def keyH (w : World) : Key → Int
  | .inl k => hashInt k
  | .inr x => hashStr w x
theorem keyIs_shape : ∀ {k : Key} {v : Value}, keyIs k v = true → (∃ i t, k = Sum.inl i ∧ v = Value.int i t) ∨ (∃ x t, k = Sum.inr x ∧ v = Value.str x t)
  | .inl i, v, h => by
    obtain ⟨t, e⟩ := Value.isInt_shape (k := i) (v := v) h
    exact .inl ⟨i, t, rfl, e⟩
  | .inr x, v, h => by
    obtain ⟨t, e⟩ := Value.isStrOf_shape (x := x) (v := v) h
    exact .inr ⟨x, t, rfl, e⟩
theorem keyIs_int (i : Int) (t : Tok) : keyIs (.inl i) (.int i t) = true := by simp [keyIs, Value.isInt]
theorem keyIs_str (x : Str) (t : Tok) : keyIs (.inr x) (.str x t) = true := by simp [keyIs, Value.isStrOf]
theorem key_ll (a b : Int) : decide ((Sum.inl a : Key) = Sum.inl b) = (a == b) := by
  by_cases e : a = b
  · subst e; simp
  · have h : ¬ (Sum.inl a : Key) = Sum.inl b := fun q => e (Sum.inl.inj q)
    rw [decide_eq_false h]
    exact (beq_eq_false_iff_ne.mpr e).symm
theorem key_rr (a b : Str) : decide ((Sum.inr a : Key) = Sum.inr b) = decide (a = b) := by
  by_cases e : a = b
  · subst e; simp
  · have h : ¬ (Sum.inr a : Key) = Sum.inr b := fun q => e (Sum.inr.inj q)
    rw [decide_eq_false h, decide_eq_false e]
theorem key_lr (a : Int) (b : Str) : decide ((Sum.inl a : Key) = Sum.inr b) = false := decide_eq_false (fun q => nomatch q)
theorem key_rl (a : Str) (b : Int) : decide ((Sum.inr a : Key) = Sum.inl b) = false := decide_eq_false (fun q => nomatch q)

def mixKind (prog : Program) (w : World) : PySem.KeyKind prog w Key where
  is := keyIs
  hash := keyH w
  inj := fun v a b ha hb => by
    rcases keyIs_shape ha with ⟨i, t, rfl, rfl⟩ | ⟨x, t, rfl, rfl⟩
    · rcases keyIs_shape hb with ⟨j, u, rfl, e⟩ | ⟨y, u, rfl, e⟩
      · injection e with e1 _; rw [e1]
      · exact nomatch e
    · rcases keyIs_shape hb with ⟨j, u, rfl, e⟩ | ⟨y, u, rfl, e⟩
      · exact nomatch e
      · injection e with e1 _; rw [e1]
  byValue := fun k v h => by
    rcases keyIs_shape h with ⟨i, t, rfl, rfl⟩ | ⟨x, t, rfl, rfl⟩ <;> rfl
  pyHash := fun hv h => by
    rcases keyIs_shape hv with ⟨i, t, rfl, rfl⟩ | ⟨x, t, rfl, rfl⟩
    · exact wpAny_pyHash_int h
    · exact wpAny_pyHash_str h
  eqBool := fun hu hv h => by
    rcases keyIs_shape hu with ⟨i, t, rfl, rfl⟩ | ⟨x, t, rfl, rfl⟩
    · rcases keyIs_shape hv with ⟨j, u, rfl, rfl⟩ | ⟨y, u, rfl, rfl⟩
      · rw [key_ll] at h; exact wpAny_eqBool_int h
      · rw [key_lr] at h; exact SeqAt.EqAt.int_str i t y u _ _ _ _ h
    · rcases keyIs_shape hv with ⟨j, u, rfl, rfl⟩ | ⟨y, u, rfl, rfl⟩
      · rw [key_rl] at h; exact SeqAt.EqAt.str_int x t j u _ _ _ _ h
      · rw [key_rr] at h; exact wpAny_eqBool_str h
  «strs» := fun k x t v h => by
    rcases keyIs_shape h with ⟨i, u, rfl, e⟩ | ⟨y, u, rfl, e⟩
    · exact nomatch e
    · injection e with e1 _
      subst e1
      cases v <;> rfl

theorem mixKind_int (prog : Program) (w : World) (i : Int) (t : Tok) : (mixKind prog w).is (.inl i) (.int i t) = true := keyIs_int i t
theorem mixKind_str (prog : Program) (w : World) (x : Str) (t : Tok) : (mixKind prog w).is (.inr x) (.str x t) = true := keyIs_str x t
end L2

namespace L2
open PySem PySem.Spec PyProof.Rows

inductive V where
  | non | bl (b : Bool) | int (i : Int) | str (x : Str) | byt (b : Array UInt8) | flt (b : UInt64) | ref (a : Addr) | ty (n : String)
  deriving DecidableEq

def RelV : V → Value → Prop
  | .non, u => u = Value.none
  | .bl b, u => u = Value.bool b
  | .int i, u => ∃ t, u = Value.int i t
  | .str x, u => ∃ t, u = Value.str x t
  | .byt b, u => ∃ t, u = Value.bytes b t
  | .flt b, u => ∃ t, u = Value.float b t
  | .ref a, u => u = Value.ref a
  | .ty n, u => u = Value.type n

abbrev Vals : List V → List Value → Prop := Paired RelV
theorem Vals.length {xs : List V} {us : List Value} (r : Vals xs us) : xs.length = us.length := Paired.length r
theorem Vals.get : ∀ {xs : List V} {us : List Value} {i : Nat} {x : V}, Vals xs us → xs[i]? = some x → ∃ u, us[i]? = some u ∧ RelV x u
  | _, _, _, _, .nil, e => by simp at e
  | _, _, 0, _, .cons r _, e => by simp at e; subst e; exact ⟨_, rfl, r⟩
  | _, _, i + 1, x, .cons _ t, e => by
    obtain ⟨u, h1, h2⟩ := Vals.get (i := i) (x := x) t (by simpa using e)
    exact ⟨u, by simpa using h1, h2⟩
theorem Vals.set {x : V} {u : Value} (r : RelV x u) : ∀ {xs : List V} {us : List Value} (i : Nat), Vals xs us → Vals (xs.set i x) (us.set i u)
  | _, _, _, .nil => .nil
  | _, _, 0, .cons _ t => .cons r t
  | _, _, i + 1, .cons q t => .cons q (Vals.set r i t)
theorem Vals.append : ∀ {xs ys : List V} {us ws : List Value}, Vals xs us → Vals ys ws → Vals (xs ++ ys) (us ++ ws)
  | _, _, _, _, .nil, s => s
  | _, _, _, _, .cons r t, s => .cons r (Vals.append t s)
theorem Vals.take : ∀ {xs : List V} {us : List Value} (n : Nat), Vals xs us → Vals (xs.take n) (us.take n)
  | _, _, 0, _ => .nil
  | _, _, _ + 1, .nil => .nil
  | _, _, n + 1, .cons r t => .cons r (Vals.take n t)
theorem Vals.drop : ∀ {xs : List V} {us : List Value} (n : Nat), Vals xs us → Vals (xs.drop n) (us.drop n)
  | _, _, 0, r => r
  | _, _, _ + 1, .nil => .nil
  | _, _, n + 1, .cons _ t => Vals.drop n t
def RelO : Option V → Option Value → Prop
  | some v, some u => RelV v u
  | none, none => True
  | _, _ => False
def KV {κ : Type} : List (κ × V) → List (κ × Value) → Prop := Paired fun (p : κ × V) (q : κ × Value) => p.1 = q.1 ∧ RelV p.2 q.2

def kV : Key → V
  | .inl i => .int i
  | .inr x => .str x

inductive HO where
  /-- a list -/
  | lst (xs : List V)
  /-- a tuple (never changes) -/
  | tup (xs : List V)
  /-- a dict whose keys are ints and texts; one whose keys are tuples of ints and texts (the empty one is both) -/
  | dK (kvs : List (Key × V)) | dT (kvs : List (List Key × V))
  /-- a set of ints: its members, its size -/
  | set (S : Int → Bool) (n : Nat)
  /-- an instance of the class at C, its dict at dx, its attributes -/
  | ins (C dx : Addr) (fs : List (Str × V))
  /-- the dict of the instance at x -/
  | own (x : Addr)
  /-- the dict of an exception -/
  | xd (fs : List (Str × V))
  /-- a bound method, f of x -/
  | met (f x : Addr)
  /-- a range object lo, lo + 1, .. below hi -/
  | rng (lo hi : Int)
  /-- a thing that is known to the object (the script; a dict while a loop walks it): read, never written while it is so -/
  | frz (o : Obj) (u : HO)
  /-- a code object's table -/
  | tbl (ps : Array Value)
  /-- any other thing, by what is true of its one object (a def of one's own: SetO a S n := HO.ext fun h => ..) -/
  | ext (φ : Heap → Prop)

abbrev Hp := Addr → Option HO
def upd (H : Hp) (a : Addr) (o : HO) : Hp := fun b => if b = a then some o else H b
theorem upd_same {H : Hp} {a : Addr} {o : HO} : upd H a o a = some o := by unfold upd; rw [if_pos rfl]
theorem upd_ne {H : Hp} {a b : Addr} {o : HO} (h : b ≠ a) : upd H a o b = H b := by unfold upd; rw [if_neg h]
theorem upd_upd {H : Hp} {a : Addr} {o u : HO} : upd (upd H a o) a u = upd H a u := by
  funext b; unfold upd; split <;> rfl
theorem ne_of {H : Hp} {a b : Addr} {o u : HO} (h : H a = some o) (h' : H b = some u) (d : o ≠ u) : a ≠ b := by
  intro e; subst e; rw [h] at h'; exact d (Option.some.inj h')
theorem ne_of_none {H : Hp} {a b : Addr} {o : HO} (h : H a = some o) (h' : H b = none) : a ≠ b := by
  intro e; subst e; rw [h] at h'; cases h'

section
variable (P : Program) (w : World)
def ObjOk (H : Hp) (h : Heap) (a : Addr) : HO → Prop
  | .lst xs => xs.length ≤ sizeLine ∧ ∃ (its : List Value) (n : Nat), Vals xs its ∧ h.get? a = some { cls := .type "list", data := .seq its.toArray n }
  | .tup xs => xs.length ≤ sizeLine ∧ ∃ (its : List Value) (n : Nat), Vals xs its ∧ h.get? a = some { cls := .type "tuple", data := .seq its.toArray n }
  | .dK kvs => kvs.length ≤ sizeLine ∧ (a == sysModules) = false ∧ ∃ vs, KV kvs vs ∧ h.DictOf (mixKind P w) a vs
  | .dT kvs => kvs.length ≤ sizeLine ∧ (a == sysModules) = false ∧ ∃ xs : List (List Key × Addr × Value),
      Paired (fun (p : List Key × V) (q : List Key × Addr × Value) => p.1 = q.1 ∧ H q.2.1 = some (.tup (p.1.map kV)) ∧ RelV p.2 q.2.2) kvs xs ∧
      ∃ o es ep, h.get? a = some o ∧ o.ExactDict ∧ o.data = .dict es ep ∧ es.toList = xs.map (entryOfKey (tupleKind (mixKind P w))) ∧ (xs.map (·.1)).Nodup
  | .set S n => h.SetOf (intKind P w) a S n
  | .ins C dx fs => H dx = some (.own a) ∧ fs.length ≤ 1000 ∧ dx ≠ a ∧ h.get? a = some (PySem.W.instObj C dx) ∧
      ∃ mA, h.Ns1 dx mA ∧ (∀ f, RelO (fs.lookup f) (mA f)) ∧ PySem.Within mA (fs.map (·.1))
  | .own _ => ∃ o, h.get? a = some o
  | .xd fs => ∃ mA, h.Ns1 a mA ∧ ∀ f, RelO (fs.lookup f) (mA f)
  | .rng lo hi => ∃ t u v, h.get? a = some { cls := .type "range", data := .fields #[.int lo t, .int hi u, .int 1 v] }
  | .frz o u => h.get? a = some o ∧ ObjOk H h a u
  | .tbl ps => h.get? a = some { cls := .none, data := .fields ps }
  | .met f x => h.get? a = some (PySem.W.methodObj (.ref f) (.ref x))
  | .ext φ => φ h ∧ (∃ o, h.get? a = some o) ∧ ∀ h1 h2 : Heap, φ h1 → (∀ o, h1.get? a = some o → h2.get? a = some o) → φ h2
def HOk (H : Hp) (h : Heap) : Prop := ∀ a o, H a = some o → ObjOk P w H h a o
end

section
variable {P : Program} {w : World} {H H' : Hp} {h h' : Heap} {a : Addr} {o : HO}
theorem ObjOk.lt (x : ObjOk P w H h a o) : a < h.objs.size := by
  cases o with
  | lst xs => obtain ⟨_, _, _, _, e⟩ := x; exact Heap.lt_size e
  | tup xs => obtain ⟨_, _, _, _, e⟩ := x; exact Heap.lt_size e
  | dK kvs => obtain ⟨_, _, _, _, o, _, _, e, _⟩ := x; exact Heap.lt_size e
  | dT kvs => obtain ⟨_, _, _, _, o, _, _, e, _⟩ := x; exact Heap.lt_size e
  | set S n => obtain ⟨o, _, _, _, e, _⟩ := x; exact Heap.lt_size e
  | ins C dx fs => obtain ⟨_, _, _, e, _⟩ := x; exact Heap.lt_size e
  | own y => obtain ⟨_, e⟩ := x; exact Heap.lt_size e
  | xd fs => obtain ⟨_, ⟨_, _, _, e, _⟩, _⟩ := x; exact Heap.lt_size e
  | rng lo hi => obtain ⟨_, _, _, e⟩ := x; exact Heap.lt_size e
  | frz ob u => obtain ⟨e, _⟩ := x; exact Heap.lt_size e
  | tbl ps => exact Heap.lt_size (show h.get? a = some _ from x)
  | met f y => exact Heap.lt_size (show h.get? a = some _ from x)
  | ext φ => obtain ⟨_, ⟨_, e⟩, _⟩ := x; exact Heap.lt_size e
theorem Paired.mapP {α β : Type} {F G : α → β → Prop} : ∀ {l₁ : List α} {l₂ : List β}, Paired F l₁ l₂ → (∀ a b, F a b → G a b) → Paired G l₁ l₂
  | _, _, .nil, _ => .nil
  | _, _, .cons r t, f => .cons (f _ _ r) (Paired.mapP t f)
theorem ObjOk.stay (x : ObjOk P w H h a o) (k : ∀ b u, (b = a ∨ H b = some (.own a)) → h.get? b = some u → h'.get? b = some u)
    (ho : ∀ b, H b = some (.own a) → H' b = some (.own a)) (ht : ∀ b xs, H b = some (.tup xs) → H' b = some (.tup xs)) : ObjOk P w H' h' a o := by
  induction o with
  | lst xs => obtain ⟨z, its, n, r, e⟩ := x; exact ⟨z, its, n, r, k _ _ (.inl rfl) e⟩
  | tup xs => obtain ⟨z, its, n, r, e⟩ := x; exact ⟨z, its, n, r, k _ _ (.inl rfl) e⟩
  | dK kvs => obtain ⟨z, y, vs, r, ob, es, ep, e, c⟩ := x; exact ⟨z, y, vs, r, ob, es, ep, k _ _ (.inl rfl) e, c⟩
  | dT kvs =>
    obtain ⟨z, y, xs, r, ob, es, ep, e, c⟩ := x
    exact ⟨z, y, xs, Paired.mapP r fun p q z => ⟨z.1, ht _ _ z.2.1, z.2.2⟩, ob, es, ep, k _ _ (.inl rfl) e, c⟩
  | set S n => obtain ⟨ob, es, ep, t, e, c⟩ := x; exact ⟨ob, es, ep, t, k _ _ (.inl rfl) e, c⟩
  | ins C dx fs =>
    obtain ⟨d, z, ne, e, mA, ⟨od, es, ep, e2, c⟩, r⟩ := x
    exact ⟨ho _ d, z, ne, k _ _ (.inl rfl) e, mA, ⟨od, es, ep, k _ _ (.inr d) e2, c⟩, r⟩
  | own y => obtain ⟨ob, e⟩ := x; exact ⟨ob, k _ _ (.inl rfl) e⟩
  | xd fs => obtain ⟨mA, ⟨od, es, ep, e, c⟩, r⟩ := x; exact ⟨mA, ⟨od, es, ep, k _ _ (.inl rfl) e, c⟩, r⟩
  | rng lo hi => obtain ⟨t, u, v, e⟩ := x; exact ⟨t, u, v, k _ _ (.inl rfl) e⟩
  | frz ob u ih => obtain ⟨e, q⟩ := x; exact ⟨k _ _ (.inl rfl) e, ih q⟩
  | tbl ps =>
    have e : h.get? a = some { cls := .none, data := .fields ps } := x
    show h'.get? a = some { cls := .none, data := .fields ps }
    exact k a _ (.inl rfl) e
  | met f y =>
    have e : h.get? a = some (PySem.W.methodObj (.ref f) (.ref y)) := x
    show h'.get? a = some (PySem.W.methodObj (.ref f) (.ref y))
    exact k a _ (.inl rfl) e
  | ext φ => obtain ⟨p, ⟨o, e⟩, st⟩ := x; exact ⟨st _ _ p fun o q => k _ _ (.inl rfl) q, ⟨o, k _ _ (.inl rfl) e⟩, st⟩
theorem HOk.lt (x : HOk P w H h) (e : H a = some o) : a < h.objs.size := (x a o e).lt
theorem HOk.fresh (x : HOk P w H h) (e : h.objs.size ≤ a) : H a = none := by
  cases q : H a with
  | none => rfl
  | some u => exact absurd (Nat.lt_of_lt_of_le (x.lt q) e) (Nat.lt_irrefl _)
theorem HOk.kept (x : HOk P w H h) (k : ∀ b u, h.get? b = some u → h'.get? b = some u) : HOk P w H h' := fun a o e =>
  (x a o e).stay (fun b u _ q => k b u q) (fun _ q => q) fun _ _ q => q
theorem HOk.laid (x : HOk P w H h) (k : ∀ b u, h.get? b = some u → h'.get? b = some u) (hp : h.objs.size ≤ a) (new : ObjOk P w (upd H a o) h' a o) : HOk P w (upd H a o) h' := fun b u e => by
  have hn := x.fresh hp
  by_cases hb : b = a
  · subst hb; rw [upd_same] at e; cases e; exact new
  · rw [upd_ne hb] at e
    exact (x b u e).stay (fun c v _ q => k c v q) (fun c q => by rw [upd_ne (ne_of_none q hn)]; exact q) fun c xs q => by rw [upd_ne (ne_of_none q hn)]; exact q
end

def Rd (H : Hp) (a : Addr) (u : HO) : Prop := H a = some u ∨ ∃ o, H a = some (.frz o u)
theorem Rd.of {H : Hp} {a : Addr} {u : HO} (h : H a = some u) : Rd H a u := .inl h
theorem Rd.ok {P : Program} {w : World} {H : Hp} {h : Heap} {a : Addr} {u : HO} (r : Rd H a u) (x : HOk P w H h) : ObjOk P w H h a u := by
  rcases r with r | ⟨o, r⟩
  · exact x a u r
  · obtain ⟨_, q⟩ := x a _ r
    exact q
def Mut : Option HO → Prop
  | some (.lst _) => True
  | some (.dK _) => True
  | some (.dT _) => True
  | some (.set _ _) => True
  | some (.ins _ _ _) => True
  | some (.ext _) => True
  | _ => False
section
variable {P : Program} {w : World} {H : Hp} {h h' : Heap} {x e : Addr} {o' : HO}
theorem HOk.write (ok : HOk P w H h) (mu : Mut (H x)) (he : e = x ∨ H e = some (.own x)) (k : ∀ b u, b ≠ e → h.get? b = some u → h'.get? b = some u) (heo : ∃ u, h'.get? e = some u)
    (new : ObjOk P w (upd H x o') h' x o') : HOk P w (upd H x o') h' := fun b u q => by
  have nown : ∀ c y, H c = some (.own y) → c ≠ x := fun c y r z => by subst z; rw [r] at mu; exact mu
  have ntup : ∀ c xs, H c = some (.tup xs) → c ≠ x := fun c xs r z => by subst z; rw [r] at mu; exact mu
  by_cases hb : b = x
  · subst hb; rw [upd_same] at q; cases q; exact new
  · rw [upd_ne hb] at q
    by_cases hbe : b = e
    · have q' : H b = some (.own x) := by
        rcases he with z | z
        · exact absurd (hbe.trans z) hb
        · rw [hbe]; exact z
      rw [q] at q'; cases q'
      obtain ⟨v, hv⟩ := heo
      exact ⟨v, by rw [hbe]; exact hv⟩
    · refine (ok b u q).stay (fun c v hc r => k c v ?_ r) (fun c r => by rw [upd_ne (nown c b r)]; exact r) fun c xs r => by rw [upd_ne (ntup c xs r)]; exact r
      rcases hc with rfl | hc
      · exact hbe
      · rintro rfl
        rcases he with z | z
        · exact nown c b hc z
        · rw [hc] at z; cases z; exact hb rfl
end

/-! ### kept unless tracked; of the frames at fs (the callers') the slots may change (an exception that passes writes there); of the records at ex (iterators) nothing is said -/
structure Un (fs ex : List Addr) (H H' : Hp) (h h' : Heap) : Prop where
  keep : ∀ b o, h.get? b = some o → H b = none → b ∉ fs → b ∉ ex → h'.get? b = some o
  slot : ∀ b o, h.get? b = some o → H b = none → b ∈ fs → b ∉ ex → ∃ sl, h'.get? b = some { o with slots := sl }
  free : ∀ b o, h.get? b = some o → H b = none → b ∉ ex → H' b = none
  there : ∀ b o, h.get? b = some o → b ∉ ex → ∃ o', h'.get? b = some o'
  tups : ∀ b xs, H b = some (.tup xs) → H' b = some (.tup xs)
  frzs : ∀ b o u, H b = some (.frz o u) → H' b = some (.frz o u)
  tbls : ∀ b ps, H b = some (.tbl ps) → ∃ more, H' b = some (.tbl (ps ++ more))
section
variable {fs fs' ex ex' : List Addr} {H H1 H2 : Hp} {h h1 h2 h' : Heap} {a x e : Addr} {o : HO}
theorem Un.any (u : Un fs ex H H1 h h1) {b : Addr} {ob : Obj} (q : h.get? b = some ob) (n : H b = none) (hx : b ∉ ex) : ∃ sl, h1.get? b = some { ob with slots := sl } := by
  by_cases hb : b ∈ fs
  · exact u.slot b ob q n hb hx
  · exact ⟨ob.slots, u.keep b ob q n hb hx⟩
theorem Un.kept (k : ∀ b u, h.get? b = some u → h'.get? b = some u) : Un fs ex H H h h' :=
  ⟨fun b ob q _ _ _ => k b ob q, fun b ob q _ _ _ => ⟨ob.slots, k b ob q⟩, fun _ _ _ n _ => n, fun b ob q _ => ⟨ob, k b ob q⟩, fun _ _ q => q, fun _ _ _ q => q, fun _ ps q => ⟨#[], by rw [q]; simp⟩⟩
theorem Un.refl : Un fs ex H H h h := Un.kept fun _ _ q => q
theorem Un.laid (k : ∀ b u, h.get? b = some u → h'.get? b = some u) (hp : h.objs.size ≤ a) (hn : H a = none) : Un fs ex H (upd H a o) h h' where
  keep := fun b u q _ _ _ => k b u q
  slot := fun b u q _ _ _ => ⟨u.slots, k b u q⟩
  free := fun b u q n _ => by rw [upd_ne (Nat.ne_of_lt (Nat.lt_of_lt_of_le (Heap.lt_size q) hp))]; exact n
  there := fun b u q _ => ⟨u, k b u q⟩
  tups := fun b xs q => by rw [upd_ne (ne_of_none q hn)]; exact q
  frzs := fun b u xs q => by rw [upd_ne (ne_of_none q hn)]; exact q
  tbls := fun b ps q => ⟨#[], by rw [upd_ne (ne_of_none q hn), q]; simp⟩
theorem Un.write (mu : Mut (H x)) (he : e = x ∨ H e = some (.own x)) (k : ∀ b u, b ≠ e → h.get? b = some u → h'.get? b = some u) (heo : ∃ u, h'.get? e = some u) : Un fs ex H (upd H x o) h h' := by
  have hx : ∀ b, H b = none → b ≠ x := fun b n z => by subst z; rw [n] at mu; exact mu
  have hb : ∀ b, H b = none → b ≠ e := fun b n z => by
    subst z
    rcases he with r | r
    · exact hx b n r
    · rw [n] at r; cases r
  have hm : ∀ b u, H b = some u → ¬ Mut (some u) → b ≠ x := fun b u q nm z => by subst z; rw [q] at mu; exact nm mu
  refine ⟨fun b u q n _ _ => k b u (hb b n) q, fun b u q n _ _ => ⟨u.slots, k b u (hb b n) q⟩, fun b u q n _ => by rw [upd_ne (hx b n)]; exact n, fun b u q _ => ?_,
    fun b xs q => by rw [upd_ne (hm b _ q fun z => z)]; exact q, fun b u xs q => by rw [upd_ne (hm b _ q fun z => z)]; exact q, fun b ps q => ⟨#[], by rw [upd_ne (hm b _ q fun z => z), q]; simp⟩⟩
  by_cases hbe : b = e
  · subst hbe; exact heo
  · exact ⟨u, k b u hbe q⟩
end

/-! ### the heap without what is tracked -/
def trk (h : Heap) (H : Hp) : List Addr := (List.range h.objs.size).filter fun a => (H a).isSome
def hidT (h : Heap) (H : Hp) : Heap := PySem.W.hideAll h (trk h H)
theorem hidT_size (h : Heap) (H : Hp) : (hidT h H).objs.size = h.objs.size := PySem.W.hideAll_size _ _
theorem hidT_get {h : Heap} {H : Hp} {b : Addr} {o : Obj} (e : h.get? b = some o) (n : H b = none) : (hidT h H).get? b = some o :=
  PySem.W.hideAll_get _ e fun hm => by
    have q : (H b).isSome = true := (List.mem_filter.mp hm).2
    rw [n] at q; simp at q
theorem of_hidT {h : Heap} {H : Hp} {b : Addr} {o : Obj} (e : (hidT h H).get? b = some o) : h.get? b = some o ∧ H b = none := by
  have e' : h.get? b = some o := PySem.W.of_hideAll (trk h H) e
  refine ⟨e', ?_⟩
  cases q : H b with
  | none => rfl
  | some x =>
    have hm : b ∈ trk h H := List.mem_filter.mpr ⟨List.mem_range.mpr (Heap.lt_size e'), by simp [q]⟩
    have z : (hidT h H).get? b = none := PySem.W.hideAll_none (trk h H) hm
    rw [z] at e; cases e

/-! ### OpenK's ledger, filled with every new object but one -/
def allNews (g h : Heap) (L : Addr) : List (Addr × Obj) := (List.range h.objs.size).filterMap fun a => if a = L ∨ (g.get? a).isSome = true then none else (h.get? a).map fun o => (a, o)
def rest (g h : Heap) (L d : Addr) : List (Addr × Obj) := (allNews g h L).filter fun p => decide (p.1 ≠ d)
end L2

namespace L2
open PySem PySem.Spec PyProof.Rows

structure Mod (K : PySem.W.Frag) (mg : Str → Option Value) (base : Heap) : Prop where
  kin : K.In base
  glob : base.Ns mainGlobals mg
  blt : ∃ mb, base.Ns builtinsNs mb ∧ ∀ x : Str, x ≠ "__name__" → mb x = bootBuiltins x
  nolimit : base.NoLimit

/-- the context: a def's body (or a comprehension's block) running. base: fixed through the whole law; s₀, H₀: the entry; outer: the frames whose slots others may change (a def's callers); stack: all frames that run;
   ex: iterators that were made ahead of the entry and are walked here (a comprehension's); fn: the names whose cells were made at the entry (a def: all; a comprehension's block: its own); calm: not within an except suite; pn: pins that every state bears; xe: what is wanted of an exception that leaves the code -/
structure Cx where
  prog : Program
  w : World
  K : PySem.W.Frag
  mg : Str → Option Value
  base : Heap
  A : Around
  N : List Str
  s₀ : Shared
  H₀ : Hp
  env : Env
  outer : List Env
  stack : List Env
  ex : List Addr
  fn : Str → Bool
  calm : Bool
  pn : List (Addr × Obj)
  xe : Value → Shared → Prop
def frs (l : List Env) : List Addr := l.filterMap (·.frame)
abbrev Cx.fs (X : Cx) : List Addr := frs X.outer

def Vis (sc : Scope) (x : Str) : Prop := sc.names.lookup x = some .local ∨ sc.names.lookup x = some .cell ∨ sc.names.lookup x = some .free
def Loc (sc : Scope) (x : Str) : Prop := sc.names.lookup x = some .local ∨ sc.names.lookup x = some .cell
def Look (env : Env) (h : Heap) (m : Str → Option Value) (x : Str) (u : Value) : Prop :=
  (env.kindOf x = some .local ∧ m x = some u) ∨ ((env.kindOf x = some .cell ∨ env.kindOf x = some .free) ∧ ∃ c, env.cells.lookup x = some c ∧ h.IsCell c (some u))

structure Cx.Ok (X : Cx) : Prop where
  mod : Mod X.K X.mg X.base
  kind : X.env.scope.kind = .function
  glob : X.env.globals = mainGlobals
  blt : X.env.builtins = builtinsNs
  above : X.s₀.heap.objs.size ≤ X.env.locals
  inj : ∀ x y c, X.env.cells.lookup x = some c → X.env.cells.lookup y = some c → x = y
  has : ∀ x, (X.env.kindOf x = some .cell ∨ X.env.kindOf x = some .free) → ∃ c, X.env.cells.lookup x = some c
  cab : ∀ x c, X.fn x = true → X.env.cells.lookup x = some c → X.s₀.heap.objs.size ≤ c
  hd : X.calm = true → X.A.handled = none
  frames : X.A.frames = some X.stack
  stk : X.stack = X.outer ∨ (X.stack = X.env :: X.outer ∧ X.env.frame = some X.env.locals)
  exf : ∀ b ∈ X.ex, b ≠ X.env.locals ∧ ∀ x c, X.env.cells.lookup x = some c → c ≠ b
  bs : ∀ b o, X.base.get? b = some o → X.s₀.heap.get? b = some o ∧ X.H₀ b = none
  bsz : X.base.objs.size ≤ X.s₀.heap.objs.size
  noex : ∀ b o, X.base.get? b = some o → b ∉ X.ex
  exfs : ∀ b ∈ X.ex, b ∉ X.fs
  funs : X.s₀.heap.FunFrames X.base X.outer
  frf : ∀ b ∈ X.fs, X.H₀ b = none

structure Inv (X : Cx) (pins : List (Addr × Obj)) (σ : List (Option V)) (H : Hp) (s : Shared) : Prop where
  ok : X.Ok
  os : s.os = X.s₀.os
  bare : AllBare s.gens
  base : Un X.fs X.ex X.H₀ H X.s₀.heap s.heap
  loc : ∃ m, s.heap.Ns X.env.locals m ∧ ∀ (i : Nat) (x : Str) (v : V), X.N[i]? = some x → σ[i]? = some (some v) → Vis X.env.scope x → ∃ u, RelV v u ∧ Look X.env s.heap m x u
  cell : ∀ x c, X.env.cells.lookup x = some c → ∃ v, s.heap.IsCell c v
  free : H X.env.locals = none
  freeC : ∀ x c, X.env.cells.lookup x = some c → H c = none
  pin : ∀ p ∈ X.pn ++ pins, s.heap.get? p.1 = some p.2 ∧ H p.1 = none ∧ p.1 ≠ X.env.locals ∧ p.1 ∉ X.fs ∧ ∀ v, p.2.data ≠ .cell v
  hok : HOk X.prog X.w H s.heap
  len : σ.length = X.N.length

section
variable {X : Cx} {pins : List (Addr × Obj)} {σ : List (Option V)} {H H' : Hp} {s : Shared} {h' : Heap}

theorem Cx.Ok.nofr (ok : X.Ok) {b : Addr} {o : Obj} (e : X.base.get? b = some o) : b ∉ X.fs := fun hb => by
  have := (ok.funs.mem hb).1
  rw [e] at this; cases this
theorem Inv.bs (I : Inv X pins σ H s) : ∀ b o, X.base.get? b = some o → s.heap.get? b = some o ∧ H b = none := fun b o e =>
  ⟨I.base.keep b o (I.ok.bs b o e).1 (I.ok.bs b o e).2 (I.ok.nofr e) (I.ok.noex b o e), I.base.free b o (I.ok.bs b o e).1 (I.ok.bs b o e).2 (I.ok.noex b o e)⟩
theorem Inv.bk (I : Inv X pins σ H s) : ∀ b o, X.base.get? b = some o → s.heap.get? b = some o := fun b o e => (I.bs b o e).1
theorem Inv.mod (I : Inv X pins σ H s) : Mod X.K X.mg X.base := I.ok.mod
theorem Inv.kIn (I : Inv X pins σ H s) : X.K.In s.heap := I.ok.mod.kin.keeps I.bk
theorem Inv.lt (I : Inv X pins σ H s) : X.env.locals < s.heap.objs.size := let ⟨_, hn, _⟩ := I.loc; hn.lt
theorem Inv.sz (I : Inv X pins σ H s) : X.s₀.heap.objs.size ≤ s.heap.objs.size := Nat.le_trans I.ok.above (Nat.le_of_lt I.lt)
theorem Inv.nofs (I : Inv X pins σ H s) {a : Addr} (h : s.heap.objs.size ≤ a) : a ∉ X.fs := fun hb => by
  obtain ⟨_, o, ho, _⟩ := I.ok.funs.mem hb
  exact absurd (Nat.lt_of_lt_of_le (Heap.lt_size ho) (Nat.le_trans I.sz h)) (Nat.lt_irrefl _)
theorem Inv.cne (I : Inv X pins σ H s) : ∀ x c, X.env.cells.lookup x = some c → c ≠ X.env.locals := fun x c e z => by
  obtain ⟨v, o, ho, hd⟩ := I.cell x c e
  obtain ⟨m, ⟨o', es, ep, ho', hd', _⟩, _⟩ := I.loc
  rw [z, ho'] at ho; cases ho; rw [hd'] at hd; cases hd
theorem Inv.funs (I : Inv X pins σ H s) : s.heap.FunFrames X.base X.outer := by
  have all : ∀ (l : List Env), (∀ b ∈ frs l, b ∈ X.fs) → X.s₀.heap.FunFrames X.base l → s.heap.FunFrames X.base l := by
    intro l
    induction l with
    | nil => intro _ _; trivial
    | cons env r ih =>
      intro hs hl
      obtain ⟨hk, ⟨L, o, hf, hn, ho, hd⟩, hr⟩ := hl
      have hL : L ∈ X.fs := hs L (by unfold frs; rw [List.filterMap_cons, hf]; exact List.mem_cons_self)
      obtain ⟨sl, e⟩ := I.base.slot L o ho (I.ok.frf L hL) hL fun z => I.ok.exfs L z hL
      exact ⟨hk, ⟨L, _, hf, hn, e, hd⟩, ih (fun b hb => hs b (by unfold frs; rw [List.filterMap_cons, hf]; exact List.mem_cons_of_mem _ hb)) hr⟩
  exact all X.outer (fun _ hb => hb) I.ok.funs

theorem Inv.stack (I : Inv X pins σ H s) : s.heap.FunFrames X.base X.stack := by
  rcases I.ok.stk with e | ⟨e, hf⟩
  · rw [e]; exact I.funs
  · rw [e]
    obtain ⟨m, hn, _⟩ := I.loc
    refine .cons (by rw [I.ok.kind]; decide) hf hn ?_ I.funs
    exact Heap.get?_none_of_le (Nat.le_trans I.ok.bsz I.ok.above)
theorem Inv.stkSub (I : Inv X pins σ H s) : ∀ b ∈ frs X.stack, b ∈ X.env.locals :: X.fs := fun b hb => by
  rcases I.ok.stk with e | ⟨e, hf⟩
  · rw [e] at hb; exact List.mem_cons_of_mem _ hb
  · rw [e] at hb
    unfold frs at hb
    rw [List.filterMap_cons, hf] at hb
    exact hb
theorem Inv.stkFree (I : Inv X pins σ H s) : ∀ b ∈ frs X.stack, H b = none := fun b hb => by
  rcases List.mem_cons.mp (I.stkSub b hb) with e | hb
  · rw [e]; exact I.free
  · obtain ⟨_, o, ho, _⟩ := I.ok.funs.mem hb
    exact I.base.free b o ho (I.ok.frf b hb) fun z => I.ok.exfs b z hb

theorem Inv.step {g' : Array GenState} {t' : Nat} {d' : Drawn} {ch : List Addr} (I : Inv X pins σ H s)
    (hch : ∀ b ∈ ch, (b ∈ X.ex ∨ X.s₀.heap.objs.size ≤ b) ∧ b ≠ X.env.locals ∧ (∀ x c, X.env.cells.lookup x = some c → c ≠ b) ∧ ∀ p ∈ X.pn ++ pins, p.1 ≠ b)
    (keep : ∀ b o, b ≠ X.env.locals → b ∉ X.fs → b ∉ ch → s.heap.get? b = some o → H b = none → h'.get? b = some o)
    (slot : ∀ b o, b ≠ X.env.locals → b ∈ X.fs → b ∉ ch → s.heap.get? b = some o → H b = none → ∃ sl, h'.get? b = some { o with slots := sl }) (free : ∀ b o, b ∉ ch → s.heap.get? b = some o → H b = none → H' b = none)
    (there : ∀ b o, b ∉ ch → s.heap.get? b = some o → ∃ o', h'.get? b = some o')
    (tups : ∀ b xs, H b = some (.tup xs) → H' b = some (.tup xs)) (frzs : ∀ b o u, H b = some (.frz o u) → H' b = some (.frz o u)) (tbls : ∀ b ps, H b = some (.tbl ps) → ∃ more, H' b = some (.tbl (ps ++ more)))
    (ns : ∀ m, s.heap.Ns X.env.locals m → h'.Ns X.env.locals m) (hok : HOk X.prog X.w H' h') (hg : AllBare g') :
    Inv X pins σ H' { s with heap := h', gens := g', drawn := d', toks := t' } := by
  have neL : ∀ b o, X.s₀.heap.get? b = some o → b ≠ X.env.locals := fun b o e => Nat.ne_of_lt (Nat.lt_of_lt_of_le (Heap.lt_size e) I.ok.above)
  have neC : ∀ b o, X.s₀.heap.get? b = some o → b ∉ X.ex → b ∉ ch := fun b o e hx hb => by
    rcases (hch b hb).1 with z | z
    · exact hx z
    · exact absurd (Nat.lt_of_lt_of_le (Heap.lt_size e) z) (Nat.lt_irrefl _)
  have cellK : ∀ x c, X.env.cells.lookup x = some c → ∀ v, s.heap.IsCell c v → h'.IsCell c v := fun x c e v ⟨o, ho, hd⟩ => by
    have nch : c ∉ ch := fun z => (hch c z).2.2.1 x c e rfl
    by_cases hc : c ∈ X.fs
    · obtain ⟨sl, q⟩ := slot c o (I.cne x c e) hc nch ho (I.freeC x c e)
      exact ⟨_, q, hd⟩
    · exact ⟨o, keep c o (I.cne x c e) hc nch ho (I.freeC x c e), hd⟩
  refine ⟨I.ok, I.os, hg, ⟨fun b o e n hb hx => ?_, fun b o e n hb hx => ?_, fun b o e n hx => ?_, fun b o e hx => ?_, fun b xs e => tups b xs (I.base.tups b xs e), fun b o xs e => frzs b o xs (I.base.frzs b o xs e), fun b ps e => ?_⟩, ?_, fun x c e => ?_, ?_, fun x c e => ?_, fun p hp => ?_, hok, I.len⟩
  · exact keep b o (neL b o e) hb (neC b o e hx) (I.base.keep b o e n hb hx) (I.base.free b o e n hx)
  · obtain ⟨sl, e1⟩ := I.base.slot b o e n hb hx
    obtain ⟨sl', e2⟩ := slot b _ (neL b o e) hb (neC b o e hx) e1 (I.base.free b o e n hx)
    exact ⟨sl', e2⟩
  · obtain ⟨o', e1⟩ := I.base.there b o e hx
    exact free b o' (neC b o e hx) e1 (I.base.free b o e n hx)
  · obtain ⟨o', e1⟩ := I.base.there b o e hx
    exact there b o' (neC b o e hx) e1
  · obtain ⟨m1, e1⟩ := I.base.tbls b ps e
    obtain ⟨m2, e2⟩ := tbls b _ e1
    exact ⟨m1 ++ m2, by rw [e2, Array.append_assoc]⟩
  · obtain ⟨m, hn, hl⟩ := I.loc
    refine ⟨m, ns m hn, fun i x v e1 e2 e3 => ?_⟩
    obtain ⟨u, r, l⟩ := hl i x v e1 e2 e3
    refine ⟨u, r, ?_⟩
    rcases l with l | ⟨k, c, e, z⟩
    · exact .inl l
    · exact .inr ⟨k, c, e, cellK x c e _ z⟩
  · obtain ⟨v, z⟩ := I.cell x c e
    exact ⟨v, cellK x c e v z⟩
  · obtain ⟨m, ⟨o, _, _, ho, _⟩, _⟩ := I.loc
    exact free _ o (fun z => (hch _ z).2.1 rfl) ho I.free
  · obtain ⟨v, o, ho, hd⟩ := I.cell x c e
    exact free c o (fun z => (hch c z).2.2.1 x c e rfl) ho (I.freeC x c e)
  · obtain ⟨e, n, ne, nf, d⟩ := I.pin p hp
    have nch : p.1 ∉ ch := fun z => (hch p.1 z).2.2.2 p hp rfl
    exact ⟨keep p.1 p.2 ne nf nch e n, free p.1 p.2 nch e n, ne, nf, d⟩
theorem Inv.un {t' : Nat} (I : Inv X pins σ H s) (u : Un X.fs [] H H' s.heap h') (hok : HOk X.prog X.w H' h') : Inv X pins σ H' { s with heap := h', toks := t' } := by
  obtain ⟨m, ⟨o, es, ep, ho, r⟩, _⟩ := id I.loc
  obtain ⟨sl, hL⟩ := u.any ho I.free (by simp)
  exact I.step (g' := s.gens) (d' := s.drawn) (ch := []) (fun _ z => nomatch z) (fun b o _ hb _ e n => u.keep b o e n hb (by simp)) (fun b o _ hb _ e n => u.slot b o e n hb (by simp)) (fun b o _ e n => u.free b o e n (by simp)) (fun b o _ e => u.there b o e (by simp)) u.tups u.frzs u.tbls (fun m' hm => by
    obtain ⟨o', es', ep', ho', r'⟩ := hm
    rw [ho] at ho'; cases ho'
    exact ⟨_, es', ep', hL, r'⟩) hok I.bare
theorem Inv.call {g' : Array GenState} {t' : Nat} {d' : Drawn} {ch : List Addr} (I : Inv X pins σ H s) (u : Un (frs X.stack) ch H H' s.heap h') (hok : HOk X.prog X.w H' h') (hg : AllBare g')
    (hch : ∀ b ∈ ch, (b ∈ X.ex ∨ X.s₀.heap.objs.size ≤ b) ∧ b ≠ X.env.locals ∧ (∀ x c, X.env.cells.lookup x = some c → c ≠ b) ∧ ∀ p ∈ X.pn ++ pins, p.1 ≠ b) :
    Inv X pins σ H' { s with heap := h', gens := g', drawn := d', toks := t' } := by
  obtain ⟨m, ⟨o, es, ep, ho, r⟩, _⟩ := id I.loc
  obtain ⟨sl, hL⟩ := u.any ho I.free fun z => (hch _ z).2.1 rfl
  exact I.step (ch := ch) hch (fun b o hL hb hc e n => u.keep b o e n (fun z => (List.mem_cons.mp (I.stkSub b z)).elim hL hb) hc) (fun b o _ _ hc e n => u.any e n hc) (fun b o hc e n => u.free b o e n hc) (fun b o hc e => u.there b o e hc) u.tups u.frzs u.tbls (fun m' hm => by
    obtain ⟨o', es', ep', ho', r'⟩ := hm
    rw [ho] at ho'; cases ho'
    exact ⟨_, es', ep', hL, r'⟩) hok hg
theorem Inv.turned {t' : Nat} {it : Addr} (I : Inv X pins σ H s) (k : ∀ b o, b ≠ it → s.heap.get? b = some o → h'.get? b = some o) (hn : H it = none) (hL : it ≠ X.env.locals)
    (h1 : it ∈ X.ex ∨ X.s₀.heap.objs.size ≤ it) (h2 : ∀ x c, X.env.cells.lookup x = some c → c ≠ it) (h3 : ∀ p ∈ X.pn ++ pins, p.1 ≠ it) : Inv X pins σ H { s with heap := h', toks := t' } := by
  have nit : ∀ b u, H b = some u → b ≠ it := fun b u e z => by rw [z, hn] at e; cases e
  refine I.step (g' := s.gens) (d' := s.drawn) (ch := [it]) (fun b hb => ?_) (fun b o _ _ hc e _ => k b o (fun z => hc (by simp [z])) e) (fun b o _ _ hc e _ => ⟨o.slots, k b o (fun z => hc (by simp [z])) e⟩) (fun _ _ _ _ n => n)
    (fun b o hc e => ⟨o, k b o (fun z => hc (by simp [z])) e⟩) (fun _ _ e => e) (fun _ _ _ e => e) (fun b ps e => ⟨#[], by rw [e]; simp⟩) (fun m hm => ?_) (fun b u e => ?_) I.bare
  · have e : b = it := by simpa using hb
    subst e
    exact ⟨h1, hL, h2, h3⟩
  · obtain ⟨o, es, ep, ho, r⟩ := hm
    exact ⟨o, es, ep, k _ o (Ne.symm hL) ho, r⟩
  · refine (I.hok b u e).stay (fun c v hc q => k c v ?_ q) (fun _ q => q) fun _ _ q => q
    rcases hc with z | z
    · rw [z]; exact nit b u e
    · exact nit c _ z
theorem Inv.tok (I : Inv X pins σ H s) (t : Nat) : Inv X pins σ H { s with toks := t } := I.un (h' := s.heap) (t' := t) Un.refl I.hok
theorem Inv.kept {t' : Nat} (I : Inv X pins σ H s) (k : ∀ b u, s.heap.get? b = some u → h'.get? b = some u) : Inv X pins σ H { s with heap := h', toks := t' } := I.un (Un.kept k) (I.hok.kept k)
theorem Inv.laid {a : Addr} {o : HO} {t' : Nat} (I : Inv X pins σ H s) (k : ∀ b u, s.heap.get? b = some u → h'.get? b = some u) (hp : s.heap.objs.size ≤ a) (new : ObjOk X.prog X.w (upd H a o) h' a o) :
    Inv X pins σ (upd H a o) { s with heap := h', toks := t' } := I.un (Un.laid k hp (I.hok.fresh hp)) (I.hok.laid k hp new)
theorem Inv.write {x e : Addr} {o : HO} {t' : Nat} (I : Inv X pins σ H s) (mu : Mut (H x)) (he : e = x ∨ H e = some (.own x)) (k : ∀ b u, b ≠ e → s.heap.get? b = some u → h'.get? b = some u) (heo : ∃ u, h'.get? e = some u)
    (new : ObjOk X.prog X.w (upd H x o) h' x o) : Inv X pins σ (upd H x o) { s with heap := h', toks := t' } := I.un (Un.write mu he k heo) (I.hok.write mu he k heo new)
theorem Inv.pins_of {pins' : List (Addr × Obj)} (I : Inv X pins σ H s) (h : ∀ p ∈ pins', s.heap.get? p.1 = some p.2 ∧ H p.1 = none ∧ p.1 ≠ X.env.locals ∧ p.1 ∉ X.fs ∧ ∀ v, p.2.data ≠ .cell v) : Inv X pins' σ H s :=
  ⟨I.ok, I.os, I.bare, I.base, I.loc, I.cell, I.free, I.freeC, fun p hp => (List.mem_append.mp hp).elim (fun z => I.pin p (List.mem_append_left _ z)) (h p), I.hok, I.len⟩

theorem nodup_ix {N : List Str} (hN : N.Nodup) {i j : Nat} {x : Str} (a : N[i]? = some x) (b : N[j]? = some x) : i = j := by
  obtain ⟨h1, e1⟩ := List.getElem?_eq_some_iff.mp a
  obtain ⟨h2, e2⟩ := List.getElem?_eq_some_iff.mp b
  exact (List.getElem_inj hN).mp (e1.trans e2.symm)

theorem store_ok2 {M : Model} {A : Around} {E : Value → Shared → Prop} {i : Nat} {x : Str} {v : V} {u : Value} {Q : Unit → Shared → Prop} (I : Inv X pins σ H s) (hN : X.N.Nodup) (hi : X.N[i]? = some x) (hx : Loc X.env.scope x) (r : RelV v u)
    (h : ∀ s', Inv X pins (σ.set i (some v)) H s' → (∃ a, Heap.SameBut a s.heap s'.heap ∧ (a = X.env.locals ∨ X.env.cells.lookup x = some a)) → Q () s') (hf : X.fn x = true ∨ X.env.scope.names.lookup x = some .local := by first | exact .inl rfl | exact .inr rfl | assumption) : wpAny M A (storeName X.env x u) Q E s := by
  obtain ⟨m, hn, hl⟩ := id I.loc
  have hcls : (X.env.scope.kind == .class || (X.env.scope.kind == .module && X.env.locals != X.env.globals)) = false := by rw [I.ok.kind]; rfl
  have hiσ : i < σ.length := by rw [I.len]; exact (List.getElem?_eq_some_iff.mp hi).1
  have cne := I.cne
  have tracked : ∀ {a : Addr} {h' : Heap}, (∃ o, s.heap.get? a = some o ∧ H a = none) → Heap.SameBut a s.heap h' → HOk X.prog X.w H h' := fun {a h'} ha hs b ob e => by
    obtain ⟨_, _, hfree⟩ := ha
    refine (I.hok b ob e).stay (fun c w' hc q => (hs.2 c ?_).trans q) (fun _ q => q) fun _ _ q => q
    rintro rfl
    rcases hc with rfl | hc
    · rw [hfree] at e; cases e
    · rw [hfree] at hc; cases hc
  rcases hx with hk | hk
  · refine wpAny_storeName_local hk hn (fun h' hn' hs => ?_) hcls
    obtain ⟨oL, _, _, hoL, _⟩ := id hn
    refine h _ ⟨I.ok, I.os, I.bare, ⟨fun b o e n hb hx => ?_, fun b o e n hb hx => ?_, I.base.free, fun b o e hx => ?_, I.base.tups, I.base.frzs, I.base.tbls⟩, ⟨_, hn', fun j y v' e1 e2 e3 => ?_⟩, fun y c e => ?_, I.free, I.freeC, fun p hp => ?_, tracked ⟨oL, hoL, I.free⟩ hs, by simpa using I.len⟩ ⟨_, hs, .inl rfl⟩
    · exact (hs.2 b (Nat.ne_of_lt (Nat.lt_of_lt_of_le (Heap.lt_size e) I.ok.above))).trans (I.base.keep b o e n hb hx)
    · obtain ⟨sl, e1⟩ := I.base.slot b o e n hb hx
      exact ⟨sl, (hs.2 b (Nat.ne_of_lt (Nat.lt_of_lt_of_le (Heap.lt_size e) I.ok.above))).trans e1⟩
    · obtain ⟨o', e1⟩ := I.base.there b o e hx
      exact ⟨o', (hs.2 b (Nat.ne_of_lt (Nat.lt_of_lt_of_le (Heap.lt_size e) I.ok.above))).trans e1⟩
    · by_cases hj : j = i
      · subst hj
        rw [hi] at e1; cases e1
        rw [List.getElem?_set_self hiσ] at e2
        cases e2
        exact ⟨u, r, .inl ⟨hk, by simp⟩⟩
      · rw [List.getElem?_set_ne (Ne.symm hj)] at e2
        obtain ⟨u', r', q⟩ := hl j y v' e1 e2 e3
        refine ⟨u', r', ?_⟩
        rcases q with ⟨k, e⟩ | ⟨k, c, e, z⟩
        · refine .inl ⟨k, ?_⟩
          have : y ≠ x := fun e => hj (nodup_ix hN e1 (e ▸ hi))
          simp [this, e]
        · exact .inr ⟨k, c, e, z.sameBut hs (cne y c e)⟩
    · obtain ⟨w', z⟩ := I.cell y c e
      exact ⟨w', z.sameBut hs (cne y c e)⟩
    · obtain ⟨e, n, ne, nf, d⟩ := I.pin p hp
      exact ⟨(hs.2 p.1 ne).trans e, n, ne, nf, d⟩
  · have hfn : X.fn x = true := by
      rcases hf with z | z
      · exact z
      · rw [z] at hk; cases hk
    obtain ⟨c, hc⟩ := I.ok.has x (.inl hk)
    obtain ⟨w', z⟩ := I.cell x c hc
    refine wpAny_storeName_cell I.ok.kind hk hc z (fun h' hc' hs => ?_)
    obtain ⟨oc, hoc, hocd⟩ := id z
    refine h { s with heap := h' } ⟨I.ok, I.os, I.bare, ⟨fun b o e n hb hx => ?_, fun b o e n hb hx => ?_, I.base.free, fun b o e hx => ?_, I.base.tups, I.base.frzs, I.base.tbls⟩, ⟨m, hn.sameBut hs (Ne.symm (cne x c hc)), fun j y v' e1 e2 e3 => ?_⟩, fun y c' e => ?_, I.free, I.freeC, fun p hp => ?_, tracked ⟨oc, hoc, I.freeC x c hc⟩ hs, by simpa using I.len⟩ ⟨c, hs, .inr hc⟩
    · exact (hs.2 b (Nat.ne_of_lt (Nat.lt_of_lt_of_le (Heap.lt_size e) (I.ok.cab x c hfn hc)))).trans (I.base.keep b o e n hb hx)
    · obtain ⟨sl, e1⟩ := I.base.slot b o e n hb hx
      exact ⟨sl, (hs.2 b (Nat.ne_of_lt (Nat.lt_of_lt_of_le (Heap.lt_size e) (I.ok.cab x c hfn hc)))).trans e1⟩
    · obtain ⟨o', e1⟩ := I.base.there b o e hx
      exact ⟨o', (hs.2 b (Nat.ne_of_lt (Nat.lt_of_lt_of_le (Heap.lt_size e) (I.ok.cab x c hfn hc)))).trans e1⟩
    · by_cases hj : j = i
      · subst hj
        rw [hi] at e1; cases e1
        rw [List.getElem?_set_self hiσ] at e2
        cases e2
        exact ⟨u, r, .inr ⟨.inl hk, c, hc, hc'⟩⟩
      · rw [List.getElem?_set_ne (Ne.symm hj)] at e2
        obtain ⟨u', r', q⟩ := hl j y v' e1 e2 e3
        refine ⟨u', r', ?_⟩
        rcases q with q | ⟨k, c', e, z'⟩
        · exact .inl q
        · refine .inr ⟨k, c', e, z'.sameBut hs ?_⟩
          rintro rfl
          exact hj (nodup_ix hN e1 (I.ok.inj _ _ _ e hc ▸ hi))
    · by_cases hcc : c' = c
      · subst hcc; exact ⟨_, hc'⟩
      · obtain ⟨w2, z2⟩ := I.cell y c' e
        exact ⟨w2, z2.sameBut hs hcc⟩
    · obtain ⟨e, n, ne, nf, d⟩ := I.pin p hp
      refine ⟨(hs.2 p.1 ?_).trans e, n, ne, nf, d⟩
      intro q
      rw [q, hoc] at e
      have q' : oc = p.2 := Option.some.inj e
      exact d w' (by rw [← q']; exact hocd)
theorem store_ok {M : Model} {A : Around} {E : Value → Shared → Prop} {i : Nat} {x : Str} {v : V} {u : Value} {Q : Unit → Shared → Prop} (I : Inv X pins σ H s) (hN : X.N.Nodup) (hi : X.N[i]? = some x) (hx : Loc X.env.scope x) (r : RelV v u)
    (h : ∀ s', Inv X pins (σ.set i (some v)) H s' → Q () s') (hf : X.fn x = true ∨ X.env.scope.names.lookup x = some .local := by first | exact .inl rfl | exact .inr rfl | assumption) : wpAny M A (storeName X.env x u) Q E s :=
  store_ok2 I hN hi hx r (fun s' I' _ => h s' I') hf
theorem Inv.call' {s' : Shared} {ch : List Addr} (I : Inv X pins σ H s) (ho : s'.os = s.os) (u : Un (frs X.stack) ch H H' s.heap s'.heap) (hok : HOk X.prog X.w H' s'.heap) (hg : AllBare s'.gens)
    (hch : ∀ b ∈ ch, (b ∈ X.ex ∨ X.s₀.heap.objs.size ≤ b) ∧ b ≠ X.env.locals ∧ (∀ x c, X.env.cells.lookup x = some c → c ≠ b) ∧ ∀ p ∈ X.pn ++ pins, p.1 ≠ b) : Inv X pins σ H' s' := by
  obtain ⟨h', g', d', t', o'⟩ := s'
  have e : o' = s.os := ho
  subst e
  exact I.call (g' := g') (t' := t') (d' := d') u hok hg hch
end

/-! ### the judgements -/
abbrev XK := Value → Option Addr → Hp → Prop
abbrev St := List (Option V)
abbrev VK := V → Hp → Prop
abbrev TE := St → Hp → VK → Prop
abbrev TT := St → Hp → (Bool → Hp → Prop) → Prop
abbrev TA := St → Hp → (List V → Hp → Prop) → Prop
structure Ends where
  nx : St → Hp → Prop
  rt : VK
  bk : St → Hp → Prop := fun _ _ => False
  ct : St → Hp → Prop := fun _ _ => False
abbrev TS := Ends → St → Hp → Prop

def EP (X : Cx) (pins : List (Addr × Obj)) (σ : St) (Q : VK) (u : Value) (s' : Shared) : Prop := ∃ v H', Inv X pins σ H' s' ∧ RelV v u ∧ Q v H'
def TP (X : Cx) (pins : List (Addr × Obj)) (σ : St) (Q : Bool → Hp → Prop) (b : Bool) (s' : Shared) : Prop := ∃ H', Inv X pins σ H' s' ∧ Q b H'
def AP (X : Cx) (pins : List (Addr × Obj)) (σ : St) (Q : List V → Hp → Prop) (us : List Value) (s' : Shared) : Prop := ∃ vs H', Inv X pins σ H' s' ∧ Vals vs us ∧ Q vs H'
def SP (X : Cx) (pins : List (Addr × Obj)) (D : Ends) (f : Flow) (s' : Shared) : Prop :=
  match f with
  | .next => ∃ σ' H', Inv X pins σ' H' s' ∧ D.nx σ' H'
  | .brk => ∃ σ' H', Inv X pins σ' H' s' ∧ D.bk σ' H'
  | .cont => ∃ σ' H', Inv X pins σ' H' s' ∧ D.ct σ' H'
  | .ret u => ∃ v σ' H', Inv X pins σ' H' s' ∧ RelV v u ∧ D.rt v H'

def PE (X : Cx) (e : Expr) (t : TE) : Prop :=
  ∀ (pins : List (Addr × Obj)) (s : Shared) (σ : St) (H : Hp) (Q : VK), Inv X pins σ H s → t σ H Q → wpAny (model X.prog X.w) X.A (eval e X.env) (EP X pins σ Q) X.xe s
def PT (X : Cx) (e : Expr) (t : TT) : Prop :=
  ∀ (pins : List (Addr × Obj)) (s : Shared) (σ : St) (H : Hp) (Q : Bool → Hp → Prop), Inv X pins σ H s → t σ H Q → wpAny (model X.prog X.w) X.A (isTrue e X.env (eval e X.env)) (TP X pins σ Q) X.xe s
def PW (X : Cx) (e : Expr) (t : TT) : Prop :=
  ∀ (whole : Sem Value) (pins : List (Addr × Obj)) (s : Shared) (σ : St) (H : Hp) (Q : Bool → Hp → Prop), Inv X pins σ H s → t σ H Q → wpAny (model X.prog X.w) X.A (isTrue e X.env whole) (TP X pins σ Q) X.xe s
theorem PW.pt {X : Cx} {e : Expr} {t : TT} (h : PW X e t) : PT X e t := h _
def PA (X : Cx) (es : List Expr) (t : TA) : Prop :=
  ∀ (pos : Pos) (pins : List (Addr × Obj)) (s : Shared) (σ : St) (H : Hp) (Q : List V → Hp → Prop), Inv X pins σ H s → t σ H Q → wpAny (model X.prog X.w) X.A (spliced (backTo pos (starEach es X.env))) (AP X pins σ Q) X.xe s
def PS (X : Cx) (st : Stmt) (t : TS) : Prop :=
  ∀ (pins : List (Addr × Obj)) (s : Shared) (σ : St) (H : Hp) (D : Ends), Inv X pins σ H s → t D σ H → wpAny (model X.prog X.w) X.A (exec st X.env) (SP X pins D) X.xe s
def PSs (X : Cx) (st : List Stmt) (t : TS) : Prop :=
  ∀ (pins : List (Addr × Obj)) (s : Shared) (σ : St) (H : Hp) (D : Ends), Inv X pins σ H s → t D σ H → wpAny (model X.prog X.w) X.A (execs st X.env) (SP X pins D) X.xe s
theorem thn {α : Type} {t : Sem α} {Q Q' : α → Shared → Prop} {M : Model} {A : Around} {E : Value → Shared → Prop} {s : Shared} (h : wpAny M A t Q E s) (hQ : ∀ a s, Q a s → Q' a s) : wpAny M A t Q' E s := wpAny_mono h hQ fun _ _ x => x
end L2

namespace L2
open PySem PySem.Spec PyProof.Rows
section
variable {X : Cx}

theorem bin {a b : Expr} {ta tb : TE} (ha : PE X a ta) (hb : PE X b tb) {pins : List (Addr × Obj)} {s : Shared} {σ : St} {H : Hp} {R : V → V → Hp → Prop} (I : Inv X pins σ H s) (h : ta σ H fun x H1 => tb σ H1 fun y H2 => R x y H2)
    {α : Type} {Q : α → Shared → Prop} {f : Value → Value → Sem α}
    (hf : ∀ v u s2 x y H2, Inv X pins σ H2 s2 → RelV x v → RelV y u → R x y H2 → wpAny (model X.prog X.w) X.A (f v u) Q X.xe s2) :
    wpAny (model X.prog X.w) X.A (eval a X.env) (fun v s₁ => wpAny (model X.prog X.w) X.A (eval b X.env) (fun u s₂ => wpAny (model X.prog X.w) X.A (f v u) Q X.xe s₂) X.xe s₁) X.xe s := by
  refine thn (ha pins s σ H _ I h) fun v s1 ⟨x, H1, I1, r1, q1⟩ => ?_
  refine thn (hb pins s1 σ H1 _ I1 q1) fun u s2 ⟨y, H2, I2, r2, q2⟩ => ?_
  exact hf v u s2 x y H2 I2 r1 r2 q2

/-! ### names and constants -/
def tVar (i : Nat) : TE := fun σ H Q => ∃ v, σ[i]? = some (some v) ∧ Q v H
def tC (v : V) : TE := fun _ H Q => Q v H
theorem pe_var {i : Nat} {x : Str} {pos : Pos} (hN : X.N[i]? = some x) (hv : Vis X.env.scope x) (hd : (x == ("__debug__" : Str)) = false := by decide) (hcd : (x == ("__classdict__" : Str)) = false := by decide) : PE X (.Name x pos) (tVar i) := by
  intro pins s σ H Q I h
  obtain ⟨v, e, h⟩ := h
  obtain ⟨m, hn, hl⟩ := I.loc
  obtain ⟨u, r, l⟩ := hl i x v hN e hv
  have fin : EP X pins σ Q u s := ⟨v, H, I, r, h⟩
  rcases l with ⟨hk, hm⟩ | ⟨hk, c, hc, hcell⟩
  · exact wpAny_Name (wpAny_loadName_local I.ok.kind hk hn hm fin) hd
  · rcases hk with hk | hk
    · exact wpAny_Name (wpAny_loadName_cell I.ok.kind hk hc hcell fin) hd
    · exact wpAny_Name (wpAny_loadName_free I.ok.kind hk hc hcell fin hcd) hd
theorem pe_int {i j pos} : PE X (.Constant (.int i) j pos) (tC (.int i)) := fun _ _ _ H _ I h => wpAny_Constant_int ⟨.int i, H, I.tok _, ⟨_, rfl⟩, h⟩
theorem pe_bl {b j pos} : PE X (.Constant (.bool b) j pos) (tC (.bl b)) := fun _ _ _ H _ I h => Constant_bool ⟨.bl b, H, I, rfl, h⟩
theorem pe_non {j pos} : PE X (.Constant .none j pos) (tC .non) := fun _ _ _ H _ I h => Constant_none ⟨.non, H, I, rfl, h⟩
theorem pe_str {x j pos} : PE X (.Constant (.str x) j pos) (tC (.str x)) := fun _ _ _ H _ I h => Calls.Constant_str ⟨.str x, H, I.tok _, ⟨_, rfl⟩, h⟩

def Gl (X : Cx) (x : Str) : Prop := X.env.kindOf x = some .globalImplicit
theorem ld_glob {E : Value → Shared → Prop} {pins : List (Addr × Obj)} {s : Shared} {σ : St} {H : Hp} {x : Str} {u : Value} {pos : Pos} {Q : Value → Shared → Prop} (I : Inv X pins σ H s) (hg : Gl X x) (hm : X.mg x = some u) (h : Q u s)
    (hd : (x == ("__debug__" : Str)) = false := by decide) : wpAny (model X.prog X.w) X.A (eval (.Name x pos) X.env) Q E s :=
  Calls.Name_function_global I.ok.kind hg (Calls.loadGlobal_global (by rw [I.ok.glob]; exact I.mod.glob.keeps I.bk) hm h) hd
theorem ld_blt {E : Value → Shared → Prop} {pins : List (Addr × Obj)} {s : Shared} {σ : St} {H : Hp} {x : Str} {u : Value} {pos : Pos} {Q : Value → Shared → Prop} (I : Inv X pins σ H s) (hg : Gl X x) (hm : X.mg x = none) (hv : bootBuiltins x = some u) (h : Q u s)
    (hn : x ≠ "__name__" := by decide) (hd : (x == ("__debug__" : Str)) = false := by decide) : wpAny (model X.prog X.w) X.A (eval (.Name x pos) X.env) Q E s := by
  obtain ⟨mb, h1, h2⟩ := I.mod.blt
  exact Calls.Name_function_global I.ok.kind hg (Calls.loadGlobal_builtin (by rw [I.ok.glob]; exact I.mod.glob.keeps I.bk) hm (by rw [I.ok.blt]; exact h1.keeps I.bk) ((h2 x hn).trans hv) h) hd
theorem pe_glob {x : Str} {v : V} {u : Value} {pos : Pos} (hg : Gl X x) (hm : X.mg x = some u) (r : RelV v u) (hd : (x == ("__debug__" : Str)) = false := by decide) : PE X (.Name x pos) (tC v) :=
  fun _ _ _ H _ I h => ld_glob I hg hm ⟨v, H, I, r, h⟩ hd
theorem pe_bltn {x : Str} {v : V} {u : Value} {pos : Pos} (hg : Gl X x) (hm : X.mg x = none) (hv : bootBuiltins x = some u) (r : RelV v u) (hn : x ≠ "__name__" := by decide) (hd : (x == ("__debug__" : Str)) = false := by decide) : PE X (.Name x pos) (tC v) :=
  fun _ _ _ H _ I h => ld_blt I hg hm hv ⟨v, H, I, r, h⟩ hn hd

/-! ### arithmetic -/
def t2I (ta tb : TE) (k : Int → Int → Hp → Prop) : St → Hp → Prop := fun σ H => ta σ H fun x H1 => tb σ H1 fun y H2 => ∃ i j, x = .int i ∧ y = .int j ∧ k i j H2
variable {a b : Expr} {ta tb : TE} {pos : Pos}
/-! ### comparisons -/
def PC (X : Cx) (op : CmpOp) (a b : Expr) (t : TE) : Prop :=
  ∀ (pins : List (Addr × Obj)) (s : Shared) (σ : St) (H : Hp) (Q : VK), Inv X pins σ H s → t σ H Q →
    wpAny (model X.prog X.w) X.A (eval a X.env) (fun v s₁ => wpAny (model X.prog X.w) X.A (eval b X.env) (fun u s₂ => wpAny (model X.prog X.w) X.A (compareOp op v u) (EP X pins σ Q) X.xe s₂) X.xe s₁) X.xe s
theorem nobehind (b : Expr) {op : CmpOp} (h : op ≠ .In) (h2 : op ≠ .NotIn) : behindInMarks op b = false := by
  have e1 : (op == CmpOp.In) = false := by cases op <;> first | rfl | exact absurd rfl h
  have e2 : (op == CmpOp.NotIn) = false := by cases op <;> first | rfl | exact absurd rfl h2
  cases b <;> simp [behindInMarks, e1, e2]
def tCmp (p : Int → Int → Bool) (ta tb : TE) : TE := fun σ H Q => t2I ta tb (fun i j H2 => Q (.bl (p i j)) H2) σ H
abbrev tEqI : TE → TE → TE := tCmp fun i j => decide (i = j)
abbrev tNeI : TE → TE → TE := tCmp fun i j => !decide (i = j)
theorem pc_int {op : CmpOp} {p : Int → Int → Bool} (ha : PE X a ta) (hb : PE X b tb)
    (rule : ∀ (i j : Int) (t u : Tok) (Q : Value → Shared → Prop) (s : Shared), Q (.bool (p i j)) s → wpAny (model X.prog X.w) X.A (compareOp op (.int i t) (.int j u)) Q X.xe s) : PC X op a b (tCmp p ta tb) := by
  intro pins s σ H Q I h
  refine bin ha hb I h fun v u s2 x y H2 I2 rx ry q => ?_
  obtain ⟨i, j, rfl, rfl, q⟩ := q
  obtain ⟨t, rfl⟩ := rx
  obtain ⟨t', rfl⟩ := ry
  exact rule i j t t' _ s2 ⟨.bl _, H2, I2, rfl, q⟩
theorem pc_eqI (ha : PE X a ta) (hb : PE X b tb) : PC X .Eq a b (tEqI ta tb) := pc_int ha hb fun _ _ _ _ _ _ h => eq_int (by rw [Bool.beq_eq_decide_eq]; exact h)
theorem pc_neI (ha : PE X a ta) (hb : PE X b tb) : PC X .NotEq a b (tNeI ta tb) := pc_int ha hb fun _ _ _ _ _ _ h => ne_int (by rw [bne, Bool.beq_eq_decide_eq]; exact h)
def tB (t : TE) : TT := fun σ H Q => t σ H fun x H1 => ∃ c, x = .bl c ∧ Q c H1
theorem pt_cmp {op : CmpOp} {t : TE} (h : PC X op a b t) (h1 : behindInMarks op b = false := by first | exact nobehind _ (by decide) (by decide) | rfl) : PT X (.Compare a [op] [b] pos) (tB t) := by
  intro pins s σ H Q I hw
  refine wpAny_isTrue_Compare1 (thn (h pins s σ H _ I hw) fun v s1 h1 => thn h1 fun u s2 h2 => thn h2 fun c s3 ⟨x, H1, I1, r1, q1⟩ => ?_) h1
  obtain ⟨d, rfl, q⟩ := q1
  cases r1
  exact wpAny_truthy_bool ⟨H1, I1, q⟩
theorem pt_val {e : Expr} {t : TE} (h : PE X e t) (he : ∀ whole, isTrue e X.env whole = (do let v ← whole; standAt e.pos; holding [v] (truthy v)) := by intro _; rfl) : PT X e (tB t) := by
  intro pins s σ H Q I hw
  refine isTrue_plain (thn (h pins s σ H _ I hw) fun v s1 ⟨x, H1, I1, r1, q1⟩ => ?_) (he _)
  obtain ⟨d, rfl, q⟩ := q1
  cases r1
  exact wpAny_truthy_bool ⟨H1, I1, q⟩

/-! ### and, or, not -/
variable {tA tB' : TT} {rest : List Expr}
def tAnd (t u : TT) : TT := fun σ H Q => t σ H fun c H1 => if c = true then u σ H1 Q else Q false H1
def tOr (t u : TT) : TT := fun σ H Q => t σ H fun c H1 => if c = true then Q true H1 else u σ H1 Q
def tNot (t : TT) : TT := fun σ H Q => t σ H fun c H1 => Q (!c) H1
theorem pw_and1 (ha : PT X a tA) : PW X (.BoolOp .And [a] pos) tA := by
  intro wh pins s σ H Q I h
  refine isTrue_and (thn (ha pins s σ H Q I h) fun c s1 e => ?_)
  cases c with
  | true => exact isTrue_and_nil e
  | false => exact e
theorem pw_or1 (ha : PT X a tA) : PW X (.BoolOp .Or [a] pos) tA := by
  intro wh pins s σ H Q I h
  refine isTrue_or (thn (ha pins s σ H Q I h) fun c s1 e => ?_)
  cases c with
  | false => exact isTrue_or_nil e
  | true => exact e
theorem pw_and (ha : PT X a tA) (hb : PW X (.BoolOp .And (b :: rest) pos) tB') : PW X (.BoolOp .And (a :: b :: rest) pos) (tAnd tA tB') := by
  intro wh pins s σ H Q I h
  refine isTrue_and (thn (ha pins s σ H _ I h) fun c s1 ⟨H1, I1, q1⟩ => ?_)
  cases c with
  | true => exact hb wh pins s1 σ H1 Q I1 q1
  | false => exact ⟨H1, I1, q1⟩
theorem pw_or (ha : PT X a tA) (hb : PW X (.BoolOp .Or (b :: rest) pos) tB') : PW X (.BoolOp .Or (a :: b :: rest) pos) (tOr tA tB') := by
  intro wh pins s σ H Q I h
  refine isTrue_or (thn (ha pins s σ H _ I h) fun c s1 ⟨H1, I1, q1⟩ => ?_)
  cases c with
  | true => exact ⟨H1, I1, q1⟩
  | false => exact hb wh pins s1 σ H1 Q I1 q1
theorem pt_not (ha : PT X a tA) : PT X (.UnaryOp .Not a pos) (tNot tA) := by
  intro pins s σ H Q I h
  exact isTrue_not (ha pins s σ H (fun c H1 => Q (!c) H1) I h)
def tAndV (ta tb : TE) : TE := fun σ H Q => ta σ H fun x H1 => ∃ c, x = .bl c ∧ if c = true then tb σ H1 Q else Q (.bl false) H1
def tNotV (ta : TE) : TE := fun σ H Q => ta σ H fun x H1 => ∃ c, x = .bl c ∧ Q (.bl (!c)) H1
theorem pe_one {op} {t : TE} (h : PE X a t) : PE X (.BoolOp op [a] pos) t := fun pins s σ H Q I hw => BoolOp_one (h pins s σ H Q I hw)
theorem pe_and (ha : PE X a ta) (hb : PE X (.BoolOp .And (b :: rest) pos) tb) : PE X (.BoolOp .And (a :: b :: rest) pos) (tAndV ta tb) := by
  intro pins s σ H Q I h
  refine BoolOp_and (thn (ha pins s σ H _ I h) fun v s1 ⟨x, H1, I1, r1, q1⟩ => ?_)
  obtain ⟨c, rfl, q1⟩ := q1
  cases r1
  refine wpAny_truthy_bool ?_
  cases c with
  | true => exact hb pins s1 σ H1 Q I1 q1
  | false => exact ⟨.bl false, H1, I1, rfl, q1⟩
theorem pe_not (ha : PE X a ta) : PE X (.UnaryOp .Not a pos) (tNotV ta) := by
  intro pins s σ H Q I h
  refine UnaryOp_ (thn (ha pins s σ H _ I h) fun v s1 ⟨x, H1, I1, r1, q1⟩ => ?_)
  obtain ⟨c, rfl, q1⟩ := q1
  cases r1
  exact not_of (wpAny_truthy_bool ⟨.bl (!c), H1, I1, rfl, q1⟩)
def tIf (t : TT) (ta tb : TE) : TE := fun σ H Q => t σ H fun c H1 => if c = true then ta σ H1 Q else tb σ H1 Q
theorem pe_ifExp {c : Expr} (hc : PT X c tA) (ha : PE X a ta) (hb : PE X b tb) : PE X (.IfExp c a b pos) (tIf tA ta tb) := by
  intro pins s σ H Q I h
  refine wpAny_IfExp (thn (hc pins s σ H _ I h) fun d s1 ⟨H1, I1, q1⟩ => ?_)
  cases d with
  | true => exact ha pins s1 σ H1 Q I1 q1
  | false => exact hb pins s1 σ H1 Q I1 q1
end
end L2

namespace L2
open PySem PySem.Spec PyProof.Rows

/-! ### a list, a tuple that is read: tracked, frozen, or an object of the module -/
def SqL (K : PySem.W.Frag) (H : Hp) (a : Addr) (xs : List V) : Prop :=
  Rd H a (.lst xs) ∨
    ∃ (o : Obj) (its : Array Value) (n : Nat), K.lookup a = some o ∧ o.cls = .type "list" ∧ o.dict = none ∧ o.data = .seq its n ∧ its.size ≤ sizeLine ∧ Vals xs its.toList
def SqT (K : PySem.W.Frag) (H : Hp) (a : Addr) (xs : List V) : Prop :=
  Rd H a (.tup xs) ∨
    ∃ (o : Obj) (its : Array Value) (n : Nat), K.lookup a = some o ∧ o.cls = .type "tuple" ∧ o.data = .seq its n ∧ its.size ≤ sizeLine ∧ Vals xs its.toList
def absV : Value → Option V
  | .none => some .non
  | .bool b => some (.bl b)
  | .int i _ => some (.int i)
  | .str x _ => some (.str x)
  | .bytes b _ => some (.byt b)
  | .float b _ => some (.flt b)
  | .ref a => some (.ref a)
  | .type n => some (.ty n)
  | _ => none
theorem RelV.abs {x : V} {u : Value} (r : RelV x u) : absV u = some x := by
  cases x with
  | non => cases r; rfl
  | bl _ => cases r; rfl
  | int _ => obtain ⟨t, rfl⟩ := r; rfl
  | str _ => obtain ⟨t, rfl⟩ := r; rfl
  | byt _ => obtain ⟨t, rfl⟩ := r; rfl
  | flt _ => obtain ⟨t, rfl⟩ := r; rfl
  | ref _ => cases r; rfl
  | ty _ => cases r; rfl
theorem RelV.inj {x y : V} {u : Value} (r : RelV x u) (q : RelV y u) : x = y := Option.some.inj (r.abs.symm.trans q.abs)
theorem Vals.inj : ∀ {xs ys : List V} {us : List Value}, Vals xs us → Vals ys us → xs = ys
  | _, _, _, .nil, .nil => rfl
  | _, _, _, .cons r t, .cons r' t' => by rw [r.inj r', Vals.inj t t']
section
variable {X : Cx} {pins : List (Addr × Obj)} {σ : St} {H : Hp} {s : Shared} {a : Addr} {xs ys : List V}
theorem SqL.of {K : PySem.W.Frag} (h : H a = some (.lst xs)) : SqL K H a xs := .inl (.inl h)
theorem SqT.of {K : PySem.W.Frag} (h : H a = some (.tup xs)) : SqT K H a xs := .inl (.inl h)
theorem Inv.list (I : Inv X pins σ H s) (h : SqL X.K H a xs) : ∃ its : List Value, Vals xs its ∧ PlainL s.heap a its.toArray ∧ xs.length ≤ sizeLine := by
  rcases h with h | ⟨o, its, n, hk, hc, hd, hs, hz, r⟩
  · obtain ⟨z, its, n, r, e⟩ := h.ok I.hok
    exact ⟨its, r, ⟨_, n, e, rfl, rfl, rfl⟩, z⟩
  · refine ⟨its.toList, r, ⟨o, n, I.kIn a o hk, hc, hd, by simpa using hs⟩, ?_⟩
    have e := r.length
    simp only [Array.length_toList] at e
    omega
theorem Inv.tuple (I : Inv X pins σ H s) (h : SqT X.K H a xs) : ∃ its : List Value, Vals xs its ∧ IsTup s.heap a its.toArray ∧ xs.length ≤ sizeLine := by
  rcases h with h | ⟨o, its, n, hk, hc, hs, hz, r⟩
  · obtain ⟨z, its, n, r, e⟩ := h.ok I.hok
    exact ⟨its, r, ⟨_, e, rfl, n, rfl⟩, z⟩
  · refine ⟨its.toList, r, ⟨o, I.kIn a o hk, hc, n, by simpa using hs⟩, ?_⟩
    have e := r.length
    simp only [Array.length_toList] at e
    omega
theorem Inv.list_inj (I : Inv X pins σ H s) (h : SqL X.K H a xs) (h' : SqL X.K H a ys) : xs = ys := by
  obtain ⟨its, r, ⟨o, n, e, _, _, d⟩, _⟩ := I.list h
  obtain ⟨its', r', ⟨o', n', e', _, _, d'⟩, _⟩ := I.list h'
  rw [e] at e'; cases e'
  rw [d] at d'
  injection d' with d1 _
  have : its = its' := by simpa using congrArg Array.toList d1
  subst this
  exact r.inj r'
theorem Inv.tuple_inj (I : Inv X pins σ H s) (h : SqT X.K H a xs) (h' : SqT X.K H a ys) : xs = ys := by
  obtain ⟨its, r, ⟨o, e, _, n, d⟩, _⟩ := I.tuple h
  obtain ⟨its', r', ⟨o', e', _, n', d'⟩, _⟩ := I.tuple h'
  rw [e] at e'; cases e'
  rw [d] at d'
  injection d' with d1 _
  have : its = its' := by simpa using congrArg Array.toList d1
  subst this
  exact r.inj r'
end

/-! ### another wish about exceptions -/
abbrev Cx.wish (X : Cx) (E : Value → Shared → Prop) : Cx := { X with xe := E }
abbrev Cx.nox (X : Cx) : Cx := X.wish fun _ _ => False
theorem Cx.Ok.wish {X : Cx} (ok : X.Ok) (E : Value → Shared → Prop) : (X.wish E).Ok :=
  ⟨ok.mod, ok.kind, ok.glob, ok.blt, ok.above, ok.inj, ok.has, ok.cab, ok.hd, ok.frames, ok.stk, ok.exf, ok.bs, ok.bsz, ok.noex, ok.exfs, ok.funs, ok.frf⟩
theorem Cx.Ok.unwish {X : Cx} {E : Value → Shared → Prop} (ok : (X.wish E).Ok) : X.Ok :=
  ⟨ok.mod, ok.kind, ok.glob, ok.blt, ok.above, ok.inj, ok.has, ok.cab, ok.hd, ok.frames, ok.stk, ok.exf, ok.bs, ok.bsz, ok.noex, ok.exfs, ok.funs, ok.frf⟩
section
variable {X : Cx} {pins : List (Addr × Obj)} {σ : St} {H : Hp} {s : Shared} {E : Value → Shared → Prop}
theorem Inv.wish (I : Inv X pins σ H s) (E : Value → Shared → Prop) : Inv (X.wish E) pins σ H s := ⟨I.ok.wish E, I.os, I.bare, I.base, I.loc, I.cell, I.free, I.freeC, I.pin, I.hok, I.len⟩
theorem Inv.unwish (I : Inv (X.wish E) pins σ H s) : Inv X pins σ H s := ⟨I.ok.unwish, I.os, I.bare, I.base, I.loc, I.cell, I.free, I.freeC, I.pin, I.hok, I.len⟩
theorem SP.unwish {D : Ends} {f : Flow} {s' : Shared} (h : SP (X.wish E) pins D f s') : SP X pins D f s' := by
  cases f with
  | next => obtain ⟨σ', H', I, q⟩ := h; exact ⟨σ', H', I.unwish, q⟩
  | brk => obtain ⟨σ', H', I, q⟩ := h; exact ⟨σ', H', I.unwish, q⟩
  | cont => obtain ⟨σ', H', I, q⟩ := h; exact ⟨σ', H', I.unwish, q⟩
  | ret u => obtain ⟨v, σ', H', I, r, q⟩ := h; exact ⟨v, σ', H', I.unwish, r, q⟩
theorem PSs.nox {st : List Stmt} {t : TS} (h : PSs X.nox st t) : PSs X st t := fun pins s σ H D I hw =>
  wpAny_mono (h pins s σ H D (I.wish _) hw) (fun _ _ q => q.unwish) fun _ _ z => False.elim z
end

/-! ### blocks and small statements -/
section
variable {X : Cx} {st : Stmt} {rest : List Stmt} {t u : TS} {e : Expr} {te : TE} {pos : Pos}
def tNext : TS := fun D σ H => D.nx σ H
def tSeq (t u : TS) : TS := fun D σ H => t { D with nx := u D } σ H
theorem pss_nil : PSs X [] tNext := fun _ _ σ H _ I h => wpAny_execs_nil ⟨σ, H, I, h⟩
theorem pss_cons (h1 : PS X st t) (h2 : PSs X rest u) : PSs X (st :: rest) (tSeq t u) := by
  intro pins s σ H D I h
  refine wpAny_execs_cons (thn (h1 pins s σ H { D with nx := u D } I h) fun f s1 q => ?_)
  cases f with
  | next =>
    obtain ⟨σ', H', I', q⟩ := q
    exact h2 pins s1 σ' H' D I' q
  | ret v => exact q
  | brk => exact q
  | cont => exact q
theorem pss_one (h1 : PS X st t) : PSs X [st] t := by
  intro pins s σ H D I h
  refine wpAny_execs_cons (thn (h1 pins s σ H D I h) fun f s1 q => ?_)
  cases f with
  | next => exact wpAny_execs_nil q
  | ret v => exact q
  | brk => exact q
  | cont => exact q
theorem Inv.quiet {pins : List (Addr × Obj)} {σ : St} {H : Hp} {s : Shared} (I : Inv X pins σ H s) : interactive X.env = false := by simp [interactive, I.ok.kind]
def tDrop (te : TE) : TS := fun D σ H => te σ H fun _ H1 => D.nx σ H1
theorem ps_expr (he : PE X e te) (hs : swapsWith e none pos.line X.env = pure false := by rfl) : PS X (.Expr e pos) (tDrop te) := by
  intro pins s σ H D I h
  exact wpAny_Expr_any (thn (he pins s σ H _ I h) fun v s1 ⟨x, H1, I1, r1, q1⟩ => ⟨σ, H1, I1, q1⟩) I.quiet hs
def tRet (te : TE) : TS := fun D σ H => te σ H D.rt
theorem ps_ret (he : PE X e te) : PS X (.Return (some e) pos) (tRet te) := by
  intro pins s σ H D I h
  exact wpAny_Return_some (thn (he pins s σ H _ I h) fun v s1 ⟨x, H1, I1, r1, q1⟩ => ⟨x, σ, H1, I1, r1, q1⟩)
def tIfS (c : TT) (t u : TS) : TS := fun D σ H => c σ H fun b H1 => if b = true then t D σ H1 else u D σ H1
theorem ps_if {c : Expr} {a b : List Stmt} {tc : TT} (hc : PT X c tc) (ha : PSs X a t) (hb : PSs X b u) : PS X (.If c a b pos) (tIfS tc t u) := by
  intro pins s σ H D I h
  refine wpAny_If (thn (hc pins s σ H _ I h) fun d s1 ⟨H1, I1, q1⟩ => ?_)
  cases d with
  | true => exact ha pins s1 σ H1 D I1 q1
  | false => exact hb pins s1 σ H1 D I1 q1
end

/-! ### targets -/
abbrev TG := V → St → Hp → (St → Hp → Prop) → Prop
abbrev TGs := List V → St → Hp → (St → Hp → Prop) → Prop
def PG (X : Cx) (target : Expr) (t : TG) : Prop :=
  ∀ (pins : List (Addr × Obj)) (s : Shared) (σ : St) (H : Hp) (v : V) (u : Value) (Q : St → Hp → Prop), Inv X pins σ H s → RelV v u → t v σ H Q →
    wpAny (model X.prog X.w) X.A (assign target X.env u) (fun _ s' => ∃ σ' H', Inv X pins σ' H' s' ∧ Q σ' H') X.xe s
def PGs (X : Cx) (ts : List Expr) (t : TGs) : Prop :=
  ∀ (pins : List (Addr × Obj)) (s : Shared) (σ : St) (H : Hp) (vs : List V) (us : List Value) (Q : St → Hp → Prop), Inv X pins σ H s → Vals vs us → t vs σ H Q →
    wpAny (model X.prog X.w) X.A (assignInOrder ((assignEach ts X.env).map (·.2)) us) (fun _ s' => ∃ σ' H', Inv X pins σ' H' s' ∧ Q σ' H') X.xe s
abbrev TSet := V → V → V → Hp → (Hp → Prop) → Prop
def PSet (X : Cx) (t : TSet) : Prop :=
  ∀ (pins : List (Addr × Obj)) (s : Shared) (σ : St) (H : Hp) (o i v : V) (ov iv u : Value) (Q : Hp → Prop), Inv X pins σ H s → RelV o ov → RelV i iv → RelV v u → t o i v H Q →
    wpAny (model X.prog X.w) X.A (setItem ov iv u) (fun _ s' => ∃ H', Inv X pins σ H' s' ∧ Q H') X.xe s
section
variable {X : Cx} {pos : Pos}
def gName (i : Nat) : TG := fun v σ H Q => Q (σ.set i (some v)) H
theorem pg_name {i : Nat} {x : Str} (hN : X.N.Nodup) (hi : X.N[i]? = some x) (hx : Loc X.env.scope x) (hf : X.fn x = true ∨ X.env.scope.names.lookup x = some .local := by first | exact .inl rfl | exact .inr rfl | assumption) : PG X (.Name x pos) (gName i) := by
  intro pins s σ H v u Q I r h
  exact wpAny_assign_Name (store_ok I hN hi hx r (fun s' I' => ⟨_, H, I', h⟩) hf)
def gNil : TGs := fun vs σ H Q => vs = [] ∧ Q σ H
def gCons (t : TG) (u : TGs) : TGs := fun vs σ H Q => ∃ v r, vs = v :: r ∧ t v σ H fun σ' H' => u r σ' H' Q
theorem pgs_nil : PGs X [] gNil := by
  intro pins s σ H vs us Q I r h
  obtain ⟨e, h⟩ := h
  subst e
  cases r
  exact assignInOrder_nil ⟨σ, H, I, h⟩
theorem pgs_cons {e : Expr} {es : List Expr} {t : TG} {u : TGs} (h1 : PG X e t) (h2 : PGs X es u)
    (hs : (assignEach (e :: es) X.env).map (·.2) = assign e X.env :: (assignEach es X.env).map (·.2) := by rfl) : PGs X (e :: es) (gCons t u) := by
  intro pins s σ H vs us Q I r h
  obtain ⟨v, vr, e1, h⟩ := h
  subst e1
  cases r with
  | cons r rr =>
    rw [hs]
    refine assignInOrder_cons (thn (h1 pins s σ H _ _ _ I r h) fun _ s1 ⟨σ1, H1, I1, q1⟩ => ?_)
    exact h2 pins s1 σ1 H1 _ _ Q I1 rr q1
def gTup (K : PySem.W.Frag) (n : Nat) (t : TGs) : TG := fun v σ H Q => ∃ a xs, v = .ref a ∧ SqT K H a xs ∧ xs.length = n ∧ t xs σ H Q
theorem pg_tup {es : List Expr} {k : Nat} {t : TGs} {n : Nat} (hc : X.calm = true) (h : PGs X es t)
    (hn : (assignEach es X.env).length = n := by rfl) (hst : (assignEach es X.env).findIdx? (·.1) = none := by rfl) : PG X (.Tuple es k pos) (gTup X.K n t) := by
  intro pins s σ H v u Q I r hw
  obtain ⟨a, xs, e1, hq, hl, hw⟩ := hw
  subst e1
  cases r
  obtain ⟨its, rv, ht, hz⟩ := I.tuple hq
  refine assign_Tuple_tuple (I.ok.hd hc) ht (by simp [hn, ← hl, rv.length]) hst fun h' hx => ?_
  have I1 : Inv X pins σ H { s with heap := h' } := I.kept (t' := s.toks) fun b o e => hx b o (Nat.ne_of_lt (Heap.lt_size e)) e
  exact h pins _ σ H xs _ Q I1 (by simpa using rv) hw
def gSub (to ti : TE) (t : TSet) : TG := fun v σ H Q => to σ H fun o H1 => ti σ H1 fun i H2 => t o i v H2 fun H3 => Q σ H3
theorem pg_sub {o i : Expr} {to ti : TE} {t : TSet} (ho : PE X o to) (hi : PE X i ti) (hs : PSet X t)
    (ha : ∀ v, assign (.Subscript o i pos) X.env v = (do
      let ov ← holding [v] (eval o X.env)
      let iv ← holding [v, ov] (eval i X.env)
      standAt pos
      holding [v, ov, iv] (setItem ov iv v)
      release [v, ov, iv] []) := by intro _; rfl) : PG X (.Subscript o i pos) (gSub to ti t) := by
  intro pins s σ H v u Q I r h
  rw [ha]
  refine wpAny_bind (wpAny_holding (thn (ho pins s σ H _ I h) fun ov s1 ⟨x, H1, I1, r1, q1⟩ => ?_))
  refine wpAny_bind (wpAny_holding (thn (hi pins s1 σ H1 _ I1 q1) fun iv s2 ⟨y, H2, I2, r2, q2⟩ => ?_))
  refine wpAny_bind (wpAny_standAt (wpAny_bind (wpAny_holding (thn (hs pins s2 σ H2 x y v ov iv u _ I2 r1 r2 r q2) fun _ s3 ⟨H3, I3, q3⟩ => ?_))))
  exact wpAny_release ⟨σ, H3, I3, q3⟩
def tAsg (te : TE) (g : TG) : TS := fun D σ H => te σ H fun x H1 => g x σ H1 D.nx
theorem ps_asg {tg e : Expr} {te : TE} {g : TG} (he : PE X e te) (hg : PG X tg g) (hs : swapsWithSole [tg] e pos.line X.env = pure false := by rfl) (hw : swappedStores [tg] e X.env = pure none := by rfl)
    (h1 : (assignEach [tg] X.env).map (·.2) = [assign tg X.env] := by rfl) : PS X (.Assign [tg] e pos) (tAsg te g) := by
  intro pins s σ H D I h
  refine wpAny_Assign_stores (thn (he pins s σ H _ I h) fun v s1 ⟨x, H1, I1, r1, q1⟩ => ?_) hs hw
  rw [h1]
  exact thn (hg pins s1 σ H1 x v _ I1 r1 q1) fun _ s2 q => q
theorem ps_set {i : Nat} {x : Str} {e : Expr} {te : TE} {pos' : Pos} (hN : X.N.Nodup) (hi : X.N[i]? = some x) (hx : Loc X.env.scope x) (he : PE X e te) (hs : swapsWith e (some (.Name x pos')) pos.line X.env = pure false := by rfl) (hf : X.fn x = true ∨ X.env.scope.names.lookup x = some .local := by first | exact .inl rfl | exact .inr rfl | assumption) :
    PS X (.Assign [.Name x pos'] e pos) (tAsg te (gName i)) := by
  intro pins s σ H D I h
  refine wpAny_Assign_Name (thn (he pins s σ H _ I h) fun v s1 ⟨y, H1, I1, r1, q1⟩ => ?_) hs
  exact store_ok I1 hN hi hx r1 (fun s2 I2 => ⟨_, H1, I2, q1⟩) hf
end

/-! ### while -/
section
variable {X : Cx} {pos : Pos}
def tWhile (c : TT) (tb : TS) : TS := fun D σ H => ∃ W : Nat → St → Hp → Prop, (∃ m, W m σ H) ∧ ∀ m σ H, W m σ H →
  c σ H fun b H1 => if b = true then ∃ N : St → Hp → Prop, (∀ σ' H', N σ' H' → ∃ m', m' < m ∧ W m' σ' H') ∧ tb { D with nx := N, ct := N, bk := D.nx } σ H1 else D.nx σ H1
theorem ps_while {c : Expr} {body : List Stmt} {tc : TT} {tb : TS} (hp : PassesOwn (model X.prog X.w) X.A X.env X.xe) (hc : PT X c tc) (hb : PSs X body tb) : PS X (.While c body [] pos) (tWhile tc tb) := by
  intro pins s σ H D I h
  obtain ⟨W, ⟨m0, w0⟩, turn⟩ := h
  refine wpAny_While (codeAny_whileLoop (fun n s' => ∃ σ' H', Inv X pins σ' H' s' ∧ W n σ' H') ?_ m0 ⟨σ, H, I, w0⟩)
  rintro n s1 ⟨σ1, H1, I1, w1⟩
  refine wpAny_passesOwn hp (thn (hc pins s1 σ1 H1 _ I1 (turn n σ1 H1 w1)) fun b s2 ⟨H2, I2, q2⟩ => ?_)
  cases b with
  | true =>
    obtain ⟨N, hN, q2⟩ := q2
    rw [if_pos rfl]
    refine wpAny_passesOwn hp (thn (hb pins s2 σ1 H2 _ I2 q2) fun f s3 q3 => ?_)
    cases f with
    | next =>
      obtain ⟨σ3, H3, I3, n3⟩ := q3
      obtain ⟨m', hm, w3⟩ := hN σ3 H3 n3
      exact ⟨m', hm, σ3, H3, I3, w3⟩
    | cont =>
      obtain ⟨σ3, H3, I3, n3⟩ := q3
      obtain ⟨m', hm, w3⟩ := hN σ3 H3 n3
      exact ⟨m', hm, σ3, H3, I3, w3⟩
    | brk => exact q3
    | ret v => exact q3
  | false =>
    rw [if_neg Bool.false_ne_true]
    exact wpAny_execs_nil ⟨σ1, H2, I2, q2⟩
end

/-! ### what a loop or a comprehension walks -/
structure It where
  go : Nat → Hp → Prop
  yld : Nat → Hp → V → Hp → Prop
  stop : Nat → Hp → Prop
def FpOk (X : Cx) (pins : List (Addr × Obj)) (H : Hp) (b : Addr) : Prop :=
  H b = none ∧ b ≠ X.env.locals ∧ b ∉ X.fs ∧ (b ∈ X.ex ∨ X.s₀.heap.objs.size ≤ b) ∧ (∀ x c, X.env.cells.lookup x = some c → c ≠ b) ∧ ∀ p ∈ X.pn ++ pins, p.1 ≠ b
theorem Inv.fpOk {X : Cx} {pins : List (Addr × Obj)} {σ : St} {H H' : Hp} {s : Shared} {b : Addr} (I : Inv X pins σ H s) (hb : s.heap.objs.size ≤ b) (hn : H' b = none) : FpOk X pins H' b := by
  refine ⟨hn, Nat.ne_of_gt (Nat.lt_of_lt_of_le I.lt hb), I.nofs hb, .inr (Nat.le_trans I.sz hb), fun x c e z => ?_, fun p hp z => ?_⟩
  · obtain ⟨v, q⟩ := I.cell x c e
    exact absurd (Nat.lt_of_lt_of_le q.lt (by rw [z]; exact hb)) (Nat.lt_irrefl _)
  · exact absurd (Nat.lt_of_lt_of_le (Heap.lt_size (I.pin p hp).1) (by rw [z]; exact hb)) (Nat.lt_irrefl _)
structure Turn (P : Program) (w : World) (K : PySem.W.Frag) (tg : Expr) (J : It) (fp : List Addr) (it : Addr) (tn : Nat → Heap → Prop) : Prop where
  mem : it ∈ fp
  obj : ∀ i h, tn i h → ∀ b ∈ fp, ∃ o, h.get? b = some o ∧ ∀ v, o.data ≠ .cell v
  keep : ∀ i h h', tn i h → (∀ b ∈ fp, ∀ o, h.get? b = some o → h'.get? b = some o) → tn i h'
  item : ∀ (X : Cx), X.prog = P → X.w = w → X.K = K → X.calm = true → ∀ (i : Nat) (pins : List (Addr × Obj)) (s : Shared) (σ : St) (H : Hp) (E : Value → Shared → Prop), Inv X pins σ H s → (∀ b ∈ fp, FpOk X pins H b) → tn i s.heap → J.go i H →
    wpAny (model P w) X.A (pyNext (.ref it)) (fun r s1 => ∃ u, r = some u ∧
      wpAny (model P w) X.A (letOwnedTupleGo tg (.ref it) u) (fun _ s2 => ∃ x H', Inv X pins σ H' s2 ∧ RelV x u ∧ J.yld i H x H' ∧ tn (i + 1) s2.heap ∧ ∀ b ∈ fp, H' b = none) E s1) E s
  done : ∀ (X : Cx), X.prog = P → X.w = w → X.K = K → X.calm = true → ∀ (i : Nat) (pins : List (Addr × Obj)) (s : Shared) (σ : St) (H : Hp) (E : Value → Shared → Prop), Inv X pins σ H s → (∀ b ∈ fp, FpOk X pins H b) → tn i s.heap → J.stop i H →
    wpAny (model P w) X.A (pyNext (.ref it)) (fun r s1 => r = none ∧ Inv X pins σ H s1) E s
  self : ∀ (A : Around) (i : Nat) (s : Shared) (Q : Value → Shared → Prop) (E : Value → Shared → Prop), tn i s.heap → Q (.ref it) s → wpAny (model P w) A (pyIter (.ref it)) Q E s
abbrev TI := St → Hp → (It → Hp → Prop) → Prop
def PIE (X : Cx) (pins : List (Addr × Obj)) (σ : St) (tg : Expr) (R : It → Hp → Prop) (itv : Value) (s2 : Shared) : Prop :=
  ∃ (it : Addr) (fp : List Addr) (tn : Nat → Heap → Prop) (J : It) (H' : Hp), itv = .ref it ∧ Inv X pins σ H' s2 ∧ Turn X.prog X.w X.K tg J fp it tn ∧ tn 0 s2.heap ∧ (∀ b ∈ fp, FpOk X pins H' b) ∧ R J H'
def PI (X : Cx) (tg iter : Expr) (wi : TI) : Prop :=
  ∀ (pins : List (Addr × Obj)) (s : Shared) (σ : St) (H : Hp) (R : It → Hp → Prop), Inv X pins σ H s → wi σ H R →
    wpAny (model X.prog X.w) X.A (eval iter X.env) (fun v s1 => wpAny (model X.prog X.w) X.A (pyIter v) (PIE X pins σ tg R) X.xe s1) X.xe s

theorem go_of {M : Model} {A : Around} {E : Value → Shared → Prop} {s : Shared} {tg : Expr} {it : Addr} {u : Value} {o : Obj} {n : String} {vs : Array Value} {Q : Unit → Shared → Prop} (ho : s.heap.get? it = some o) (hc : o.cls = .type n) (hd : o.data = .fields vs)
    (hn : ["enumerate", "zip", "dict_itemiterator", "dict_reverseitemiterator", "odict_iterator", "itertools.zip_longest", "itertools.pairwise"].contains n = false) (hQ : Q () s) : wpAny M A (letOwnedTupleGo tg (.ref it) u) Q E s := by
  unfold letOwnedTupleGo
  cases tg <;> first
    | exact wpAny_pure hQ
    | (cases u <;> first
        | exact wpAny_pure hQ
        | (refine wpAny_bind (wpAny_load ho ?_)
           rw [hc, hd]
           show wpAny M A (if (["enumerate", "zip", "dict_itemiterator", "dict_reverseitemiterator", "odict_iterator", "itertools.zip_longest", "itertools.pairwise"].contains n && vs[0]? == some (rawInt _)) = true then _ else _) Q E s
           rw [if_neg (by intro h; rw [hn, Bool.false_and] at h; cases h)]
           exact wpAny_pure hQ))

def Itl (K : PySem.W.Frag) (a : Addr) : It :=
  ⟨fun i H => ∃ xs x, SqL K H a xs ∧ xs[i]? = some x, fun i H x H' => H' = H ∧ ∀ xs, SqL K H a xs → xs[i]? = some x, fun i H => ∃ xs, SqL K H a xs ∧ xs.length ≤ i⟩
def Itt (K : PySem.W.Frag) (a : Addr) : It :=
  ⟨fun i H => ∃ xs x, SqT K H a xs ∧ xs[i]? = some x, fun i H x H' => H' = H ∧ ∀ xs, SqT K H a xs → xs[i]? = some x, fun i H => ∃ xs, SqT K H a xs ∧ xs.length ≤ i⟩
def Itr (lo : Int) (n : Nat) : It := ⟨fun i _ => i < n, fun i H x H' => H' = H ∧ x = .int (lo + i), fun i _ => n ≤ i⟩
theorem turn_list {P : Program} {w : World} {K : PySem.W.Frag} {tg : Expr} (a it : Addr) : Turn P w K tg (Itl K a) [it] it (fun i h => h.IsListIter it a i) where
  mem := by simp
  obj := fun i h st b hb => by
    have e : b = it := by simpa using hb
    subst e
    obtain ⟨o, e, c, d⟩ := st
    exact ⟨o, e, fun v z => by rw [d] at z; cases z⟩
  keep := fun i h h' st k => st.at fun o e => k it (by simp) o e
  item := by
    intro X hP hw hK hc i pins s σ H E I hf st hg
    subst hP hw hK
    obtain ⟨xs, x, hq, hx⟩ := hg
    obtain ⟨its, rv, p, hz⟩ := I.list hq
    obtain ⟨u, hu, ru⟩ := rv.get hx
    obtain ⟨f0, f1, f2, f3, f4, f5⟩ := hf it (by simp)
    refine wpAny_pyNext_list_item st p.isList (x := u) (by simpa using hu) fun h' st' sb => ?_
    have I1 : Inv X pins σ H { s with heap := h' } := I.turned (t' := s.toks) (fun b o hb e => (sb.2 b hb).trans e) f0 f1 f3 f4 f5
    obtain ⟨o, e, c, d⟩ := id st'
    exact ⟨u, rfl, go_of (s := { s with heap := h' }) e c d (by decide) ⟨x, H, I1, ru, ⟨rfl, fun ys hy => by rw [I.list_inj hy hq]; exact hx⟩, st', fun b hb => (hf b hb).1⟩⟩
  done := by
    intro X hP hw hK hc i pins s σ H E I hf st hg
    subst hP hw hK
    obtain ⟨xs, hq, hx⟩ := hg
    obtain ⟨its, rv, p, hz⟩ := I.list hq
    obtain ⟨f0, f1, f2, f3, f4, f5⟩ := hf it (by simp)
    have hl := rv.length
    exact wpAny_pyNext_list_end (I.ok.hd hc) st p.isList (by simp; omega) fun h' eb => ⟨rfl, I.turned (t' := s.toks) (fun b o hb e => eb b o hb e) f0 f1 f3 f4 f5⟩
  self := fun _ _ _ _ _ st h => wpAny_pyIter_listiter st h
theorem turn_tuple {P : Program} {w : World} {K : PySem.W.Frag} {tg : Expr} (a it : Addr) : Turn P w K tg (Itt K a) [it] it (fun i h => h.IsTupleIter it a i) where
  mem := by simp
  obj := fun i h st b hb => by
    have e : b = it := by simpa using hb
    subst e
    obtain ⟨o, e, c, d⟩ := st
    exact ⟨o, e, fun v z => by rw [d] at z; cases z⟩
  keep := fun i h h' st k => st.at fun o e => k it (by simp) o e
  item := by
    intro X hP hw hK hc i pins s σ H E I hf st hg
    subst hP hw hK
    obtain ⟨xs, x, hq, hx⟩ := hg
    obtain ⟨its, rv, p, hz⟩ := I.tuple hq
    obtain ⟨u, hu, ru⟩ := rv.get hx
    obtain ⟨f0, f1, f2, f3, f4, f5⟩ := hf it (by simp)
    refine wpAny_pyNext_tuple_item st (show s.heap.IsTuple a its.toArray from p) (x := u) (by simpa using hu) fun h' st' sb => ?_
    have I1 : Inv X pins σ H { s with heap := h' } := I.turned (t' := s.toks) (fun b o hb e => (sb.2 b hb).trans e) f0 f1 f3 f4 f5
    obtain ⟨o, e, c, d⟩ := id st'
    exact ⟨u, rfl, go_of (s := { s with heap := h' }) e c d (by decide) ⟨x, H, I1, ru, ⟨rfl, fun ys hy => by rw [I.tuple_inj hy hq]; exact hx⟩, st', fun b hb => (hf b hb).1⟩⟩
  done := by
    intro X hP hw hK hc i pins s σ H E I hf st hg
    subst hP hw hK
    obtain ⟨xs, hq, hx⟩ := hg
    obtain ⟨its, rv, p, hz⟩ := I.tuple hq
    obtain ⟨f0, f1, f2, f3, f4, f5⟩ := hf it (by simp)
    have hl := rv.length
    exact wpAny_pyNext_tuple_end (I.ok.hd hc) st (show s.heap.IsTuple a its.toArray from p) (by simp; omega) fun h' eb => ⟨rfl, I.turned (t' := s.toks) (fun b o hb e => eb b o hb e) f0 f1 f3 f4 f5⟩
  self := fun _ _ _ _ _ st h => wpAny_pyIter_tupleiter st h
theorem turn_range {P : Program} {w : World} {K : PySem.W.Frag} {tg : Expr} (it : Addr) (lo : Int) (n : Nat) : Turn P w K tg (Itr lo n) [it] it (fun i h => IsRangeIter h it (lo + (i : Nat) * 1) ((n : Int) - (i : Nat)) 1) where
  mem := by simp
  obj := fun i h st b hb => by
    have e : b = it := by simpa using hb
    subst e
    exact ⟨_, st, fun v z => by
      have z' : Data.fields _ = Data.cell v := z
      cases z'⟩
  keep := fun i h h' st k => k it (by simp) _ st
  item := by
    intro X hP hw hK hc i pins s σ H E I hf st hg
    subst hP hw hK
    obtain ⟨f0, f1, f2, f3, f4, f5⟩ := hf it (by simp)
    have W := Walks.range (prog := X.prog) (w := X.w) (I.ok.hd hc) it lo 1 n
    refine W.item i s _ _ hg st fun v h' tk hv st' kk => ?_
    obtain ⟨t, rfl⟩ := hv
    have I1 : Inv X pins σ H { s with heap := h', toks := tk } := I.turned (fun b o hb e => kk b o (by simpa using hb) e) f0 f1 f3 f4 f5
    refine ⟨_, rfl, go_of (s := { s with heap := h', toks := tk }) (n := "range_iterator") st' rfl rfl (by decide) ⟨.int (lo + i), H, I1, ⟨t, ?_⟩, ⟨rfl, rfl⟩, st', fun b hb => (hf b hb).1⟩⟩
    rw [Int.mul_one]
  done := by
    intro X hP hw hK hc i pins s σ H E I hf st hg
    subst hP hw hK
    obtain ⟨f0, f1, f2, f3, f4, f5⟩ := hf it (by simp)
    exact wpAny_pyNext_range_end (I.ok.hd hc) st (by have : n ≤ i := hg; omega) fun h' eb => ⟨rfl, I.turned (t' := s.toks) (fun b o hb e => eb b o hb e) f0 f1 f3 f4 f5⟩
  self := fun _ _ _ _ _ st h => wpAny_pyIter_rangeiter st h
end L2

namespace L2
open PySem PySem.Spec PyProof.Rows
section
variable {X : Cx} {tg : Expr}
def iList (K : PySem.W.Frag) (tl : TE) : TI := fun σ H R => tl σ H fun x H1 => ∃ a, x = .ref a ∧ (∃ xs, SqL K H1 a xs) ∧ R (Itl K a) H1
def iTup (K : PySem.W.Frag) (tl : TE) : TI := fun σ H R => tl σ H fun x H1 => ∃ a, x = .ref a ∧ (∃ xs, SqT K H1 a xs) ∧ R (Itt K a) H1
theorem pi_list {l : Expr} {tl : TE} (hl : PE X l tl) : PI X tg l (iList X.K tl) := by
  intro pins s σ H R I h
  refine thn (hl pins s σ H _ I h) fun v s1 ⟨x, H1, I1, r1, q1⟩ => ?_
  obtain ⟨a, e, ⟨xs, hq⟩, q⟩ := q1
  subst e
  cases r1
  obtain ⟨its, rv, p, hz⟩ := I1.list hq
  refine wpAny_pyIter_list p.isList ?_
  refine ⟨s1.heap.objs.size, [s1.heap.objs.size], _, _, H1, rfl, I1.kept (t' := s1.toks) fun b o e => Heap.get?_push_of_some _ e, turn_list a _, ⟨_, Heap.get?_push_size _ rfl, rfl, rfl⟩, fun b hb => ?_, q⟩
  have e : b = s1.heap.objs.size := by simpa using hb
  subst e
  exact I1.fpOk (Nat.le_refl _) (I1.hok.fresh (Nat.le_refl _))
theorem pi_tup {l : Expr} {tl : TE} (hl : PE X l tl) : PI X tg l (iTup X.K tl) := by
  intro pins s σ H R I h
  refine thn (hl pins s σ H _ I h) fun v s1 ⟨x, H1, I1, r1, q1⟩ => ?_
  obtain ⟨a, e, ⟨xs, hq⟩, q⟩ := q1
  subst e
  cases r1
  obtain ⟨its, rv, p, hz⟩ := I1.tuple hq
  refine wpAny_pyIter_tuple (show s1.heap.IsTuple a its.toArray from p) ?_
  refine ⟨s1.heap.objs.size, [s1.heap.objs.size], _, _, H1, rfl, I1.kept (t' := s1.toks) fun b o e => Heap.get?_push_of_some _ e, turn_tuple a _, ⟨_, Heap.get?_push_size _ rfl, rfl, rfl⟩, fun b hb => ?_, q⟩
  have e : b = s1.heap.objs.size := by simpa using hb
  subst e
  exact I1.fpOk (Nat.le_refl _) (I1.hok.fresh (Nat.le_refl _))
theorem range_it {pins : List (Addr × Obj)} {σ : St} {H : Hp} {s : Shared} {R : It → Hp → Prop} {E : Value → Shared → Prop} {lo hi : Int} {t u v : Tok} {tk : Nat} (I : Inv X pins σ H s) (h1 : -(2 ^ 62) ≤ lo) (h2 : lo < 2 ^ 62) (h3 : -(2 ^ 62) ≤ hi) (h4 : hi < 2 ^ 62)
    (q : R (Itr lo (hi - lo).toNat) H) : wpAny (model X.prog X.w) X.A (pyIter (.ref s.heap.objs.size)) (PIE X pins σ tg R) E { s with heap := s.heap.push { cls := .type "range", data := .fields #[.int lo t, .int hi u, .int 1 v] }, toks := tk } := by
  refine wpAny_pyIter_range (IsRange.new ..) (small_one h1 h2 h3 h4) ?_
  have I1 : Inv X pins σ H { s with heap := s.heap.push { cls := .type "range", data := .fields #[.int lo t, .int hi u, .int 1 v] }, toks := tk } := I.kept fun b o e => Heap.get?_push_of_some _ e
  refine ⟨(s.heap.push { cls := .type "range", data := .fields #[.int lo t, .int hi u, .int 1 v] }).objs.size, [(s.heap.push { cls := .type "range", data := .fields #[.int lo t, .int hi u, .int 1 v] }).objs.size], _, _, H, rfl,
    I1.kept (t' := tk) fun b o e => Heap.get?_push_of_some _ e, turn_range _ lo (hi - lo).toNat, ?_, fun b hb => ?_, q⟩
  · have e1 : lo + ((0 : Nat) : Int) * 1 = lo := by simp
    have e2 : (((hi - lo).toNat : Nat) : Int) - ((0 : Nat) : Int) = Builtin.Range.rangeSize lo hi 1 := by rw [rangeSize_one]; split <;> omega
    show IsRangeIter _ _ (lo + ((0 : Nat) : Int) * 1) ((((hi - lo).toNat : Nat) : Int) - ((0 : Nat) : Int)) 1
    rw [e1, e2]
    exact Heap.get?_push_size _ rfl
  · have e : b = (s.heap.push { cls := .type "range", data := .fields #[.int lo t, .int hi u, .int 1 v] }).objs.size := by simpa using hb
    subst e
    exact I1.fpOk (Nat.le_refl _) (I1.hok.fresh (Nat.le_refl _))
def iRng1 (ta : TA) : TI := fun σ H R => ta σ H fun vs H1 => ∃ j : Int, vs = [.int j] ∧ -(2 ^ 62) ≤ j ∧ j < 2 ^ 62 ∧ R (Itr 0 j.toNat) H1
theorem pi_range1 {a : Expr} {ta : TA} {p pos : Pos} (hg : Gl X "range") (hm : X.mg "range" = none) (ha : PA X [a] ta) (hs : starEach [a] X.env = [(false, eval a X.env)] := by rfl) : PI X tg (.Call (.Name "range" p) [a] [] pos) (iRng1 ta) := by
  intro pins s σ H R I h
  refine Call_ (ld_blt I hg hm boot_range (PyProof.Rows.callWith_type1 (thn (ha pos pins s σ H _ I h) fun us s1 ⟨vs, H1, I1, r1, q1⟩ => ?_) hs rfl))
  obtain ⟨j, e, q1, q2, q⟩ := q1
  subst e
  cases r1 with
  | cons r rr =>
    cases rr
    obtain ⟨t, rfl⟩ := r
    exact call_range_1 (range_it I1 (by omega) (by omega) q1 q2 (by simpa using q))
/-! ### for -/
def tFor (wi : TI) (g : TG) (tb : TS) : TS := fun D σ H => wi σ H fun J H1 => ∃ W : Nat → Nat → St → Hp → Prop, (∃ m, W 0 m σ H1) ∧ ∀ i m σ H, W i m σ H →
  (J.stop i H ∧ D.nx σ H) ∨ (J.go i H ∧ ∃ N : St → Hp → Prop, (∀ σ' H', N σ' H' → ∃ m', m' < m ∧ W (i + 1) m' σ' H') ∧ ∀ x H', J.yld i H x H' → g x σ H' fun σ2 H2 => tb { D with nx := N, ct := N, bk := D.nx } σ2 H2)
def pinsAt (fp : List Addr) (h : Heap) : List (Addr × Obj) := fp.filterMap fun b => (h.get? b).map fun o => (b, o)
theorem mem_pinsAt {fp : List Addr} {h : Heap} {b : Addr} {o : Obj} (hb : b ∈ fp) (e : h.get? b = some o) : (b, o) ∈ pinsAt fp h := List.mem_filterMap.mpr ⟨b, hb, by rw [e]; rfl⟩
theorem of_pinsAt {fp : List Addr} {h : Heap} {p : Addr × Obj} (hp : p ∈ pinsAt fp h) : p.1 ∈ fp ∧ h.get? p.1 = some p.2 := by
  obtain ⟨b, hb, e⟩ := List.mem_filterMap.mp hp
  cases q : h.get? b with
  | none => rw [q] at e; cases e
  | some o =>
    rw [q] at e
    have e' : (b, o) = p := Option.some.inj e
    subst e'
    exact ⟨hb, q⟩
theorem Inv.pinned {pins : List (Addr × Obj)} {σ : St} {H : Hp} {s : Shared} {fp : List Addr} (I : Inv X pins σ H s) (hf : ∀ b ∈ fp, FpOk X pins H b) (ho : ∀ b ∈ fp, ∃ o, s.heap.get? b = some o ∧ ∀ v, o.data ≠ .cell v) : Inv X (pins ++ pinsAt fp s.heap) σ H s :=
  I.pins_of fun p hp => (List.mem_append.mp hp).elim (fun z => I.pin p (List.mem_append_right _ z)) fun z => by
    obtain ⟨hb, e⟩ := of_pinsAt z
    obtain ⟨f0, f1, f2, _⟩ := hf p.1 hb
    obtain ⟨o, e', d⟩ := ho p.1 hb
    rw [e] at e'; cases e'
    exact ⟨e, f0, f1, f2, d⟩
theorem Inv.unpinned {pins pl : List (Addr × Obj)} {σ : St} {H : Hp} {s : Shared} (I : Inv X (pins ++ pl) σ H s) : Inv X pins σ H s := I.pins_of fun p hp => I.pin p (List.mem_append_right _ (List.mem_append_left _ hp))
theorem ps_for {iter : Expr} {body : List Stmt} {wi : TI} {g : TG} {tb : TS} {pos : Pos} (hp : PassesOwn (model X.prog X.w) X.A X.env X.xe) (hc : X.calm = true) (hi : PI X tg iter wi) (hg : PG X tg g) (hb : PSs X body tb)
    (hs : ∀ x, foldedSetIterable iter X.env x = pure x := by intro _; rfl) : PS X (.For tg iter body [] pos) (tFor wi g tb) := by
  intro pins s σ H D I h
  refine wpAny_For (thn (hi pins s σ H _ I h) fun v s1 h1 => thn h1 fun itv s2 h2 => ?_) hs
  obtain ⟨it, fp, tn, J, H2, e, I2, T, st2, f2, W, ⟨m0, w0⟩, turn⟩ := h2
  subst e
  -- what stays true of the iterator's objects through the loop
  have stat : ∀ {H' : Hp}, (∀ b ∈ fp, H' b = none) → ∀ b ∈ fp, FpOk X pins H' b := fun hn b hb => ⟨hn b hb, (f2 b hb).2⟩
  refine codeAny_forLoop_any (fun n s' => ∃ i σ' H', Inv X pins σ' H' s' ∧ tn i s'.heap ∧ (∀ b ∈ fp, H' b = none) ∧ W i n σ' H') ?_ m0 ⟨0, σ, H2, I2, st2, fun b hb => (f2 b hb).1, w0⟩
  rintro n s3 ⟨i, σ3, H3, I3, st3, fr3, w3⟩
  rcases turn i n σ3 H3 w3 with ⟨stop, qn⟩ | ⟨go, N, hN, step⟩
  · refine wpAny_passesOwn hp (thn (T.done X rfl rfl rfl hc i pins s3 σ3 H3 X.xe I3 (stat fr3) st3 stop) fun r s4 ⟨hr, I4⟩ => ?_)
    subst hr
    exact wpAny_execs_nil ⟨σ3, H3, I4, qn⟩
  · refine wpAny_passesOwn hp (thn (T.item X rfl rfl rfl hc i pins s3 σ3 H3 X.xe I3 (stat fr3) st3 go) fun r s4 ⟨u, hr, h4⟩ => ?_)
    subst hr
    refine wpAny_passesOwn hp (thn h4 fun _ s5 ⟨x, H5, I5, r5, y5, st5, fr5⟩ => ?_)
    have I5' := I5.pinned (stat fr5) (T.obj _ _ st5)
    refine wpAny_passesOwn hp (thn (hg _ s5 σ3 H5 x u _ I5' r5 (step x H5 y5)) fun _ s6 ⟨σ6, H6, I6, q6⟩ => ?_)
    refine wpAny_passesOwn hp (thn (hb _ s6 σ6 H6 _ I6 q6) fun f s7 q7 => ?_)
    have again : ∀ {σ7 : St} {H7 : Hp}, Inv X (pins ++ pinsAt fp s5.heap) σ7 H7 s7 → N σ7 H7 → ∃ m, m < n ∧ ∃ i σ' H', Inv X pins σ' H' s7 ∧ tn i s7.heap ∧ (∀ b ∈ fp, H' b = none) ∧ W i m σ' H' := fun {σ7 H7} I7 n7 => by
      obtain ⟨m', hm, w7⟩ := hN σ7 H7 n7
      refine ⟨m', hm, i + 1, σ7, H7, I7.unpinned, T.keep _ _ _ st5 fun b hb o e => (I7.pin (b, o) (List.mem_append_right _ (List.mem_append_right _ (mem_pinsAt hb e)))).1, fun b hb => ?_, w7⟩
      obtain ⟨o, e, d⟩ := T.obj _ _ st5 b hb
      exact (I7.pin (b, o) (List.mem_append_right _ (List.mem_append_right _ (mem_pinsAt hb e)))).2.1
    cases f with
    | next => obtain ⟨σ7, H7, I7, n7⟩ := q7; exact again I7 n7
    | cont => obtain ⟨σ7, H7, I7, n7⟩ := q7; exact again I7 n7
    | brk => obtain ⟨σ7, H7, I7, q7⟩ := q7; exact ⟨σ7, H7, I7.unpinned, q7⟩
    | ret v => obtain ⟨x7, σ7, H7, I7, r7, q7⟩ := q7; exact ⟨x7, σ7, H7, I7.unpinned, r7, q7⟩
end

/-! ### the forms one uses -/
theorem for_list {K : PySem.W.Frag} {a : Addr} {xs : List V} {g : TG} {tb : TS} {D : Ends} {σ : St} {H : Hp} (Pv : Nat → St → Hp → Prop) (h0 : Pv 0 σ H) (hl : ∀ i σ H, i ≤ xs.length → Pv i σ H → SqL K H a xs)
    (hs : ∀ i x σ H, xs[i]? = some x → Pv i σ H → g x σ H fun σ2 H2 => tb { D with nx := Pv (i + 1), ct := Pv (i + 1), bk := D.nx } σ2 H2) (hd : ∀ σ H, Pv xs.length σ H → D.nx σ H) :
    ∃ W : Nat → Nat → St → Hp → Prop, (∃ m, W 0 m σ H) ∧ ∀ i m σ H, W i m σ H →
      ((Itl K a).stop i H ∧ D.nx σ H) ∨ ((Itl K a).go i H ∧ ∃ N : St → Hp → Prop, (∀ σ' H', N σ' H' → ∃ m', m' < m ∧ W (i + 1) m' σ' H') ∧ ∀ x H', (Itl K a).yld i H x H' → g x σ H' fun σ2 H2 => tb { D with nx := N, ct := N, bk := D.nx } σ2 H2) := by
  refine ⟨fun i m σ H => m = xs.length - i ∧ i ≤ xs.length ∧ Pv i σ H, ⟨xs.length, by simp, Nat.zero_le _, h0⟩, ?_⟩
  rintro i m σ H ⟨rfl, hi, p⟩
  have q := hl i σ H hi p
  by_cases hlt : i < xs.length
  · refine .inr ⟨⟨xs, xs[i], q, by simp [hlt]⟩, Pv (i + 1), fun σ' H' p' => ⟨xs.length - (i + 1), by omega, rfl, hlt, p'⟩, fun x H' y => ?_⟩
    obtain ⟨e, y⟩ := y
    subst e
    exact hs i x σ _ (y xs q) p
  · have e : i = xs.length := by omega
    subst e
    exact .inl ⟨⟨xs, q, Nat.le_refl _⟩, hd σ H p⟩
theorem for_range {lo : Int} {n : Nat} {g : TG} {tb : TS} {D : Ends} {σ : St} {H : Hp} (Pv : Nat → St → Hp → Prop) (h0 : Pv 0 σ H)
    (hs : ∀ i σ H, i < n → Pv i σ H → g (.int (lo + i)) σ H fun σ2 H2 => tb { D with nx := Pv (i + 1), ct := Pv (i + 1), bk := D.nx } σ2 H2) (hd : ∀ σ H, Pv n σ H → D.nx σ H) :
    ∃ W : Nat → Nat → St → Hp → Prop, (∃ m, W 0 m σ H) ∧ ∀ i m σ H, W i m σ H →
      ((Itr lo n).stop i H ∧ D.nx σ H) ∨ ((Itr lo n).go i H ∧ ∃ N : St → Hp → Prop, (∀ σ' H', N σ' H' → ∃ m', m' < m ∧ W (i + 1) m' σ' H') ∧ ∀ x H', (Itr lo n).yld i H x H' → g x σ H' fun σ2 H2 => tb { D with nx := N, ct := N, bk := D.nx } σ2 H2) := by
  refine ⟨fun i m σ H => m = n - i ∧ i ≤ n ∧ Pv i σ H, ⟨n, by simp, Nat.zero_le _, h0⟩, ?_⟩
  rintro i m σ H ⟨rfl, hi, p⟩
  by_cases hlt : i < n
  · refine .inr ⟨hlt, Pv (i + 1), fun σ' H' p' => ⟨n - (i + 1), by omega, rfl, hlt, p'⟩, fun x H' y => ?_⟩
    obtain ⟨e, y⟩ := y
    subst e y
    exact hs i σ _ hlt p
  · have e : i = n := by omega
    subst e
    exact .inl ⟨Nat.le_refl _, hd σ H p⟩
end L2

namespace L2
open PySem PySem.Spec PyProof.Rows

abbrev R2 := V → V → Hp → VK → Prop
def OpR (X : Cx) (f : Value → Value → Sem Value) (r : R2) : Prop :=
  ∀ (pins : List (Addr × Obj)) (s : Shared) (σ : St) (H : Hp) (x y : V) (v u : Value) (Q : VK), Inv X pins σ H s → RelV x v → RelV y u → r x y H Q →
    wpAny (model X.prog X.w) X.A (f v u) (EP X pins σ Q) X.xe s
def UnR (X : Cx) (f : Value → Sem Value) (r : V → Hp → VK → Prop) : Prop :=
  ∀ (pins : List (Addr × Obj)) (s : Shared) (σ : St) (H : Hp) (x : V) (v : Value) (Q : VK), Inv X pins σ H s → RelV x v → r x H Q →
    wpAny (model X.prog X.w) X.A (f v) (EP X pins σ Q) X.xe s
def CallR (X : Cx) (f : Value) (r : List V → Hp → VK → Prop) : Prop :=
  ∀ (pins : List (Addr × Obj)) (s : Shared) (σ : St) (H : Hp) (xs : List V) (us : List Value) (Q : VK), Inv X pins σ H s → Vals xs us → r xs H Q →
    wpAny (model X.prog X.w) X.A (call f us) (EP X pins σ Q) X.xe s
def tOp (r : R2) (ta tb : TE) : TE := fun σ H Q => ta σ H fun x H1 => tb σ H1 fun y H2 => r x y H2 Q
def tUn (r : V → Hp → VK → Prop) (ta : TE) : TE := fun σ H Q => ta σ H fun x H1 => r x H1 Q
def rI (C : Int → Int → Prop) (g : Int → Int → V) : R2 := fun x y H Q => ∃ i j, x = .int i ∧ y = .int j ∧ C i j ∧ Q (g i j) H
def rI0 (g : Int → Int → V) : R2 := fun x y H Q => ∃ i j, x = .int i ∧ y = .int j ∧ Q (g i j) H
def rU (g : Int → V) : V → Hp → VK → Prop := fun x H Q => ∃ i, x = .int i ∧ Q (g i) H

section
variable {X : Cx} {a b c : Expr} {ta tb tc : TE} {pos : Pos}

theorem binT (ha : PE X a ta) (hb : PE X b tb) {pins : List (Addr × Obj)} {s : Shared} {σ : St} {H : Hp} {R : V → V → Hp → Prop} (I : Inv X pins σ H s)
    (h : ta σ H fun x H1 => tb σ H1 fun y H2 => R x y H2) {Q : Value → Shared → Prop} {f : Value → Value → Sem Value}
    (hf : ∀ v u s2 x y H2, Inv X pins σ H2 s2 → RelV x v → RelV y u → R x y H2 → wpAny (model X.prog X.w) X.A (f v u) Q X.xe s2) :
    wpAny (model X.prog X.w) X.A (eval a X.env) (fun v s₁ => wpAny (model X.prog X.w) X.A (eval b X.env) (fun u s₂ => wpAny (model X.prog X.w) X.A (f v u) Q X.xe s₂) X.xe s₁) X.xe s := by
  refine thn (ha pins s σ H _ I h) fun v s1 ⟨x, H1, I1, r1, q1⟩ => ?_
  refine thn (hb pins s1 σ H1 _ I1 q1) fun u s2 ⟨y, H2, I2, r2, q2⟩ => ?_
  exact hf v u s2 x y H2 I2 r1 r2 q2

theorem pe_op {op : Operator} {r : R2} (ho : OpR X (binaryOp op) r) (ha : PE X a ta) (hb : PE X b tb) : PE X (.BinOp a op b pos) (tOp r ta tb) := by
  intro pins s σ H Q I h
  exact wpAny_BinOp (binT ha hb I h fun v u s2 x y H2 I2 rx ry q => ho pins s2 σ H2 x y v u Q I2 rx ry q)
theorem pe_un {op : UnaryOp} {r : V → Hp → VK → Prop} (ho : UnR X (unaryOp op) r) (ha : PE X a ta) : PE X (.UnaryOp op a pos) (tUn r ta) := by
  intro pins s σ H Q I h
  exact UnaryOp_ (thn (ha pins s σ H _ I h) fun v s1 ⟨x, H1, I1, r1, q1⟩ => ho pins s1 σ H1 x v Q I1 r1 q1)
/-! ### ints -/
theorem opI {f : Value → Value → Sem Value} {C : Int → Int → Prop} {g : Int → Int → Int}
    (rule : ∀ (i j : Int) (t u : Tok) (s : Shared) (Q : Value → Shared → Prop) (E : Value → Shared → Prop), C i j → Q (.int (g i j) s.toks) { s with toks := s.toks + 1 } → wpAny (model X.prog X.w) X.A (f (.int i t) (.int j u)) Q E s) :
    OpR X f (rI C fun i j => .int (g i j)) := by
  intro pins s σ H x y v u Q I rx ry h
  obtain ⟨i, j, rfl, rfl, hc, q⟩ := h
  obtain ⟨t, rfl⟩ := rx
  obtain ⟨t', rfl⟩ := ry
  exact rule i j t t' s _ _ hc ⟨.int (g i j), H, I.tok _, ⟨_, rfl⟩, q⟩
theorem opI0 {f : Value → Value → Sem Value} {g : Int → Int → Int}
    (rule : ∀ (i j : Int) (t u : Tok) (s : Shared) (Q : Value → Shared → Prop) (E : Value → Shared → Prop), Q (.int (g i j) s.toks) { s with toks := s.toks + 1 } → wpAny (model X.prog X.w) X.A (f (.int i t) (.int j u)) Q E s) :
    OpR X f (rI0 fun i j => .int (g i j)) := by
  intro pins s σ H x y v u Q I rx ry h
  obtain ⟨i, j, rfl, rfl, q⟩ := h
  obtain ⟨t, rfl⟩ := rx
  obtain ⟨t', rfl⟩ := ry
  exact rule i j t t' s _ _ ⟨.int (g i j), H, I.tok _, ⟨_, rfl⟩, q⟩
theorem opB0 {f : Value → Value → Sem Value} {g : Int → Int → Bool}
    (rule : ∀ (i j : Int) (t u : Tok) (s : Shared) (Q : Value → Shared → Prop) (E : Value → Shared → Prop), Q (.bool (g i j)) s → wpAny (model X.prog X.w) X.A (f (.int i t) (.int j u)) Q E s) :
    OpR X f (rI0 fun i j => .bl (g i j)) := by
  intro pins s σ H x y v u Q I rx ry h
  obtain ⟨i, j, rfl, rfl, q⟩ := h
  obtain ⟨t, rfl⟩ := rx
  obtain ⟨t', rfl⟩ := ry
  exact rule i j t t' s _ _ ⟨.bl (g i j), H, I, rfl, q⟩

def CDiv (i j : Int) : Prop := 0 < j ∧ j < 1073741824
def CPow (i j : Int) : Prop := 0 ≤ j ∧ j ≤ 1000000 ∧ i.natAbs < 2 ^ 64
def CMul (i j : Int) : Prop := (-(2 ^ 64) < i ∧ i < 2 ^ 64) ∨ (-(2 ^ 64) < j ∧ j < 2 ^ 64)
theorem CMul.ok {i j : Int} (h : CMul i j) : IntMulOk i j := by
  rcases h with ⟨h1, h2⟩ | ⟨h1, h2⟩
  · exact .of_left (intBits_le_64 h1 h2)
  · exact .of_right (intBits_le_64 h1 h2)
theorem op_add : OpR X (binaryOp .Add) (rI0 fun i j => .int (i + j)) := opI0 fun _ _ _ _ _ _ _ q => add_int q
theorem op_sub : OpR X (binaryOp .Sub) (rI0 fun i j => .int (i - j)) := opI0 fun _ _ _ _ _ _ _ q => sub_int q
theorem op_mul : OpR X (binaryOp .Mult) (rI CMul fun i j => .int (i * j)) := opI fun _ _ _ _ _ _ _ hc q => mul_int q hc.ok
theorem op_fdiv : OpR X (binaryOp .FloorDiv) (rI CDiv fun i j => .int (i / j)) := opI fun i j _ _ _ _ _ hc q => by
  have h1 : (0 : Int) < j := hc.1
  have h2 : j < 1073741824 := hc.2
  exact floordiv_int (by omega) (by rw [Int.fdiv_eq_ediv_of_nonneg i (by omega)]; exact q) (.inl (PyProof.noPylong_small (by omega)))
theorem op_mod : OpR X (binaryOp .Mod) (rI (fun _ j => 0 < j) fun i j => .int (i % j)) := opI fun i j _ _ _ _ _ hc q => by
  have h1 : (0 : Int) < j := hc
  exact mod_int' (by omega) (by rw [Int.fmod_eq_emod_of_nonneg i (by omega)]; exact q)
theorem op_pow : OpR X (binaryOp .Pow) (rI CPow fun i j => .int (i ^ j.toNat)) := opI fun _ _ _ _ _ _ _ hc q => pow_int_small hc.1 hc.2.1 hc.2.2 q
theorem unI {f : Value → Sem Value} {g : Int → Int}
    (rule : ∀ (i : Int) (t : Tok) (s : Shared) (Q : Value → Shared → Prop) (E : Value → Shared → Prop), Q (.int (g i) s.toks) { s with toks := s.toks + 1 } → wpAny (model X.prog X.w) X.A (f (.int i t)) Q E s) :
    UnR X f (rU fun i => .int (g i)) := by
  intro pins s σ H x v Q I rx h
  obtain ⟨i, rfl, q⟩ := h
  obtain ⟨t, rfl⟩ := rx
  exact rule i t s _ _ ⟨.int (g i), H, I.tok _, ⟨_, rfl⟩, q⟩
theorem un_neg : UnR X (unaryOp .USub) (rU fun i => .int (-i)) := unI fun _ _ _ _ _ q => neg_int q
/-! ### bools among ints: n += (a < b) -/
end

/-! ### comparisons -/
def scal : V → V → Bool
  | .non, .non => true | .non, .int _ => true | .int _, .non => true | .non, .bl _ => true | .bl _, .non => true | .non, .str _ => true | .str _, .non => true
  | .int _, .int _ => true | .bl _, .bl _ => true | .str _, .str _ => true | .byt _, .byt _ => true
  | .int _, .str _ => true | .str _, .int _ => true | .bl _, .str _ => true | .str _, .bl _ => true
  | _, _ => false
def rEq : R2 := fun x y H Q => scal x y = true ∧ Q (.bl (decide (x = y))) H
def rNe : R2 := fun x y H Q => scal x y = true ∧ Q (.bl (!decide (x = y))) H

theorem dec_int {i j : Int} : decide (V.int i = V.int j) = (i == j) := by
  rw [Bool.eq_iff_iff]
  simp
theorem dec_bl {i j : Bool} : decide (V.bl i = V.bl j) = (i == j) := by
  rw [Bool.eq_iff_iff]
  simp
theorem dec_str {i j : Str} : decide (V.str i = V.str j) = (i == j) := by
  rw [Bool.eq_iff_iff]
  simp
theorem dec_byt {i j : Array UInt8} : decide (V.byt i = V.byt j) = (i.toList == j.toList) := by
  rw [Bool.eq_iff_iff]
  cases i
  cases j
  simp

section
variable {X : Cx} {a b c : Expr} {ta tb tc : TE} {pos : Pos}
theorem fin_bl {pins : List (Addr × Obj)} {σ : St} {H : Hp} {s : Shared} {Q : VK} {k k' : Bool} (I : Inv X pins σ H s) (q : Q (.bl k) H) (e : k = k') : EP X pins σ Q (.bool k') s := by
  subst e
  exact ⟨.bl k, H, I, rfl, q⟩
theorem op_eq : OpR X (compareOp .Eq) rEq := by
  intro pins s σ H x y v u Q I rx ry h
  obtain ⟨hs, q⟩ := h
  cases x with
  | non =>
    cases rx
    cases y with
    | non => cases ry; exact PySem.EqNone.eq_none_none (fin_bl I q (by simp))
    | bl j => cases ry; exact PySem.EqNone.eq_none_bool (fin_bl I q (by simp))
    | int j => obtain ⟨t', rfl⟩ := ry; exact PySem.EqNone.eq_none_int (fin_bl I q (by simp))
    | str j => obtain ⟨t', rfl⟩ := ry; exact PySem.EqNone.eq_none_str (fin_bl I q (by simp))
    | _ => exact absurd (show false = true from hs) Bool.false_ne_true
  | bl i =>
    cases rx
    cases y with
    | non => cases ry; exact PySem.EqNone.eq_bool_none (fin_bl I q (by simp))
    | bl j => cases ry; exact eq_bool (fin_bl I q dec_bl)
    | str j => obtain ⟨t', rfl⟩ := ry; exact PySem.EqMixed.eq_bool_str (fin_bl I q (by simp))
    | _ => exact absurd (show false = true from hs) Bool.false_ne_true
  | int i =>
    obtain ⟨t, rfl⟩ := rx
    cases y with
    | non => cases ry; exact PySem.EqNone.eq_int_none (fin_bl I q (by simp))
    | int j => obtain ⟨t', rfl⟩ := ry; exact eq_int (fin_bl I q dec_int)
    | str j => obtain ⟨t', rfl⟩ := ry; exact PySem.EqMixed.eq_int_str (fin_bl I q (by simp))
    | _ => exact absurd (show false = true from hs) Bool.false_ne_true
  | str i =>
    obtain ⟨t, rfl⟩ := rx
    cases y with
    | non => cases ry; exact PySem.EqNone.eq_str_none (fin_bl I q (by simp))
    | bl j => cases ry; exact PySem.EqMixed.eq_str_bool (fin_bl I q (by simp))
    | int j => obtain ⟨t', rfl⟩ := ry; exact PySem.EqMixed.eq_str_int (fin_bl I q (by simp))
    | str j => obtain ⟨t', rfl⟩ := ry; exact eq_str (fin_bl I q dec_str)
    | _ => exact absurd (show false = true from hs) Bool.false_ne_true
  | byt i =>
    obtain ⟨t, rfl⟩ := rx
    cases y with
    | byt j => obtain ⟨t', rfl⟩ := ry; exact PySem.W.eq_bytes (fin_bl I q dec_byt)
    | _ => exact absurd (show false = true from hs) Bool.false_ne_true
  | _ => cases y <;> exact absurd (show false = true from hs) Bool.false_ne_true
theorem op_ne : OpR X (compareOp .NotEq) rNe := by
  intro pins s σ H x y v u Q I rx ry h
  obtain ⟨hs, q⟩ := h
  cases x with
  | non =>
    cases rx
    cases y with
    | non => cases ry; exact PySem.EqNone.ne_none_none (fin_bl I q (by simp))
    | bl j => cases ry; exact PySem.EqNone.ne_none_bool (fin_bl I q (by simp))
    | int j => obtain ⟨t', rfl⟩ := ry; exact PySem.EqNone.ne_none_int (fin_bl I q (by simp))
    | str j => obtain ⟨t', rfl⟩ := ry; exact PySem.EqNone.ne_none_str (fin_bl I q (by simp))
    | _ => exact absurd (show false = true from hs) Bool.false_ne_true
  | bl i =>
    cases rx
    cases y with
    | non => cases ry; exact PySem.EqNone.ne_bool_none (fin_bl I q (by simp))
    | bl j => cases ry; exact ne_bool (fin_bl I q (congrArg not dec_bl))
    | str j => obtain ⟨t', rfl⟩ := ry; exact PySem.EqMixed.ne_bool_str (fin_bl I q (by simp))
    | _ => exact absurd (show false = true from hs) Bool.false_ne_true
  | int i =>
    obtain ⟨t, rfl⟩ := rx
    cases y with
    | non => cases ry; exact PySem.EqNone.ne_int_none (fin_bl I q (by simp))
    | int j => obtain ⟨t', rfl⟩ := ry; exact ne_int (fin_bl I q (congrArg not dec_int))
    | str j => obtain ⟨t', rfl⟩ := ry; exact PySem.EqMixed.ne_int_str (fin_bl I q (by simp))
    | _ => exact absurd (show false = true from hs) Bool.false_ne_true
  | str i =>
    obtain ⟨t, rfl⟩ := rx
    cases y with
    | non => cases ry; exact PySem.EqNone.ne_str_none (fin_bl I q (by simp))
    | bl j => cases ry; exact PySem.EqMixed.ne_str_bool (fin_bl I q (by simp))
    | int j => obtain ⟨t', rfl⟩ := ry; exact PySem.EqMixed.ne_str_int (fin_bl I q (by simp))
    | str j => obtain ⟨t', rfl⟩ := ry; exact ne_str (fin_bl I q (congrArg not dec_str))
    | _ => exact absurd (show false = true from hs) Bool.false_ne_true
  | byt i =>
    obtain ⟨t, rfl⟩ := rx
    cases y with
    | byt j => obtain ⟨t', rfl⟩ := ry; exact PySem.W.ne_bytes (fin_bl I q (congrArg not dec_byt))
    | _ => exact absurd (show false = true from hs) Bool.false_ne_true
  | _ => cases y <;> exact absurd (show false = true from hs) Bool.false_ne_true

theorem op_lt : OpR X (compareOp .Lt) (rI0 fun i j => .bl (decide (i < j))) := opB0 fun _ _ _ _ _ _ _ q => lt_int q
theorem op_le : OpR X (compareOp .LtE) (rI0 fun i j => .bl (decide (i ≤ j))) := opB0 fun _ _ _ _ _ _ _ q => le_int q
theorem op_gt : OpR X (compareOp .Gt) (rI0 fun i j => .bl (decide (j < i))) := opB0 fun _ _ _ _ _ _ _ q => gt_int q
theorem op_in_str : OpR X (compareOp .In) (fun x y H Q => ∃ i j, x = .str i ∧ y = .str j ∧ Q (.bl (!(Builtin.Str.occurrences j i 0 j.length 1).isEmpty)) H) := by
  intro pins s σ H x y v u Q I rx ry h
  obtain ⟨i, j, rfl, rfl, q⟩ := h
  obtain ⟨t, rfl⟩ := rx
  obtain ⟨t', rfl⟩ := ry
  exact in_str (fin_bl I q rfl)

theorem op_isN : OpR X (compareOp .Is) (fun x y H Q => y = .non ∧ Q (.bl (decide (x = .non))) H) := by
  intro pins s σ H x y v u Q I rx ry h
  obtain ⟨rfl, q⟩ := h
  cases ry
  refine is_none_gen (fin_bl I q ?_)
  cases x <;> first
    | (cases rx; rfl)
    | (obtain ⟨t, rfl⟩ := rx; rfl)
theorem nomark (b : Expr) {op : CmpOp} (h : op ≠ .In := by decide) (h2 : op ≠ .NotIn := by decide) : behindInMarks op b = false := by
  have e1 : (op == CmpOp.In) = false := by cases op <;> first | rfl | exact absurd rfl h
  have e2 : (op == CmpOp.NotIn) = false := by cases op <;> first | rfl | exact absurd rfl h2
  cases b <;> simp [behindInMarks, e1, e2]
theorem pe_cmpR {op : CmpOp} {r : R2} (ho : OpR X (compareOp op) r) (ha : PE X a ta) (hb : PE X b tb) (hm : behindInMarks op b = false) : PE X (.Compare a [op] [b] pos) (tOp r ta tb) := by
  intro pins s σ H Q I h
  exact wpAny_Compare1 (binT ha hb I h fun v u s2 x y H2 I2 rx ry q => ho pins s2 σ H2 x y v u Q I2 rx ry q) hm
def tTest (t : TE) : TT := fun σ H Q => t σ H fun x H' => ∃ k, x = .bl k ∧ Q k H'
theorem pt_cmpR {op : CmpOp} {r : R2} (ho : OpR X (compareOp op) r) (ha : PE X a ta) (hb : PE X b tb) (hm : behindInMarks op b = false) : PT X (.Compare a [op] [b] pos) (tTest (tOp r ta tb)) := by
  intro pins s σ H Q I h
  refine wpAny_isTrue_Compare1 (thn (ha pins s σ H _ I h) fun v s1 ⟨x, H1, I1, r1, q1⟩ => thn (hb pins s1 σ H1 _ I1 q1) fun u s2 ⟨y, H2, I2, r2, q2⟩ =>
    thn (ho pins s2 σ H2 x y v u _ I2 r1 r2 q2) fun c s3 ⟨z, H3, I3, r3, k, e, q3⟩ => ?_) hm
  subst e
  cases r3
  exact wpAny_truthy_bool ⟨H3, I3, q3⟩
def tChain (r r' : R2) (ta tb tc : TE) : TE := fun σ H Q => ta σ H fun x H1 => tb σ H1 fun y H2 => r x y H2 fun z H3 => ∃ k, z = .bl k ∧
  (if k = true then tc σ H3 fun w' H4 => r' y w' H4 Q else Q (.bl false) H3)
theorem pe_chain {op op' : CmpOp} {r r' : R2} (ho : OpR X (compareOp op) r) (ho' : OpR X (compareOp op') r') (ha : PE X a ta) (hb : PE X b tb) (hc : PE X c tc)
    (hm : lastMarks [op, op'] [b, c] = false := by with_unfolding_all rfl) : PE X (.Compare a [op, op'] [b, c] pos) (tChain r r' ta tb tc) := by
  intro pins s σ H Q I h
  refine Compare_chain (thn (ha pins s σ H _ I h) fun v s1 ⟨x, H1, I1, r1, q1⟩ => chain_link (thn (hb pins s1 σ H1 _ I1 q1) fun u s2 ⟨y, H2, I2, r2, q2⟩ =>
    thn (ho pins s2 σ H2 x y v u _ I2 r1 r2 q2) fun d s3 ⟨z, H3, I3, r3, k, e, q3⟩ => ?_)) hm
  subst e
  cases r3
  refine wpAny_truthy_bool ?_
  cases k with
  | false => exact ite_ff ⟨.bl false, H3, I3, rfl, q3⟩
  | true => exact ite_tt (chain_last (thn (hc pins s3 σ H3 _ I3 q3) fun w' s4 ⟨z', H4, I4, r4, q4⟩ => ho' pins s4 σ H4 y z' u w' Q I4 r2 r4 q4))
/-! ### truth -/
theorem line63 : (sizeLine : Nat) < 2 ^ 63 := by rw [sizeLine_eq]; decide
/-! ### strs and bytes -/
theorem op_add_str : OpR X (binaryOp .Add) (fun x y H Q => ∃ i j, x = .str i ∧ y = .str j ∧ i.length + j.length ≤ sizeLine ∧ Q (.str (i ++ j)) H) := by
  intro pins s σ H x y v u Q I rx ry h
  obtain ⟨i, j, rfl, rfl, hz, q⟩ := h
  obtain ⟨t, rfl⟩ := rx
  obtain ⟨t', rfl⟩ := ry
  exact add_str (fun t' tk => ⟨.str (i ++ j), H, I.tok _, ⟨_, rfl⟩, q⟩) hz
/-! ### scalar builtins, by CallR -/
theorem vals1 {x : V} {us : List Value} (r : Vals [x] us) : ∃ u, us = [u] ∧ RelV x u := by
  cases r with
  | cons r1 r2 => cases r2; exact ⟨_, rfl, r1⟩
theorem vals2 {x y : V} {us : List Value} (r : Vals [x, y] us) : ∃ u w', us = [u, w'] ∧ RelV x u ∧ RelV y w' := by
  cases r with
  | cons r1 r2 =>
    cases r2 with
    | cons r3 r4 => cases r4; exact ⟨_, _, rfl, r1, r3⟩
theorem call_max2 (hc : X.calm = true) : CallR X (.builtin "max") (fun xs H Q => ∃ i j, xs = [.int i, .int j] ∧ Q (.int (if j > i then j else i)) H) := by
  intro pins s σ H xs us Q I r h
  obtain ⟨i, j, rfl, q⟩ := h
  obtain ⟨u, w', rfl, ⟨t, rfl⟩, ⟨t', rfl⟩⟩ := vals2 r
  refine max_two_ints (I.ok.hd hc) fun h' tk k => ⟨_, H, I.kept k, ?_, q⟩
  by_cases hj : j > i
  · rw [if_pos hj, if_pos hj]; exact ⟨_, rfl⟩
  · rw [if_neg hj, if_neg hj]; exact ⟨_, rfl⟩
theorem call_str_int : CallR X (.type "str") (fun xs H Q => ∃ i, xs = [.int i] ∧ i.natAbs.log2 < 1920 ∧ Q (.str (toString i)) H) := by
  intro pins s σ H xs us Q I r h
  obtain ⟨i, rfl, hz, q⟩ := h
  obtain ⟨u, rfl, t, rfl⟩ := vals1 r
  exact PySem.P.str_of_int hz ⟨.str _, H, I.tok _, ⟨_, rfl⟩, q⟩
end
end L2

namespace L2
open PySem PySem.Spec PyProof.Rows

/-! ### an instance, its attributes a map -/
structure ObjM (h : Heap) (x dx C : Addr) (mA : Str → Option Value) : Prop where
  obj : h.get? x = some (PySem.W.instObj C dx)
  ns : h.Ns1 dx mA
  ne : dx ≠ x

theorem lookIn_ns {h : Heap} {dx : Addr} {mA : Str → Option Value} (n : h.Ns1 dx mA) : ∃ od, h.get? dx = some od ∧ ∀ name, PySem.W.lookIn name od = some (mA name) := by
  obtain ⟨o, es, ep, ho, hd, hk, _, hm⟩ := n
  refine ⟨o, ho, fun name => ?_⟩
  have e := hm name
  unfold nsFind findBy at e
  rw [← Array.find?_toList] at e
  unfold PySem.W.lookIn
  rw [hd]
  dsimp only
  split
  · rename_i y q
    rw [q] at e
    exact congrArg some e
  · rename_i q
    rw [q] at e
    have a : es.toList.any (·.refKey) = false := by
      rw [List.any_eq_false]
      intro y hy
      obtain ⟨z, t, hkey⟩ := hk y (Array.mem_toList_iff.mp hy)
      simp [DictEntry.refKey, hkey]
    have a' : ¬ es.toList.any (·.refKey) = true := by rw [a]; exact Bool.false_ne_true
    rw [if_neg a']
    exact congrArg some e

theorem ObjM.look {h : Heap} {x dx C : Addr} {mA : Str → Option Value} (I : ObjM h x dx C mA) : ∃ od, PySem.W.InstAt h x (PySem.W.instObj C dx) C (some od) ∧ ∀ name, PySem.W.lookIn name od = some (mA name) :=
  let ⟨od, ho, hl⟩ := lookIn_ns I.ns
  ⟨od, ⟨I.obj, rfl, rfl, ho⟩, hl⟩

section
variable {prog : Program} {w : World} {A : Around} {E : Value → Shared → Prop} {s : Shared} {K : PySem.W.Frag} {x dx C f : Addr} {mA : Str → Option Value} {name : Str} {v : Value}

end

/-! ### the attributes as a list of pairs -/
theorem RelO.some_of {v : V} {o : Option Value} (r : RelO (some v) o) : ∃ u, o = some u ∧ RelV v u := by
  cases o with
  | none => exact (show False from r).elim
  | some u => exact ⟨u, rfl, r⟩
section
variable {P : Program} {w : World} {H H' : Hp} {h h' : Heap} {a C dx : Addr} {fs fs' : List (Str × V)}
theorem ins_get (hok : HOk P w H h) (e : H a = some (.ins C dx fs)) : ∃ mA, ObjM h a dx C mA ∧ (∀ f, RelO (fs.lookup f) (mA f)) ∧ PySem.Within mA (fs.map (·.1)) ∧ fs.length ≤ 1000 ∧ H dx = some (.own a) := by
  obtain ⟨d, z, ne, ob, mA, n, r, q⟩ := (show ObjOk P w H h a (.ins C dx fs) from hok a _ e)
  exact ⟨mA, ⟨ob, n, ne⟩, r, q, z, d⟩
end

/-! ### what of the text a class must have -/
structure Cls (K : PySem.W.Frag) (C : Addr) : Prop where
  pg : PySem.W.plainGet K C Str.empty = true
  hd : PySem.W.hasDictIn K C = true
  po : PySem.W.plainOver K C = true
  sa : PySem.W.findIn K (.ref C) "__setattr__" = some (some (.builtin "object.__setattr__"))
theorem Cls.get {K : PySem.W.Frag} {C : Addr} (c : Cls K C) (f : Str) : PySem.W.plainGet K C f = true := c.pg
section
variable {X : Cx} {pins : List (Addr × Obj)} {σ : St} {H : Hp} {s : Shared} {a C dx : Addr} {fs : List (Str × V)} {f : Str} {v : V} {A : Around} {E : Value → Shared → Prop}

end

/-! ### readings and rules -/
section
variable {X : Cx} {o e value : Expr} {f : Str} {pos pos' tpos : Pos} {ta tv : TE}
end

/-! ### isinstance -/
section
variable {X : Cx} {pins : List (Addr × Obj)} {σ : St} {H : Hp} {s : Shared} {A : Around} {E : Value → Shared → Prop} {Q : Value → Shared → Prop} {c : Value} {b : Bool}
inductive TyOf (K : PySem.W.Frag) (H : Hp) : V → Value → Prop where
  | non : TyOf K H .non (.type "NoneType")
  | bl (x : Bool) : TyOf K H (.bl x) (.type "bool")
  | int (i : Int) : TyOf K H (.int i) (.type "int")
  | str (x : Str) : TyOf K H (.str x) (.type "str")
  | flt (x : UInt64) : TyOf K H (.flt x) (.type "float")
  | lst {a : Addr} {xs : List V} (e : H a = some (.lst xs)) : TyOf K H (.ref a) (.type "list")
  | frz {a : Addr} {o : Obj} {xs : List V} (e : H a = some (.frz o (.lst xs))) : TyOf K H (.ref a) (.type "list")
  | tup {a : Addr} {xs : List V} (e : H a = some (.tup xs)) : TyOf K H (.ref a) (.type "tuple")
  | dK {a : Addr} {kvs : List (Key × V)} (e : H a = some (.dK kvs)) : TyOf K H (.ref a) (.type "dict")
  | dT {a : Addr} {kvs : List (List Key × V)} (e : H a = some (.dT kvs)) : TyOf K H (.ref a) (.type "dict")
  | ins {a C dx : Addr} {fs : List (Str × V)} (e : H a = some (.ins C dx fs)) (cl : Cls K C) (ha : PySem.W.findIn K (.ref C) "__class__" = some (some (.builtin "object.__class__")))
      (hn : PySem.W.specialIn K (.builtin "object.__class__") "__get__" = some (some (.builtin "getset_descriptor.__get__"))) (htk : PySem.W.takesIn K (.builtin "object.__class__") = some true)
      (hm : PySem.W.mroIn K C (.type "object") = some true) : TyOf K H (.ref a) (.ref C)
theorem isinst_ok {x : V} {u t : Value} (I : Inv X pins σ H s) (rx : RelV x u) (ty : TyOf X.K H x t) (e : PySem.W.kitOne X.K t c = some b) (h : ∀ tk, Q (.bool b) { s with toks := tk }) :
    wpAny (model X.prog X.w) A (call (.builtin "isinstance") [u, c]) Q E s := by
  cases ty with
  | non => cases (show u = Value.none from rx); exact PySem.W.kia_one PySem.W.kitx_none I.kIn True.intro e (fun z => nomatch z) h
  | bl y => cases (show u = Value.bool y from rx); exact PySem.W.kia_one PySem.W.kitx_bool I.kIn True.intro e (fun z => nomatch z) h
  | int i => obtain ⟨t, q⟩ := (show ∃ t, u = Value.int i t from rx); cases q; exact PySem.W.kia_one PySem.W.kitx_int I.kIn True.intro e (fun z => nomatch z) h
  | str y => obtain ⟨t, q⟩ := (show ∃ t, u = Value.str y t from rx); cases q; exact PySem.W.kia_one PySem.W.kitx_str I.kIn True.intro e (fun z => nomatch z) h
  | flt y => obtain ⟨t, q⟩ := (show ∃ t, u = Value.float y t from rx); cases q; exact PySem.W.kia_one PySem.W.kitx_float I.kIn True.intro e (fun z => nomatch z) h
  | @lst a xs ea =>
    cases (show u = Value.ref a from rx)
    obtain ⟨_, _, n, _, h1⟩ := (show ObjOk X.prog X.w H s.heap a (.lst xs) from I.hok a _ ea)
    exact PySem.W.kia_one PySem.W.kitx_list I.kIn ⟨_, h1, rfl⟩ e (fun z => nomatch z) h
  | @frz a ob xs ea =>
    cases (show u = Value.ref a from rx)
    obtain ⟨_, _, _, n, _, h1⟩ := (show ObjOk X.prog X.w H s.heap a (.frz ob (.lst xs)) from I.hok a _ ea)
    exact PySem.W.kia_one PySem.W.kitx_list I.kIn ⟨_, h1, rfl⟩ e (fun z => nomatch z) h
  | @tup a xs ea =>
    cases (show u = Value.ref a from rx)
    obtain ⟨_, _, n, _, h1⟩ := (show ObjOk X.prog X.w H s.heap a (.tup xs) from I.hok a _ ea)
    exact PySem.W.kia_one PySem.W.kitx_tuple I.kIn ⟨_, h1, rfl⟩ e (fun z => nomatch z) h
  | @dK a kvs ea =>
    cases (show u = Value.ref a from rx)
    obtain ⟨_, _, vs, _, p⟩ := (show ObjOk X.prog X.w H s.heap a (.dK kvs) from I.hok a _ ea)
    obtain ⟨o, es, ep, h1, h2, _⟩ := p
    exact PySem.W.kia_one PySem.W.kitx_dict I.kIn ⟨o, h1, h2.1⟩ e (fun z => nomatch z) h
  | @dT a kvs ea =>
    cases (show u = Value.ref a from rx)
    obtain ⟨_, _, xs, _, o, es, ep, h1, h2, _⟩ := (show ObjOk X.prog X.w H s.heap a (.dT kvs) from I.hok a _ ea)
    exact PySem.W.kia_one PySem.W.kitx_dict I.kIn ⟨o, h1, h2.1⟩ e (fun z => nomatch z) h
  | @ins a C dx fs ea cl ha hn htk hm =>
    cases (show u = Value.ref a from rx)
    obtain ⟨mA, O, _⟩ := ins_get I.hok ea
    obtain ⟨od, J, _⟩ := O.look
    exact PySem.W.kia_one (PySem.W.kitx_own (cl.get _) cl.hd ha hn htk hm) I.kIn J e (fun z => nomatch z) h
end
end L2

namespace L2
open PySem PySem.Spec PyProof.Rows

/-! ### room -/
structure Room (k : Nat) (A : Around) : Prop where
  hd : A.handled = none
  dp : A.depth + 3 * k + 5 < recursionLimit
  un : A.units + 16 * k + 200 < cLine
theorem Room.mono {j k : Nat} {A : Around} (r : Room k A) (h : j ≤ k) : Room j A := ⟨r.hd, by have := r.dp; omega, by have := r.un; omega⟩
theorem Room.deeper {k : Nat} {A : Around} (r : Room (k + 1) A) (env : Env) : Room k (A.deeper env) :=
  ⟨r.hd, by have := r.dp; show A.depth + 1 + 3 * k + 5 < _; omega, by have := r.un; show A.units + 3 + 16 * k + 200 < _; omega⟩
theorem Room.depth {k : Nat} {A : Around} (r : Room k A) : A.depth < recursionLimit := by have := r.dp; omega
theorem Room.units {k : Nat} {A : Around} (r : Room k A) : A.units + 64 < cLine := by have := r.un; omega
/-! ### argument lists and displays -/
def tNil : TA := fun _ H Q => Q [] H
def tCons (ta : TE) (tr : TA) : TA := fun σ H Q => ta σ H fun x H1 => tr σ H1 fun xs H2 => Q (x :: xs) H2
section
variable {X : Cx} {e : Expr} {es : List Expr} {te : TE} {t : TA} {pos : Pos}
theorem pa_nil : PA X [] tNil := fun _ _ _ _ H Q I h => Calls.spliced_nil ⟨[], H, I, .nil, h⟩
theorem pa_cons (ha : PE X e te) (hr : PA X es t) (hs : starEach (e :: es) X.env = (false, eval e X.env) :: starEach es X.env := by rfl) : PA X (e :: es) (tCons te t) := by
  intro pos pins s σ H Q I h
  rw [hs]
  show wpAny _ _ (spliced ((false, eval e X.env) :: backTo pos (starEach es X.env))) _ _ s
  refine Calls.spliced_cons (thn (ha pins s σ H _ I h) fun u s1 ⟨x, H1, I1, r1, q1⟩ => ?_)
  exact thn (hr pos pins s1 σ H1 _ I1 q1) fun us s2 ⟨xs, H2, I2, r2, q2⟩ => ⟨x :: xs, H2, I2, .cons r1 r2, q2⟩

def tTup (t : TA) : TE := fun σ H Q => t σ H fun xs H1 => xs.length ≤ sizeLine ∧ ∀ p, H1 p = none → Q (.ref p) (upd H1 p (.tup xs))
def tLst (t : TA) : TE := fun σ H Q => t σ H fun xs H1 => xs.length ≤ sizeLine ∧ ∀ p, H1 p = none → Q (.ref p) (upd H1 p (.lst xs))
theorem pe_tup {x1} (h : PA X es t) : PE X (.Tuple es x1 pos) (tTup t) := by
  intro pins s σ H Q I hq
  refine wpAny_Tuple_spliced (thn (h pos pins s σ H _ I hq) fun us s1 ⟨xs, H1, I1, r, z, q⟩ => ⟨by rw [← r.length]; exact z, ?_⟩)
  have hf : H1 s1.heap.objs.size = none := I1.hok.fresh (Nat.le_refl _)
  refine ⟨.ref s1.heap.objs.size, upd H1 s1.heap.objs.size (.tup xs), I1.laid (t' := s1.toks) (fun b u e => Heap.get?_push_of_some _ e) (Nat.le_refl _) ?_, rfl, q _ hf⟩
  exact ⟨z, us, 0, r, Heap.get?_push_size _ rfl⟩
theorem pe_lst (h : PA X es t) : PE X (.List es pos) (tLst t) := by
  intro pins s σ H Q I hq
  refine wpAny_List_spliced (thn (h pos pins s σ H _ I hq) fun us s1 ⟨xs, H1, I1, r, z, q⟩ => ⟨by rw [← r.length]; exact z, ?_⟩)
  have hf : H1 s1.heap.objs.size = none := I1.hok.fresh (Nat.le_refl _)
  refine ⟨.ref s1.heap.objs.size, upd H1 s1.heap.objs.size (.lst xs), I1.laid (t' := s1.toks) (fun b u e => Heap.get?_push_of_some _ e) (Nat.le_refl _) ?_, rfl, q _ hf⟩
  exact ⟨z, us, 0, r, Heap.get?_push_size _ rfl⟩
end

/-! ### what a def promises -/
abbrev Sp := List V → Hp → VK → XK → Prop
abbrev CXT := List Env → Hp → Shared → XK → Value → Shared → Prop

structure Env0 (P : Program) (w : World) (K : PySem.W.Frag) (mg : Str → Option Value) (base : Heap) (A : Around) (outer : List Env) (s : Shared) (H : Hp) : Prop where
  frames : A.frames = some outer
  mod : Mod K mg base
  bs : ∀ b o, base.get? b = some o → s.heap.get? b = some o ∧ H b = none
  bsz : base.objs.size ≤ s.heap.objs.size
  funs : s.heap.FunFrames base outer
  frf : ∀ b ∈ frs outer, H b = none
  hok : HOk P w H s.heap
  bare : AllBare s.gens
def CE (outer : List Env) (P : Program) (w : World) (H : Hp) (s : Shared) (Q : VK) (u : Value) (s' : Shared) : Prop :=
  ∃ v H', s'.os = s.os ∧ AllBare s'.gens ∧ Un (frs outer) [] H H' s.heap s'.heap ∧ HOk P w H' s'.heap ∧ RelV v u ∧ Q v H'
def CR (CX : CXT) (outer : List Env) (P : Program) (w : World) (H : Hp) (s : Shared) (Q : VK) (E : XK) (r : Result) (s' : Shared) : Prop :=
  match r with
  | .ok (.ret u) => CE outer P w H s Q u s'
  | .ok _ => False
  | .error e => CX outer H s E e s'
structure FnOk (P : Program) (w : World) (K : PySem.W.Frag) (mg : Str → Option Value) (base : Heap) (CX : CXT) (k : Nat) (f : Addr) (fd : FuncData) (ps : List Str) (sp : Sp) : Prop where
  len : ∀ vs H Q E, sp vs H Q E → vs.length = ps.length
  run : ∀ (A : Around) (outer : List Env) (s : Shared) (H : Hp) (args : Args) (us : List Value) (vs : List V) (Q : VK) (E : XK), Room k A → Env0 P w K mg base A outer s H → BindsTo s fd args (ps.zip us) → Vals vs us → sp vs H Q E →
    codeAny (model P w) A (.call (.ref f) args) (CR CX outer P w H s Q E) s
theorem FnOk.mono {P : Program} {w : World} {K : PySem.W.Frag} {mg : Str → Option Value} {base : Heap} {CX : CXT} {j k : Nat} {f : Addr} {fd : FuncData} {ps : List Str} {sp : Sp} (F : FnOk P w K mg base CX j f fd ps sp) (h : j ≤ k) :
    FnOk P w K mg base CX k f fd ps sp := ⟨F.len, fun A outer s H args us vs Q E hr => F.run A outer s H args us vs Q E (hr.mono h)⟩
section
variable {X : Cx} {pins : List (Addr × Obj)} {σ : St} {H : Hp} {s s' : Shared}
theorem Inv.env0 (I : Inv X pins σ H s) : Env0 X.prog X.w X.K X.mg X.base X.A X.stack s H :=
  ⟨I.ok.frames, I.ok.mod, I.bs, Nat.le_trans I.ok.bsz I.sz, I.stack, I.stkFree, I.hok, I.bare⟩
theorem Inv.after {Q : VK} {u : Value} (I : Inv X pins σ H s) (h : CE X.stack X.prog X.w H s Q u s') : EP X pins σ Q u s' := by
  obtain ⟨v, H', os, bare, un, hok, r, q⟩ := h
  obtain ⟨hh, g, d, t, os'⟩ := s'
  obtain rfl : os' = s.os := os
  exact ⟨v, H', I.call (h' := hh) (g' := g) (d' := d) (t' := t) (ch := []) un hok bare (fun b z => absurd z (by simp)), r, q⟩
end

/-! ### calls -/
def tCall (sp : Sp) (dvs : List V) (E : XK) (t : TA) : TE := fun σ H Q => t σ H fun vs H1 => sp (vs ++ dvs) H1 Q E
def Binds (K : PySem.W.Frag) (fd : FuncData) (ps : List Str) (ds : List Value) : Prop :=
  ∀ (s : Shared) (us : List Value), K.In s.heap → (us ++ ds).length = ps.length → BindsTo s fd ⟨us, []⟩ (ps.zip (us ++ ds))
theorem Binds.all {K : PySem.W.Frag} {fd : FuncData} {ps : List Str} (h : ∀ us : List Value, us.length = ps.length → bindArgs fd ⟨us, []⟩ = pure (ps.zip us)) : Binds K fd ps [] := fun s us _ hl => by
  rw [List.append_nil] at hl ⊢
  exact .of_eq (h us hl)

def Passes (CX : CXT) (X : Cx) (E : XK) : Prop := ∀ (pins : List (Addr × Obj)) (σ : St) (H : Hp) (s : Shared) (e : Value) (s' : Shared), Inv X pins σ H s → CX X.stack H s E e s' → X.xe e s'

section
variable {X : Cx} {CX : CXT} {k : Nat} {f C : Addr} {fd : FuncData} {ps : List Str} {sp : Sp} {dvs : List V} {ds : List Value} {E : XK} {x m : Str} {p pos apos : Pos} {e o : Expr} {es : List Expr} {ta : TE} {t : TA}

theorem run_fn {pins : List (Addr × Obj)} {σ : St} {H : Hp} {s : Shared} {Q : VK} {us : List Value} {vs : List V} (F : FnOk X.prog X.w X.K X.mg X.base CX k f fd ps sp) (hr : Room k X.A) (hb : Binds X.K fd ps ds) (hd : Vals dvs ds) (hx : Passes CX X E)
    (I : Inv X pins σ H s) (r : Vals vs us) (h : sp (vs ++ dvs) H Q E) : wpAny (model X.prog X.w) X.A (call (.ref f) us) (EP X pins σ Q) X.xe s := by
  have r2 : Vals (vs ++ dvs) (us ++ ds) := r.append hd
  have hl : (us ++ ds).length = ps.length := by rw [← r2.length]; exact F.len _ _ _ _ h
  refine wpAny_call (codeAny_mono (F.run X.A X.stack s H ⟨us, []⟩ (us ++ ds) (vs ++ dvs) Q E hr I.env0 (hb s us I.kIn hl) r2 h) fun r s' hq => ?_)
  cases r with
  | error e => exact hx pins σ H s e s' I hq
  | ok fl =>
    cases fl with
    | ret u => exact I.after hq
    | next => exact False.elim hq
    | brk => exact False.elim hq
    | cont => exact False.elim hq

theorem pe_call (F : FnOk X.prog X.w X.K X.mg X.base CX k f fd ps sp) (hr : Room k X.A) (hg : Gl X x) (hm : X.mg x = some (.ref f)) (hk : PySem.W.keepIn X.K (.ref f) = true) (hb : Binds X.K fd ps ds) (hd : Vals dvs ds) (hx : Passes CX X E)
    (ha : PA X (e :: es) t) (hdb : (x == ("__debug__" : Str)) = false := by decide) (he : starEach (e :: es) X.env = (false, eval e X.env) :: starEach es X.env := by rfl) (hpl : (backTo pos (starEach es X.env)).any (·.1) = false := by rfl) :
    PE X (.Call (.Name x p) (e :: es) [] pos) (tCall sp dvs E t) := by
  intro pins s σ H Q I h
  refine wpAny_Call_Name_kw (ld_glob I hg hm ?_ hdb)
  refine PySem.W.callWith_K (h₀ := X.base) I.ok.mod.kin hk (thn (ha pos pins s σ H _ I h) fun us s1 ⟨vs, H1, I1, r, q⟩ => ⟨I1.kIn, ?_⟩) he hpl
  exact run_fn F hr hb hd hx I1 r q
theorem pe_call0 (F : FnOk X.prog X.w X.K X.mg X.base CX k f fd ps sp) (hr : Room k X.A) (hg : Gl X x) (hm : X.mg x = some (.ref f)) (hk : PySem.W.keepIn X.K (.ref f) = true) (hb : Binds X.K fd ps ds) (hd : Vals dvs ds) (hx : Passes CX X E)
    (hdb : (x == ("__debug__" : Str)) = false := by decide) : PE X (.Call (.Name x p) [] [] pos) (tCall sp dvs E tNil) := by
  intro pins s σ H Q I h
  refine wpAny_Call_Name_kw (ld_glob I hg hm ?_ hdb)
  exact PySem.W.callWith_K0 I.kIn hk (run_fn (us := []) F hr hb hd hx I .nil h)

end

/-! ### keywords -/
section
variable {X : Cx} {CX : CXT} {k : Nat} {f C : Addr} {fd : FuncData} {ps ks : List Str} {sp : Sp} {E : XK} {x m : Str} {p pos apos kpos : Pos} {e o : Expr} {es : List Expr} {kws : List Keyword} {te ta : TE} {t tk : TA} {nm : Option Str}
variable {g : List Value → List Value → List Value} {gV : List V → List V → List V}
end

/-! ### a def's body keeps its promise -/
structure FnScope (N P : List Str) (sc : Scope) : Prop where
  kind : sc.kind = .function
  co : sc.isCoroutine = false
  gen : sc.isGenerator = false
  nd : N.Nodup
  pre : N.take P.length = P
  par : ∀ x ∈ P, sc.names.lookup x = some .local ∨ sc.names.lookup x = some .cell
  nofree : ∀ y ∈ sc.names, y.2 ≠ .free

theorem bindL_out {kindOf : Str → Option NameKind} {x : Str} : ∀ {binds : List (Str × Value)} {m : Str → Option Value}, (∀ v, (x, v) ∉ binds) → bindL kindOf binds m x = m x
  | [], _, _ => rfl
  | (n, v) :: r, m, h => by
    unfold bindL
    rw [bindL_out fun w hw => h w (List.mem_cons_of_mem _ hw)]
    split
    · have : x ≠ n := by rintro rfl; exact h v List.mem_cons_self
      simp [this]
    · rfl
theorem bindC_out {kindOf : Str → Option NameKind} {x : Str} : ∀ {binds : List (Str × Value)} {m : Str → Option Value}, (∀ v, (x, v) ∉ binds) → bindC kindOf binds m x = m x
  | [], _, _ => rfl
  | (n, v) :: r, m, h => by
    unfold bindC
    rw [bindC_out fun w hw => h w (List.mem_cons_of_mem _ hw)]
    split
    · rfl
    · have : x ≠ n := by rintro rfl; exact h v List.mem_cons_self
      simp [this]
theorem bindL_get {kindOf : Str → Option NameKind} {x : Str} {v : Value} : ∀ {P : List Str} {vs : List Value} {i : Nat} {m : Str → Option Value}, P.Nodup → P[i]? = some x → vs[i]? = some v → kindOf x = some .local →
    bindL kindOf (P.zip vs) m x = some v
  | [], _, _, _, _, h, _, _ => by simp at h
  | _ :: _, [], _, _, _, _, h, _ => by simp at h
  | p :: P, w :: vs, 0, m, nd, h1, h2, hk => by
    simp at h1 h2; subst h1; subst h2
    show bindL kindOf ((p, w) :: P.zip vs) m p = _
    unfold bindL
    rw [bindL_out fun v hv => (List.nodup_cons.mp nd).1 (List.of_mem_zip hv).1, if_pos hk]
    simp
  | p :: P, w :: vs, i + 1, m, nd, h1, h2, hk => by
    show bindL kindOf ((p, w) :: P.zip vs) m x = _
    unfold bindL
    exact bindL_get (i := i) (List.nodup_cons.mp nd).2 (by simpa using h1) (by simpa using h2) hk
theorem bindC_get {kindOf : Str → Option NameKind} {x : Str} {v : Value} : ∀ {P : List Str} {vs : List Value} {i : Nat} {m : Str → Option Value}, P.Nodup → P[i]? = some x → vs[i]? = some v → kindOf x ≠ some .local →
    bindC kindOf (P.zip vs) m x = some v
  | [], _, _, _, _, h, _, _ => by simp at h
  | _ :: _, [], _, _, _, _, h, _ => by simp at h
  | p :: P, w :: vs, 0, m, nd, h1, h2, hk => by
    simp at h1 h2; subst h1; subst h2
    show bindC kindOf ((p, w) :: P.zip vs) m p = _
    unfold bindC
    rw [bindC_out fun v hv => (List.nodup_cons.mp nd).1 (List.of_mem_zip hv).1, if_neg hk]
    simp
  | p :: P, w :: vs, i + 1, m, nd, h1, h2, hk => by
    show bindC kindOf ((p, w) :: P.zip vs) m x = _
    unfold bindC
    exact bindC_get (i := i) (List.nodup_cons.mp nd).2 (by simpa using h1) (by simpa using h2) hk

def start (N : List Str) (vs : List V) : St := vs.map some ++ List.replicate (N.length - vs.length) none

def cxOf (CX : CXT) (P : Program) (w : World) (K : PySem.W.Frag) (mg : Str → Option Value) (base : Heap) (N : List Str) (qual : Str) (scope : Scope) (f : Addr) (cd : Value) (A : Around) (outer : List Env) (s : Shared) (H : Hp) (E : XK) : Cx where
  prog := P
  w := w
  K := K
  mg := mg
  base := base
  A := A.deeper (envOfC qual scope s.heap.objs.size f cd)
  N := N
  s₀ := s
  H₀ := H
  env := envOfC qual scope s.heap.objs.size f cd
  outer := outer
  stack := envOfC qual scope s.heap.objs.size f cd :: outer
  ex := []
  calm := true
  fn := fun _ => true
  pn := []
  xe := fun e s' => wpAny (model P w) (A.deeper (envOfC qual scope s.heap.objs.size f cd)) (leaving (envOfC qual scope s.heap.objs.size f cd) e) (fun _ s'' => CX outer H s E e s'') (fun e' s'' => CX outer H s E e' s'') s'

theorem cell_has {sc : Scope} {n : Nat} {x : Str} (h : sc.names.lookup x = some .cell) : ∃ c, (cellsFrom n sc.names []).lookup x = some c := by
  have q := PySem.W.cellsFrom_some sc.names n [] (.inl h)
  exact Option.isSome_iff_exists.mp q

theorem inv_start {CX : CXT} {P : Program} {w : World} {K : PySem.W.Frag} {mg : Str → Option Value} {base : Heap} {N ps : List Str} {qual : Str} {scope : Scope} {f : Addr} {cd : Value} {A : Around} {outer : List Env} {s s1 : Shared} {H : Hp} {E : XK} {us : List Value} {vs : List V}
    (S : FnScope N ps scope) (hd : A.handled = none) (e0 : Env0 P w K mg base A outer s H) (hl : vs.length = ps.length) (r : Vals vs us)
    (x : InCallC s s.heap.objs.size (bindL (envOfC qual scope s.heap.objs.size f cd).kindOf (ps.zip us) fun _ => none) (cellsFrom (s.heap.objs.size + 1) scope.names []) (bindC (envOfC qual scope s.heap.objs.size f cd).kindOf (ps.zip us) fun _ => none) s1) :
    Inv (cxOf CX P w K mg base N qual scope f cd A outer s H E) [] (start N vs) H s1 := by
  have hpl : ps.length ≤ N.length := by have := congrArg List.length S.pre; rw [List.length_take] at this; omega
  obtain ⟨h1, tk, rfl, hk⟩ := x.done
  have noA : ∀ b : Addr, b ∉ (cxOf CX P w K mg base N qual scope f cd A outer s H E).ex := fun b z => absurd (show b ∈ ([] : List Addr) from z) (by simp)
  refine ⟨⟨e0.mod, S.kind, rfl, rfl, Nat.le_refl _, fun y z c h1 h2 => ?_, fun y hy => ?_, fun y c _ h => ?_, fun _ => hd, Around.frames_deeper e0.frames, .inr ⟨rfl, rfl⟩, fun b z => absurd z (noA b), e0.bs, e0.bsz, fun b _ _ => noA b, fun b z => absurd z (noA b), e0.funs, e0.frf⟩,
    rfl, e0.bare, Un.kept hk, ⟨_, x.toInCall.ns, fun i y v h1 h2 h3 => ?_⟩, fun y c h => ⟨_, x.cell y c h⟩, e0.hok.fresh (Nat.le_refl _), fun y c h => ?_, fun p hp => absurd (show p ∈ ([] : List (Addr × Obj)) from hp) (by simp), e0.hok.kept hk, ?_⟩
  · exact name_of_addr x.apart (PySem.mem_of_lookup h1) (PySem.mem_of_lookup h2)
  · have hy : scope.names.lookup y = some .cell ∨ scope.names.lookup y = some .free := hy
    rcases hy with hy | hy
    · exact cell_has hy
    · exact absurd rfl (S.nofree _ (PySem.mem_of_lookup hy))
  · exact Nat.le_of_lt (x.above y c (PySem.mem_of_lookup h))
  · have hi : i < vs.length := by
      unfold start at h2
      by_cases hi : i < vs.length
      · exact hi
      · rw [List.getElem?_append_right (by simpa using hi)] at h2
        rw [List.getElem?_replicate] at h2
        split at h2 <;> cases h2
    have ha : vs[i]? = some v := by
      unfold start at h2
      rw [List.getElem?_append_left (by simpa using hi), List.getElem?_map] at h2
      cases e : vs[i]? with
      | none => rw [e] at h2; cases h2
      | some a => rw [e] at h2; cases h2; rfl
    obtain ⟨u, hu, rv⟩ := r.get ha
    have hp : ps[i]? = some y := by
      rw [← S.pre, List.getElem?_take_of_lt (by omega)]; exact h1
    have ndP : ps.Nodup := by rw [← S.pre]; exact S.nd.sublist (List.take_sublist _ _)
    refine ⟨u, rv, ?_⟩
    rcases S.par y (List.mem_of_getElem? hp) with k | k
    · exact .inl ⟨k, bindL_get ndP hp hu k⟩
    · obtain ⟨c, e⟩ := cell_has (n := s.heap.objs.size + 1) k
      refine .inr ⟨.inl k, c, e, ?_⟩
      have q := x.cell y c e
      rw [bindC_get ndP hp hu (by show scope.names.lookup y ≠ _; rw [k]; decide)] at q
      exact q
  · exact e0.hok.fresh (Nat.le_of_lt (x.above y c (PySem.mem_of_lookup h)))
  · unfold start
    show _ = N.length
    rw [List.length_append, List.length_map, List.length_replicate]
    omega

theorem fn_of {CX : CXT} {P : Program} {w : World} {K : PySem.W.Frag} {mg : Str → Option Value} {base : Heap} {k : Nat} {f : Addr} {name qual : Str} {params : Arguments} {body : List Stmt} {scope : Scope} {dV kV doc pm cdv ct oc : Value} {an od : Option Addr}
    {osl : Array (Option Value)} {N ps : List Str} {sp : Sp} (lk : K.lookup f = some ⟨oc, od, .func (PySem.W.fnOf name qual params body scope dV kV doc pm an cdv ct), osl⟩) (hcd : PySem.W.codeIn K cdv qual = true) (S : FnScope N ps scope)
    (len : ∀ vs H Q E, sp vs H Q E → vs.length = ps.length)
    (hbody : ∀ (A : Around) (outer : List Env) (s : Shared) (H : Hp) (vs : List V) (Q : VK) (E : XK), Room k (A.deeper (envOfC qual scope s.heap.objs.size f cdv)) → sp vs H Q E →
      ∃ t, PSs (cxOf CX P w K mg base N qual scope f cdv A outer s H E) body t ∧ t { nx := fun _ H' => Q .non H', rt := Q } (start N vs) H) :
    FnOk P w K mg base CX (k + 1) f (PySem.W.fnOf name qual params body scope dV kV doc pm an cdv ct) ps sp := by
  refine ⟨len, fun A outer s H args us vs Q E hr e0 hb r hsp => ?_⟩
  have hl := len _ _ _ _ hsp
  have KX : K.In s.heap := e0.mod.kin.keeps fun b o e => (e0.bs b o e).1
  have lim : s.heap.NoLimit := e0.mod.nolimit.keeps fun b o e => (e0.bs b o e).1
  have hkind : ∀ y ∈ ps.zip us, scope.names.lookup y.1 = some .local ∨ (scope.names.lookup y.1 = some .cell ∧ ((cellsFrom (s.heap.objs.size + 1) scope.names []).lookup y.1).isSome = true) := fun ⟨n, v⟩ hy => by
    rcases S.par n (List.of_mem_zip hy).1 with q | q
    · exact .inl q
    · exact .inr ⟨q, PySem.W.cellsFrom_some _ _ _ (.inl q)⟩
  refine codeAny_call_function hr.depth (KX _ _ lk) rfl S.co S.gen rfl (PySem.W.codeRec_of KX hcd) (hb _ _ _ _ ?_)
  refine wpAny_newFunctionEnv_cells S.kind hkind fun env he s1 x => ?_
  subst he
  refine ⟨lim.keeps x.toInCall.keep, codeAny_func ?_⟩
  obtain ⟨t, ht, hq⟩ := hbody A outer s H vs Q E (hr.deeper _) hsp
  have I : Inv (cxOf CX P w K mg base N qual scope f cdv A outer s H E) [] (start N vs) H s1 := inv_start S hr.hd e0 hl r x
  refine wpAny_mono (ht [] s1 (start N vs) H _ I hq) (fun fl s' hs => ?_) fun e s' hs => hs
  have fin : ∀ {σ' : St} {H' : Hp} {v : V} {u : Value}, Inv (cxOf CX P w K mg base N qual scope f cdv A outer s H E) [] σ' H' s' → RelV v u → Q v H' → CE outer P w H s Q u s' :=
    fun {σ' H' v u} J rv q => ⟨v, H', J.os, J.bare, J.base, J.hok, rv, q⟩
  cases fl with
  | ret u =>
    obtain ⟨v, σ', H', J, rv, q⟩ := hs
    exact fin J rv q
  | next =>
    obtain ⟨σ', H', J, q⟩ := hs
    exact fin (v := V.non) (u := Value.none) J rfl q
  | brk =>
    obtain ⟨_, _, _, q⟩ := hs
    exact False.elim q
  | cont =>
    obtain ⟨_, _, _, q⟩ := hs
    exact False.elim q
end L2

namespace L2
open PySem PySem.Spec PyProof.Rows
section
variable {X : Cx} {x : Str} {p pos : Pos} {e : Expr} {es : List Expr} {t : TA} {id T : String} {r : List V → Hp → VK → Prop}

def tCB (r : List V → Hp → VK → Prop) (t : TA) : TE := fun σ H Q => t σ H fun vs H1 => r vs H1 Q
theorem pe_callB (hc : CallR X (.builtin id) r) (hg : Gl X x) (hm : X.mg x = none) (hv : bootBuiltins x = some (.builtin id)) (ha : PA X (e :: es) t) (hn : x ≠ "__name__" := by decide) (hdb : (x == ("__debug__" : Str)) = false := by decide)
    (he : starEach (e :: es) X.env = (false, eval e X.env) :: starEach es X.env := by rfl) (hpl : (backTo pos (starEach es X.env)).any (·.1) = false := by rfl) : PE X (.Call (.Name x p) (e :: es) [] pos) (tCB r t) := by
  intro pins s σ H Q I h
  refine wpAny_Call_Name_kw (ld_blt I hg hm hv ?_ hn hdb)
  exact PyProof.Rows.callWith_builtin1 (thn (ha pos pins s σ H _ I h) fun us s1 ⟨vs, H1, I1, r1, q1⟩ => hc pins s1 σ H1 vs us Q I1 r1 q1) he hpl
theorem pe_callTy (hc : CallR X (.type T) r) (hg : Gl X x) (hm : X.mg x = none) (hv : bootBuiltins x = some (.type T)) (ha : PA X (e :: es) t) (hn : x ≠ "__name__" := by decide) (hdb : (x == ("__debug__" : Str)) = false := by decide)
    (he : starEach (e :: es) X.env = (false, eval e X.env) :: starEach es X.env := by rfl) (hpl : (backTo pos (starEach es X.env)).any (·.1) = false := by rfl) : PE X (.Call (.Name x p) (e :: es) [] pos) (tCB r t) := by
  intro pins s σ H Q I h
  refine wpAny_Call_Name_kw (ld_blt I hg hm hv ?_ hn hdb)
  exact PyProof.Rows.callWith_type1 (thn (ha pos pins s σ H _ I h) fun us s1 ⟨vs, H1, I1, r1, q1⟩ => hc pins s1 σ H1 vs us Q I1 r1 q1) he hpl
end
end L2

namespace HT
open PySem PyProof.Rows

section
open PySem.SeqAt
open PySem.AutoSeq1 (wpAny_loadPart')
open PySem.MeetsSeq PySem.MeetsSeq2 PySem.MeetsSeq3

end

section
variable {prog : Program} {w : World} {A : Around} {E : Value → Shared → Prop} {s : Shared}

theorem cat_tup {t b : Addr} {vs ws : List Value} {Q : Value → Shared → Prop} (ht : IsTup s.heap t vs.toArray) (hb : IsTup s.heap b ws.toArray) (hv : vs ≠ [])
    (h1 : ws = [] → Q (.ref t) s) (h2 : ws ≠ [] → Q (.ref s.heap.objs.size) { s with heap := s.heap.push { cls := .type "tuple", data := .seq (vs ++ ws).toArray } })
    (hsz : vs.length + ws.length ≤ sizeLine) : wpAny (model prog w) A (binaryOp .Add (.ref t) (.ref b)) Q E s := by
  obtain ⟨⟨cls, dd, data, sl⟩, ho, hc, n, hd⟩ := id ht
  obtain ⟨⟨cls2, dd2, data2, sl2⟩, ho2, hc2, n2, hd2⟩ := id hb
  simp only at hc hd hc2 hd2
  subst hc hd hc2 hd2
  have e : vs.toArray ++ ws.toArray = (vs ++ ws).toArray := by simp
  by_cases hw : ws = []
  · exact concat_meets ⟨_, ho, rfl⟩ ⟨_, ho2, rfl⟩ noFill_tuple_add seq_tuple_add PySem.F.slot_tuple_add PySem.F.entry_tuple_add (PySem.F.args_tuple_add_2 _ _)
      (tuple_addW1 t b vs.toArray ws.toArray n n2 dd dd2 sl sl2 (by simpa using hv) (by simp [hw])) ⟨ho, ho2, h1 hw⟩
  · refine concat_meets ⟨_, ho, rfl⟩ ⟨_, ho2, rfl⟩ noFill_tuple_add seq_tuple_add PySem.F.slot_tuple_add PySem.F.entry_tuple_add (PySem.F.args_tuple_add_2 _ _)
      (tuple_addW2 t b vs.toArray ws.toArray n n2 dd dd2 sl sl2 (by simpa using hv) (by simpa using hw) (by rw [List.size_toArray, List.size_toArray]; exact hsz)) ⟨ho, ho2, ?_⟩
    rw [e]
    exact h2 hw

/-! ### t[a:b], not the whole -/
def sIx (n d : Nat) : Option Int → Nat
  | none => d
  | some v => if v < 0 then (v + (n : Int)).toNat else min v.toNat n
theorem sIx_none (n d : Nat) : sIx n d none = d := rfl
theorem sIx_nat (n d k : Nat) : sIx n d (some (k : Int)) = min k n := by
  show (if (k : Int) < 0 then ((k : Int) + (n : Int)).toNat else min (k : Int).toNat n) = min k n
  rw [if_neg (by omega), Int.toNat_natCast]
end
end HT

namespace L2
open PySem PySem.Spec PyProof.Rows

/-! ### the parts of a slice -/
abbrev TO := St → Hp → (Option Int → Hp → Prop) → Prop
def PO (X : Cx) (e : Option Expr) (t : TO) : Prop :=
  ∀ (pins : List (Addr × Obj)) (s : Shared) (σ : St) (H : Hp) (Q : Option Int → Hp → Prop), Inv X pins σ H s → t σ H Q →
    wpAny (model X.prog X.w) X.A (evalPart e X.env) (fun u s' => ∃ o H', Inv X pins σ H' s' ∧ IsPart u o ∧ Q o H') X.xe s
def tNoPart : TO := fun _ H Q => Q none H
def tPart (t : TE) : TO := fun σ H Q => t σ H fun x H1 => ∃ i, x = .int i ∧ Q (some i) H1

section
variable {X : Cx} {e : Expr} {te : TE} {lo hi : Option Expr} {tl th : TO} {pos p2 : Pos}

theorem po_none : PO X none tNoPart := by
  intro pins s σ H Q I h
  rw [evalPart_none]
  exact wpAny_pure ⟨none, H, I, .none, h⟩
theorem po_some (h : PE X e te) : PO X (some e) (tPart te) := by
  intro pins s σ H Q I hw
  rw [evalPart_some]
  refine thn (h pins s σ H _ I hw) fun u s1 ⟨x, H1, I1, r1, q1⟩ => ?_
  obtain ⟨i, rfl, q⟩ := q1
  obtain ⟨t, rfl⟩ := r1
  exact ⟨some i, H1, I1, .int i t, q⟩

def SlR (X : Cx) (r : V → Option Int → Option Int → Hp → VK → Prop) : Prop :=
  ∀ (pins : List (Addr × Obj)) (s : Shared) (σ : St) (H : Hp) (x : V) (v vl vu : Value) (lo hi : Option Int) (sl : Addr) (Q : VK), Inv X pins σ H s → RelV x v → s.heap.IsSliceOf sl vl vu .none → IsPart vl lo → IsPart vu hi → r x lo hi H Q →
    ∃ T id, typeLookup (.type T) "__getitem__" = pure (some (.builtin id)) ∧ s.TypeIs v T ∧ wpAny (model X.prog X.w) X.A (getItem v (.ref sl)) (EP X pins σ Q) X.xe s
def tSl (r : V → Option Int → Option Int → Hp → VK → Prop) (te : TE) (tl th : TO) : TE := fun σ H Q => te σ H fun x H1 => tl σ H1 fun l H2 => th σ H2 fun u H3 => r x l u H3 Q
theorem pe_slice {r : V → Option Int → Option Int → Hp → VK → Prop} (hr : SlR X r) (he : PE X e te) (hl : PO X lo tl) (hu : PO X hi th) : PE X (.Subscript e (.Slice lo hi none p2) pos) (tSl r te tl th) := by
  intro pins s σ H Q I h
  refine Subscript_ (thn (he pins s σ H _ I h) fun v s1 ⟨x, H1, I1, r1, q1⟩ => ?_)
  refine wpAny_Slice (thn (hl pins s1 σ H1 _ I1 q1) fun vl s2 ⟨l, H2, I2, pl, q2⟩ => thn (hu pins s2 σ H2 _ I2 q2) fun vu s3 ⟨u, H3, I3, pu, q3⟩ => ?_)
  rw [evalPart_none]
  refine wpAny_pure ?_
  have I4 : Inv X pins σ H3 { s3 with heap := s3.heap.push { cls := .type "slice", data := .fields #[vl, vu, .none] } } := I3.kept (t' := s3.toks) fun b ob q => Heap.get?_push_of_some _ q
  obtain ⟨T, id, hT, ht, hg⟩ := hr pins { s3 with heap := s3.heap.push { cls := .type "slice", data := .fields #[vl, vu, .none] } } σ H3 x v vl vu l u s3.heap.objs.size Q I4 r1 (Heap.IsSliceOf.new ..) pl pu q3
  show wpAny (model X.prog X.w) X.A (subscriptTail e (.Slice lo hi none p2) v (.ref s3.heap.objs.size)) (EP X pins σ Q) X.xe { s3 with heap := s3.heap.push { cls := .type "slice", data := .fields #[vl, vu, .none] } }
  exact tail_any (ops := [.ref s3.heap.objs.size, v]) ht hT hg (by with_unfolding_all rfl)

def cutV (xs : List V) (lo hi : Option Int) : List V := (xs.drop (HT.sIx xs.length 0 lo)).take (HT.sIx xs.length xs.length hi - HT.sIx xs.length 0 lo)
theorem cutV_length (xs : List V) (lo hi : Option Int) : (cutV xs lo hi).length ≤ xs.length := by
  unfold cutV
  rw [List.length_take, List.length_drop]
  omega
/-! ### t < u, t + u -/
def rCatT (K : PySem.W.Frag) : R2 := fun x y H Q => ∃ a b xs ys, x = .ref a ∧ y = .ref b ∧ SqT K H a xs ∧ SqT K H b ys ∧ xs ≠ [] ∧ xs.length + ys.length ≤ sizeLine ∧
  (ys = [] → Q (.ref a) H) ∧ (ys ≠ [] → ∀ p, H p = none → Q (.ref p) (upd H p (.tup (xs ++ ys))))
theorem Vals.nil_iff {xs : List V} {us : List Value} (r : Vals xs us) : us = [] ↔ xs = [] := by
  cases r with
  | nil => simp
  | cons _ _ => simp
theorem op_catT : OpR X (binaryOp .Add) (rCatT X.K) := by
  intro pins s σ H x y v u Q I rx ry h
  obtain ⟨a, b, xs, ys, rfl, rfl, ha, hb, hx, hz, q1, q2⟩ := h
  cases rx
  cases ry
  obtain ⟨its, r1, p1, _⟩ := I.tuple ha
  obtain ⟨its2, r2, p2, _⟩ := I.tuple hb
  refine HT.cat_tup p1 p2 (fun z => hx (r1.nil_iff.mp z)) (fun z => ⟨.ref a, H, I, rfl, q1 (r2.nil_iff.mp z)⟩) (fun z => ?_) (by rw [← r1.length, ← r2.length]; exact hz)
  refine ⟨.ref s.heap.objs.size, _, I.laid (t' := s.toks) (o := .tup (xs ++ ys)) (fun b ob q => Heap.get?_push_of_some _ q) (Nat.le_refl _) ?_, rfl, q2 (fun w => z (r2.nil_iff.mpr w)) _ (I.hok.fresh (Nat.le_refl _))⟩
  exact ⟨by rw [List.length_append]; exact hz, _, 0, r1.append r2, Heap.get?_push_size _ rfl⟩
end
end L2

namespace L2
open PySem PySem.Spec PyProof.Rows

/-! ### places -/
def ixN (n : Nat) (i : Int) : Option Nat := if 0 ≤ i then (if i < n then some i.toNat else none) else if -(n : Int) ≤ i then some (i + n).toNat else none
def atI {α : Type} (xs : List α) (i : Int) : Option α := (ixN xs.length i).bind fun j => xs[j]?
theorem ixN_seq {n : Nat} {i : Int} {j : Nat} (h : ixN n i = some j) : seqIndex? i n = some j ∧ j < n ∧ -(n : Int) ≤ i ∧ i < n := by
  unfold ixN at h
  by_cases h0 : 0 ≤ i
  · rw [if_pos h0] at h
    by_cases h1 : i < n
    · rw [if_pos h1] at h
      have e : i.toNat = j := Option.some.inj h
      exact ⟨by rw [seqIndex_of h0 h1, e], by omega, by omega, h1⟩
    · rw [if_neg h1] at h; cases h
  · rw [if_neg h0] at h
    by_cases h1 : -(n : Int) ≤ i
    · rw [if_pos h1] at h
      have e : (i + n).toNat = j := Option.some.inj h
      exact ⟨by rw [seqIndex_neg (by omega) h1, e], by omega, h1, by omega⟩
    · rw [if_neg h1] at h; cases h
theorem atI_get {α : Type} {xs : List α} {i : Int} {v : α} (h : atI xs i = some v) : ∃ j, seqIndex? i xs.length = some j ∧ xs[j]? = some v ∧ j < xs.length ∧ -(xs.length : Int) ≤ i ∧ i < xs.length := by
  unfold atI at h
  cases e : ixN xs.length i with
  | none => rw [e] at h; cases h
  | some j =>
    rw [e] at h
    obtain ⟨h1, h2, h3, h4⟩ := ixN_seq e
    exact ⟨j, h1, h, h2, h3, h4⟩
theorem atI_nat {α : Type} {xs : List α} {j : Nat} {v : α} (h : xs[j]? = some v) : atI xs (j : Int) = some v := by
  have hj : j < xs.length := (List.getElem?_eq_some_iff.mp h).1
  have e : ixN xs.length (j : Int) = some j := by
    unfold ixN
    rw [if_pos (by omega), if_pos (by omega)]; simp
  unfold atI; rw [e]; exact h
theorem atI_last {α : Type} (xs : List α) (v : α) : atI (xs ++ [v]) (-1) = some v := by
  have hl : (xs ++ [v]).length = xs.length + 1 := by simp
  have e : ixN (xs ++ [v]).length (-1) = some xs.length := by
    unfold ixN
    rw [hl, if_neg (by decide), if_pos (by omega)]
    congr 1
    omega
  unfold atI
  rw [e]
  show (xs ++ [v])[xs.length]? = some v
  simp

/-! ### what may be subscripted -/
def PlainIx (b : Expr) : Prop := ∀ o i, subscripted b false o i = operate [o, i] (getItem o i)
def IxR (X : Cx) (r : R2) : Prop :=
  ∀ (value slice : Expr) (pins : List (Addr × Obj)) (s : Shared) (σ : St) (H : Hp) (x y : V) (v u : Value) (Q : VK), Inv X pins σ H s → RelV x v → RelV y u → r x y H Q →
    subscripted slice false v u = operate [v, u] (getItem v u) → wpAny (model X.prog X.w) X.A (subscriptTail value slice v u) (EP X pins σ Q) X.xe s
def MtR (X : Cx) (id : String) (r : V → List V → Hp → VK → Prop) : Prop :=
  ∀ (pins : List (Addr × Obj)) (s : Shared) (σ : St) (H : Hp) (x : V) (xs : List V) (v : Value) (us : List Value) (Q : VK), Inv X pins σ H s → RelV x v → Vals xs us → r x xs H Q →
    wpAny (model X.prog X.w) X.A (call (.builtin id) (v :: us)) (EP X pins σ Q) X.xe s
section
variable {X : Cx} {a b : Expr} {ta tb : TE} {pos : Pos}
theorem IxR.or {r r' : R2} (h : IxR X r) (h' : IxR X r') : IxR X (fun x y H Q => r x y H Q ∨ r' x y H Q) := by
  intro value slice pins s σ H x y v u Q I rx ry q hs
  rcases q with q | q
  · exact h value slice pins s σ H x y v u Q I rx ry q hs
  · exact h' value slice pins s σ H x y v u Q I rx ry q hs
theorem pe_ix {r : R2} (hr : IxR X r) (ha : PE X a ta) (hb : PE X b tb) (hs : PlainIx b) : PE X (.Subscript a b pos) (tOp r ta tb) := by
  intro pins s σ H Q I h
  exact Subscript_ (binT ha hb I h fun v u s2 x y H2 I2 rx ry q => hr a b pins s2 σ H2 x y v u Q I2 rx ry q (hs _ _))

def rIxL (K : PySem.W.Frag) : R2 := fun x y H Q => ∃ p xs i v, x = .ref p ∧ y = .int i ∧ SqL K H p xs ∧ atI xs i = some v ∧ Q v H
def rIxT (K : PySem.W.Frag) : R2 := fun x y H Q => ∃ p xs i v, x = .ref p ∧ y = .int i ∧ SqT K H p xs ∧ atI xs i = some v ∧ Q v H
def rIxS : R2 := fun x y H Q => ∃ z i c, x = .str z ∧ y = .int i ∧ z.length ≤ sizeLine ∧ atI z.cps.toList i = some c ∧ Q (.str ⟨#[c]⟩) H
theorem ix_list : IxR X (rIxL X.K) := by
  intro value slice pins s σ H x y v u Q I rx ry h hs
  obtain ⟨p, xs, i, z, rfl, rfl, hq, he, q⟩ := h
  cases rx
  obtain ⟨t, rfl⟩ := ry
  obtain ⟨its, r, pl, hz⟩ := I.list hq
  obtain ⟨j, h1, h2, h3, h4, h5⟩ := atI_get he
  obtain ⟨w, ew, rw'⟩ := r.get h2
  have hl := r.length
  have hn := line63
  have fin : EP X pins σ Q w s := ⟨z, H, I, rw', q⟩
  by_cases h0 : 0 ≤ i
  · have hj : i.toNat = j := by
      rw [seqIndex_of h0 h5] at h1
      exact Option.some.inj h1
    exact item_listR pl.isList h0 (by omega) (by rw [hj]; simpa using ew) fin hs
  · have hj : (i + (its.toArray.size : Int)).toNat = j := by
      rw [seqIndex_neg (by omega) h4] at h1
      rw [List.size_toArray, ← hl]
      exact Option.some.inj h1
    exact subscriptTail_builtinR (x := w) pl.isList.typeIs slot_list_getitem.lookup
      (wpAny_getItem_list_neg (Q := fun r s' => r = w ∧ EP X pins σ Q r s') pl.isList (by omega) (by rw [List.size_toArray] <;> omega) (by omega) (by rw [hj]; simpa using ew) ⟨rfl, fin⟩) hs
theorem ix_tup : IxR X (rIxT X.K) := by
  intro value slice pins s σ H x y v u Q I rx ry h hs
  obtain ⟨p, xs, i, z, rfl, rfl, hq, he, q⟩ := h
  cases rx
  obtain ⟨t, rfl⟩ := ry
  obtain ⟨its, r, pl, hz⟩ := I.tuple hq
  obtain ⟨j, h1, h2, h3, h4, h5⟩ := atI_get he
  obtain ⟨w, ew, rw'⟩ := r.get h2
  have hl := r.length
  have hn := line63
  have fin : EP X pins σ Q w s := ⟨z, H, I, rw', q⟩
  exact subscriptTail_builtinR (x := w) pl.typeIs slot_tuple_getitem.lookup
    (getItem_tuple (j := j) (Q := fun r s' => r = w ∧ EP X pins σ Q r s') pl (by omega) (by omega) (by rw [List.size_toArray, ← hl]; exact h1) (by simpa using ew) ⟨rfl, fin⟩) hs
theorem ix_str : IxR X rIxS := by
  intro value slice pins s σ H x y v u Q I rx ry h hs
  obtain ⟨z, i, c, rfl, rfl, hz, he, q⟩ := h
  obtain ⟨t, rfl⟩ := rx
  obtain ⟨t', rfl⟩ := ry
  obtain ⟨j, h1, h2, h3, h4, h5⟩ := atI_get he
  have hl : z.cps.toList.length = z.length := by simp [Str.length]
  rw [hl] at h1 h4 h5
  have hn := line63
  exact tail_any (typeIs_str s z t) slot_str_getitem.lookup (getItem_str (c := c) (by
    have e1 : decide (i < -(2 ^ 63 : Int)) = false := decide_eq_false (by omega)
    have e2 : decide (i ≥ 2 ^ 63) = false := decide_eq_false (by omega)
    rw [e1, e2, Bool.or_false]) (by rw [h1]; simpa using h2) ⟨.str ⟨#[c]⟩, H, I.tok _, ⟨_, rfl⟩, q⟩) hs
/-! ### xs[i] = v, any sign -/
theorem mapSeq_set (its : List Value) (n j : Nat) (u : Value) : Obj.mapSeq (·.setIfInBounds j u) { cls := .type "list", data := .seq its.toArray n } = { cls := .type "list", data := .seq (its.set j u).toArray n } := by
  simp [Obj.mapSeq]
theorem Inv.lst {pins : List (Addr × Obj)} {σ : St} {H : Hp} {s : Shared} {p : Addr} {xs : List V} (I : Inv X pins σ H s) (h : H p = some (.lst xs)) :
    ∃ (its : List Value) (n : Nat), Vals xs its ∧ s.heap.get? p = some { cls := .type "list", data := .seq its.toArray n } ∧ xs.length ≤ sizeLine := by
  obtain ⟨z, its, n, r, e⟩ := I.hok p _ h
  exact ⟨its, n, r, e, z⟩
theorem Inv.lstUpd {pins : List (Addr × Obj)} {σ : St} {H : Hp} {s : Shared} {p : Addr} {xs ys : List V} {its its' : List Value} {n n' : Nat} {f : Obj → Obj} (I : Inv X pins σ H s) (h : H p = some (.lst xs))
    (ho : s.heap.get? p = some { cls := .type "list", data := .seq its.toArray n }) (hf : f { cls := .type "list", data := .seq its.toArray n } = { cls := .type "list", data := .seq its'.toArray n' }) (r : Vals ys its') (hz : ys.length ≤ sizeLine) (t : Nat) :
    Inv X pins σ (upd H p (.lst ys)) { s with heap := s.heap.update p f, toks := t } := by
  have e : (s.heap.update p f).get? p = some { cls := .type "list", data := .seq its'.toArray n' } := by
    rw [Heap.get?_update_self f ho (by rw [hf] <;> rfl), hf]
  refine I.write (x := p) (e := p) (by rw [h]; trivial) (.inl rfl) (fun b u hb q => (Heap.get?_update_other _ _ (Ne.symm hb)).trans q) ⟨_, e⟩ ?_
  exact ⟨hz, its', n', r, e⟩
def rSetL : V → V → V → Hp → (Hp → Prop) → Prop := fun o i v H Q => ∃ p xs k j, o = .ref p ∧ i = .int k ∧ H p = some (.lst xs) ∧ ixN xs.length k = some j ∧ Q (upd H p (.lst (xs.set j v)))
theorem set_list : PSet X rSetL := by
  intro pins s σ H o i v ov iv u Q I ro ri rv h
  obtain ⟨p, xs, k, j, rfl, rfl, hp, hj, q⟩ := h
  cases ro
  obtain ⟨t, rfl⟩ := ri
  obtain ⟨its, n, r, ho, hz⟩ := I.lst hp
  obtain ⟨h1, h2, h3, h4⟩ := ixN_seq hj
  have hl := r.length
  have hn := line63
  have I' : Inv X pins σ (upd H p (.lst (xs.set j v))) { s with heap := s.heap.update p (Obj.mapSeq (·.setIfInBounds j u)) } :=
    I.lstUpd hp ho (mapSeq_set its n j u) (r.set rv j) (by rw [List.length_set]; exact hz) s.toks
  by_cases h0 : 0 ≤ k
  · have hk : k.toNat = j := by
      rw [seqIndex_of h0 h4] at h1
      exact Option.some.inj h1
    exact PySem.W.ki_setAt ho h0 (by omega) (by rw [List.size_toArray, ← hl]; exact h4) (by rw [hk]; exact ⟨_, I', q⟩)
  · have hk : (k + (its.toArray.size : Int)).toNat = j := by
      rw [seqIndex_neg (by omega) h3] at h1
      rw [List.size_toArray, ← hl]
      exact Option.some.inj h1
    exact PySem.W.ki_setBack ho (by omega) (by rw [List.size_toArray, ← hl]; exact h3) (by omega) (by rw [hk]; exact ⟨_, I', q⟩)

/-! ### slices -/
theorem slice_bounds (lo hi : Option Int) (n : Nat) : (sliceBounds lo hi none n).1 = ((HT.sIx n 0 lo : Nat) : Int) ∧ (sliceBounds lo hi none n).2.1 = ((HT.sIx n n hi : Nat) : Int) ∧ (sliceBounds lo hi none n).2.2 = 1 := by
  refine ⟨?_, ?_, rfl⟩
  · cases lo with
    | none => simp [sliceBounds, HT.sIx]
    | some i =>
      simp only [sliceBounds, HT.sIx, Option.getD_none, show (1 : Int) > 0 by decide, if_true]
      by_cases h : i < 0
      · simp only [h, if_true] <;> omega
      · simp only [h, if_false] <;> omega
  · cases hi with
    | none => simp [sliceBounds, HT.sIx]
    | some i =>
      simp only [sliceBounds, HT.sIx, Option.getD_none, show (1 : Int) > 0 by decide, if_true]
      by_cases h : i < 0
      · simp only [h, if_true] <;> omega
      · simp only [h, if_false] <;> omega
theorem slicePick_cut (its : List Value) (lo hi : Option Int) : slicePick its.toArray lo hi none = ((its.drop (HT.sIx its.length 0 lo)).take (HT.sIx its.length its.length hi - HT.sIx its.length 0 lo)).toArray := by
  obtain ⟨h1, h2, h3⟩ := slice_bounds lo hi its.toArray.size
  unfold slicePick
  rw [h1, h2, h3]
  simp only [sliceRange_one, pick_run, List.size_toArray] <;> rfl
def rSlL (K : PySem.W.Frag) : V → Option Int → Option Int → Hp → VK → Prop := fun x lo hi H Q => ∃ a xs, x = .ref a ∧ SqL K H a xs ∧ ∀ p, H p = none → Q (.ref p) (upd H p (.lst (cutV xs lo hi)))
theorem sl_list : SlR X (rSlL X.K) := by
  intro pins s σ H x v vl vu lo hi sl Q I rx hs pl pu h
  obtain ⟨a, xs, rfl, hx, q⟩ := h
  cases rx
  obtain ⟨its, r, ht, hz⟩ := I.list hx
  have hlen := r.length
  refine ⟨"list", _, slot_list_getitem.lookup, ht.isList.typeIs, ?_⟩
  refine wpAny_getItem_list_slice ht.isList hs pl pu .none (by simp) ?_ (by rw [List.size_toArray] <;> omega)
  rw [slicePick_cut, ← hlen]
  refine ⟨.ref s.heap.objs.size, _, I.laid (t' := s.toks) (o := .lst (cutV xs lo hi)) (fun b ob q => Heap.get?_push_of_some _ q) (Nat.le_refl _) ?_, rfl, q _ (I.hok.fresh (Nat.le_refl _))⟩
  exact ⟨Nat.le_trans (cutV_length xs lo hi) hz, _, 0, (r.drop (HT.sIx xs.length 0 lo)).take (HT.sIx xs.length xs.length hi - HT.sIx xs.length 0 lo), Heap.get?_push_size _ rfl⟩

/-! ### in, not in: flat items -/
def flatV : V → Bool
  | .non => true
  | .bl _ => true
  | .int _ => true
  | .str _ => true
  | _ => false
def eqV : V → V → Bool
  | .non, .non => true
  | .bl a, .bl b => a == b
  | .bl a, .int b => (if a then 1 else 0) == b
  | .int a, .bl b => a == (if b then 1 else 0)
  | .int a, .int b => a == b
  | .str a, .str b => a == b
  | _, _ => false
theorem eqAt_V {A : Around} {s : Shared} {y x : V} {u v : Value} (ry : RelV y u) (rx : RelV x v) (fy : flatV y = true) (fx : flatV x = true) : SeqAt.EqAt A s u v (eqV y x) := by
  cases y with
  | non =>
    cases ry
    cases x with
    | non => cases rx; exact SeqAt.EqAt.same _
    | bl b => cases rx; exact SeqAt.EqAt.none_bool b
    | int b => obtain ⟨t, rfl⟩ := rx; exact SeqAt.EqAt.none_int b t
    | str b => obtain ⟨t, rfl⟩ := rx; exact SeqAt.EqAt.none_str b t
    | _ => exact absurd (show false = true from fx) Bool.false_ne_true
  | bl a =>
    cases ry
    cases x with
    | non => cases rx; exact SeqAt.EqAt.bool_none a
    | bl b => cases rx; exact SeqAt.EqAt.bool_bool a b
    | int b => obtain ⟨t, rfl⟩ := rx; exact SeqAt.EqAt.bool_int a b t
    | str b => obtain ⟨t, rfl⟩ := rx; exact SeqAt.EqAt.bool_str a b t
    | _ => exact absurd (show false = true from fx) Bool.false_ne_true
  | int a =>
    obtain ⟨t', rfl⟩ := ry
    cases x with
    | non => cases rx; exact SeqAt.EqAt.int_none a t'
    | bl b => cases rx; exact SeqAt.EqAt.int_bool a t' b
    | int b => obtain ⟨t, rfl⟩ := rx; exact SeqAt.EqAt.int_int a t' b t
    | str b => obtain ⟨t, rfl⟩ := rx; exact SeqAt.EqAt.int_str a t' b t
    | _ => exact absurd (show false = true from fx) Bool.false_ne_true
  | str a =>
    obtain ⟨t', rfl⟩ := ry
    cases x with
    | non => cases rx; exact SeqAt.EqAt.str_none a t'
    | bl b => cases rx; exact SeqAt.EqAt.str_bool a t' b
    | int b => obtain ⟨t, rfl⟩ := rx; exact SeqAt.EqAt.str_int a t' b t
    | str b => obtain ⟨t, rfl⟩ := rx; exact SeqAt.EqAt.str_str a t' b t
    | _ => exact absurd (show false = true from fx) Bool.false_ne_true
  | _ => exact absurd (show false = true from fy) Bool.false_ne_true
def eqU (x : V) (u : Value) : Bool := match u with
  | .none => eqV .non x
  | .bool b => eqV (.bl b) x
  | .int i _ => eqV (.int i) x
  | .str z _ => eqV (.str z) x
  | _ => false
theorem eqU_of {x y : V} {u : Value} (r : RelV y u) (f : flatV y = true) : eqU x u = eqV y x := by
  cases y with
  | non => cases r; rfl
  | bl b => cases r; rfl
  | int i => obtain ⟨t, rfl⟩ := r; rfl
  | str z => obtain ⟨t, rfl⟩ := r; rfl
  | _ => exact absurd (show false = true from f) Bool.false_ne_true
theorem any_eqU {x : V} : ∀ {xs : List V} {us : List Value}, Vals xs us → xs.all flatV = true → us.any (eqU x) = xs.any fun y => eqV y x
  | _, _, .nil, _ => rfl
  | y :: xs, u :: us, .cons r t, f => by
    rw [List.all_cons, Bool.and_eq_true] at f
    rw [List.any_cons, List.any_cons, eqU_of r f.1, any_eqU t f.2]
theorem mem_eqAt {A : Around} {s : Shared} {x : V} {v : Value} (rx : RelV x v) (fx : flatV x = true) : ∀ {xs : List V} {us : List Value}, Vals xs us → xs.all flatV = true → ∀ u ∈ us, SeqAt.EqAt A s u v (eqU x u)
  | _, _, .nil, _ => fun u hu => by cases hu
  | y :: xs, u :: us, .cons r t, f => fun u' hu => by
    rw [List.all_cons, Bool.and_eq_true] at f
    rcases List.mem_cons.mp hu with rfl | hu
    · rw [eqU_of r f.1]; exact eqAt_V r rx f.1 fx
    · exact mem_eqAt rx fx t f.2 u' hu
def inV (x : V) (xs : List V) : Bool := xs.any fun y => eqV y x
def rIn (K : PySem.W.Frag) (neg : Bool) : R2 := fun x y H Q => ∃ p xs, y = .ref p ∧ (SqL K H p xs ∨ SqT K H p xs) ∧ flatV x = true ∧ xs.all flatV = true ∧ Q (.bl (if neg then !inV x xs else inV x xs)) H
theorem op_in_seq : OpR X (compareOp .In) (rIn X.K false) := by
  intro pins s σ H x y v u Q I rx ry h
  obtain ⟨p, xs, rfl, hq, fx, fs, q⟩ := h
  cases ry
  rcases hq with hq | hq
  · obtain ⟨its, r, pl, hz⟩ := I.list hq
    refine SeqAt.in_listAt (eqU x) pl.isList (fun w hw => mem_eqAt rx fx r fs w (by simpa using hw)) ⟨.bl _, H, I, rfl, ?_⟩
    rw [show its.toArray.any (eqU x) = its.any (eqU x) by simp, any_eqU r fs]
    exact q
  · obtain ⟨its, r, pl, hz⟩ := I.tuple hq
    refine SeqAt.in_tupleAt (eqU x) pl (fun w hw => mem_eqAt rx fx r fs w (by simpa using hw)) ⟨.bl _, H, I, rfl, ?_⟩
    rw [show its.toArray.any (eqU x) = its.any (eqU x) by simp, any_eqU r fs]
    exact q
/-! ### len, list(x), tuple(x) of any list or tuple that is read -/
theorem call_len_seq : CallR X (.builtin "len") (fun xs H Q => ∃ p ys, xs = [.ref p] ∧ (SqL X.K H p ys ∨ SqT X.K H p ys) ∧ Q (.int ys.length) H) := by
  intro pins s σ H xs us Q I r h
  obtain ⟨p, ys, rfl, hq, q⟩ := h
  obtain ⟨u, rfl, rx⟩ := vals1 r
  cases rx
  have hn := line63
  rcases hq with hq | hq
  · obtain ⟨its, r', pl, hz⟩ := I.list hq
    have hlen := r'.length
    exact Calls.call_len_list pl.isList (by simp only [List.size_toArray] <;> omega) ⟨.int ys.length, H, I.tok _, ⟨s.toks + 1, by rw [List.size_toArray, hlen]⟩, q⟩
  · obtain ⟨its, r', pl, hz⟩ := I.tuple hq
    have hlen := r'.length
    exact len_tuple pl (by simp only [List.size_toArray] <;> omega) ⟨.int ys.length, H, I.tok _, ⟨s.toks + 1, by rw [List.size_toArray, hlen]⟩, q⟩
theorem call_len_str : CallR X (.builtin "len") (fun xs H Q => ∃ z, xs = [.str z] ∧ z.length ≤ sizeLine ∧ Q (.int z.length) H) := by
  intro pins s σ H xs us Q I r h
  obtain ⟨z, rfl, hz, q⟩ := h
  obtain ⟨u, rfl, t, rfl⟩ := vals1 r
  have hn := line63
  exact len_str (by omega) ⟨.int z.length, H, I.tok _, ⟨_, rfl⟩, q⟩
theorem CallR.or {f : Value} {r r' : List V → Hp → VK → Prop} (h : CallR X f r) (h' : CallR X f r') : CallR X f (fun xs H Q => r xs H Q ∨ r' xs H Q) := by
  intro pins s σ H xs us Q I rs q
  rcases q with q | q
  · exact h pins s σ H xs us Q I rs q
  · exact h' pins s σ H xs us Q I rs q
theorem call_tuple_of : CallR X (.type "tuple") (fun xs H Q => ∃ p ys, xs = [.ref p] ∧ ((SqL X.K H p ys ∧ ∀ l, H l = none → Q (.ref l) (upd H l (.tup ys))) ∨ (SqT X.K H p ys ∧ Q (.ref p) H))) := by
  intro pins s σ H xs us Q I r h
  obtain ⟨p, ys, rfl, h⟩ := h
  obtain ⟨u, rfl, rx⟩ := vals1 r
  cases rx
  rcases h with ⟨hq, q⟩ | ⟨hq, q⟩
  · obtain ⟨its, r', pl, hz⟩ := I.list hq
    have hlen := r'.length
    refine call_tuple_list pl.isList (fun h' kp => ?_) (by simp only [List.size_toArray] <;> omega)
    have I1 : Inv X pins σ H { s with heap := h' } := I.kept (t' := s.toks) kp
    have I2 : Inv X pins σ (upd H h'.objs.size (.tup ys)) { s with heap := h'.push { cls := .type "tuple", data := .seq its.toArray } } :=
      I1.laid (t' := s.toks) (fun b o e => Heap.get?_push_of_some _ e) (Nat.le_refl _) (show ObjOk X.prog X.w _ _ _ (.tup ys) from ⟨hz, its, 0, r', Heap.get?_push_size _ rfl⟩)
    exact ⟨.ref h'.objs.size, _, I2, rfl, q _ (I1.hok.fresh (Nat.le_refl _))⟩
  · obtain ⟨its, r', pl, hz⟩ := I.tuple hq
    exact call_tuple_same pl ⟨.ref p, H, I, rfl, q⟩

/-! ### the call of a builtin's method: o.m(..) -/
def tyV (K : PySem.W.Frag) (T : String) (x : V) (H : Hp) : Prop := match x with
  | .str _ => T = "str"
  | .int _ => T = "int"
  | .ref p => (T = "list" ∧ ∃ xs, SqL K H p xs) ∨ (T = "tuple" ∧ ((∃ o, K.lookup p = some o ∧ o.cls = .type "tuple" ∧ o.dict = none) ∨ ∃ xs, H p = some (.tup xs))) ∨
      (T = "dict" ∧ ((∃ kvs, H p = some (.dK kvs)) ∨ ∃ kvs, H p = some (.dT kvs))) ∨ (T = "set" ∧ ∃ S n, H p = some (.set S n))
  | _ => False
theorem tyV_is {pins : List (Addr × Obj)} {σ : St} {H : Hp} {s : Shared} {T : String} {x : V} {v : Value} (I : Inv X pins σ H s) (r : RelV x v) (ty : tyV X.K T x H) :
    s.TypeIs v T ∧ ∀ a, v = .ref a → ∃ ob, s.heap.get? a = some ob ∧ ob.dict = none := by
  cases x with
  | str z =>
    obtain ⟨t, rfl⟩ := r
    cases (show T = "str" from ty)
    exact ⟨typeIs_str s z t, fun _ e => nomatch e⟩
  | int i =>
    obtain ⟨t, rfl⟩ := r
    cases (show T = "int" from ty)
    exact ⟨typeIs_int s i t, fun _ e => nomatch e⟩
  | ref p =>
    cases r
    rcases ty with ⟨rfl, xs, hq⟩ | ⟨rfl, ⟨o, hk, hc, hd⟩ | ⟨xs, hq⟩⟩ | ⟨rfl, hk⟩ | ⟨rfl, S, n, hk⟩
    · obtain ⟨its, _, pl, _⟩ := I.list hq
      refine ⟨pl.isList.typeIs, fun a e => ?_⟩
      cases e
      obtain ⟨o, n, e, c, hd, _⟩ := pl
      exact ⟨o, e, hd⟩
    · refine ⟨⟨o, I.kIn p o hk, hc⟩, fun a e => ?_⟩
      cases e
      exact ⟨o, I.kIn _ o hk, hd⟩
    · obtain ⟨_, its, n, _, h1⟩ := (show ObjOk X.prog X.w H s.heap p (.tup xs) from I.hok p _ hq)
      refine ⟨⟨_, h1, rfl⟩, fun a e => ?_⟩
      cases e
      exact ⟨_, h1, rfl⟩
    · have z : ∃ o, s.heap.get? p = some o ∧ o.ExactDict := by
        rcases hk with ⟨kvs, hk⟩ | ⟨kvs, hk⟩
        · obtain ⟨_, _, _, _, o, _, _, e, ex, _⟩ := I.hok p _ hk
          exact ⟨o, e, ex⟩
        · obtain ⟨_, _, _, _, o, _, _, e, ex, _⟩ := I.hok p _ hk
          exact ⟨o, e, ex⟩
      obtain ⟨o, e, ex⟩ := z
      refine ⟨⟨o, e, ex.1⟩, fun a e2 => ?_⟩
      cases e2
      exact ⟨o, e, ex.2.1⟩
    · obtain ⟨o, _, _, _, e, ex, _⟩ := I.hok p _ hk
      refine ⟨⟨o, e, ex.1⟩, fun a e2 => ?_⟩
      cases e2
      exact ⟨o, e, ex.2.1⟩
  | _ => exact False.elim ty
def tBM (K : PySem.W.Frag) (T : String) (r : V → List V → Hp → VK → Prop) (to : TE) (t : TA) : TE := fun σ H Q => to σ H fun x H1 => tyV K T x H1 ∧ t σ H1 fun xs H2 => r x xs H2 Q
variable {o e : Expr} {es : List Expr} {to : TE} {t : TA} {name : Str} {apos cpos : Pos} {T id : String} {r : V → List V → Hp → VK → Prop}
theorem pe_bm (pa : PlainAttrs T) (slot : Slot T name id) (hty : typeOf (.builtin id) = pure (.type "method_descriptor")) (hm : MtR X id r) (ho : PE X o to) (ha : PA X (e :: es) t)
    (hbase : attributeBase o name X.env (eval o X.env) = eval o X.env := by rfl)
    (hfew : ((backTo cpos (starEach (e :: es) X.env)).all (fun x => !x.1) && (backToKw cpos (keywordEach [] X.env)).all (fun x => x.1.isSome)
      && decide ((e :: es).length + ([] : List Keyword).length + (if ([] : List Keyword).isEmpty then 0 else 1) < 30)) = true := by rfl)
    (hline : (apos.endLine == cpos.line) = true := by rfl) (hs : starEach (e :: es) X.env = (false, eval e X.env) :: starEach es X.env := by rfl) (hplain : (backTo cpos (starEach es X.env)).any (·.1) = false := by rfl) :
    PE X (.Call (.Attribute o name apos) (e :: es) [] cpos) (tBM X.K T r to t) := by
  intro pins s σ H Q I h
  refine wpAny_Call_method_late hbase hfew hline rfl (thn (ho pins s σ H _ I h) fun v s1 ⟨x, H1, I1, r1, ty, q1⟩ => ?_)
  obtain ⟨h1, h2⟩ := tyV_is I1 r1 ty
  refine ⟨T, id, pa, slot, hty, h1, h2, ?_⟩
  have hA := ha cpos pins s1 σ H1 _ I1 q1
  rw [hs] at hA ⊢
  refine Calls.callWith_builtin (by show (false || (backTo cpos (starEach es X.env)).any (·.1)) = false; rw [hplain] <;> rfl) (Calls.evalArgs_plain ?_)
  exact thn hA fun us s2 ⟨vs, H2, I2, r2, q2⟩ => hm pins s2 σ H2 x vs v us Q I2 r1 r2 q2
end
end L2

namespace L2
open PySem PySem.Spec PyProof.Rows

def MtM (X : Cx) (id : String) (r : V → List V → Hp → VK → Prop) : Prop :=
  ∀ (pins : List (Addr × Obj)) (s : Shared) (σ : St) (H : Hp) (x : V) (xs : List V) (v : Value) (us : List Value) (Q : VK), Inv X pins σ H s → RelV x v → Vals xs us → r x xs H Q →
    wpAny (model X.prog X.w) X.A (call (.builtin id) (v :: us)) (EP X pins σ Q) X.xe s

/-! ### lists of values -/
theorem Vals.one : ∀ {x : V} {us : List Value}, Vals [x] us → ∃ u, us = [u] ∧ RelV x u
  | _, _, .cons r .nil => ⟨_, rfl, r⟩
theorem Vals.eraseIdx : ∀ {xs : List V} {us : List Value} (i : Nat), Vals xs us → Vals (xs.eraseIdx i) (us.eraseIdx i)
  | _, _, _, .nil => .nil
  | _, _, 0, .cons _ t => t
  | _, _, i + 1, .cons r t => .cons r (Vals.eraseIdx i t)
theorem len_erase {α : Type} : ∀ (l : List α) (i : Nat), (l.eraseIdx i).length ≤ l.length
  | [], _ => Nat.le_refl _
  | _ :: _, 0 => Nat.le_succ _
  | _ :: r, i + 1 => Nat.succ_le_succ (len_erase r i)
section
variable {X : Cx} {pins : List (Addr × Obj)} {σ : St} {H : Hp} {s : Shared} {l b : Addr} {xs ys zs : List V}

/-! ### the two steps: a tracked list is rewritten, a new list is laid -/
theorem Inv.lset {its its' : List Value} {n : Nat} {f : Array Value → Array Value} {t' : Nat} (I : Inv X pins σ H s) (hH : H l = some (.lst xs))
    (e : s.heap.get? l = some { cls := .type "list", data := .seq its.toArray n }) (hf : f its.toArray = its'.toArray) (hv : Vals ys its') (hz : ys.length ≤ sizeLine) :
    Inv X pins σ (upd H l (.lst ys)) { s with heap := s.heap.update l (Obj.mapSeq f), toks := t' } := by
  have q := PySem.IsL.update e f
  rw [hf] at q
  refine I.write (x := l) (e := l) (by rw [hH]; exact trivial) (.inl rfl) (fun b' u hb hu => (Heap.get?_update_other s.heap (Obj.mapSeq f) (Ne.symm hb)).trans hu) ⟨_, q⟩ ?_
  exact ⟨hz, its', _, hv, q⟩
theorem Inv.lnew {its : List Value} {t' : Nat} (I : Inv X pins σ H s) (hv : Vals ys its) (hz : ys.length ≤ sizeLine) :
    Inv X pins σ (upd H s.heap.objs.size (.lst ys)) { s with heap := s.heap.push { cls := .type "list", data := .seq its.toArray }, toks := t' } :=
  I.laid (fun _ _ q => Heap.get?_push_of_some _ q) (Nat.le_refl _) ⟨hz, its, 0, hv, Heap.get?_push_size _ rfl⟩
theorem Inv.fresh (I : Inv X pins σ H s) : H s.heap.objs.size = none := I.hok.fresh (Nat.le_refl _)
theorem Inv.lstM (I : Inv X pins σ H s) (hH : H l = some (.lst xs)) : xs.length ≤ sizeLine ∧ ∃ (its : List Value) (n : Nat), Vals xs its ∧ xs.length = its.length ∧ s.heap.get? l = some { cls := .type "list", data := .seq its.toArray n } := by
  obtain ⟨z, its, n, r, e⟩ := I.hok l _ hH
  exact ⟨z, its, n, r, r.length, e⟩

end

section
variable {X : Cx}

/-! ### methods -/
def rAppend : V → List V → Hp → VK → Prop := fun x vs H Q => ∃ l xs y, x = .ref l ∧ vs = [y] ∧ H l = some (.lst xs) ∧ xs.length < sizeLine ∧ Q .non (upd H l (.lst (xs ++ [y])))
theorem mt_append : MtM X "list.append" rAppend := by
  intro pins s σ H x vs v us Q I rx rv h
  obtain ⟨l, xs, y, rfl, rfl, hH, hz, q⟩ := h
  cases rx
  obtain ⟨u, rfl, ru⟩ := rv.one
  obtain ⟨z, its, n, r, hl, e⟩ := I.lstM hH
  refine call_meets F.slot_list_append ⟨_, e, rfl⟩ F.entry_list_append (F.args_list_append_2 _ _) (PySem.list_append l its.toArray n u (by rw [List.size_toArray]; omega)) ⟨e, ?_⟩
  refine ⟨.non, _, I.lset (its' := its ++ [u]) hH e (by simp) (r.append (.cons ru .nil)) ?_, rfl, q⟩
  rw [List.length_append, List.length_singleton]
  omega

def rPopAt : V → List V → Hp → VK → Prop := fun x vs H Q => ∃ l xs i k y, x = .ref l ∧ vs = [.int i] ∧ H l = some (.lst xs) ∧ -(2 ^ 63) ≤ i ∧ i < 2 ^ 63 ∧ seqIndex? i xs.length = some k ∧ xs[k]? = some y ∧ Q y (upd H l (.lst (xs.eraseIdx k)))
theorem mt_popAt : MtM X "list.pop" rPopAt := by
  intro pins s σ H x vs v us Q I rx rv h
  obtain ⟨l, xs, i, k, y, rfl, rfl, hH, h1, h2, hk, hy, q⟩ := h
  cases rx
  obtain ⟨u, rfl, ru⟩ := rv.one
  obtain ⟨t, rfl⟩ := ru
  obtain ⟨z, its, n, r, hl, e⟩ := I.lstM hH
  obtain ⟨w, hw, rw'⟩ := r.get hy
  refine call_meets F.slot_list_pop ⟨_, e, rfl⟩ F.entry_list_pop (F.args_list_pop_2 _ _)
    (MeetsSeq.list_pop_at l its.toArray n i t k w (fitsIndex_both h1 h2) (by rw [List.size_toArray, ← hl]; exact hk) (by rw [← Array.getElem?_toList]; exact hw) (by rw [List.size_toArray]; omega)) ⟨e, ?_⟩
  refine ⟨y, _, I.lset (its' := its.eraseIdx k) hH e ?_ (r.eraseIdx k) ?_, rw', q⟩
  · show its.toArray.eraseIdxIfInBounds k = (its.eraseIdx k).toArray
    rw [List.eraseIdxIfInBounds_toArray]
  · have := len_erase xs k
    omega

/-! ### list + list, list += list, list * int -/
def rCat : R2 := fun x y H Q => ∃ l b xs zs, x = .ref l ∧ y = .ref b ∧ H l = some (.lst xs) ∧ H b = some (.lst zs) ∧ xs.length + zs.length ≤ sizeLine ∧ ∀ p, H p = none → Q (.ref p) (upd H p (.lst (xs ++ zs)))
theorem op_cat : OpR X (binaryOp .Add) rCat := by
  intro pins s σ H x y v u Q I rx ry h
  obtain ⟨l, b, xs, zs, rfl, rfl, hH, hB, hz, q⟩ := h
  cases rx
  cases ry
  obtain ⟨z, its, n, r, hl, e⟩ := I.lstM hH
  obtain ⟨z2, its2, n2, r2, hl2, e2⟩ := I.lstM hB
  refine PySem.P.add_list e e2 ?_ (by rw [List.size_toArray, List.size_toArray]; omega)
  have ea : its.toArray ++ its2.toArray = (its ++ its2).toArray := by simp
  rw [ea]
  exact ⟨.ref _, _, I.lnew (t' := s.toks) (r.append r2) (by rw [List.length_append]; omega), rfl, q _ I.fresh⟩
/-! ### del xs[i] -/
end

/-! ### xs[a:b] = ys -/
section
variable {prog : Program} {w : World} {A : Around} {E : Value → Shared → Prop} {s : Shared}
end

section
variable {X : Cx}
end
end L2

namespace L2
open PySem PySem.Spec PyProof.Rows

/-! ### lists of pairs as tables -/
section
variable {κ : Type} [DecidableEq κ]
def valV (kvs : List (κ × V)) (k : κ) : Option V := (kvs.find? fun kv => decide (kv.1 = k)).map (·.2)
def putK (kvs : List (κ × V)) (k : κ) (v : V) : List (κ × V) :=
  if (kvs.any fun kv => decide (kv.1 = k)) = true then kvs.map (fun kv => if kv.1 = k then (kv.1, v) else kv) else kvs ++ [(k, v)]
theorem valV_pos {p : κ × V} {r : List (κ × V)} {k : κ} (e : p.1 = k) : valV (p :: r) k = some p.2 := by simp [valV, List.find?_cons, e]
theorem valV_neg {p : κ × V} {r : List (κ × V)} {k : κ} (e : ¬ p.1 = k) : valV (p :: r) k = valV r k := by simp [valV, List.find?_cons, e]
theorem valV_any (k : κ) : ∀ kvs : List (κ × V), (kvs.any fun kv => decide (kv.1 = k)) = (valV kvs k).isSome
  | [] => rfl
  | p :: r => by
    rw [List.any_cons]
    by_cases e : p.1 = k
    · simp only [valV_pos e, decide_eq_true e, Bool.true_or, Option.isSome_some]
    · rw [valV_neg e, decide_eq_false e, Bool.false_or]; exact valV_any k r
theorem length_putK (kvs : List (κ × V)) (k : κ) (v : V) : (putK kvs k v).length ≤ kvs.length + 1 := by
  unfold putK
  split
  · rw [List.length_map]; omega
  · rw [List.length_append, List.length_cons, List.length_nil]; omega
theorem RelO.isSome_eq {o : Option V} {u : Option Value} (r : RelO o u) : o.isSome = u.isSome := by
  cases o with
  | none => cases u with
    | none => rfl
    | some _ => exact (show False from r).elim
  | some _ => cases u with
    | none => exact (show False from r).elim
    | some _ => rfl
theorem RelO.getD {o : Option V} {u : Option Value} {d : V} {d' : Value} (r : RelO o u) (rd : RelV d d') : RelV (o.getD d) (u.getD d') := by
  cases o with
  | none => cases u with
    | none => exact rd
    | some _ => exact (show False from r).elim
  | some _ => cases u with
    | none => exact (show False from r).elim
    | some _ => exact r

theorem KV.val {kvs : List (κ × V)} {vs : List (κ × Value)} (r : KV kvs vs) (k : κ) : RelO (valV kvs k) (valueAt vs k) := by
  unfold KV at r
  induction r with
  | nil => exact True.intro
  | @cons p q ps qs h t ih =>
    obtain ⟨h1, h2⟩ := h
    by_cases e : p.1 = k
    · have e' : q.1 = k := h1.symm.trans e
      have b : valueAt (q :: qs) k = some q.2 := by simp [valueAt, List.find?_cons, e']
      rw [valV_pos e, b]; exact h2
    · have e' : ¬ q.1 = k := fun z => e (h1.trans z)
      have b : valueAt (q :: qs) k = valueAt qs k := by simp [valueAt, List.find?_cons, e']
      rw [valV_neg e, b]; exact ih
theorem KV.any {kvs : List (κ × V)} {vs : List (κ × Value)} (r : KV kvs vs) (k : κ) : (kvs.any fun kv => decide (kv.1 = k)) = vs.any fun kv => decide (kv.1 = k) := by
  unfold KV at r
  induction r with
  | nil => rfl
  | cons h t ih => rw [List.any_cons, List.any_cons, ih, h.1]
theorem KV.repl {kvs : List (κ × V)} {vs : List (κ × Value)} (r : KV kvs vs) (k : κ) {y : V} {u : Value} (ry : RelV y u) :
    KV (kvs.map fun kv => if kv.1 = k then (kv.1, y) else kv) (vs.map fun kv => if kv.1 = k then (kv.1, u) else kv) := by
  unfold KV at r ⊢
  induction r with
  | nil => exact .nil
  | @cons p q ps qs h t ih =>
    rw [List.map_cons, List.map_cons]
    refine .cons ?_ ih
    obtain ⟨h1, h2⟩ := h
    by_cases e : p.1 = k
    · rw [if_pos e, if_pos (h1.symm.trans e)]; exact ⟨h1, ry⟩
    · rw [if_neg e, if_neg (fun z => e (h1.trans z))]; exact ⟨h1, h2⟩
theorem KV.put {kvs : List (κ × V)} {vs : List (κ × Value)} (r : KV kvs vs) (k : κ) {y : V} {u : Value} (ry : RelV y u) : KV (putK kvs k y) (stored vs k u) := by
  unfold putK stored
  rw [r.any k]
  by_cases e : (vs.any fun kv => decide (kv.1 = k)) = true
  · rw [if_pos e, if_pos e]; exact r.repl k ry
  · rw [if_neg e, if_neg e]; exact Paired.snoc r ⟨rfl, ry⟩
theorem KV.length {kvs : List (κ × V)} {vs : List (κ × Value)} (r : KV kvs vs) : kvs.length = vs.length := Paired.length r
end


/-! ### a tracked dict, its keys ints and texts or tuples of these -/
theorem kV_is {P : Program} {w : World} {k : Key} {u : Value} (r : RelV (kV k) u) : (mixKind P w).is k u = true := by
  cases k with
  | inl i => obtain ⟨t, e⟩ := (show ∃ t, u = Value.int i t from r); subst e; exact mixKind_int P w i t
  | inr x => obtain ⟨t, e⟩ := (show ∃ t, u = Value.str x t from r); subst e; exact mixKind_str P w x t
theorem items_are {P : Program} {w : World} : ∀ {ks : List Key} {us : List Value}, Vals (ks.map kV) us → ItemsAre (mixKind P w) ks us
  | [], _, r => by rw [List.map_nil] at r; cases r; exact .nil
  | k :: ks, _, r => by
    rw [List.map_cons] at r
    cases r with
    | cons h t => exact .cons (kV_is h) (items_are t)

abbrev KT (H : Hp) : List (List Key × V) → List (List Key × Addr × Value) → Prop := Paired fun p q => p.1 = q.1 ∧ H q.2.1 = some (.tup (p.1.map kV)) ∧ RelV p.2 q.2.2
theorem KT.val {H : Hp} {kvs : List (List Key × V)} {xs : List (List Key × Addr × Value)} (r : KT H kvs xs) (k : List Key) : RelO (valV kvs k) ((atKey xs k).map (·.2)) := by
  induction r with
  | nil => exact True.intro
  | @cons p q ps qs h t ih =>
    obtain ⟨h1, _, h2⟩ := h
    by_cases e : p.1 = k
    · have e' : q.1 = k := h1.symm.trans e
      have b : atKey (q :: qs) k = some q.2 := by simp [atKey, List.find?_cons, e']
      rw [valV_pos e, b]; exact h2
    · have e' : ¬ q.1 = k := fun z => e (h1.trans z)
      have b : atKey (q :: qs) k = atKey qs k := by simp [atKey, List.find?_cons, e']
      rw [valV_neg e, b]; exact ih
theorem KT.repl {H : Hp} {kvs : List (List Key × V)} {xs : List (List Key × Addr × Value)} (r : KT H kvs xs) (k : List Key) {y : V} {u : Value} (ry : RelV y u) :
    KT H (kvs.map fun kv => if kv.1 = k then (kv.1, y) else kv) (xs.map (putAt k u)) := by
  induction r with
  | nil => exact .nil
  | @cons p q ps qs h t ih =>
    rw [List.map_cons, List.map_cons]
    refine .cons ?_ ih
    obtain ⟨h1, h2, h3⟩ := h
    unfold putAt
    by_cases e : p.1 = k
    · rw [if_pos e, if_pos (h1.symm.trans e)]; exact ⟨h1, h2, ry⟩
    · rw [if_neg e, if_neg (fun z => e (h1.trans z))]; exact ⟨h1, h2, h3⟩
theorem KT.put {H : Hp} {kvs : List (List Key × V)} {xs : List (List Key × Addr × Value)} (r : KT H kvs xs) (k : List Key) {b : Addr} {y : V} {u : Value} (hb : H b = some (.tup (k.map kV))) (ry : RelV y u) :
    KT H (putK kvs k y) (storedH xs k b u) := by
  have e : (kvs.any fun kv => decide (kv.1 = k)) = (atKey xs k).isSome := by
    rw [valV_any, (r.val k).isSome_eq, Option.isSome_map]
  unfold putK storedH
  rw [e]
  by_cases q : (atKey xs k).isSome = true
  · rw [if_pos q, if_pos q]; exact r.repl k ry
  · rw [if_neg q, if_neg q]; exact Paired.snoc r ⟨rfl, hb, ry⟩
theorem KT.keeps {H H' : Hp} {kvs : List (List Key × V)} {xs : List (List Key × Addr × Value)} (r : KT H kvs xs) (ht : ∀ b ys, H b = some (.tup ys) → H' b = some (.tup ys)) : KT H' kvs xs :=
  Paired.mapP r fun _ _ z => ⟨z.1, ht _ _ z.2.1, z.2.2⟩

section
variable {P : Program} {w : World} {H : Hp} {h : Heap} {a : Addr}
theorem rd_of {u : HO} (ok : HOk P w H h) (e : Rd H a u) : ObjOk P w H h a u := e.ok ok
theorem dk_rd {kvs : List (Key × V)} (ok : HOk P w H h) (e : Rd H a (.dK kvs)) : kvs.length ≤ sizeLine ∧ (a == sysModules) = false ∧ ∃ vs, KV kvs vs ∧ h.DictOf (mixKind P w) a vs :=
  show ObjOk P w H h a (.dK kvs) from rd_of ok e
theorem dk_of {kvs : List (Key × V)} (ok : HOk P w H h) (e : H a = some (.dK kvs)) : kvs.length ≤ sizeLine ∧ (a == sysModules) = false ∧ ∃ vs, KV kvs vs ∧ h.DictOf (mixKind P w) a vs := dk_rd ok (.inl e)
theorem key_of {ks : List Key} (ok : HOk P w H h) (e : H a = some (.tup (ks.map kV))) : (tupleKind (mixKind P w)).is h ks a := by
  obtain ⟨_, its, n, r, h1⟩ := (show ObjOk P w H h a (.tup (ks.map kV)) from ok a _ e)
  exact ⟨_, its.toArray, n, h1, rfl, rfl, by simpa using items_are r⟩
theorem dt_rd {kvs : List (List Key × V)} (ok : HOk P w H h) (e : Rd H a (.dT kvs)) : kvs.length ≤ sizeLine ∧ (a == sysModules) = false ∧
    ∃ xs, KT H kvs xs ∧ h.DictOfH (tupleKind (mixKind P w)) a xs := by
  obtain ⟨z, y, xs, r, o, es, ep, h1, h2, h3, h4, h5⟩ := (show ObjOk P w H h a (.dT kvs) from rd_of ok e)
  refine ⟨z, y, xs, r, o, es, ep, h1, h2, h3, h4, fun x hx => ?_, h5⟩
  have all : ∀ {l : List (List Key × V)} {m : List (List Key × Addr × Value)}, KT H l m → ∀ x ∈ m, (tupleKind (mixKind P w)).is h x.1 x.2.1 := by
    intro l m q
    induction q with
    | nil => intro x hx; exact nomatch hx
    | @cons p q ps qs hq t ih =>
      intro x hx
      rcases List.mem_cons.mp hx with e | hx
      · subst e
        exact key_of ok (by rw [← hq.1]; exact hq.2.1)
      · exact ih x hx
  exact all r x hx
theorem dt_of {kvs : List (List Key × V)} (ok : HOk P w H h) (e : H a = some (.dT kvs)) : kvs.length ≤ sizeLine ∧ (a == sysModules) = false ∧
    ∃ xs, KT H kvs xs ∧ h.DictOfH (tupleKind (mixKind P w)) a xs := dt_rd ok (.inl e)
end

def DGet (H : Hp) (a : Addr) (y : V) (r : Option V) : Prop :=
  (∃ kvs k, Rd H a (.dK kvs) ∧ y = kV k ∧ r = valV kvs k) ∨ ∃ kvs k b, Rd H a (.dT kvs) ∧ y = .ref b ∧ H b = some (.tup (k.map kV)) ∧ r = valV kvs k
def DPut (H : Hp) (a : Addr) (y v : V) (H' : Hp) : Prop :=
  (∃ kvs k, H a = some (.dK kvs) ∧ y = kV k ∧ kvs.length < sizeLine ∧ H' = upd H a (.dK (putK kvs k v))) ∨
  ∃ kvs k b, H a = some (.dT kvs) ∧ y = .ref b ∧ H b = some (.tup (k.map kV)) ∧ kvs.length < sizeLine ∧ H' = upd H a (.dT (putK kvs k v))
theorem DGet.k {H : Hp} {a : Addr} {kvs : List (Key × V)} {k : Key} (e : H a = some (.dK kvs)) : DGet H a (kV k) (valV kvs k) := .inl ⟨kvs, k, .inl e, rfl, rfl⟩
theorem DPut.k {H : Hp} {a : Addr} {kvs : List (Key × V)} {k : Key} {v : V} (e : H a = some (.dK kvs)) (hl : kvs.length < sizeLine) : DPut H a (kV k) v (upd H a (.dK (putK kvs k v))) := .inl ⟨kvs, k, e, rfl, hl, rfl⟩
section
variable {X : Cx} {pins : List (Addr × Obj)} {σ : St} {H : Hp} {s : Shared} {a : Addr} {y v : V} {u r : Value} {o : Option V} {A : Around} {E : Value → Shared → Prop}

theorem Inv.big (I : Inv X pins σ H s) : sysModules < s.heap.objs.size := by
  have h : mainGlobals < s.heap.objs.size := (I.mod.glob.keeps I.bk).lt
  exact Nat.lt_trans (by decide) h

theorem d_getItem {Q : Value → Shared → Prop} (hu : A.units + 1 < cLine) (I : Inv X pins σ H s) (g : DGet H a y (some v)) (ry : RelV y u) (h : ∀ w' s', Inv X pins σ H s' → RelV v w' → Q w' s') :
    wpAny (model X.prog X.w) A (getItem (.ref a) u) Q E s := by
  rcases g with ⟨kvs, k, e, ey, l⟩ | ⟨kvs, k, b, e, ey, eb, l⟩
  · subst ey
    obtain ⟨z, hd, vs, rel, dd⟩ := dk_rd I.hok e
    obtain ⟨w', hw, rw'⟩ := RelO.some_of (v := v) (o := valueAt vs k) (by rw [l]; exact rel.val k)
    exact wpAny_getItem_of (kV_is ry) dd.mapOf hw (h w' _ (I.tok _) rw')
  · subst ey
    cases (show u = Value.ref b from ry)
    obtain ⟨z, hd, xs, rel, dd⟩ := dt_rd I.hok e
    obtain ⟨w', hw, rw'⟩ := RelO.some_of (v := v) (o := (atKey xs k).map (·.2)) (by rw [l]; exact rel.val k)
    obtain ⟨p, hp, hp2⟩ := Option.map_eq_some_iff.mp hw
    refine wpAny_getItem_heap (tupleKind_room_in1 hu) (key_of I.hok eb) dd hp ?_
    rw [hp2]
    exact h w' _ (I.tok _) rw'
theorem d_in {Q : Value → Shared → Prop} (hu : A.units + 1 < cLine) (I : Inv X pins σ H s) (g : DGet H a y o) (ry : RelV y u) (h : ∀ s', Inv X pins σ H s' → Q (.bool o.isSome) s') :
    wpAny (model X.prog X.w) A (compareOp .In u (.ref a)) Q E s := by
  rcases g with ⟨kvs, k, e, ey, l⟩ | ⟨kvs, k, b, e, ey, eb, l⟩
  · subst ey
    obtain ⟨z, hd, vs, rel, dd⟩ := dk_rd I.hok e
    refine wpAny_in_of (kV_is ry) hd dd.mapOf ?_
    rw [← (rel.val k).isSome_eq, ← l]
    exact h _ (I.tok _)
  · subst ey
    cases (show u = Value.ref b from ry)
    obtain ⟨z, hd, xs, rel, dd⟩ := dt_rd I.hok e
    refine wpAny_in_heap (tupleKind_room_in1 hu) (key_of I.hok eb) hd dd ?_
    have q := (rel.val k).isSome_eq
    rw [Option.isSome_map] at q
    rw [← q, ← l]
    exact h _ (I.tok _)
theorem d_write {h' : Heap} {t' : Nat} {ob : HO} (I : Inv X pins σ H s) (mu : Mut (H a)) (hs : Heap.SameBut a s.heap h') (he : ∃ q, h'.get? a = some q) (new : ObjOk X.prog X.w (upd H a ob) h' a ob) :
    Inv X pins σ (upd H a ob) { s with heap := h', toks := t' } :=
  I.write (x := a) (e := a) mu (.inl rfl) (fun b q hb z => (hs.2 b hb).trans z) he new
theorem dk_new {P : Program} {w : World} {H' : Hp} {h' : Heap} {kvs : List (Key × V)} {vs : List (Key × Value)} (z : kvs.length ≤ sizeLine) (hd : (a == sysModules) = false) (rel : KV kvs vs) (dd : h'.DictOf (mixKind P w) a vs) :
    ObjOk P w H' h' a (.dK kvs) := ⟨z, hd, vs, rel, dd⟩
theorem d_setItem {H' : Hp} {Q : Unit → Shared → Prop} (hu : A.units + 1 < cLine) (I : Inv X pins σ H s) (g : DPut H a y v H') (ry : RelV y u) (rv : RelV v r) (h : ∀ s', Inv X pins σ H' s' → Q () s') :
    wpAny (model X.prog X.w) A (setItem (.ref a) u r) Q E s := by
  rcases g with ⟨kvs, k, e, ey, l, eH⟩ | ⟨kvs, k, b, e, ey, eb, l, eH⟩
  · subst ey eH
    obtain ⟨z, hd, vs, rel, dd⟩ := dk_of I.hok e
    have hz : vs.length ≤ sizeLine := by rw [← rel.length]; exact z
    have hl : (putK kvs k v).length ≤ sizeLine := by have := length_putK kvs k v; omega
    refine wpAny_setItem_pairs (hsz := hz) (kV_is ry) dd fun h' dd' hs => h _ ?_
    have he : ∃ q, h'.get? a = some q := let ⟨q, _, _, hq, _⟩ := dd'; ⟨q, hq⟩
    exact d_write I (by rw [e]; exact True.intro) hs he (dk_new hl hd (rel.put k rv) dd')
  · subst ey eH
    cases (show u = Value.ref b from ry)
    obtain ⟨z, hd, xs, rel, dd⟩ := dt_of I.hok e
    have hz : xs.length ≤ sizeLine := by rw [← Paired.length rel]; exact z
    have hl : (putK kvs k v).length ≤ sizeLine := by have := length_putK kvs k v; omega
    refine wpAny_setItem_heap (hsz := hz) (tupleKind_room_in1 hu) (key_of I.hok eb) dd fun h' dd' hs => h _ ?_
    obtain ⟨q, es, ep, hq, h2, h3, h4, _, h5⟩ := dd'
    refine d_write I (by rw [e]; exact True.intro) hs ⟨q, hq⟩ ⟨hl, hd, _, (rel.put k eb rv).keeps fun c ys ec => ?_, q, es, ep, hq, h2, h3, h4, h5⟩
    rw [upd_ne (ne_of ec e (fun z => nomatch z))]
    exact ec
end

section
variable {X : Cx} {pins : List (Addr × Obj)} {σ : St} {H : Hp} {s : Shared} {a : Addr} {kvs : List (Key × V)} {k : Key} {u : Value} {A : Around} {E : Value → Shared → Prop}
end


/-! ### readings and rules -/
def NoSl (i : Expr) : Prop := ∀ ov iv, subscripted i false ov iv = operate [ov, iv] (getItem ov iv)
theorem subD_of {prog : Program} {w : World} {A : Around} {E : Value → Shared → Prop} {s : Shared} {env : Env} {value slice : Expr} {pos : Pos} {T id : String} {Q : Value → Shared → Prop}
    (hl : typeLookup (.type T) "__getitem__" = pure (some (.builtin id))) (hs : NoSl slice)
    (h : wpAny (model prog w) A (eval value env) (fun o s₁ => wpAny (model prog w) A (eval slice env) (fun i s₂ => s₂.TypeIs o T ∧ wpAny (model prog w) A (getItem o i) Q E s₂) E s₁) E s) :
    wpAny (model prog w) A (eval (.Subscript value slice pos) env) Q E s := by
  refine Subscript_ (wpAny_mono h (fun o s₁ h₁ => wpAny_mono h₁ (fun i s₂ h₂ => ?_) fun _ _ x => x) fun _ _ x => x)
  obtain ⟨hT, h₂⟩ := h₂
  unfold subscriptTail
  refine wpAny_bind ?_
  rw [getitemInPython_of_ne hT.not_modules]
  refine wpAny_bind (wpAny_specialOf hT hl ?_)
  have fin : wpAny (model prog w) A (subscripted slice false o i) (fun r s₃ => wpAny (model prog w) A (letTemporaryGo value o r >>= fun _ => pure r) Q E s₃) E s₂ := by
    rw [hs o i]
    exact wpAny_operating (wpAny_mono h₂ (fun r s₃ h₃ => wpAny_bind (wpAny_letTemporaryGo (wpAny_pure h₃))) fun _ _ x => x)
  first
    | exact wpAny_pure (wpAny_bind fin)
    | exact wpAny_bind (wpAny_pure (wpAny_bind fin))
    | exact wpAny_bind fin

theorem dict_typeIs {X : Cx} {pins : List (Addr × Obj)} {σ : St} {H : Hp} {s : Shared} {a : Addr} {y : V} {o : Option V} (I : Inv X pins σ H s) (g : DGet H a y o) : s.TypeIs (.ref a) "dict" := by
  rcases g with ⟨kvs, k, e, _, _⟩ | ⟨kvs, k, b, e, _, _, _⟩
  · obtain ⟨_, _, vs, _, dd⟩ := dk_rd I.hok e
    exact dd.typeIs
  · obtain ⟨_, _, xs, _, dd⟩ := dt_rd I.hok e
    exact dd.typeIs
def tDGet (td ty : TE) : TE := fun σ H Q => td σ H fun x H1 => ty σ H1 fun y H2 => ∃ a v, x = .ref a ∧ DGet H2 a y (some v) ∧ Q v H2
def tDIn (ty td : TE) : TE := fun σ H Q => ty σ H fun y H1 => td σ H1 fun x H2 => ∃ a o, x = .ref a ∧ DGet H2 a y o ∧ Q (.bl o.isSome) H2
def sDPut (td ty tv : TE) : TS := fun D σ H => tv σ H fun v H1 => td σ H1 fun x H2 => ty σ H2 fun y H3 => ∃ a H4, x = .ref a ∧ DPut H3 a y v H4 ∧ D.nx σ H4
section
variable {X : Cx} {o i e value : Expr} {pos pos' tpos : Pos} {td ty tv : TE}
theorem pe_dget (hu : X.A.units + 1 < cLine) (ho : PE X o td) (hi : PE X i ty) (hs : NoSl i) : PE X (.Subscript o i pos) (tDGet td ty) := by
  intro pins s σ H Q I h
  refine subD_of PySem.F.slot_dict_getitem.lookup hs (thn (ho pins s σ H _ I h) fun u s1 ⟨x, H1, I1, rx, q1⟩ => thn (hi pins s1 σ H1 _ I1 q1) fun iv s2 ⟨y, H2, I2, ry, a, v, ex, g, q2⟩ => ?_)
  subst ex
  obtain rfl : u = Value.ref a := rx
  exact ⟨dict_typeIs I2 g, d_getItem hu I2 g ry fun w' s3 I3 rw' => ⟨v, H2, I3, rw', q2⟩⟩
theorem pc_din (hu : X.A.units + 1 < cLine) (hi : PE X i ty) (ho : PE X o td) : PC X .In i o (tDIn ty td) := by
  intro pins s σ H Q I h
  refine thn (hi pins s σ H _ I h) fun iv s1 ⟨y, H1, I1, ry, q1⟩ => thn (ho pins s1 σ H1 _ I1 q1) fun u s2 ⟨x, H2, I2, rx, a, ov, ex, g, q2⟩ => ?_
  subst ex
  obtain rfl : u = Value.ref a := rx
  exact d_in hu I2 g ry fun s3 I3 => ⟨.bl ov.isSome, H2, I3, rfl, q2⟩
theorem ps_dput (hu : X.A.units + 1 < cLine) (ho : PE X o td) (hi : PE X i ty) (hv : PE X value tv) (hs : swapsWith value (some (.Subscript o i pos')) pos.line X.env = pure false) :
    PS X (.Assign [.Subscript o i pos'] value pos) (sDPut td ty tv) := by
  intro pins s σ H D I h
  refine wpAny_Assign_Subscript (thn (hv pins s σ H _ I h) fun r s1 ⟨v, H1, I1, rv, q1⟩ => thn (ho pins s1 σ H1 _ I1 q1) fun u s2 ⟨x, H2, I2, rx, q2⟩ => thn (hi pins s2 σ H2 _ I2 q2) fun iv s3 ⟨y, H3, I3, ry, a, H4, ex, g, q3⟩ => ?_) hs
  subst ex
  obtain rfl : u = Value.ref a := rx
  exact d_setItem hu I3 g ry rv fun s4 I4 => ⟨σ, H4, I4, q3⟩
end


/-! ### displays -/
theorem dk_empty {P : Program} {w : World} {H : Hp} (h : Heap) (hb : sysModules < h.objs.size) : ObjOk P w H (h.push { cls := .type "dict", data := .dict #[] }) h.objs.size (.dK []) :=
  ⟨Nat.zero_le _, beq_eq_false_iff_ne.mpr (Ne.symm (Nat.ne_of_lt hb)), [], .nil, Heap.DictOf.new h⟩
section
variable {X : Cx} {pos : Pos}
end

def tPairs : List (TE × TE) → St → Hp → (List (V × V) → Hp → Prop) → Prop
  | [], _, H, Q => Q [] H
  | (tk, tv) :: r, σ, H, Q => tk σ H fun x H1 => tv σ H1 fun y H2 => tPairs r σ H2 fun ps H3 => Q ((x, y) :: ps) H3
abbrev VV : List (V × V) → List (Value × Value) → Prop := Paired fun p q => RelV p.1 q.1 ∧ RelV p.2 q.2
def PPs (X : Cx) (pos : Pos) (keys : List (Option Expr)) (values : List Expr) (trs : List (TE × TE)) : Prop :=
  ∀ (pins : List (Addr × Obj)) (s : Shared) (σ : St) (H : Hp) (Q : List (V × V) → Hp → Prop), Inv X pins σ H s → tPairs trs σ H Q →
    wpAny (model X.prog X.w) X.A (evalPairs (pairTrees keys values X.env pos)) (fun vs s' => ∃ ps H', Inv X pins σ H' s' ∧ VV ps vs ∧ Q ps H') X.xe s
theorem pps_nil {X : Cx} {pos : Pos} : PPs X pos [] [] [] := fun pins s σ H Q I h => pairTrees_nil_walk ⟨[], H, I, .nil, h⟩
theorem pps_cons {X : Cx} {pos : Pos} {k v : Expr} {ks : List (Option Expr)} {vs : List Expr} {tk tv : TE} {trs : List (TE × TE)} (hk : PE X k tk) (hv : PE X v tv) (hr : PPs X pos ks vs trs) :
    PPs X pos (some k :: ks) (v :: vs) ((tk, tv) :: trs) := fun pins s σ H Q I h =>
  pairTrees_cons_walk (thn (hk pins s σ H _ I h) fun u s1 ⟨x, H1, I1, rx, q1⟩ => thn (hv pins s1 σ H1 _ I1 q1) fun w2 s2 ⟨y, H2, I2, ry, q2⟩ =>
    thn (hr pins s2 σ H2 _ I2 q2) fun ws s3 ⟨ps, H3, I3, rel, q3⟩ => ⟨(x, y) :: ps, H3, I3, .cons ⟨rx, ry⟩ rel, q3⟩)

def mergeK (kvs more : List (Key × V)) : List (Key × V) := more.foldl (fun acc kv => putK acc kv.1 kv.2) kvs
theorem KV.merge : ∀ {more : List (Key × V)} {rs : List (Key × Value)} {kvs : List (Key × V)} {vs : List (Key × Value)}, KV more rs → KV kvs vs → KV (mergeK kvs more) (merged vs rs) := by
  intro more rs kvs vs r
  unfold KV at r
  induction r generalizing kvs vs with
  | nil => intro q; exact q
  | @cons p q ps qs h t ih =>
    intro r0
    have e : KV (putK kvs p.1 p.2) (stored vs q.1 q.2) := by
      have := r0.put p.1 h.2
      rw [← h.1]; exact this
    exact ih e
theorem length_mergeK : ∀ (more kvs : List (Key × V)), (mergeK kvs more).length ≤ kvs.length + more.length
  | [], kvs => by show kvs.length ≤ kvs.length + 0; omega
  | p :: r, kvs => by
    have h1 := length_mergeK r (putK kvs p.1 p.2)
    have h2 := length_putK kvs p.1 p.2
    show (mergeK (putK kvs p.1 p.2) r).length ≤ _
    rw [List.length_cons]; omega
theorem carries_of {P : Program} {w : World} : ∀ {kvs : List (Key × V)} {ws : List (Value × Value)}, VV (kvs.map fun kv => (kV kv.1, kv.2)) ws → ∃ rs, Carries (mixKind P w) ws rs ∧ KV kvs rs
  | [], _, r => by rw [List.map_nil] at r; cases r; exact ⟨[], True.intro, .nil⟩
  | p :: kvs, _, r => by
    rw [List.map_cons] at r
    cases r with
    | @cons a b as bs h t =>
      obtain ⟨rs, c, q⟩ := carries_of (P := P) (w := w) t
      obtain ⟨b1, b2⟩ := b
      exact ⟨(p.1, b2) :: rs, ⟨kV_is h.1, rfl, c⟩, .cons ⟨rfl, h.2⟩ q⟩
def tDisp (trs : List (TE × TE)) : TE := fun σ H Q => ∀ p, H p = none → tPairs trs σ (upd H p (.dK [])) fun ps H2 => H2 p = some (.dK []) ∧ ∃ kvs : List (Key × V), ps = kvs.map (fun kv => (kV kv.1, kv.2)) ∧ kvs.length ≤ 15 ∧ Q (.ref p) (upd H2 p (.dK (mergeK [] kvs)))
theorem pe_disp {X : Cx} {pos : Pos} {keys : List (Option Expr)} {values : List Expr} {trs : List (TE × TE)} (h : PPs X pos keys values trs) (hall : keys.all (·.isSome) = true) (hl : keys.length = values.length) (h0 : keys ≠ [])
    (h15 : keys.length ≤ 15) : PE X (.Dict keys values pos) (tDisp trs) := by
  intro pins s σ H Q I q
  have hn := I.hok.fresh (Nat.le_refl s.heap.objs.size)
  have I1 := I.laid (a := s.heap.objs.size) (o := .dK []) (h' := s.heap.push { cls := .type "dict", data := .dict #[] }) (t' := s.toks) (fun _ _ q => Heap.get?_push_of_some _ q) (Nat.le_refl _) (dk_empty s.heap I.big)
  refine wpAny_Dict_walk (knd := mixKind X.prog X.w) hall hl h0 h15 (thn (h pins _ σ _ _ I1 (q _ hn)) fun ws s2 ⟨ps, H2, I2, rel, e, kvs, ep, lk, q2⟩ => ?_)
  subst ep
  obtain ⟨rs, c, rk⟩ := carries_of (P := X.prog) (w := X.w) rel
  obtain ⟨z, hd, vs0, r0, dd⟩ := dk_of I2.hok e
  cases r0
  refine ⟨rs, c, dd, fun h' dd' hs => ⟨.ref s.heap.objs.size, _, ?_, rfl, q2⟩⟩
  have hz : (mergeK [] kvs).length ≤ sizeLine := by
    have h1 := length_mergeK kvs []
    rw [List.length_nil] at h1
    rw [sizeLine_eq]; omega
  have he : ∃ q, h'.get? s.heap.objs.size = some q := let ⟨q, _, _, hq, _⟩ := dd'; ⟨q, hq⟩
  exact d_write I2 (by rw [e]; exact True.intro) hs he (dk_new hz hd (rk.merge .nil) dd')


/-! ### methods -/
structure M1 (X : Cx) (o : Expr) (m : Str) (apos : Pos) (e : Expr) (cpos : Pos) : Prop where
  base : attributeBase o m X.env (eval o X.env) = eval o X.env
  few : ((backTo cpos (starEach [e] X.env)).all (fun x => !x.1) && (backToKw cpos (keywordEach [] X.env)).all (fun x => x.1.isSome)
    && decide (([e] : List Expr).length + ([] : List Keyword).length + (if ([] : List Keyword).isEmpty then 0 else 1) < 30)) = true
  line : (apos.endLine == cpos.line) = true
  trees : backTo cpos (starEach [e] X.env) = [(false, eval e X.env)]
structure M2 (X : Cx) (o : Expr) (m : Str) (apos : Pos) (e f : Expr) (cpos : Pos) : Prop where
  base : attributeBase o m X.env (eval o X.env) = eval o X.env
  few : ((backTo cpos (starEach [e, f] X.env)).all (fun x => !x.1) && (backToKw cpos (keywordEach [] X.env)).all (fun x => x.1.isSome)
    && decide (([e, f] : List Expr).length + ([] : List Keyword).length + (if ([] : List Keyword).isEmpty then 0 else 1) < 30)) = true
  line : (apos.endLine == cpos.line) = true
  trees : backTo cpos (starEach [e, f] X.env) = [(false, eval e X.env), (false, eval f X.env)]

def IsD (H : Hp) (a : Addr) : Prop := (∃ kvs, Rd H a (.dK kvs)) ∨ ∃ kvs, Rd H a (.dT kvs)
theorem isD_at {X : Cx} {pins : List (Addr × Obj)} {σ : St} {H : Hp} {s : Shared} {a : Addr} (I : Inv X pins σ H s) (d : IsD H a) :
    s.TypeIs (.ref a) "dict" ∧ (∀ b, Value.ref a = .ref b → ∃ ob, s.heap.get? b = some ob ∧ ob.dict = none) ∧ (a == sysModules) = false := by
  rcases d with ⟨kvs, e⟩ | ⟨kvs, e⟩
  · obtain ⟨_, hd, vs, _, dd⟩ := dk_rd I.hok e
    refine ⟨dd.typeIs, fun b q => ?_, hd⟩
    cases q
    obtain ⟨ob, _, _, h1, h2, _⟩ := dd
    exact ⟨ob, h1, h2.2.1⟩
  · obtain ⟨_, hd, xs, _, dd⟩ := dt_rd I.hok e
    refine ⟨dd.typeIs, fun b q => ?_, hd⟩
    cases q
    obtain ⟨ob, _, _, h1, h2, _⟩ := dd
    exact ⟨ob, h1, h2.2.1⟩

section
variable {X : Cx} {pins : List (Addr × Obj)} {σ : St} {H : Hp} {s : Shared} {a : Addr} {y d : V} {u r : Value} {o : Option V} {A : Around} {E : Value → Shared → Prop}
theorem d_get2 {Q : Value → Shared → Prop} (hu : A.units + 1 < cLine) (I : Inv X pins σ H s) (g : DGet H a y o) (ry : RelV y u) (rd : RelV d r) (h : ∀ w' s', Inv X pins σ H s' → RelV (o.getD d) w' → Q w' s') :
    wpAny (model X.prog X.w) A (call (.builtin "dict.get") [.ref a, u, r]) Q E s := by
  rcases g with ⟨kvs, k, e, ey, l⟩ | ⟨kvs, k, b, e, ey, eb, l⟩
  · subst ey
    obtain ⟨z, hd, vs, rel, dd⟩ := dk_rd I.hok e
    refine call_meetsIn PySem.F.slot_dict_get dd.typeIs PySem.F.entry_dict_get (PySem.F.args_dict_get_3 _ _ _) (meets_dict_get_default (mixKind X.prog X.w) a (kV_is ry) hd r) ⟨_, dd.mapOf, h _ _ (I.tok _) ?_⟩
    rw [l]
    exact (rel.val k).getD rd
  · subst ey
    cases (show u = Value.ref b from ry)
    obtain ⟨z, hd, xs, rel, dd⟩ := dt_rd I.hok e
    refine call_meetsIn PySem.F.slot_dict_get dd.typeIs PySem.F.entry_dict_get (PySem.F.args_dict_get_3 _ _ _) (meetsH_dict_get_default (tupleKind (mixKind X.prog X.w)) a b hd r) ⟨tupleKind_room_in1 hu, k, xs, key_of I.hok eb, dd, h _ _ (I.tok _) ?_⟩
    rw [l]
    exact (rel.val k).getD rd
end

def tDGet2 (td ty tx : TE) : TE := fun σ H Q => td σ H fun x H1 => ∃ a, x = .ref a ∧ IsD H1 a ∧ ty σ H1 fun y H2 => tx σ H2 fun z H3 => ∃ o, DGet H3 a y o ∧ Q (o.getD z) H3
section
variable {X : Cx} {o e f : Expr} {apos cpos : Pos} {td ty tx : TE}
theorem pe_dget2 (hu : X.A.units + 1 < cLine) (ho : PE X o td) (he : PE X e ty) (hf : PE X f tx) (m : M2 X o "get" apos e f cpos) : PE X (.Call (.Attribute o "get" apos) [e, f] [] cpos) (tDGet2 td ty tx) := by
  intro pins s σ H Q I h
  refine wpAny_Call_method m.base m.few m.line PySem.F.plainAttrs_dict PySem.F.slot_dict_get PySem.F.type_dict_get (thn (ho pins s σ H _ I h) fun u s1 ⟨x, H1, I1, rx, a, ex, d, q1⟩ => ?_)
  subst ex
  obtain rfl : u = Value.ref a := rx
  obtain ⟨t1, t2, _⟩ := isD_at I1 d
  refine ⟨t1, t2, ?_⟩
  rw [m.trees]
  refine Calls.callWith_builtin rfl (Calls.evalArgs_plain (Calls.spliced_cons (thn (he pins s1 σ H1 _ I1 q1) fun iv s2 ⟨y, H2, I2, ry, q2⟩ =>
    Calls.spliced_cons (thn (hf pins s2 σ H2 _ I2 q2) fun fv s3 ⟨z, H3, I3, rz, ov, g, q3⟩ => Calls.spliced_nil ?_))))
  exact d_get2 hu I3 g ry rz fun w' s4 I4 rw' => ⟨_, H3, I4, rw', q3⟩
end

/-! ### dict(d): a copy -/
section
variable {X : Cx} {pins : List (Addr × Obj)} {σ : St} {H : Hp} {s : Shared} {a : Addr} {kvs : List (Key × V)} {A : Around} {E : Value → Shared → Prop}
end


section
variable {X : Cx} {pins : List (Addr × Obj)} {σ : St} {H : Hp} {s : Shared} {a : Addr} {y : V} {u : Value} {A : Around} {E : Value → Shared → Prop}
end
end L2

namespace Att
open PySem PySem.W PySem.Calls PyProof.Rows

/-! ### the script -/
theorem ints_of_wellAll {P : Params} {h : Heap} : ∀ (ns : List Int) (vs : List Value), WellAll P h vs (ns.map WData.int) → IntsAre vs ns := by
  intro ns
  induction ns with
  | nil =>
    intro vs w
    rw [List.map_nil] at w
    cases w
    exact .nil
  | cons n ns ih =>
    intro vs w
    rw [List.map_cons] at w
    cases w with
    | cons a b =>
      cases a
      exact .cons _ _ (ih _ b)

theorem script_of {l : OpenLaw} {n : Nat} (hn : l.most = some n) {P : Params} {h : Heap} {args : List WData} {vals : List Value}
    (hpre : l.row.toRowW.claim.pre args = true) (hwl : WellAll P h vals args) :
    ∃ a vs ns, vals = [Value.ref a] ∧ args = [WData.list (ns.map WData.int)] ∧ h.get? a = some { cls := .type "list", data := .seq vs.toArray } ∧ IntsAre vs ns ∧ ns.length ≤ n := by
  have hsh : WShape.hasAll [] args [.list .int] = true := (pre_splitW hpre).1
  have hc : l.pre.holds [] { args := args } = true := (pre_splitW hpre).2
  obtain ⟨d, r, rfl, h1, h2⟩ := hasAllW_cons hsh
  obtain rfl := hasAllW_nil h2
  obtain ⟨xs, rfl, h3⟩ := hasW_list h1
  obtain ⟨ns, rfl⟩ := items_int h3
  have hlen : ns.length ≤ n := by
    unfold OpenLaw.pre at hc
    have h4 : (WTm.not (.lt (.lit (.int (n : Int))) (.len (.arg 0)))).holds [] { args := [.list (ns.map .int)] } = true := by
      have h4 := (holds_andW hc).1
      rw [hn] at h4
      exact h4
    have h5 := condW_of h4 (w_not (w_lt w_lit (w_len_list (w_arg rfl))))
    rw [List.length_map] at h5
    refine Nat.le_of_not_lt fun q => ?_
    have q' : (n : Int) < ((ns.length : Nat) : Int) := by omega
    first
      | (rw [decide_eq_true q'] at h5; exact absurd h5 (by decide))
      | (simp at h5; omega)
  cases hwl with
  | cons w1 w2 =>
    cases w2
    cases w1 with
    | list ho hall => exact ⟨_, _, ns, rfl, rfl, ho, ints_of_wellAll ns _ hall, hlen⟩

theorem post_true (l : OpenLaw) (args : List WData) : l.row.toRowW.claim.post args (.bool true) args = true :=
  postW_of (r := l.row.toRowW) (X := (true == true))
    (show WShape.has [] (.bool true) .bool = true by first | rfl | decide | simp [WShape.has, WShape.arms, WShape.armsAll])
    (show (WTm.eq .res (.lit (.bool true))).value [] { args := args, res := some (.bool true), after := args } = some (.bool (true == true)) from w_eq_bool (w_res rfl) w_lit) rfl

/-! ### the attachment: holds_open's last premise (the goal 'hc' behind k_head) from a wpAny of the law's body -/
theorem attach_call {l : OpenLaw} {n : Nat} {q : Program} {loose : List Str} {XP : (Str → Option Value) → Heap → Prop} {YP : World → Heap → Prop} {d : DefRec}
    (hn : l.most = some n) (hdf : d.params.defaults = [])
    (call : ∀ (w : World) (s₀ s₁ : Shared) (mg mb : Str → Option Value) (fa : Addr) (o : Obj) (pm cd doc : Value) (a : Addr) (vs : List Value) (ns : List Int),
      Ground q loose [] XP w s₀ mg mb s₁.heap → YP w s₁.heap →
      s₁.heap.get? fa = some o → o.data = .func (docDef d.name d.params d.body d.scope pm cd doc) → s₁.heap.CodeRec cd d.name → mg d.name = some (.ref fa) →
      s₁.heap.get? a = some { cls := .type "list", data := .seq vs.toArray } → IntsAre vs ns → ns.length ≤ n → s₁.gens = #[] →
      codeAny (model l.prog w) callerA (.call (.ref fa) ⟨[.ref a], []⟩) (fun r s' => r = .ok (.ret (.bool true)) ∧ OldK s₁.heap s'.heap ∧ s'.os = s₁.os ∧ AllBare s'.gens) s₁) :
    WalkO q loose XP YP l.row.toRowW d [] (fun f vs => PySem.call f vs) := by
  intro w s₀ s₁ mg mb G Y fa o pm cd doc dV kV ho hd hcd hD hmg hg args vals as hpre hlay hrd hwl hlo
  obtain rfl : dV = .none := Dflts.none hD hdf
  obtain rfl : kV = .none := Dflts.noKw hD
  obtain ⟨a, vs, ns, rfl, rfl, hobj, hints, hlen⟩ := script_of hn hpre hwl
  refine enter_call (codeAny_mono (call w s₀ s₁ mg mb fa o pm cd doc a vs ns G Y ho (fd_plain hd) hcd hmg hobj hints hlen hg) fun r s' hq => ?_)
  obtain ⟨rfl, h2, h3, h4⟩ := hq
  exact ⟨.inl ⟨.bool true, .bool true, [], rfl, fun _ => rfl, .bool true, post_true l _, fun _ => ⟨List.Pairwise.nil, fun _ hm => (nomatch hm)⟩⟩, h2, h3, h4⟩

/-! ### rules over ANY heap (no ledger) from facts about the written part K: the library's own take a ledger (News) for what they write -/
section
variable {prog : Program} {w : World} {A : Around} {E : Value → Shared → Prop} {s : Shared} {K : Frag}

/-! the whole heap as the ledger: makes every rule that writes through a ledger a rule over any heap -/
def ledger (h : Heap) (L d : Addr) : List (Addr × Obj) := (List.range h.objs.size).filterMap fun a => if a = L ∨ a = d then none else (h.get? a).map fun o => (a, o)
end
end Att

namespace L2
open PySem PySem.Spec PyProof.Rows

theorem vals_ints : ∀ {vs : List Value} {ns : List Int}, IntsAre vs ns → Vals (ns.map V.int) vs
  | _, _, .nil => .nil
  | _, _, .cons n t h => .cons ⟨t, rfl⟩ (vals_ints h)

def Only (H : Hp) : Prop := ∀ b, H b = none ∨ ∃ o xs, H b = some (.frz o (.lst xs))

theorem law_call {P : Program} {w : World} {K : PySem.W.Frag} {mg mb : Str → Option Value} {CX : CXT} {k : Nat} {fa a : Addr} {fd : FuncData} {x : Str} {sp : Sp} {s₁ : Shared} {vs : List Value} {ns : List Int}
    (KX : K.In s₁.heap) (hns : s₁.heap.Ns mainGlobals mg) (hb : s₁.heap.Ns builtinsNs mb) (hbb : ∀ x : Str, x ≠ "__name__" → mb x = bootBuiltins x) (hlim : s₁.heap.NoLimit) (hg : s₁.gens = #[])
    (ha : s₁.heap.get? a = some { cls := .type "list", data := .seq vs.toArray }) (hi : IntsAre vs ns) (hl : ns.length ≤ sizeLine) (hr : Room k callerA)
    (F : ∀ base : Heap, K.In base → base.Ns mainGlobals mg → FnOk P w K mg base CX k fa fd [x] sp) (hbind : ∀ (s : Shared) (u : Value), BindsTo s fd ⟨[u], []⟩ [(x, u)])
    (hsp : ∀ H : Hp, Only H → SqL K H a (ns.map V.int) → sp [.ref a] H (fun v _ => v = .bl true) fun _ _ _ => False)
    (hCX : ∀ H e s', CX [] H s₁ (fun _ _ _ => False) e s' → False) :
    codeAny (model P w) callerA (.call (.ref fa) ⟨[.ref a], []⟩) (fun r s' => r = .ok (.ret (.bool true)) ∧ OldK s₁.heap s'.heap ∧ s'.os = s₁.os ∧ AllBare s'.gens) s₁ := by
  have rv := vals_ints hi
  have lenV := hi.length
  -- from an abstract heap in which nothing but the script may be tracked
  have core : ∀ H : Hp, Only H → SqL K H a (ns.map V.int) → HOk P w H s₁.heap → (∀ b, H b ≠ none → b = a) → (H a ≠ none → K.lookup a = none) →
      codeAny (model P w) callerA (.call (.ref fa) ⟨[.ref a], []⟩) (fun r s' => r = .ok (.ret (.bool true)) ∧ OldK s₁.heap s'.heap ∧ s'.os = s₁.os ∧ AllBare s'.gens) s₁ := by
    intro H hO hS hok hA hK
    have base_of : ∀ {b : Addr} {o : Obj}, s₁.heap.get? b = some o → H b = none → (hidT s₁.heap H).get? b = some o := fun e n => hidT_get e n
    have noA : ∀ {b : Addr} {o : Obj} {es : Array DictEntry} {ep : Nat}, s₁.heap.get? b = some o → o.data = .dict es ep → H b = none := fun {b o es ep} e d => by
      cases q : H b with
      | none => rfl
      | some u =>
        have e' : b = a := hA b (by rw [q]; simp)
        subst e'
        rw [ha] at e; cases e
        have d' : Data.seq vs.toArray _ = Data.dict es ep := d
        cases d'
    have nsK : ∀ {b : Addr} {m : Str → Option Value}, s₁.heap.Ns b m → (hidT s₁.heap H).Ns b m := fun {b m} ⟨o, es, ep, e, d, r⟩ => ⟨o, es, ep, base_of e (noA e d), d, r⟩
    have hKb : K.In (hidT s₁.heap H) := fun b o e => base_of (KX b o e) (by
      cases q : H b with
      | none => rfl
      | some u =>
        have e' : b = a := hA b (by rw [q]; simp)
        subst e'
        rw [hK (by rw [q]; simp)] at e; cases e)
    have hM : Mod K mg (hidT s₁.heap H) := ⟨hKb, nsK hns, ⟨mb, nsK hb, hbb⟩, let ⟨mc, h1, h2⟩ := hlim; ⟨mc, nsK h1, h2⟩⟩
    have e0 : Env0 P w K mg (hidT s₁.heap H) callerA [] s₁ H := ⟨rfl, hM, fun b o e => of_hidT e, Nat.le_of_eq (hidT_size _ _), trivial, fun b hb => absurd (show b ∈ ([] : List Addr) from hb) (by simp), hok, .of_eq hg⟩
    refine codeAny_mono ((F _ hKb (nsK hns)).run callerA [] s₁ H ⟨[.ref a], []⟩ [.ref a] [.ref a] _ _ hr e0 (hbind s₁ (.ref a)) (.cons rfl .nil) (hsp H hO hS)) fun r s' h => ?_
    cases r with
    | error e => exact (hCX H e s' h).elim
    | ok fl =>
      cases fl with
      | next => exact False.elim h
      | brk => exact False.elim h
      | cont => exact False.elim h
      | ret u =>
        obtain ⟨v, H', os, bare, un, hok', r', q⟩ := h
        have q' : v = .bl true := q
        subst q'
        obtain rfl : u = Value.bool true := r'
        refine ⟨rfl, OldK.of_keep fun b o e => ?_, os, bare⟩
        cases q : H b with
        | none => exact un.keep b o e q (by intro z; exact absurd (show b ∈ ([] : List Addr) from z) (by simp)) (by simp)
        | some u =>
          rcases hO b with z | ⟨ob, xs, z⟩
          · rw [q] at z; cases z
          · have z2 := un.frzs b ob _ z
            obtain ⟨e1, _⟩ := hok b _ z
            obtain ⟨e2, _⟩ := hok' b _ z2
            rw [e] at e1; cases e1
            exact e2
  cases hk : K.lookup a with
  | some o =>
    -- the script is one of the module's own objects
    have e := KX a o hk
    rw [ha] at e
    cases e
    refine core (fun _ => none) (fun _ => .inl rfl) (.inr ⟨_, vs.toArray, _, hk, rfl, rfl, rfl, by rw [List.size_toArray, lenV]; exact hl, by simpa using rv⟩) (fun b u z => by have z' : (none : Option HO) = some u := z; cases z') (fun b z => absurd rfl z) fun z => absurd rfl z
  | none =>
    refine core (fun b => if b = a then some (.frz { cls := .type "list", data := .seq vs.toArray } (.lst (ns.map V.int))) else none) (fun b => ?_) (.inl (.inr ⟨{ cls := .type "list", data := .seq vs.toArray }, if_pos rfl⟩)) (fun b u z => ?_) (fun b z => ?_) fun _ => hk
    · by_cases hb : b = a
      · exact .inr ⟨_, _, if_pos hb⟩
      · exact .inl (if_neg hb)
    · by_cases hb : b = a
      · have z' := (if_pos hb).symm.trans z
        cases z'
        subst hb
        exact ⟨ha, by rw [List.length_map]; exact hl, vs, _, rv, ha⟩
      · have z' := (if_neg hb).symm.trans z
        cases z'
    · by_cases hb : b = a
      · exact hb
      · exact absurd (if_neg hb) z
end L2

namespace L2
open PySem PySem.Spec PyProof.Rows

theorem walk_of {l : PySem.W.OpenLaw} {n k : Nat} {q : Program} {loose : List Str} {XP : (Str → Option Value) → Heap → Prop} {YP : World → Heap → Prop} {d : DefRec} {K : Params → PySem.W.Frag} {CX : World → CXT} {sp : World → Sp} {x : Str}
    (hn : l.most = some n) (hn2 : n ≤ sizeLine) (hdf : d.params.defaults = []) (hr : Room k callerA)
    (hY : ∀ (w : World) (h : Heap), YP w h → (K w.params).In h)
    (F : ∀ (w : World) (mg : Str → Option Value) (fa : Addr) (h : Heap), (K w.params).In h → h.Ns mainGlobals mg → mg d.name = some (.ref fa) →
      ∃ fd : FuncData, (∀ (s : Shared) (u : Value), BindsTo s fd ⟨[u], []⟩ [(x, u)]) ∧
        ∀ base : Heap, (K w.params).In base → base.Ns mainGlobals mg → FnOk l.prog w (K w.params) mg base (CX w) k fa fd [x] (sp w))
    (hsp : ∀ (w : World) (H : Hp) (a : Addr) (ns : List Int), ns.length ≤ n → Only H → SqL (K w.params) H a (ns.map V.int) → sp w [.ref a] H (fun v _ => v = .bl true) fun _ _ _ => False)
    (hCX : ∀ (w : World) (H : Hp) (s : Shared) (e : Value) (s' : Shared), CX w [] H s (fun _ _ _ => False) e s' → False) :
    PySem.W.WalkO q loose XP YP l.row.toRowW d [] (fun f vs => PySem.call f vs) := by
  refine Att.attach_call hn hdf fun w s₀ s₁ mg mb fa o pm cd doc a vs ns G Y ho hd hcd hmg hobj hints hlen hg => ?_
  have KX := hY w _ Y
  obtain ⟨fd, hb, hF⟩ := F w mg fa _ KX G.T.g hmg
  exact law_call KX G.T.g G.T.b G.T.builtins G.T.nolimit hg hobj hints (Nat.le_trans hlen hn2) hr hF hb (fun H hO hS => hsp w H a ns hlen hO hS) fun H e s' => hCX w H s₁ e s'
end L2


/-! SHORT WORDS over the layer: a def of the text, its body, what a loop and a test want. -/
namespace L2
open PySem PySem.Spec PyProof.Rows

/-! ### the text by places -/
def defArgs (s : Stmt) : Arguments := match s with
  | .FunctionDef _ a _ _ _ _ _ _ _ _ => a
  | _ => { posonlyargs := [], args := [], vararg := none, kwonlyargs := [], kw_defaults := [], kwarg := none, defaults := [] }
def defBody (s : Stmt) : List Stmt := match s with
  | .FunctionDef _ _ b _ _ _ _ _ _ _ => b
  | _ => []
def defScope (s : Stmt) : Scope := match s with
  | .FunctionDef _ _ _ _ _ _ sc _ _ _ => sc
  | _ => { kind := .function, names := [], isGenerator := false, isCoroutine := false }

/-! ### no exception leaves a def -/
abbrev E0 : XK := fun _ _ _ => False
/-! ### a def (or method) of the text as it stands behind the top -/
structure Fun (K : PySem.W.Frag) (x qual : Str) (st : Stmt) (f : Addr) (fd : FuncData) : Prop where
  ex : ∃ (oc : Value) (od : Option Addr) (kV doc pm : Value) (an : Option Addr) (cdv ct : Value) (osl : Array (Option Value)),
    fd = PySem.W.fnOf x qual (defArgs st) (defBody st) (defScope st) .none kV doc pm an cdv ct ∧ K.lookup f = some ⟨oc, od, .func fd, osl⟩ ∧ PySem.W.codeIn K cdv qual = true
  kp : PySem.W.keepIn K (.ref f) = true
section
variable {P : Program} {w : World} {K : PySem.W.Frag} {mg : Str → Option Value} {base : Heap}
theorem Fun.binds {x qual : Str} {st : Stmt} {f : Addr} {fd : FuncData} {ps : List Str} (F : Fun K x qual st f fd)
    (h : ∀ (kV doc pm : Value) (an : Option Addr) (cdv ct : Value) (us : List Value), us.length = ps.length → bindArgs (PySem.W.fnOf x qual (defArgs st) (defBody st) (defScope st) .none kV doc pm an cdv ct) ⟨us, []⟩ = pure (ps.zip us)) : Binds K fd ps [] := by
  obtain ⟨oc, od, kV, doc, pm, an, cdv, ct, osl, rfl, lk, hcd⟩ := F.ex
  exact .all (h kV doc pm an cdv ct)
theorem fun_mk {x qual : Str} {st : Stmt} {f : Addr} {oc : Value} {od an : Option Addr} {osl : Array (Option Value)} {kV doc pm cdv ct : Value} (l : K.lookup f = some ⟨oc, od, .func (PySem.W.fnOf x qual (defArgs st) (defBody st) (defScope st) .none kV doc pm an cdv ct), osl⟩)
    (c : PySem.W.codeIn K cdv qual = true) (k : PySem.W.keepIn K (.ref f) = true) : Fun K x qual st f (PySem.W.fnOf x qual (defArgs st) (defBody st) (defScope st) .none kV doc pm an cdv ct) := ⟨⟨oc, od, kV, doc, pm, an, cdv, ct, osl, rfl, l, c⟩, k⟩
end
theorem hu_of {A : Around} {k : Nat} (hr : Room k A) : A.units + 1 < cLine := Nat.lt_of_le_of_lt (Nat.add_le_add_left (by decide : 1 ≤ 64) _) hr.units
theorem small1000 {n : Nat} (h : n ≤ 1000) : n < sizeLine := Nat.lt_of_le_of_lt h (by decide)

/-! ### expressions in short: the name that stands in the i-th slot -/
section
variable {X : Cx}
theorem pv (i : Nat) {x : Str} {pos : Pos} (hN : X.N[i]? = some x := by rfl) (hv : Vis X.env.scope x := by first | exact Or.inl rfl | exact Or.inr (Or.inl rfl) | exact Or.inr (Or.inr rfl)) (hd : (x == ("__debug__" : Str)) = false := by decide)
    (hcd : (x == ("__classdict__" : Str)) = false := by decide) : PE X (.Name x pos) (tVar i) := pe_var hN hv hd hcd
end

/-! ### tests -/
theorem iteF {A B : Prop} (h : B) : if false = true then A else B := by
  rw [if_neg Bool.false_ne_true]
  exact h
theorem iteT {A B : Prop} (h : A) : if true = true then A else B := by
  rw [if_pos rfl]
  exact h
theorem ite2 {c A B : Prop} [Decidable c] (h1 : c → A) (h2 : ¬ c → B) : if c then A else B := by
  by_cases h : c
  · rw [if_pos h]
    exact h1 h
  · rw [if_neg h]
    exact h2 h
/-! ### heaps -/
def Same (H H' : Hp) : Prop := ∀ b o, H b = some o → H' b = some o
theorem Same.refl (H : Hp) : Same H H := fun _ _ h => h
theorem Same.trans {H H1 H2 : Hp} (a : Same H H1) (b : Same H1 H2) : Same H H2 := fun c o h => b c o (a c o h)
theorem Same.free {H H' : Hp} (e : Same H H') {l : Addr} (h : H' l = Option.none) : H l = Option.none := by
  cases q : H l with
  | none => rfl
  | some o =>
    rw [e l o q] at h
    cases h
theorem Same.seq {K : PySem.W.Frag} {H H' : Hp} {a : Addr} {xs : List V} (e : Same H H') (h : SqL K H a xs) : SqL K H' a xs := by
  rcases h with (h | ⟨o, h⟩) | h
  · exact .inl (.inl (e _ _ h))
  · exact .inl (.inr ⟨o, e _ _ h⟩)
  · exact .inr h

/-! ### a dict's pairs: keys that differ -/
section
variable {κ : Type} [DecidableEq κ]
end
end L2

set_option Elab.async false
set_option linter.all false
set_option maxRecDepth 100000
set_option maxHeartbeats 4000000
namespace Gu
open PySem L2
def top (i : Nat) : Stmt := PySem.Challenge.pw_guisery_k48_lines_refused.main.body.getD i (.Pass ⟨0, 0, 0, 0⟩)
abbrev sIsName : Stmt := top 10
abbrev sAreFig : Stmt := top 11
abbrev sRdName : Stmt := top 12
abbrev sRdNum : Stmt := top 13
abbrev sRdFig : Stmt := top 14
abbrev sRdWord : Stmt := top 15
abbrev sRdGoing : Stmt := top 16
abbrev sRdRow : Stmt := top 17
abbrev sRdRows : Stmt := top 18
abbrev sHeadL : Stmt := top 20
abbrev sRdParts : Stmt := top 21
abbrev sRdLine : Stmt := top 22
abbrev sNumbers : Stmt := top 24
abbrev sSaidW : Stmt := top 25
abbrev sSaidR : Stmt := top 26
abbrev sLineL : Stmt := top 27
abbrev sGoodN : Stmt := top 28
abbrev sBigL : Stmt := top 29
abbrev sGoodR : Stmt := top 30
abbrev sAnyD : Stmt := top 31
abbrev sCell : Stmt := top 32
abbrev sWhole : Stmt := top 33
abbrev sLike : Stmt := top 34
abbrev sSigns : Stmt := top 35
abbrev sSpoilt : Stmt := top 36
abbrev sAllOf : Stmt := top 37
abbrev sMeantP : Stmt := top 38
abbrev sMeantR : Stmt := top 39
abbrev sMeant : Stmt := top 40
abbrev sLaw : Stmt := top 41
end Gu

set_option Elab.async false
set_option linter.all false
set_option maxRecDepth 100000
set_option maxHeartbeats 4000000
namespace L2
open PySem PySem.Spec PyProof.Rows

/-! ### comprehensions -/
def closeL (cells : List (Str × Addr)) : List (Str × NameKind) → List (Str × Addr) → List (Str × Addr)
  | [], cs => cs
  | (n, k) :: r, cs => closeL cells r (if k = .free then (n, (cells.lookup n).getD 0) :: cs else cs)
theorem closeL_in {cells : List (Str × Addr)} : ∀ (l : List (Str × NameKind)) (cs : List (Str × Addr)) (x : Str), (∀ y, (y, NameKind.free) ∈ l → ∃ c, cells.lookup y = some c) → ((x, NameKind.free) ∈ l ∨ cs.lookup x = cells.lookup x) → (closeL cells l cs).lookup x = cells.lookup x
  | [], cs, x, _, h => by
    rcases h with h | h
    · cases h
    · exact h
  | (n, k) :: r, cs, x, hc, h => by
    refine closeL_in r _ x (fun y hy => hc y (List.mem_cons_of_mem _ hy)) ?_
    by_cases hk : k = .free
    · subst hk
      rw [if_pos rfl]
      by_cases e : x = n
      · subst e
        obtain ⟨c, hcx⟩ := hc x List.mem_cons_self
        right
        rw [List.lookup_cons, hcx]
        simp
      · rcases h with h | h
        · rcases List.mem_cons.mp h with h | h
          · exact absurd (congrArg Prod.fst h) e
          · exact .inl h
        · right
          have : (x == n) = false := by simpa using e
          rw [List.lookup_cons, this]
          exact h
    · rw [if_neg hk]
      rcases h with h | h
      · rcases List.mem_cons.mp h with h | h
        · exact absurd (congrArg Prod.snd h).symm hk
        · exact .inl h
      · exact .inr h
theorem closeL_out {cells : List (Str × Addr)} : ∀ (l : List (Str × NameKind)) (cs : List (Str × Addr)) (x : Str), (x, NameKind.free) ∉ l → (closeL cells l cs).lookup x = cs.lookup x
  | [], cs, x, _ => rfl
  | (n, k) :: r, cs, x, h => by
    refine (closeL_out r _ x (fun hy => h (List.mem_cons_of_mem _ hy))).trans ?_
    by_cases hk : k = .free
    · subst hk
      rw [if_pos rfl]
      have e : x ≠ n := fun e => h (by subst e; exact List.mem_cons_self)
      have : (x == n) = false := by simpa using e
      rw [List.lookup_cons, this]
    · rw [if_neg hk]
theorem closureFor_run {scope : Scope} {env : Env} (h : ∀ y, (y, NameKind.free) ∈ scope.names → ∃ c, env.cells.lookup y = some c) : closureFor scope env = pure (closeL env.cells scope.names []) := by
  have key : ∀ (l : List (Str × NameKind)) (cs : List (Str × Addr)), (∀ y, (y, NameKind.free) ∈ l → ∃ c, env.cells.lookup y = some c) →
      (forIn l cs (fun (x : Str × NameKind) (r : List (Str × Addr)) => if (x.2 == NameKind.free) = true then (do let c ← cellOf env x.1; pure (ForInStep.yield ((x.1, c) :: r)) : Sem _) else pure (ForInStep.yield r)) : Sem (List (Str × Addr))) = pure (closeL env.cells l cs) := by
    intro l
    induction l with
    | nil => intro cs _; rfl
    | cons x r ih =>
      intro cs hc
      obtain ⟨n, k⟩ := x
      rw [List.forIn_cons]
      by_cases hk : k = .free
      · subst hk
        obtain ⟨c, e⟩ := hc n List.mem_cons_self
        have e1 : cellOf env n = pure c := by unfold cellOf; rw [e]
        have e2 : closeL env.cells ((n, NameKind.free) :: r) cs = closeL env.cells r ((n, c) :: cs) := by
          show closeL env.cells r (if NameKind.free = NameKind.free then (n, (env.cells.lookup n).getD 0) :: cs else cs) = _
          rw [if_pos rfl, e]
          all_goals rfl
        rw [e2, ← ih _ (fun y hy => hc y (List.mem_cons_of_mem _ hy))]
        simp only [beq_self_eq_true, if_true, e1]
        rfl
      · have hb : (k == NameKind.free) = false := by simpa using hk
        have e2 : closeL env.cells ((n, k) :: r) cs = closeL env.cells r cs := by
          show closeL env.cells r (if k = NameKind.free then _ else cs) = _
          rw [if_neg hk]
        rw [e2, ← ih _ (fun y hy => hc y (List.mem_cons_of_mem _ hy))]
        simp only [hb, Bool.false_eq_true, if_false]
        rfl
  have := key scope.names [] h
  unfold closureFor
  simp only [] at this ⊢
  exact (congrArg (fun m => m >>= pure) this).trans rfl
end L2

set_option Elab.async false
set_option linter.all false
set_option maxRecDepth 100000
set_option maxHeartbeats 4000000
namespace L2
open PySem PySem.Spec PyProof.Rows

def noE : Value → Shared → Prop := fun _ _ => False
section
variable {prog : Program} {w : World} {A : Around} {R : Result → Shared → Prop} {s : Shared}
theorem comp_turns {elt tg iter : Expr} {scope : Scope} {pos : Pos} {it acc : Value} {env : Env} (I : Nat → Shared → Prop)
    (turn : ∀ n s, I n s → wpAny (model prog w) A (pyNext it) (fun r s1 => match r with
      | none => R (.ok .next) s1
      | some v => wpAny (model prog w) A (letOwnedTupleGo tg it v) (fun _ s2 => wpAny (model prog w) A (assign tg env v) (fun _ s3 => wpAny (model prog w) A (eval elt env) (fun x s4 =>
          wpAny (model prog w) A (call (.builtin "list.append") [acc, x]) (fun _ s5 => ∃ m, m < n ∧ I m s5) noE s4) noE s3) noE s2) noE s1) noE s)
    (n : Nat) (h : I n s) : codeAny (model prog w) A (.compLoop (.ListComp elt [⟨tg, iter, [], 0⟩] scope pos) 0 it acc env) R s := by
  have no : ∀ (P : Value → Shared → Prop) (a : Value) (b : Shared), noE a b → P a b := fun _ _ _ z => False.elim z
  refine codeAny_loop rfl I (fun n s hI => ?_) n h
  show wpAny _ _ ((compTurn (.ListComp elt [⟨tg, iter, [], 0⟩] scope pos) 0 it acc env).onRaise
    (fun x => do noteFrame x env; theTreesLotGoes x)) _ _ s
  refine wpAny_noted ?_
  rw [compTurn_list1]
  refine wpAny_bind (wpAny_standAt (wpAny_bind (wpAny_mono (turn n s hI) (fun r s1 h1 => ?_) (no _))))
  cases r with
  | none => exact wpAny_pure h1
  | some v =>
    refine wpAny_bind (wpAny_mono h1 (fun _ s2 h2 => ?_) (no _))
    refine wpAny_bind (wpAny_mono h2 (fun _ s3 h3 => ?_) (no _))
    refine wpAny_bind (wpAny_bind (wpAny_mono h3 (fun x s4 h4 => ?_) (no _)))
    exact wpAny_bind (wpAny_mono h4 (fun _ s5 h5 => wpAny_pure (wpAny_pure ⟨rfl, h5⟩)) (no _))
end

def relF (env : Env) (p : Str × NameKind) : Str × NameKind := if (p.2 == NameKind.free && env.scope.kind == .function && env.kindOf p.1 == some .cell) = true then (p.1, NameKind.cell) else p
theorem relF_pos {env : Env} {p : Str × NameKind} (h : (p.2 == NameKind.free && env.scope.kind == .function && env.kindOf p.1 == some .cell) = true) : relF env p = (p.1, NameKind.cell) := if_pos h
theorem relF_neg {env : Env} {p : Str × NameKind} (h : ¬ (p.2 == NameKind.free && env.scope.kind == .function && env.kindOf p.1 == some .cell) = true) : relF env p = p := if_neg h
theorem relabel_free {env : Env} {x : Str} : ∀ {l : List (Str × NameKind)}, l.lookup x = some .free → (l.map (relF env)).lookup x = some .cell ∨ (l.map (relF env)).lookup x = some .free
  | [], h => by simp at h
  | (n, k) :: r, h => by
    rw [List.map_cons]
    by_cases hc : (k == NameKind.free && env.scope.kind == .function && env.kindOf n == some .cell) = true
    · rw [relF_pos (p := (n, k)) hc]
      cases hx : x == n with
      | true => left; rw [List.lookup_cons, hx]
      | false =>
        rw [List.lookup_cons, hx] at h
        rw [List.lookup_cons, hx]
        exact relabel_free h
    · rw [relF_neg (p := (n, k)) hc]
      cases hx : x == n with
      | true => right; rw [List.lookup_cons, hx] at h; rw [List.lookup_cons, hx]; exact h
      | false =>
        rw [List.lookup_cons, hx] at h
        rw [List.lookup_cons, hx]
        exact relabel_free h
theorem relabel_only {env : Env} {x : Str} {kd : NameKind} (hkd : kd = .cell ∨ kd = .free) : ∀ {l : List (Str × NameKind)}, (∀ y ∈ l, y.2 ≠ .cell) → (l.map (relF env)).lookup x = some kd → (x, NameKind.free) ∈ l
  | [], _, h => by simp at h
  | (n, k) :: r, hn, h => by
    rw [List.map_cons] at h
    have hk : k ≠ .cell := hn (n, k) List.mem_cons_self
    have up : (r.map (relF env)).lookup x = some kd → (x, NameKind.free) ∈ (n, k) :: r := fun h2 => List.mem_cons_of_mem _ (relabel_only hkd (fun y hy => hn y (List.mem_cons_of_mem _ hy)) h2)
    by_cases hc : (k == NameKind.free && env.scope.kind == .function && env.kindOf n == some .cell) = true
    · rw [relF_pos (p := (n, k)) hc] at h
      cases hx : x == n with
      | true =>
        have hxn : x = n := by simpa using hx
        subst hxn
        have z := hc
        simp only [Bool.and_eq_true, beq_iff_eq] at z
        rw [z.1.1]
        exact List.mem_cons_self
      | false => rw [List.lookup_cons, hx] at h; exact up h
    · rw [relF_neg (p := (n, k)) hc] at h
      cases hx : x == n with
      | true =>
        have hxn : x = n := by simpa using hx
        subst hxn
        rw [List.lookup_cons, hx] at h
        have e : k = kd := Option.some.inj h
        rcases hkd with z | z
        · exact absurd (e.trans z) hk
        · rw [e, z]; exact List.mem_cons_self
      | false => rw [List.lookup_cons, hx] at h; exact up h

def cxComp (X : Cx) (N : List Str) (scope : Scope) (cl : List (Str × Addr)) (C : Addr) (ex : List Addr) (s : Shared) (H : Hp) : Cx where
  prog := X.prog
  w := X.w
  K := X.K
  mg := X.mg
  base := X.base
  A := X.A
  N := N
  s₀ := s
  H₀ := H
  env := compEnvC scope cl C X.env
  outer := X.stack
  stack := X.stack
  ex := ex
  fn := fun _ => false
  calm := X.calm
  pn := []
  xe := noE
structure CompS (XN : List Str) (xsc : Scope) (N : List Str) (ix : List (Option Nat)) (scope : Scope) : Prop where
  kind : scope.kind = .function
  nocell : ∀ y ∈ scope.names, y.2 ≠ .cell
  names : ∀ y ∈ scope.names, y.2 = .local → scope.names.lookup y.1 = some .local
  frees : ∀ y ∈ scope.names, y.2 = .free → xsc.names.lookup y.1 = some .cell ∨ xsc.names.lookup y.1 = some .free
  len : ix.length = N.length
  has : ((ix.zip N).all fun p => match p.1 with | none => true | some j => XN[j]? == some p.2 && scope.names.lookup p.2 == some .free) = true
  nd : N.Nodup
def compSt (ix : List (Option Nat)) (σ : St) : St := ix.map fun o => o.bind fun j => (σ[j]?).join
theorem CompS.at_ {XN : List Str} {xsc : Scope} {N : List Str} {ix : List (Option Nat)} {scope : Scope} (S : CompS XN xsc N ix scope) {i : Nat} {x : Str} {v : V} {σ : St} (hi : N[i]? = some x) (hv : (compSt ix σ)[i]? = some (some v)) :
    ∃ j : Nat, XN[j]? = some x ∧ scope.names.lookup x = some .free ∧ σ[j]? = some (some v) := by
  unfold compSt at hv
  rw [List.getElem?_map] at hv
  cases e : ix[i]? with
  | none => rw [e] at hv; cases hv
  | some o =>
    rw [e] at hv
    cases o with
    | none => cases hv
    | some j =>
      have hv' : (σ[j]?).join = some v := Option.some.inj hv
      have hm : ((some j : Option Nat), x) ∈ ix.zip N := by
        have : (ix.zip N)[i]? = some (some j, x) := by rw [List.getElem?_zip_eq_some]; exact ⟨e, hi⟩
        exact List.mem_of_getElem? this
      have q := List.all_eq_true.mp S.has _ hm
      simp only [Bool.and_eq_true, beq_iff_eq] at q
      refine ⟨j, q.1, q.2, ?_⟩
      cases z : σ[j]? with
      | none => rw [z] at hv'; cases hv'
      | some u => rw [z] at hv'; exact congrArg some hv'

section
variable {X : Cx} {pins : List (Addr × Obj)} {σ : St} {H : Hp} {s s1 : Shared} {N : List Str} {ix : List (Option Nat)} {scope : Scope} {fp : List Addr} {C : Addr}
theorem comp_cells (I : Inv X pins σ H s) (S : CompS X.N X.env.scope N ix scope) : ∀ y, (y, NameKind.free) ∈ scope.names → ∃ c, X.env.cells.lookup y = some c := fun y hy => I.ok.has y (S.frees _ hy rfl)
theorem comp_look (I : Inv X pins σ H s) (S : CompS X.N X.env.scope N ix scope) {x : Str} {c : Addr} (h : (closeL X.env.cells scope.names []).lookup x = some c) : X.env.cells.lookup x = some c := by
  by_cases hm : (x, NameKind.free) ∈ scope.names
  · rw [← closeL_in scope.names [] x (comp_cells I S) (.inl hm)]; exact h
  · rw [closeL_out scope.names [] x hm] at h; cases h
theorem comp_inv (I : Inv X pins σ H s) (S : CompS X.N X.env.scope N ix scope) (hC : C = s.heap.objs.size) (hf : ∀ b ∈ fp, FpOk X pins H b) (hfl : ∀ b ∈ fp, b < s.heap.objs.size) {h1 : Heap} {m : Str → Option Value} {tk : Nat} (hn : h1.Ns C m)
    (hk : ∀ b o, s.heap.get? b = some o → h1.get? b = some o) :
    Inv (cxComp X N scope (closeL X.env.cells scope.names []) C fp s H) [] (compSt ix σ) H { s with heap := h1, toks := tk } := by
  have hne : ∀ {b : Addr} {o : Obj}, X.base.get? b = some o → b ∉ fp := fun {b o} e hb => by
    obtain ⟨_, _, _, hx, _⟩ := hf b hb
    rcases hx with hx | hx
    · exact I.ok.noex b o e hx
    · exact absurd (Nat.lt_of_lt_of_le (Heap.lt_size (I.ok.bs b o e).1) hx) (Nat.lt_irrefl _)
  refine ⟨⟨I.ok.mod, S.kind, I.ok.glob, I.ok.blt, Nat.le_of_eq hC.symm, ?_, ?_, ?_, I.ok.hd, I.ok.frames, .inl rfl, ?_, I.bs, Nat.le_trans I.ok.bsz I.sz, fun b o e => hne e, ?_, I.stack, I.stkFree⟩,
    rfl, I.bare, Un.kept hk, ⟨m, hn, ?_⟩, ?_, I.hok.fresh (Nat.le_of_eq hC.symm), ?_, fun p hp => absurd (show p ∈ ([] : List (Addr × Obj)) from hp) (by simp), I.hok.kept hk, ?_⟩
  · intro x y c h1 h2
    exact I.ok.inj x y c (comp_look I S h1) (comp_look I S h2)
  · intro x hx
    have hm : (x, NameKind.free) ∈ scope.names := by
      rcases hx with hx | hx
      · exact relabel_only (.inl rfl) S.nocell hx
      · exact relabel_only (.inr rfl) S.nocell hx
    obtain ⟨c, e⟩ := comp_cells I S x hm
    exact ⟨c, (closeL_in scope.names [] x (comp_cells I S) (.inl hm)).trans e⟩
  · intro x c hx; cases hx
  · intro b hb
    obtain ⟨_, _, _, _, f4, _⟩ := hf b hb
    refine ⟨fun e => ?_, fun x c e => f4 x c (comp_look I S e)⟩
    have z := hfl b hb
    have e' : b = C := e
    rw [e', hC] at z
    exact Nat.lt_irrefl _ z
  · intro b hb hb2
    obtain ⟨_, f1, f2, _⟩ := hf b hb
    exact (List.mem_cons.mp (I.stkSub b hb2)).elim f1 f2
  · intro i x v e1 e2 e3
    obtain ⟨j, g1, g2, g3⟩ := S.at_ e1 e2
    have hm : (x, NameKind.free) ∈ scope.names := PySem.mem_of_lookup g2
    have hk2 := S.frees _ hm rfl
    obtain ⟨m0, hn0, hl0⟩ := id I.loc
    obtain ⟨u, r, l⟩ := hl0 j x v g1 g3 (hk2.elim (fun z => .inr (.inl z)) (fun z => .inr (.inr z)))
    refine ⟨u, r, .inr ⟨relabel_free g2, ?_⟩⟩
    rcases l with ⟨k, _⟩ | ⟨k, c, e, z⟩
    · have k' : X.env.scope.names.lookup x = some .local := k
      rcases hk2 with z | z <;> (rw [k'] at z; cases z)
    · refine ⟨c, (closeL_in scope.names [] x (comp_cells I S) (.inl hm)).trans e, ?_⟩
      obtain ⟨o, ho, hd⟩ := z
      exact ⟨o, hk _ _ ho, hd⟩
  · intro x c e
    obtain ⟨v, o, ho, hd⟩ := I.cell x c (comp_look I S e)
    exact ⟨v, o, hk _ _ ho, hd⟩
  · intro x c e
    exact I.freeC x c (comp_look I S e)
  · unfold compSt
    rw [List.length_map]
    exact S.len
end
end L2

set_option Elab.async false
set_option linter.all false
set_option maxRecDepth 100000
set_option maxHeartbeats 4000000
namespace L2
open PySem PySem.Spec PyProof.Rows

def compW (ix : List (Option Nat)) (J : It) (g : TG) (te : TE) (σ : St) (l : Addr) (H0 : Hp) (Qe : Hp → Prop) : Prop :=
  ∃ W : Nat → Nat → List V → Hp → Prop, (∃ m, W 0 m [] H0) ∧ ∀ i m ys H, W i m ys H → H l = some (.lst ys) →
    (J.stop i H ∧ Qe H) ∨ (J.go i H ∧ ys.length < sizeLine ∧ ∃ N : List V → Hp → Prop, (∀ zs H', N zs H' → ∃ m', m' < m ∧ W (i + 1) m' zs H') ∧ ∀ x H', J.yld i H x H' → g x (compSt ix σ) H' fun σ2 H2 => te σ2 H2 fun v H3 =>
      H3 l = some (.lst ys) ∧ N (ys ++ [v]) (upd H3 l (.lst (ys ++ [v]))))
def tComp (ix : List (Option Nat)) (wi : TI) (g : TG) (te : TE) : TE := fun σ H Q => wi σ H fun J H1 => ∀ l, H1 l = none → compW ix J g te σ l (upd H1 l (.lst [])) fun H' => Q (.ref l) H'

section
variable {X : Cx} {pins : List (Addr × Obj)} {σ : St} {H : Hp} {s : Shared} {N : List Str} {ix : List (Option Nat)} {scope : Scope} {elt iter tg : Expr} {pos : Pos} {g : TG} {te : TE} {E : Value → Shared → Prop}
theorem comp_again {C : Addr} {fp : List Addr} {pins' : List (Addr × Obj)} {σ' : St} {Hc : Hp} {s' : Shared} (I : Inv X pins σ H s) (S : CompS X.N X.env.scope N ix scope)
    (J : Inv (cxComp X N scope (closeL X.env.cells scope.names []) C fp s H) pins' σ' Hc s') : Inv (cxComp X N scope (closeL X.env.cells scope.names []) C fp s H) [] (compSt ix σ) Hc s' := by
  obtain ⟨m, hn, _⟩ := J.loc
  refine ⟨J.ok, J.os, J.bare, J.base, ⟨m, hn, ?_⟩, J.cell, J.free, J.freeC, fun p hp => absurd (show p ∈ ([] : List (Addr × Obj)) from hp) (by simp), J.hok, ?_⟩
  · intro i x v e1 e2 e3
    obtain ⟨j, g1, g2, g3⟩ := S.at_ e1 e2
    have hm : (x, NameKind.free) ∈ scope.names := PySem.mem_of_lookup g2
    have hk2 := S.frees _ hm rfl
    obtain ⟨m0, hn0, hl0⟩ := id I.loc
    obtain ⟨u, r, l⟩ := hl0 j x v g1 g3 (hk2.elim (fun z => .inr (.inl z)) (fun z => .inr (.inr z)))
    refine ⟨u, r, .inr ⟨relabel_free g2, ?_⟩⟩
    rcases l with ⟨k, _⟩ | ⟨k, c, e, z⟩
    · have k' : X.env.scope.names.lookup x = some .local := k
      rcases hk2 with z | z <;> (rw [k'] at z; cases z)
    · have ec : (closeL X.env.cells scope.names []).lookup x = some c := (closeL_in scope.names [] x (comp_cells I S) (.inl hm)).trans e
      refine ⟨c, ec, ?_⟩
      obtain ⟨o, ho, hd⟩ := z
      obtain ⟨sl, q⟩ := J.base.any ho (I.freeC x c e) (fun hx => (J.ok.exf c hx).2 x c ec rfl)
      exact ⟨_, q, hd⟩
  · unfold compSt
    rw [List.length_map]
    exact S.len
theorem comp_block {it : Addr} {fp : List Addr} {tn : Nat → Heap → Prop} {J : It} {Qe : Addr → Hp → Prop} {RR : Value → Addr → Result → Shared → Prop} (hc : X.calm = true) (S : CompS X.N X.env.scope N ix scope)
    (hg : ∀ cl C ex s H, PG (cxComp X N scope cl C ex s H) tg g) (he : ∀ cl C ex s H, PE (cxComp X N scope cl C ex s H) elt te)
    (I : Inv X pins σ H s) (T : Turn X.prog X.w X.K tg J fp it tn) (st : tn 0 s.heap) (hf : ∀ b ∈ fp, FpOk X pins H b)
    (hw : ∀ l, H l = none → compW ix J g te σ l (upd H l (.lst [])) (Qe l))
    (hRR : ∀ l C s' H' m, s'.heap.Ns C m → Inv X pins σ H' s' → FpOk X pins H' C → Qe l H' → RR (.ref l) C (.ok .next) s') :
    wpAny (model X.prog X.w) X.A (newList []) (fun acc s3 => wpAny (model X.prog X.w) X.A (newFunctionEnv scope X.env.globals (closeL X.env.cells scope.names []) [] X.env.qual none .none (some X.env)) (fun cenv s4 =>
      codeAny (model X.prog X.w) X.A (.compStart (.ListComp elt [⟨tg, iter, [], 0⟩] scope pos) 0 (.ref it) acc { cenv with scope := relabel scope X.env }) (RR acc cenv.locals) s4) E s3) E s := by
  have hlt : ∀ b ∈ fp, b < s.heap.objs.size := fun b hb => by
    obtain ⟨o, e, _⟩ := T.obj 0 s.heap st b hb
    exact Heap.lt_size e
  have hl0 : H s.heap.objs.size = none := I.fresh
  obtain ⟨W, ⟨m0, w0⟩, turn⟩ := hw s.heap.objs.size hl0
  refine wpAny_newObj_type ?_
  generalize hs3 : ({ s with heap := s.heap.push { cls := .type "list", dict := none, data := .seq ([] : List Value).toArray } } : Shared) = s3
  have I3 : Inv X pins σ (upd H s.heap.objs.size (.lst [])) s3 := by
    rw [← hs3]
    exact I.lnew (its := []) (t' := s.toks) .nil (Nat.zero_le _)
  have k3 : ∀ b o, s.heap.get? b = some o → s3.heap.get? b = some o := fun b o e => by
    rw [← hs3]; exact Heap.get?_push_of_some _ e
  have sz3 : s3.heap.objs.size = s.heap.objs.size + 1 := by rw [← hs3]; exact Heap.size_push ..
  have lnfp : s.heap.objs.size ∉ fp := fun hb => Nat.lt_irrefl _ (hlt _ hb)
  have st3 : tn 0 s3.heap := T.keep 0 _ _ st fun b _ o e => k3 b o e
  have hf3 : ∀ b ∈ fp, FpOk X pins (upd H s.heap.objs.size (.lst [])) b := fun b hb => by
    obtain ⟨f0, f⟩ := hf b hb
    have nb : b ≠ s.heap.objs.size := fun e => lnfp (by rw [← e]; exact hb)
    exact ⟨by rw [upd_ne nb]; exact f0, f⟩
  have hlt3 : ∀ b ∈ fp, b < s3.heap.objs.size := fun b hb => by rw [sz3]; exact Nat.lt_succ_of_lt (hlt b hb)
  clear hs3
  refine wpAny_newFunctionEnv S.nocell (by intro y hy; simp at hy) (fun h1 hn1 hb1 => ?_) S.kind
  have hk1 : ∀ b o, s3.heap.get? b = some o → h1.get? b = some o := fun b o e =>
    (hb1.2 b (Nat.ne_of_lt (Heap.lt_size e))).trans (Heap.get?_push_of_some _ e)
  have J0 : Inv (cxComp X N scope (closeL X.env.cells scope.names []) s3.heap.objs.size fp s3 (upd H s.heap.objs.size (.lst []))) [] (compSt ix σ) (upd H s.heap.objs.size (.lst [])) { s3 with heap := h1, toks := s3.toks + ([] : List (Str × Value)).length } :=
    comp_inv I3 S rfl hf3 hlt3 hn1 hk1
  have st1 : tn 0 h1 := T.keep 0 _ _ st3 fun b _ o e => hk1 b o e
  have fpY : ∀ {Hc : Hp}, (∀ b ∈ fp, Hc b = none) → ∀ b ∈ fp, FpOk (cxComp X N scope (closeL X.env.cells scope.names []) s3.heap.objs.size fp s3 (upd H s.heap.objs.size (.lst []))) [] Hc b := fun {Hc} hn b hb => by
    obtain ⟨_, f1, f2, _, f4, _⟩ := hf3 b hb
    refine ⟨hn b hb, Nat.ne_of_lt (hlt3 b hb), fun hb2 => (List.mem_cons.mp (I3.stkSub b hb2)).elim f1 f2, .inl hb, fun x c e => f4 x c (comp_look I3 S e), fun p hp => absurd (show p ∈ ([] : List (Addr × Obj)) from hp) (by simp)⟩
  have loop : ∀ s4 : Shared, s4 = ({ s3 with heap := h1, toks := s3.toks + ([] : List (Str × Value)).length } : Shared) → codeAny (model X.prog X.w) X.A (.compLoop (.ListComp elt [⟨tg, iter, [], 0⟩] scope pos) 0 (.ref it) (.ref s.heap.objs.size)
      (compEnvC scope (closeL X.env.cells scope.names []) s3.heap.objs.size X.env)) (RR (.ref s.heap.objs.size) s3.heap.objs.size) s4 := by
    intro s4 hs4
    subst hs4
    refine comp_turns (fun n s' => ∃ i ys Hc, Inv (cxComp X N scope (closeL X.env.cells scope.names []) s3.heap.objs.size fp s3 (upd H s.heap.objs.size (.lst []))) [] (compSt ix σ) Hc s' ∧ tn i s'.heap ∧ (∀ b ∈ fp, Hc b = none) ∧ Hc s.heap.objs.size = some (.lst ys) ∧ W i n ys Hc) ?_ m0 ⟨0, [], _, J0, st1, fun b hb => (hf3 b hb).1, upd_same, w0⟩
    rintro n s5 ⟨i, ys, Hc, J5, st5, fr5, hl5, w5⟩
    rcases turn i n ys Hc w5 hl5 with ⟨stop, qe⟩ | ⟨go, hz, NN, hNN, step⟩
    · refine thn (T.done (cxComp X N scope (closeL X.env.cells scope.names []) s3.heap.objs.size fp s3 (upd H s.heap.objs.size (.lst []))) rfl rfl rfl hc i [] s5 _ Hc noE J5 (fpY fr5) st5 stop) fun r s6 ⟨hr, J6⟩ => ?_
      subst hr
      have I6 : Inv X pins σ Hc s6 := I3.call' (ch := fp) J6.os J6.base J6.hok J6.bare fun b hb => by
        obtain ⟨_, f1, f2, f3, f4, f5⟩ := hf3 b hb
        exact ⟨f3, f1, f4, f5⟩
      obtain ⟨m6, hn6, _⟩ := J6.loc
      exact hRR _ _ s6 Hc m6 hn6 I6 (I3.fpOk (Nat.le_refl _) J6.free) qe
    · refine thn (T.item (cxComp X N scope (closeL X.env.cells scope.names []) s3.heap.objs.size fp s3 (upd H s.heap.objs.size (.lst []))) rfl rfl rfl hc i [] s5 _ Hc noE J5 (fpY fr5) st5 go) fun r s6 ⟨u, hr, h6⟩ => ?_
      subst hr
      refine thn h6 fun _ s7 ⟨x, H7, J7, r7, y7, st7, fr7⟩ => ?_
      have J7' := J7.pinned (fpY fr7) (T.obj _ _ st7)
      refine thn (hg _ _ _ _ _ _ s7 _ H7 x u _ J7' r7 (step x H7 y7)) fun _ s8 ⟨σ8, H8, J8, q8⟩ => ?_
      refine thn (he _ _ _ _ _ _ s8 σ8 H8 _ J8 q8) fun y s9 ⟨v, H9, J9, r9, hl9, n9⟩ => ?_
      obtain ⟨m', hm', w9⟩ := hNN _ _ n9
      refine thn (mt_append (X := cxComp X N scope (closeL X.env.cells scope.names []) s3.heap.objs.size fp s3 (upd H s.heap.objs.size (.lst []))) _ s9 σ8 H9 (.ref s.heap.objs.size) [v] (.ref s.heap.objs.size) [y]
        (fun z Hz => z = .non ∧ Hz = upd H9 s.heap.objs.size (.lst (ys ++ [v]))) J9 rfl (.cons r9 .nil) ⟨_, ys, v, rfl, rfl, hl9, hz, rfl, rfl⟩) fun _ s10 ⟨_, H10, J10, _, _, e10⟩ => ?_
      subst e10
      have len8 : (compSt ix σ).length = σ8.length := by
        rw [J10.len]
        unfold compSt
        rw [List.length_map]
        exact S.len
      refine ⟨m', hm', i + 1, ys ++ [v], _, ?_, T.keep _ _ _ st7 fun b hb o e => (J10.pin (b, o) (List.mem_append_right _ (List.mem_append_right _ (mem_pinsAt hb e)))).1, fun b hb => ?_, upd_same, w9⟩
      · exact comp_again I3 S J10
      · obtain ⟨o, e, d⟩ := T.obj _ _ st7 b hb
        exact (J10.pin (b, o) (List.mem_append_right _ (List.mem_append_right _ (mem_pinsAt hb e)))).2.1
  exact codeAny_compStart_list (loop _ rfl) (T.self _ 0 _ _ _ st1 (loop _ rfl))
theorem pe_comp {wi : TI} (hc : X.calm = true) (S : CompS X.N X.env.scope N ix scope) (hi : PI X tg iter wi)
    (hg : ∀ cl C ex s H, PG (cxComp X N scope cl C ex s H) tg g) (he : ∀ cl C ex s H, PE (cxComp X N scope cl C ex s H) elt te)
    (hs : ∀ x, foldedSetIterable iter X.env x = pure x := by intro _; rfl) : PE X (.ListComp elt [⟨tg, iter, [], 0⟩] scope pos) (tComp ix wi g te) := by
  intro pins s σ H Q I h
  rw [eval_ListComp]
  refine wpAny_comprehension_free (use := none) rfl hs (closureFor_run (comp_cells I S)) S.kind S.names (thn (hi pins s σ H _ I h) fun v s1 h1 => thn h1 fun itv s2 h2 => ?_)
  obtain ⟨it, fp, tn, J, H2, e, I2, T, st2, f2, hw⟩ := h2
  subst e
  refine comp_block (RR := fun acc C => compPost (model X.prog X.w) X.A X.xe none (EP X pins σ Q) acc C) hc S hg he I2 T st2 f2 hw fun l C s' H' m hn I' fC q => ⟨m, hn, fun h' hs' => ?_⟩
  obtain ⟨c0, c1, _, c3, c4, c5⟩ := fC
  exact ⟨.ref l, H', I'.turned (t' := s'.toks) (fun b o hb e => (hs'.2 b hb).trans e) c0 c1 c3 c4 c5, rfl, q⟩
theorem ps_comp {wi : TI} {i : Nat} {x : Str} {spos pos' : Pos} (hc : X.calm = true) (S : CompS X.N X.env.scope N ix scope) (hi : PI X tg iter wi)
    (hg : ∀ cl C ex s H, PG (cxComp X N scope cl C ex s H) tg g) (he : ∀ cl C ex s H, PE (cxComp X N scope cl C ex s H) elt te)
    (hN : X.N.Nodup) (hx : X.N[i]? = some x) (hl : X.env.scope.names.lookup x = some .local)
    (hsw : swapsWith (.ListComp elt [⟨tg, iter, [], 0⟩] scope pos) (some (.Name x pos')) spos.line X.env = pure true := by rfl)
    (hs : ∀ x, foldedSetIterable iter X.env x = pure x := by intro _; rfl) : PS X (.Assign [.Name x pos'] (.ListComp elt [⟨tg, iter, [], 0⟩] scope pos) spos) (tAsg (tComp ix wi g te) (gName i)) := by
  intro pins s σ H D I h
  rw [exec_Assign_Name_used _ _ _ _ hsw]
  refine wpAny_bind (wpAny_standAt (wpAny_bind ?_))
  show wpAny _ _ (comprehension (.ListComp elt [⟨tg, iter, [], 0⟩] scope pos) scope X.env _ (newList []) false (eval iter X.env) (some (assign (.Name x pos') X.env)) >>= fun _ => pure ()) _ _ s
  refine wpAny_bind (wpAny_mono (wpAny_comprehension_free (use := some (assign (.Name x pos') X.env)) (Q := fun _ s' => SP X pins D .next s') rfl hs (closureFor_run (comp_cells I S)) S.kind S.names
    (thn (hi pins s σ H _ I h) fun v s1 h1 => thn h1 fun itv s2 h2 => ?_)) (fun _ s' q => wpAny_pure (wpAny_pure q)) fun _ _ e => e)
  obtain ⟨it, fp, tn, J, H2, e, I2, T, st2, f2, hw⟩ := h2
  subst e
  refine comp_block (RR := fun acc C => compPost (model X.prog X.w) X.A X.xe (some (assign (.Name x pos') X.env)) (fun _ s' => SP X pins D .next s') acc C) hc S hg he I2 T st2 f2 hw fun l C s' H' m hn I' fC q => ?_
  obtain ⟨c0, c1, c2, c3, c4, c5⟩ := fC
  show wpAny _ _ (assign (.Name x pos') X.env (.ref l)) _ _ _
  refine wpAny_assign_Name (store_ok2 I' hN hx (.inl hl) (v := .ref l) rfl (fun s'' I'' ⟨a, sb, ha⟩ => ?_) (.inr hl))
  have haC : C ≠ a := by
    rcases ha with ha | ha
    · rw [ha]; exact c1
    · exact fun z => c4 x a ha z.symm
  refine ⟨m, hn.sameBut sb haC, fun h' hs' => ?_⟩
  exact ⟨_, H', I''.turned (t' := s''.toks) (fun b o hb e => (hs'.2 b hb).trans e) c0 c1 c3 c4 c5, q⟩
end
/-! ### the forms one uses -/
theorem comp_by {J : It} {n : Nat} {l : Addr} {ix : List (Option Nat)} {g : TG} {te : TE} {σ : St} {H0 : Hp} {Qe : Hp → Prop} (Pv : Nat → List V → Hp → Prop) (h0 : Pv 0 [] H0)
    (hs : ∀ i ys H, i < n → Pv i ys H → H l = some (.lst ys) → J.go i H ∧ ys.length < sizeLine ∧ ∀ x H', J.yld i H x H' → g x (compSt ix σ) H' fun σ2 H2 => te σ2 H2 fun v H3 => H3 l = some (.lst ys) ∧ Pv (i + 1) (ys ++ [v]) (upd H3 l (.lst (ys ++ [v]))))
    (hd : ∀ ys H, Pv n ys H → H l = some (.lst ys) → J.stop n H ∧ Qe H) : compW ix J g te σ l H0 Qe := by
  refine ⟨fun i m ys H => m = n - i ∧ i ≤ n ∧ Pv i ys H, ⟨n, by simp, Nat.zero_le _, h0⟩, ?_⟩
  rintro i m ys H ⟨rfl, hi, p⟩ hl
  by_cases hlt : i < n
  · obtain ⟨h1, h2, h3⟩ := hs i ys H hlt p hl
    exact .inr ⟨h1, h2, Pv (i + 1), fun zs H' q => ⟨n - (i + 1), by omega, rfl, hlt, q⟩, h3⟩
  · have e : i = n := by omega
    subst e
    exact .inl (hd ys H p hl)
theorem comp_list {K : PySem.W.Frag} {a l : Addr} {xs : List V} {ix : List (Option Nat)} {g : TG} {te : TE} {σ : St} {H0 : Hp} {Qe : Hp → Prop} (Pv : Nat → List V → Hp → Prop) (h0 : Pv 0 [] H0) (hl : ∀ i ys H, i ≤ xs.length → Pv i ys H → SqL K H a xs) (hz : xs.length ≤ sizeLine)
    (hn : ∀ i ys H, Pv i ys H → ys.length = i)
    (hs : ∀ i x ys H, xs[i]? = some x → Pv i ys H → H l = some (.lst ys) → g x (compSt ix σ) H fun σ2 H2 => te σ2 H2 fun v H3 => H3 l = some (.lst ys) ∧ Pv (i + 1) (ys ++ [v]) (upd H3 l (.lst (ys ++ [v]))))
    (hd : ∀ ys H, Pv xs.length ys H → H l = some (.lst ys) → Qe H) : compW ix (Itl K a) g te σ l H0 Qe := by
  refine comp_by (n := xs.length) Pv h0 (fun i ys H hi p hy => ?_) fun ys H p hy => ⟨⟨xs, hl _ ys H (Nat.le_refl _) p, Nat.le_refl _⟩, hd ys H p hy⟩
  have q := hl i ys H (Nat.le_of_lt hi) p
  refine ⟨⟨xs, xs[i], q, by simp [hi]⟩, by rw [hn i ys H p]; exact Nat.lt_of_lt_of_le hi hz, fun x H' y => ?_⟩
  obtain ⟨e, y⟩ := y
  subst e
  exact hs i x ys _ (y xs q) p hy
theorem comp_tup {K : PySem.W.Frag} {a l : Addr} {xs : List V} {ix : List (Option Nat)} {g : TG} {te : TE} {σ : St} {H0 : Hp} {Qe : Hp → Prop} (Pv : Nat → List V → Hp → Prop) (h0 : Pv 0 [] H0) (hl : ∀ i ys H, i ≤ xs.length → Pv i ys H → SqT K H a xs) (hz : xs.length ≤ sizeLine)
    (hn : ∀ i ys H, Pv i ys H → ys.length = i)
    (hs : ∀ i x ys H, xs[i]? = some x → Pv i ys H → H l = some (.lst ys) → g x (compSt ix σ) H fun σ2 H2 => te σ2 H2 fun v H3 => H3 l = some (.lst ys) ∧ Pv (i + 1) (ys ++ [v]) (upd H3 l (.lst (ys ++ [v]))))
    (hd : ∀ ys H, Pv xs.length ys H → H l = some (.lst ys) → Qe H) : compW ix (Itt K a) g te σ l H0 Qe := by
  refine comp_by (n := xs.length) Pv h0 (fun i ys H hi p hy => ?_) fun ys H p hy => ⟨⟨xs, hl _ ys H (Nat.le_refl _) p, Nat.le_refl _⟩, hd ys H p hy⟩
  have q := hl i ys H (Nat.le_of_lt hi) p
  refine ⟨⟨xs, xs[i], q, by simp [hi]⟩, by rw [hn i ys H p]; exact Nat.lt_of_lt_of_le hi hz, fun x H' y => ?_⟩
  obtain ⟨e, y⟩ := y
  subst e
  exact hs i x ys _ (y xs q) p hy
theorem comp_range {lo : Int} {n : Nat} {l : Addr} {ix : List (Option Nat)} {g : TG} {te : TE} {σ : St} {H0 : Hp} {Qe : Hp → Prop} (Pv : Nat → List V → Hp → Prop) (h0 : Pv 0 [] H0) (hz : n ≤ sizeLine)
    (hn : ∀ i ys H, Pv i ys H → ys.length = i)
    (hs : ∀ i ys H, i < n → Pv i ys H → H l = some (.lst ys) → g (.int (lo + i)) (compSt ix σ) H fun σ2 H2 => te σ2 H2 fun v H3 => H3 l = some (.lst ys) ∧ Pv (i + 1) (ys ++ [v]) (upd H3 l (.lst (ys ++ [v]))))
    (hd : ∀ ys H, Pv n ys H → H l = some (.lst ys) → Qe H) : compW ix (Itr lo n) g te σ l H0 Qe := by
  refine comp_by (n := n) Pv h0 (fun i ys H hi p hy => ⟨hi, by rw [hn i ys H p]; exact Nat.lt_of_lt_of_le hi hz, fun x H' y => ?_⟩) fun ys H p hy => ⟨Nat.le_refl _, hd ys H p hy⟩
  obtain ⟨e, y⟩ := y
  subst e y
  exact hs i ys _ hi p hy
end L2

set_option Elab.async false
set_option linter.all false
set_option maxRecDepth 100000
set_option maxHeartbeats 4000000
namespace L2
open PySem PySem.Spec PyProof.Rows
open PySem.AutoSeq1 (wpAny_loadPart')

/-! ### range(n) as an object; tuple(range(n)), list(range(n)) -/
section
variable {X : Cx}
end

section
variable {prog : Program} {w : World} {A : Around} {E : Value → Shared → Prop} {s : Shared}
end
section
variable {X : Cx}
end
/-! ### all(xs), any(xs) of a list of bools -/
section
variable {X : Cx}
theorem truth_bools {prog : Program} {w : World} {A : Around} {its : Array Value} {bs : List Bool} (r : Vals (bs.map V.bl) its.toList) : TruthOf prog w A (fun i v => its[i]? = some v) (fun i => bs.getD i false) := by
  intro i v s Q E hi hq
  have hl := r.length
  rw [List.length_map] at hl
  have hlt : i < bs.length := by
    have : i < its.size := by
      rcases Nat.lt_or_ge i its.size with z | z
      · exact z
      · rw [Array.getElem?_eq_none z] at hi; cases hi
    simp at hl; omega
  have h1 : (bs.map V.bl)[i]? = some (.bl bs[i]) := by simp [hlt]
  obtain ⟨u, hu, ru⟩ := r.get h1
  have : u = v := by
    have e : its.toList[i]? = some v := by simpa using hi
    rw [e] at hu
    exact (Option.some.inj hu).symm
  subst this
  cases ru
  refine wpAny_truthy_bool ?_
  have e : bs.getD i false = bs[i] := by simp [hlt]
  have hq' : Q (bs.getD i false) s := hq
  rw [e] at hq'
  exact hq'
theorem range_all {n : Nat} {bs : List Bool} (h : bs.length = n) : (List.range n).all (fun i => bs.getD i false) = bs.all id := by
  subst h
  rw [Bool.eq_iff_iff, List.all_eq_true, List.all_eq_true]
  constructor
  · intro h b hb
    obtain ⟨i, hi, e⟩ := List.getElem_of_mem hb
    have := h i (by simpa using hi)
    simp [hi, e] at this
    exact this
  · intro h i hi
    have hi : i < bs.length := by simpa using hi
    have := h bs[i] (List.getElem_mem hi)
    simp [hi]
    exact this
theorem call_all (hc : X.calm = true) : CallR X (.builtin "all") (fun xs H Q => ∃ (p : Addr) (bs : List Bool), xs = [.ref p] ∧ SqL X.K H p (bs.map V.bl) ∧ Q (.bl (bs.all id)) H) := by
  intro pins s σ H xs us Q I r h
  obtain ⟨p, bs, rfl, hp, q⟩ := h
  obtain ⟨u, rfl, ru⟩ := vals1 r
  cases ru
  obtain ⟨its, rv, pl, hz⟩ := I.list hp
  have hlt : p < s.heap.objs.size := by obtain ⟨o, n, e, _⟩ := pl; exact Heap.lt_size e
  have hl := rv.length
  rw [List.length_map] at hl
  refine call_all_walk (wpAny_pyIter_list pl.isList ?_)
  refine ⟨s.heap.objs.size, _, _, _, _, _, fun i => bs.getD i false, rfl, Walks.list (A := X.A.in1) (show X.A.in1.handled = none from I.ok.hd hc) s.heap.objs.size p (Nat.ne_of_lt hlt) its.toArray, ⟨⟨_, Heap.get?_push_size _ rfl, rfl, rfl⟩, Heap.IsList.push pl.isList _⟩, truth_bools (by simpa using rv), fun h' tk hk => ?_⟩
  rw [range_all (by simpa using hl)]
  exact ⟨.bl _, H, I.kept (t' := tk) (fun b o e => hk b o (by simpa using (Nat.ne_of_lt (Heap.lt_size e))) (Heap.get?_push_of_some _ e)), rfl, q⟩
end
end L2

set_option Elab.async false
set_option linter.all false
set_option maxRecDepth 100000
set_option maxHeartbeats 4000000
namespace L2
open PySem PySem.Spec PyProof.Rows
open PySem.AutoSeq1 (wpAny_loadPart')

/-! ### enumerate over a tuple -/
section
variable {prog : Program} {w : World} {A : Around} {E : Value → Shared → Prop} {s : Shared}
theorem next_tup_item {it t : Addr} {i : Nat} {its : Array Value} {x : Value} {Q : Value → Shared → Prop} (hit : s.heap.IsTupleIter it t i) (ht : s.heap.IsTuple t its) (hx : its[i]? = some x)
    (hQ : ∀ h', h'.IsTupleIter it t (i + 1) → Heap.SameBut it s.heap h' → Q x { s with heap := h' }) : wpAny (model prog w) A (Builtin.SmallTypes.nextOf (.ref it)) Q E s := by
  obtain ⟨o, ho, hc, hd⟩ := id hit
  obtain ⟨ol, hol, _, nl, hdl⟩ := ht
  unfold Builtin.SmallTypes.nextOf
  refine wpAny_bind (wpAny_callSpecial?_slot (name := Str.ofString "__next__") hit.typeIs F.slot_tuple_iterator_next
    (wpAny_call_entry F.slot_tuple_iterator_next hit.typeIs F.entry_tuple_iterator_next ?_
      (F.args_tuple_iterator_next_1 _)))
  show wpAny _ _ (field (.ref it) 0 >>= _) _ _ s
  refine wpAny_bind (wpAny_field ho hd (x := .ref t) rfl ?_)
  show wpAny _ _ (if (Value.ref t == Value.none) = true
    then _ else _) _ _ s
  rw [if_neg (show ¬ ((Value.ref t == Value.none) = true)
    from Bool.false_ne_true)]
  show wpAny _ _ (field (.ref it) 1 >>= _) _ _ s
  refine wpAny_bind (wpAny_field ho hd (x := .int i 0) rfl ?_)
  show wpAny _ _ (seqItems? (.ref t) >>= _) _ _ s
  refine wpAny_bind (wpAny_seqItems hol hdl ?_)
  simp only [Int.toNat_natCast, hx]
  refine wpAny_bind (wpAny_setField ho hd (by simp) (wpAny_pure
    ⟨x, rfl, wpAny_pure (hQ _ ?_ (Heap.SameBut.update ..))⟩))
  exact ⟨_, Heap.get?_update_self _ ho (Obj.isFreed_of_fields (Obj.data_mapFields hd _)),
    (Obj.cls_mapFields ..).trans hc, by rw [Obj.data_mapFields hd]; simp [rawInt]⟩
theorem next_tup_end {it t : Addr} {i : Nat} {its : Array Value} {Q : Value → Shared → Prop} (hh : A.handled = none) (hit : s.heap.IsTupleIter it t i) (ht : s.heap.IsTuple t its) (hx : its[i]? = none)
    (hE : ∀ h' e, Heap.ExtBut it s.heap h' → (∃ o, h'.get? e = some o ∧ o.cls = .type "StopIteration") → E (.ref e) { s with heap := h' }) : wpAny (model prog w) A (Builtin.SmallTypes.nextOf (.ref it)) Q E s := by
  obtain ⟨o, ho, hc, hd⟩ := id hit
  obtain ⟨ol, hol, _, nl, hdl⟩ := ht
  unfold Builtin.SmallTypes.nextOf
  refine wpAny_bind (wpAny_callSpecial?_slot (name := Str.ofString "__next__") hit.typeIs F.slot_tuple_iterator_next
    (wpAny_call_entry F.slot_tuple_iterator_next hit.typeIs F.entry_tuple_iterator_next ?_
      (F.args_tuple_iterator_next_1 _)))
  show wpAny _ _ (field (.ref it) 0 >>= _) _ _ s
  refine wpAny_bind (wpAny_field ho hd (x := .ref t) rfl ?_)
  show wpAny _ _ (if (Value.ref t == Value.none) = true
    then _ else _) _ _ s
  rw [if_neg (show ¬ ((Value.ref t == Value.none) = true)
    from Bool.false_ne_true)]
  show wpAny _ _ (field (.ref it) 1 >>= _) _ _ s
  refine wpAny_bind (wpAny_field ho hd (x := .int i 0) rfl ?_)
  show wpAny _ _ (seqItems? (.ref t) >>= _) _ _ s
  refine wpAny_bind (wpAny_seqItems hol hdl ?_)
  simp only [Int.toNat_natCast, hx]
  refine wpAny_bind (wpAny_rule (wpAny_bind (wpAny_setField ho hd (by simp) ?_)))
  show wpAny _ _ (newExc (.type "StopIteration") [] >>= _) _ _ _
  refine wpAny_bind ?_
  simp only [newExc, newTuple]
  refine wpAny_bind (wpAny_newObj_type ?_ (by size_fits))
  refine wpAny_bind (m := firstArgMember _ _) (wpAny_of_eq (a := Value.none)
    (by first | rfl | (simp only [firstArgMember]; rfl)) ?_)
  refine wpAny_newObj_type ?_ (by size_fits)
  simp only [raiseNew]
  refine wpAny_bind (wpAny_handled ?_)
  first | rw [show A.in1.handled = none from hh] | rw [hh]
  refine wpAny_bind (wpAny_pure (wpAny_throw ?_))
  exact hE _ _ (((Heap.SameBut.update ..).extBut.push _).push _)
    ⟨_, Heap.get?_push_size _ rfl, rfl⟩
theorem draws_tup (hh : A.handled = none) (it t : Addr) (hne : t ≠ it) (its : Array Value) : Draws prog w A it [it, t] its.size (fun i v => its[i]? = some v) (fun i h => h.IsTupleIter it t i ∧ h.IsTuple t its) where
  live := fun i h st => by obtain ⟨⟨o, e, _⟩, _⟩ := st; exact ⟨o, e⟩
  frame := fun i h h' st hk => by
    obtain ⟨⟨o, e, c⟩, ⟨o2, e2, c2⟩⟩ := st
    exact ⟨⟨o, hk it (by simp) _ e, c⟩, ⟨o2, hk t (by simp) _ e2, c2⟩⟩
  item := fun i s Q E hi st hQ => by
    refine next_tup_item st.1 st.2 (x := its[i]) (by simp [hi]) fun h' hit' hs' => ?_
    obtain ⟨o2, e2, c2⟩ := st.2
    exact hQ _ h' s.toks (by simp [hi]) ⟨hit', ⟨o2, (hs'.2 t hne).trans e2, c2⟩⟩ hs'
  done := fun s Q E st hE => next_tup_end hh st.1 st.2 (by simp) hE
end

theorem Inv.turnedNew {X : Cx} {pins : List (Addr × Obj)} {σ : St} {H : Hp} {s : Shared} {ch : List Addr} {p : Addr} {o : HO} {h' : Heap} {t' : Nat} (I : Inv X pins σ H s) (k : ∀ b u, b ∉ ch → s.heap.get? b = some u → h'.get? b = some u)
    (hp : s.heap.objs.size ≤ p) (new : ObjOk X.prog X.w (upd H p o) h' p o) (hf : ∀ b ∈ ch, FpOk X pins H b) : Inv X pins σ (upd H p o) { s with heap := h', toks := t' } := by
  have hn : H p = none := I.hok.fresh hp
  have nc : ∀ b u, H b = some u → b ∉ ch := fun b u e z => by rw [(hf b z).1] at e; cases e
  refine I.step (g' := s.gens) (d' := s.drawn) (ch := ch) (fun b hb => ?_) (fun b u _ _ hc e _ => k b u hc e) (fun b u _ _ hc e _ => ⟨u.slots, k b u hc e⟩) (fun b u _ e n => ?_) (fun b u hc e => ⟨u, k b u hc e⟩)
    (fun b xs e => ?_) (fun b u xs e => ?_) (fun b ps e => ⟨#[], ?_⟩) (fun m hm => ?_) (fun b u e => ?_) I.bare
  · obtain ⟨_, f1, _, f3, f4, f5⟩ := hf b hb
    exact ⟨f3, f1, f4, f5⟩
  · rw [upd_ne (Nat.ne_of_lt (Nat.lt_of_lt_of_le (Heap.lt_size e) hp))]; exact n
  · rw [upd_ne (ne_of_none e hn)]; exact e
  · rw [upd_ne (ne_of_none e hn)]; exact e
  · rw [upd_ne (ne_of_none e hn), e]; simp
  · obtain ⟨ob, es, ep, ho, r⟩ := hm
    exact ⟨ob, es, ep, k _ ob (fun z => (hf _ z).2.1 rfl) ho, r⟩
  · by_cases hb : b = p
    · subst hb; rw [upd_same] at e; cases e; exact new
    · rw [upd_ne hb] at e
      refine (I.hok b u e).stay (fun c v hc q => k c v ?_ q) (fun c q => by rw [upd_ne (ne_of_none q hn)]; exact q) fun c xs q => by rw [upd_ne (ne_of_none q hn)]; exact q
      rcases hc with z | z
      · rw [z]; exact nc b u e
      · exact nc c _ z
theorem Inv.turnedL {X : Cx} {pins : List (Addr × Obj)} {σ : St} {H : Hp} {s : Shared} {ch : List Addr} {h' : Heap} {t' : Nat} (I : Inv X pins σ H s) (k : ∀ b u, b ∉ ch → s.heap.get? b = some u → h'.get? b = some u)
    (hf : ∀ b ∈ ch, FpOk X pins H b) : Inv X pins σ H { s with heap := h', toks := t' } := by
  have nc : ∀ b u, H b = some u → b ∉ ch := fun b u e z => by rw [(hf b z).1] at e; cases e
  refine I.step (g' := s.gens) (d' := s.drawn) (ch := ch) (fun b hb => ?_) (fun b u _ _ hc e _ => k b u hc e) (fun b u _ _ hc e _ => ⟨u.slots, k b u hc e⟩) (fun b u _ e n => n) (fun b u hc e => ⟨u, k b u hc e⟩)
    (fun b xs e => e) (fun b u xs e => e) (fun b ps e => ⟨#[], by rw [e]; simp⟩) (fun m hm => ?_) (fun b u e => ?_) I.bare
  · obtain ⟨_, f1, _, f3, f4, f5⟩ := hf b hb
    exact ⟨f3, f1, f4, f5⟩
  · obtain ⟨ob, es, ep, ho, r⟩ := hm
    exact ⟨ob, es, ep, k _ ob (fun z => (hf _ z).2.1 rfl) ho, r⟩
  · refine (I.hok b u e).stay (fun c v hc q => k c v ?_ q) (fun c q => q) fun c xs q => q
    rcases hc with z | z
    · rw [z]; exact nc b u e
    · exact nc c _ z
end L2

set_option Elab.async false
set_option linter.all false
set_option maxRecDepth 100000
set_option maxHeartbeats 4000000
namespace L2
open PySem PySem.Spec PyProof.Rows

section
variable {X : Cx} {elts : List Expr} {tk : Nat} {tp : Pos}
/-! ### zip over two lists -/
theorem ne_cls {h : Heap} {a b : Addr} {o u : Obj} {x y : String} (ha : h.get? a = some o) (hb : h.get? b = some u) (hx : o.cls = .type x) (hy : u.cls = .type y) (hxy : x ≠ y) : a ≠ b := by
  intro e
  subst e
  rw [ha] at hb
  cases hb
  rw [hx] at hy
  injection hy with hy
  exact hxy hy
end
end L2

set_option Elab.async false
set_option linter.all false
set_option maxRecDepth 100000
set_option maxHeartbeats 4000000
namespace L2
open PySem PySem.Spec PyProof.Rows
open PySem.AutoSeq1 (wpAny_loadPart')

/-! ### data: what a value stands for, through its tuples and lists -/
inductive D where
  | non | bl (b : Bool) | int (i : Int) | str (x : Str) | tup (ds : List D) | lst (ds : List D)
mutual
def Dr (K : PySem.W.Frag) (H : Hp) : D → V → Prop
  | .non, v => v = .non
  | .bl b, v => v = .bl b
  | .int i, v => v = .int i
  | .str x, v => v = .str x
  | .tup ds, v => ∃ (a : Addr) (vs : List V), v = .ref a ∧ H a = some (.tup vs) ∧ DrL K H ds vs
  | .lst ds, v => ∃ (a : Addr) (vs : List V), v = .ref a ∧ SqL K H a vs ∧ DrL K H ds vs
def DrL (K : PySem.W.Frag) (H : Hp) : List D → List V → Prop
  | [], vs => vs = []
  | d :: ds, vs => ∃ v r, vs = v :: r ∧ Dr K H d v ∧ DrL K H ds r
end
theorem Same.tupl {K : PySem.W.Frag} {H H' : Hp} {a : Addr} {xs : List V} (s : Same H H') (h : SqT K H a xs) : SqT K H' a xs := by
  rcases h with (h | ⟨o, h⟩) | h
  · exact .inl (.inl (s _ _ h))
  · exact .inl (.inr ⟨o, s _ _ h⟩)
  · exact .inr h
mutual
theorem Dr.mono {K : PySem.W.Frag} {H H' : Hp} (s : Same H H') : ∀ {d : D} {v : V}, Dr K H d v → Dr K H' d v
  | .non, _, h => by simp only [Dr] at h ⊢; exact h
  | .bl _, _, h => by simp only [Dr] at h ⊢; exact h
  | .int _, _, h => by simp only [Dr] at h ⊢; exact h
  | .str _, _, h => by simp only [Dr] at h ⊢; exact h
  | .tup ds, _, h => by
    simp only [Dr] at h ⊢
    obtain ⟨a, vs, e, q, r⟩ := h
    exact ⟨a, vs, e, s _ _ q, DrL.mono s r⟩
  | .lst ds, _, h => by
    simp only [Dr] at h ⊢
    obtain ⟨a, vs, e, q, r⟩ := h
    exact ⟨a, vs, e, s.seq q, DrL.mono s r⟩
theorem DrL.mono {K : PySem.W.Frag} {H H' : Hp} (s : Same H H') : ∀ {ds : List D} {vs : List V}, DrL K H ds vs → DrL K H' ds vs
  | [], _, h => by simp only [DrL] at h ⊢; exact h
  | d :: ds, _, h => by
    simp only [DrL] at h ⊢
    obtain ⟨v, r, e, q, q'⟩ := h
    exact ⟨v, r, e, Dr.mono s q, DrL.mono s q'⟩
end
theorem DrL.length {K : PySem.W.Frag} {H : Hp} : ∀ {ds : List D} {vs : List V}, DrL K H ds vs → ds.length = vs.length
  | [], _, h => by simp only [DrL] at h; subst h; rfl
  | d :: ds, _, h => by
    simp only [DrL] at h
    obtain ⟨v, r, rfl, _, q⟩ := h
    rw [List.length_cons, List.length_cons, DrL.length q]
theorem DrL.get {K : PySem.W.Frag} {H : Hp} : ∀ {ds : List D} {vs : List V} {i : Nat} {d : D}, DrL K H ds vs → ds[i]? = some d → ∃ v, vs[i]? = some v ∧ Dr K H d v
  | [], _, _, _, _, e => by simp at e
  | d :: ds, _, 0, _, h, e => by
    simp only [DrL] at h
    obtain ⟨v, r, rfl, q, _⟩ := h
    simp at e; subst e
    exact ⟨v, rfl, q⟩
  | d :: ds, _, i + 1, d', h, e => by
    simp only [DrL] at h
    obtain ⟨v, r, rfl, _, q⟩ := h
    obtain ⟨v', h1, h2⟩ := DrL.get (i := i) q (by simpa using e)
    exact ⟨v', by simpa using h1, h2⟩
theorem DrL.append {K : PySem.W.Frag} {H : Hp} : ∀ {ds es : List D} {vs us : List V}, DrL K H ds vs → DrL K H es us → DrL K H (ds ++ es) (vs ++ us)
  | [], _, _, _, h, h' => by simp only [DrL] at h; subst h; exact h'
  | d :: ds, es, _, us, h, h' => by
    simp only [DrL] at h
    obtain ⟨v, r, rfl, q, q'⟩ := h
    show DrL K H (d :: (ds ++ es)) (v :: (r ++ us))
    simp only [DrL]
    exact ⟨v, _, rfl, q, DrL.append q' h'⟩
theorem DrL.one {K : PySem.W.Frag} {H : Hp} {d : D} {v : V} (h : Dr K H d v) : DrL K H [d] [v] := by
  simp only [DrL]; exact ⟨v, [], rfl, h, rfl⟩
theorem DrL.nil {K : PySem.W.Frag} {H : Hp} : DrL K H [] [] := by simp only [DrL]
theorem DrL.cons {K : PySem.W.Frag} {H : Hp} {d : D} {v : V} {ds : List D} {vs : List V} (h : Dr K H d v) (h' : DrL K H ds vs) : DrL K H (d :: ds) (v :: vs) := by
  simp only [DrL]; exact ⟨v, vs, rfl, h, h'⟩
theorem DrL.ints {K : PySem.W.Frag} {H : Hp} : ∀ (ns : List Int), DrL K H (ns.map D.int) (ns.map V.int)
  | [] => DrL.nil
  | n :: r => DrL.cons (by simp only [Dr]) (DrL.ints r)
theorem DrL.ints_inv {K : PySem.W.Frag} {H : Hp} : ∀ {ns : List Int} {vs : List V}, DrL K H (ns.map D.int) vs → vs = ns.map V.int
  | [], _, h => by simp only [List.map_nil, DrL] at h; rw [h]; rfl
  | n :: r, _, h => by
    simp only [List.map_cons, DrL] at h
    obtain ⟨v, w, rfl, q, q'⟩ := h
    simp only [Dr] at q
    subst q
    rw [DrL.ints_inv q', List.map_cons]
theorem Dr.tup {K : PySem.W.Frag} {H : Hp} {a : Addr} {ds : List D} {vs : List V} (h : H a = some (.tup vs)) (r : DrL K H ds vs) : Dr K H (.tup ds) (.ref a) := by
  simp only [Dr]; exact ⟨a, vs, rfl, h, r⟩
theorem Dr.lst {K : PySem.W.Frag} {H : Hp} {a : Addr} {ds : List D} {vs : List V} (h : H a = some (.lst vs)) (r : DrL K H ds vs) : Dr K H (.lst ds) (.ref a) := by
  simp only [Dr]; exact ⟨a, vs, rfl, SqL.of h, r⟩
abbrev D.its (ns : List Int) : D := .tup (ns.map D.int)
end L2

set_option Elab.async false
set_option linter.all false
set_option maxRecDepth 100000
set_option maxHeartbeats 4000000
namespace L2
open PySem PySem.Spec PyProof.Rows
open PySem.SeqAt

/-! ### == of data -/
mutual
def D.eq : D → D → Bool
  | .non, .non => true
  | .bl a, .bl b => a == b
  | .int i, .int j => i == j
  | .str x, .str y => decide (x = y)
  | .tup a, .tup b => D.eqL a b
  | .lst a, .lst b => D.eqL a b
  | _, _ => false
def D.eqL : List D → List D → Bool
  | [], [] => true
  | d :: ds, e :: es => D.eq d e && D.eqL ds es
  | _, _ => false
end
mutual
def D.ok : D → D → Prop
  | .non, .non => True
  | .bl _, .bl _ => True
  | .int _, .int _ => True
  | .str _, .str _ => True
  | .tup a, .tup b => D.okL a b
  | .lst a, .lst b => D.okL a b
  | _, _ => False
def D.okL : List D → List D → Prop
  | d :: ds, e :: es => D.ok d e ∧ D.okL ds es
  | _, _ => True
end
mutual
def D.dep : D → Nat
  | .tup a => D.depL a + 1
  | .lst a => D.depL a + 1
  | _ => 0
def D.depL : List D → Nat
  | [] => 0
  | d :: ds => max (D.dep d) (D.depL ds)
end
theorem D.depL_get : ∀ {ds : List D} {j : Nat} {d : D}, ds[j]? = some d → D.dep d ≤ D.depL ds
  | [], _, _, h => by simp at h
  | _ :: _, 0, _, h => by
    simp at h; subst h; simp only [D.depL]; exact Nat.le_max_left _ _
  | _ :: ds, j + 1, _, h => by
    simp only [D.depL]
    exact Nat.le_trans (D.depL_get (ds := ds) (j := j) (by simpa using h)) (Nat.le_max_right _ _)
def D.at_ (ds es : List D) (j : Nat) : Bool := match ds[j]?, es[j]? with | some d, some e => D.eq d e | _, _ => true
section
variable {X : Cx} {pins : List (Addr × Obj)} {σ : St} {H : Hp} {s : Shared}
/-! ### isinstance of a built-in type -/
end
end L2

set_option Elab.async false
set_option maxRecDepth 100000
set_option maxHeartbeats 4000000
namespace L2
open PySem PySem.Spec PyProof.Rows PySem.SeqAt
open PySem.AutoSeq1 (wpAny_loadPart')
section
variable {X : Cx}
end
end L2

set_option Elab.async false
set_option linter.all false
set_option maxRecDepth 100000
set_option maxHeartbeats 4000000
namespace L2
open PySem PySem.Spec PyProof.Rows
/-! ### the rules that name the fragment, said of a fragment that is handed in (a block's context hides its own) -/
section
variable {X : Cx} (K : PySem.W.Frag)
theorem ixL (h : X.K = K) : IxR X (rIxL K) := h ▸ ix_list
theorem ixT (h : X.K = K) : IxR X (rIxT K) := h ▸ ix_tup
theorem piT {tg l : Expr} {tl : TE} (h : X.K = K) (hl : PE X l tl) : PI X tg l (iTup K tl) := h ▸ pi_tup hl
variable {o e : Expr} {es : List Expr} {to : TE} {t : TA} {name : Str} {apos cpos : Pos} {T id : String} {r : V → List V → Hp → VK → Prop}
theorem peBm (h : X.K = K) (pa : PlainAttrs T) (slot : Slot T name id) (hty : typeOf (.builtin id) = pure (.type "method_descriptor")) (hm : MtR X id r) (ho : PE X o to) (ha : PA X (e :: es) t)
    (hbase : attributeBase o name X.env (eval o X.env) = eval o X.env := by rfl)
    (hfew : ((backTo cpos (starEach (e :: es) X.env)).all (fun x => !x.1) && (backToKw cpos (keywordEach [] X.env)).all (fun x => x.1.isSome)
      && decide ((e :: es).length + ([] : List Keyword).length + (if ([] : List Keyword).isEmpty then 0 else 1) < 30)) = true := by rfl)
    (hline : (apos.endLine == cpos.line) = true := by rfl) (hs : starEach (e :: es) X.env = (false, eval e X.env) :: starEach es X.env := by rfl) (hplain : (backTo cpos (starEach es X.env)).any (·.1) = false := by rfl) :
    PE X (.Call (.Attribute o name apos) (e :: es) [] cpos) (tBM K T r to t) := h ▸ pe_bm pa slot hty hm ho ha hbase hfew hline hs hplain
theorem cAll (h : X.K = K) (hc : X.calm = true) : CallR X (.builtin "all") (fun xs H Q => ∃ (p : Addr) (bs : List Bool), xs = [.ref p] ∧ SqL K H p (bs.map V.bl) ∧ Q (.bl (bs.all _root_.id)) H) := h ▸ call_all hc
inductive TyS (K : PySem.W.Frag) (H : Hp) : V → Value → Prop where
  | of {x : V} {t : Value} (h : TyOf K H x t) : TyS K H x t
  | tup {a : Addr} {xs : List V} (h : SqT K H a xs) : TyS K H (.ref a) (.type "tuple")
  | lst {a : Addr} {xs : List V} (h : SqL K H a xs) : TyS K H (.ref a) (.type "list")
theorem cIsS (c : String) (hK : X.K = K) : CallR X (.builtin "isinstance") (fun xs H Q => ∃ x t b, xs = [x, .ty c] ∧ TyS K H x t ∧ PySem.W.kitOne K t (.type c) = some b ∧ Q (.bl b) H) := by
  subst hK
  intro pins s σ H xs us Q I r h
  obtain ⟨x, t, b, rfl, ty, k, q⟩ := h
  obtain ⟨u, w', rfl, ru, rw'⟩ := vals2 r
  cases rw'
  cases ty with
  | of ty => exact isinst_ok I ru ty k fun tk => ⟨.bl b, H, I.tok tk, rfl, q⟩
  | tup ht =>
    cases ru
    obtain ⟨_, _, ⟨o, h1, h2, _⟩, _⟩ := I.tuple ht
    exact PySem.W.kia_one PySem.W.kitx_tuple I.kIn ⟨o, h1, h2⟩ k (fun z => nomatch z) fun tk => ⟨.bl b, H, I.tok tk, rfl, q⟩
  | lst ht =>
    cases ru
    obtain ⟨_, _, ⟨o, n, h1, h2, _⟩, _⟩ := I.list ht
    exact PySem.W.kia_one PySem.W.kitx_list I.kIn ⟨o, h1, h2⟩ k (fun z => nomatch z) fun tk => ⟨.bl b, H, I.tok tk, rfl, q⟩
def tIsi (K : PySem.W.Frag) (c : String) (te : TE) : TE := tCB (fun xs H Q => ∃ x t b, xs = [x, .ty c] ∧ TyS K H x t ∧ PySem.W.kitOne K t (.type c) = some b ∧ Q (.bl b) H) (tCons te (tCons (tC (.ty c)) tNil))
theorem pIsi {x : Str} {c : String} {p q cpos : Pos} {te : TE} (hK : X.K = K) (he : PE X e te) (mi : X.mg "isinstance" = none) (mc : X.mg x = none) (hb : bootBuiltins x = some (.type c)) (hg : Gl X "isinstance" := by rfl) (hgc : Gl X x := by rfl)
    (hn : x ≠ "__name__" := by decide) (hd : (x == ("__debug__" : Str)) = false := by decide)
    (hs : starEach [e, .Name x q] X.env = (false, eval e X.env) :: starEach [.Name x q] X.env := by rfl) (hpl : (backTo cpos (starEach [.Name x q] X.env)).any (·.1) = false := by rfl) :
    PE X (.Call (.Name "isinstance" p) [e, .Name x q] [] cpos) (tIsi K c te) :=
  pe_callB (cIsS K c hK) hg mi boot_isinstance (pa_cons he (pa_cons (pe_bltn (v := .ty c) hgc mc hb rfl hn hd) pa_nil) hs) (by decide) (by decide) hs hpl
end
/-! no list or tuple in it is long -/
mutual
def D.few : D → Prop
  | .tup a => a.length ≤ 5000 ∧ D.fewL a
  | .lst a => a.length ≤ 5000 ∧ D.fewL a
  | _ => True
def D.fewL : List D → Prop
  | [] => True
  | d :: ds => D.few d ∧ D.fewL ds
end
theorem D.depL_ints : ∀ ns : List Int, D.depL (ns.map D.int) = 0
  | [] => by simp only [List.map_nil, D.depL]
  | n :: r => by simp only [List.map_cons, D.depL, D.dep, D.depL_ints r]; rfl
end L2

set_option Elab.async false
set_option linter.all false
set_option maxRecDepth 100000
set_option maxHeartbeats 4000000
namespace Gu
open PySem L2
/-! ### what the law's own defs reckon -/
def cell (ns : List Int) (i : Nat) : Int := if i < ns.length then ns.getD i 0 else if ns.length = 0 then 29 * i + 5 else ns.getD (i % ns.length) 0 % 1000003 + 103 * i
def letters (ns : List Int) (i : Nat) : Int := 2 + cell ns i % 4
def iota (n : Nat) : List Int := (List.range n).map fun (i : Nat) => (i : Int)
def IsP (n : Nat) (p : List Int) : Prop := p.Perm (iota n)
def turn (one other : List Int) : List Int := one.map fun x => other.getD x.toNat 0
def back (p : List Int) : List Int := (iota p.length).map fun k => ((p.idxOf k : Nat) : Int)
end Gu

set_option Elab.async false
set_option linter.all false
set_option maxRecDepth 100000
set_option maxHeartbeats 4000000
namespace L2
open PySem PySem.Spec PyProof.Rows PySem.SeqAt

/-! ### tuples within tuples as keys of a dict -/
mutual
def Hd (h : Heap) : D → Value → Prop
  | .int i, v => ∃ t, v = .int i t
  | .tup ds, v => ∃ (a : Addr) (o : Obj) (its : Array Value) (n : Nat), v = .ref a ∧ h.get? a = some o ∧ o.cls = .type "tuple" ∧ o.data = .seq its n ∧ HdL h ds its.toList
  | _, _ => False
def HdL (h : Heap) : List D → List Value → Prop
  | [], vs => vs = []
  | d :: ds, vs => ∃ v r, vs = v :: r ∧ Hd h d v ∧ HdL h ds r
end
mutual
def D.hash : D → Int
  | .int i => hashInt i
  | .tup ds => reduceHash (Builtin.Tuple.tupleHashOf (D.hashL ds))
  | _ => 0
def D.hashL : List D → List Int
  | [] => []
  | d :: ds => D.hash d :: D.hashL ds
end
section
variable {prog : Program} {w : World}
end
end L2

set_option Elab.async false
set_option linter.all false
set_option maxRecDepth 100000
set_option maxHeartbeats 4000000
namespace L2
open PySem PySem.Spec PyProof.Rows PySem.SeqAt
section
variable {prog : Program} {w : World}
end
mutual
def D.key : D → Prop
  | .int _ => True
  | .tup ds => D.keyL ds
  | _ => False
def D.keyL : List D → Prop
  | [] => True
  | d :: ds => D.key d ∧ D.keyL ds
end
section
variable {P : Program} {w : World} {K : PySem.W.Frag} {H : Hp} {h : Heap}
end
end L2

set_option Elab.async false
set_option linter.all false
set_option maxRecDepth 100000
set_option maxHeartbeats 4000000
namespace L2
open PySem PySem.Spec PyProof.Rows PySem.SeqAt

/-! ### a dict whose keys are tuples, at any depth -/
section
variable {X : Cx} {pins : List (Addr × Obj)} {σ : St} {H : Hp} {s : Shared} {a : Addr} {kvs : List (D × V)} {K : PySem.W.Frag}
variable {o i e f value : Expr} {pos pos' apos cpos : Pos} {td ty tv tx : TE}
end
end L2

set_option Elab.async false
set_option linter.all false
set_option maxRecDepth 100000
set_option maxHeartbeats 4000000
namespace L2
open PySem PySem.Spec PyProof.Rows PySem.SeqAt
open PySem.AutoSeq1 (wpAny_loadPart')
section
variable {X : Cx} (K : PySem.W.Frag)
end
end L2

set_option Elab.async false
set_option linter.all false
set_option maxRecDepth 100000
set_option maxHeartbeats 4000000
namespace L2
open PySem PySem.Spec PyProof.Rows PySem.SeqAt
open PySem.AutoSeq1 (wpAny_loadPart')
section
variable {X : Cx} (K : PySem.W.Frag)
/-! ### a tuple so many times -/
end
section
variable {X : Cx} (P : Program) (w : World) (K : PySem.W.Frag) {o i e f value : Expr} {pos pos' apos cpos : Pos} {td ty tv tx : TE}
end
end L2

set_option Elab.async false
set_option linter.all false
set_option maxRecDepth 100000
set_option maxHeartbeats 4000000
namespace L2
open PySem PySem.Spec PyProof.Rows
/-! ### defs that raise nothing, whatever way exceptions lie behind calls -/
class NoE (CX : CXT) : Prop where
  no : ∀ {outer : List Env} {H : Hp} {s : Shared} {e : Value} {s' : Shared}, ¬ CX outer H s E0 e s'
theorem passN {CX : CXT} [N : NoE CX] {X : Cx} : Passes CX X E0 := fun _ _ _ _ _ _ _ h => absurd h N.no
theorem Fun.okc {CX : CXT} {P : Program} {w : World} {K : PySem.W.Frag} {mg : Str → Option Value} {base : Heap} {x qual : Str} {st : Stmt} {f : Addr} {fd : FuncData} {N ps : List Str} {k : Nat} {sp : Sp} (F : Fun K x qual st f fd) (S : FnScope N ps (defScope st)) (len : ∀ vs H Q E, sp vs H Q E → vs.length = ps.length)
    (hbody : ∀ (cdv : Value) (A : Around) (outer : List Env) (s : Shared) (H : Hp) (vs : List V) (Q : VK) (E : XK), Room k (A.deeper (envOfC qual (defScope st) s.heap.objs.size f cdv)) → sp vs H Q E →
      ∃ t, PSs (cxOf CX P w K mg base N qual (defScope st) f cdv A outer s H E).nox (defBody st) t ∧ t { nx := fun _ H' => Q .non H', rt := Q } (start N vs) H) : FnOk P w K mg base CX (k + 1) f fd ps sp := by
  obtain ⟨oc, od, kV, doc, pm, an, cdv, ct, osl, rfl, lk, hcd⟩ := F.ex
  refine fn_of lk hcd S len fun A outer s H vs Q E hr hsp => ?_
  obtain ⟨t, h, q⟩ := hbody cdv A outer s H vs Q E hr hsp
  exact ⟨t, h.nox, q⟩
end L2

set_option Elab.async false
set_option linter.all false
set_option maxRecDepth 100000
set_option maxHeartbeats 4000000
namespace L2
open PySem PySem.Spec PyProof.Rows
/-! ### a plainer reading in the place of one -/
end L2

set_option Elab.async false
set_option linter.all false
set_option maxRecDepth 100000
set_option maxHeartbeats 4000000
namespace Gu
open PySem L2
/-! ### first come, first numbered -/
section
variable {α : Type} [DecidableEq α]
def addN (o : List α) (g : α) : List α := if g ∈ o then o else o ++ [g]
def addAll (o : List α) (gs : List α) : List α := gs.foldl addN o
def uniq (ks : List α) : List α := addAll [] ks
def numb (ks : List α) : List Int := ks.map fun k => (((uniq ks).idxOf k : Nat) : Int)
end
/-! ### machines -/
abbrev Row := List Int × List Int
def row (rows : List Row) (r : Int) : Row := rows.getD r.toNat ([], [])
def bfs (rows : List Row) : Nat → Nat → List Int → List Int
  | 0, _, o => o
  | f + 1, i, o => match o[i]? with
    | none => o
    | some r => bfs rows f (i + 1) (addAll o (row rows r).2)
def order (rows : List Row) : List Int := bfs rows (rows.length + 1) 0 [0]
def foundOf (rows : List Row) (o : List Int) : List Row := o.map fun r => ((row rows r).1, (row rows r).2.map fun g => ((o.idxOf g : Nat) : Int))
def found (rows : List Row) : List Row := foundOf rows (order rows)
def stepK (ks : List Int) (rows : List Row) : List (Int × List Int) := (ks.zip rows).map fun p => (p.1, p.2.2.map fun g => ks.getD g.toNat 0)
def cnt (ks : List Int) : Int := ks.foldl max 0 + 1
def kloop (rows : List Row) : Nat → Int → List Int → List Int
  | 0, _, ks => ks
  | f + 1, c, ks => if c < cnt ks then kloop rows f (cnt ks) (numb (stepK ks rows)) else ks
def kinds (rows : List Row) : List Int := kloop rows (rows.length + 1) 0 (numb (rows.map (·.1)))
def leastOf (rows : List Row) (ks : List Int) : List Row := (rows.zip ks).foldl (fun l p => if p.2 = (l.length : Int) then l ++ [(p.1.1, p.1.2.map fun g => ks.getD g.toNat 0)] else l) []
def least (rows : List Row) : List Row := leastOf (found rows) (kinds (found rows))
end Gu

set_option Elab.async false
set_option linter.all false
set_option maxRecDepth 100000
set_option maxHeartbeats 4000000
namespace Gu
open PySem L2
def csc (ns : List (Str × NameKind)) : Scope := { kind := .function, names := ns, isGenerator := false, isCoroutine := false, more := [] }
def Gives (K : PySem.W.Frag) (H : Hp) (Q : VK) (d : D) : Prop := ∀ v H', Same H H' → Dr K H' d v → Q v H'
theorem same_up {H H1 : Hp} {p : Addr} {o : HO} (s : Same H H1) (h : H1 p = none) : Same H (upd H1 p o) := fun b u e => by
  have q := s b u e
  rw [upd_ne (ne_of_none q h)]; exact q
theorem same_over {H H1 : Hp} {p : Addr} {o : HO} (s : Same H H1) (h : H p = none) : Same H (upd H1 p o) := fun b u e => by
  rw [upd_ne (ne_of_none e h)]; exact s b u e
theorem line_le {n : Nat} (h : n ≤ 5000) : n ≤ sizeLine := Nat.le_trans h (by decide)
theorem map_erase {α β : Type} (f : α → β) : ∀ (l : List α) (i : Nat), (l.map f).eraseIdx i = (l.eraseIdx i).map f
  | [], _ => rfl
  | _ :: _, 0 => rfl
  | a :: r, i + 1 => by
    show f a :: (r.map f).eraseIdx i = f a :: (r.eraseIdx i).map f
    rw [map_erase f r i]
structure Blt (mg : Str → Option Value) : Prop where
  len : mg "len" = none
  tup : mg "tuple" = none
  lst : mg "list" = none
  rng : mg "range" = none
  isi : mg "isinstance" = none
  int : mg "int" = none
  bl : mg "bool" = none
  str : mg "str" = none
  all : mg "all" = none
theorem its_dep (ns : List Int) : D.dep (D.its ns) = 1 := by simp only [D.dep, D.depL_ints]
def spLaw (K : PySem.W.Frag) : Sp := fun vs H Q _ => ∃ (a : Addr) (ns : List Int), vs = [.ref a] ∧ SqL K H a (ns.map V.int) ∧ ns.length ≤ 63 ∧ ∀ H', Q (.bl true) H'
def spCell (K : PySem.W.Frag) : Sp := fun vs H Q _ => ∃ (a : Addr) (ns : List Int) (i : Nat), vs = [.ref a, .int i] ∧ SqL K H a (ns.map V.int) ∧ ns.length ≤ 63 ∧ i ≤ 1000 ∧ Q (.int (cell ns i)) H
def spWhole (K : PySem.W.Frag) : Sp := fun vs H Q _ => ∃ i : Int, vs = [.int i] ∧ Q (.bl true) H
end Gu

set_option Elab.async false
set_option linter.all false
set_option maxRecDepth 100000
set_option maxHeartbeats 4000000
namespace Gu
open PySem L2
/-! ### a dict that numbers things as they come -/
section
variable {α κ : Type} [DecidableEq α] [DecidableEq κ]
end
end Gu

set_option Elab.async false
set_option linter.all false
set_option maxRecDepth 100000
set_option maxHeartbeats 4000000
namespace Gu
open PySem L2
/-! ### tuples stay -/
/-! ### what the program's defs hand back -/
end Gu

set_option Elab.async false
set_option linter.all false
set_option maxRecDepth 100000
set_option maxHeartbeats 4000000
namespace Gu
open PySem L2
section
variable {α β : Type} [DecidableEq α] [DecidableEq β]
end
end Gu

set_option Elab.async false
set_option linter.all false
set_option maxRecDepth 100000
set_option maxHeartbeats 4000000
namespace Gu
open PySem L2
end Gu

set_option Elab.async false
set_option linter.all false
set_option maxRecDepth 100000
set_option maxHeartbeats 4000000
namespace Gu
open PySem L2
/-! ### drawn numbers, drawn machines -/
def Nums (m : Nat) (ns : List Int) : Prop := ns.length = m ∧ ∀ x ∈ ns, 0 ≤ x ∧ x < 1009
def spNumbers (K : PySem.W.Frag) : Sp := fun vs H Q _ => ∃ (c : Int) (m : Nat), vs = [.int c, .int m] ∧ m ≤ 900 ∧ ∀ (r : Addr) (H' : Hp) (ns : List Int), Same H H' → H' r = some (.lst (ns.map V.int)) → Nums m ns → Q (.ref r) H'
theorem nums_snoc {ns : List Int} {x : Int} (h : ∀ x ∈ ns, 0 ≤ x ∧ x < 1009) (hx : 0 ≤ x ∧ x < 1009) : ∀ y ∈ ns ++ [x], 0 ≤ y ∧ y < 1009 := by
  intro y hy
  rcases List.mem_append.mp hy with hy | hy
  · exact h y hy
  · rw [List.mem_singleton.mp hy]; exact hx
theorem pmod {j : Int} (h : (0 : Int) < j := by decide) : 0 < j := h
theorem mod1009 (x : Int) : 0 ≤ x % 1009 ∧ x % 1009 < 1009 := by omega
def GR (n m : Nat) (rs : List Row) : Prop := ∀ r ∈ rs, IsP n r.1 ∧ r.2.length = n ∧ ∀ g ∈ r.2, 0 ≤ g ∧ g < (m : Int)
theorem nat_of {x : Int} (h : 0 ≤ x) : ∃ m : Nat, x = (m : Int) := ⟨x.toNat, by omega⟩
end Gu

set_option Elab.async false
set_option linter.all false
set_option maxRecDepth 100000
set_option maxHeartbeats 4000000
namespace Gu
open PySem L2
/-! ### a dict from rows to data -/
def mk (o : List Int) (vs : List V) : List (Key × V) := (o.zip vs).map fun p => (Sum.inl p.1, p.2)
/-! ### the rows in line -/
def hdStep (k : Int → Int) (hs : List Int) (r : Int) : List Int := if k r ∈ hs.map k then hs else hs ++ [r]
def heads (k : Int → Int) (o : List Int) : List Int := o.foldl (hdStep k) []
def inLine (rows : List Row) (k : Int → Int) (o : List Int) : List Row := (heads k o).map fun r => ((row rows r).1, (row rows r).2.map fun g => ((((heads k o).map k).idxOf (k g) : Nat) : Int))
def sInt : D → Int
  | .int i => i
  | _ => 0
end Gu

set_option Elab.async false
set_option linter.all false
set_option maxRecDepth 100000
set_option maxHeartbeats 4000000
namespace Gu
open PySem L2
end Gu

set_option Elab.async false
set_option linter.all false
set_option maxRecDepth 100000
set_option maxHeartbeats 4000000
namespace Gu
open PySem L2
/-! ### how many are unlike -/
section
variable {α β : Type} [DecidableEq α] [DecidableEq β]
end
/-! ### what a row does -/
def run (M : List Row) : Int → List Nat → Int
  | x, [] => x
  | x, i :: w => run M ((row M x).2.getD i 0) w
end Gu

set_option Elab.async false
set_option linter.all false
set_option maxRecDepth 100000
set_option maxHeartbeats 4000000
namespace Gu
open PySem L2
/-! ### the law's marks are right -/
/-! ### the program's kinds are right -/
def kf (ks : List Int) (x : Int) : Int := ks.getD x.toNat 0
end Gu

set_option Elab.async false
set_option linter.all false
set_option maxRecDepth 100000
set_option maxHeartbeats 4000000
namespace Gu
open PySem L2
/-! ### the line of a machine, and of one that it is mapped to -/
/-! ### heads -/
/-! ### the program's least machine is the law's -/
end Gu

set_option Elab.async false
set_option linter.all false
set_option maxRecDepth 100000
set_option maxHeartbeats 4000000
namespace L2
open PySem PySem.Spec PyProof.Rows
/-! ### d.setdefault(k, x) -/
section
variable {X : Cx} {pins : List (Addr × Obj)} {σ : St} {H : Hp} {s : Shared} {a : Addr} {kvs : List (Key × V)} {k : Key} {u : Value} {A : Around} {E : Value → Shared → Prop}
end
section
variable {X : Cx} {o e f : Expr} {apos cpos : Pos} {td ty tx : TE}
end
end L2

set_option Elab.async false
set_option linter.all false
set_option maxRecDepth 100000
set_option maxHeartbeats 4000000
namespace HT
open PySem PySem.Spec PyProof.Rows
section
variable {prog : Program} {w : World} {A : Around} {E : Value → Shared → Prop} {s : Shared}
end
end HT
namespace L2
open PySem PySem.Spec PyProof.Rows
section
variable {X : Cx} {e st : Expr} {te ts : TE} {pos p2 : Pos}
end
end L2

set_option Elab.async false
set_option linter.all false
set_option maxRecDepth 100000
set_option maxHeartbeats 4000000
namespace L2
open PySem PySem.Spec PyProof.Rows
/-! ### enumerate over a list -/
section
variable {X : Cx} {elts : List Expr} {tk : Nat} {tp : Pos}
end
end L2

set_option Elab.async false
set_option linter.all false
set_option maxRecDepth 100000
set_option maxHeartbeats 4000000
namespace L2
open PySem PySem.Spec PyProof.Rows
section
variable {X : Cx}
end
end L2

set_option Elab.async false
set_option linter.all false
set_option maxRecDepth 100000
set_option maxHeartbeats 4000000
namespace Gu
open PySem L2
/-! ### a machine blown up -/
def tw (T S : List Int) (i : Nat) : Int := T.getD (S.getD i 0).toNat 0
end Gu
namespace Gu
open PySem L2
end Gu
namespace Gu
open PySem L2
end Gu
namespace Gu
open PySem L2
end Gu

set_option Elab.async false
set_option linter.all false
set_option maxRecDepth 100000
set_option maxHeartbeats 4000000
namespace L2
open PySem PySem.Spec PyProof.Rows
/-! ### an exception in flight -/
def Fly (h0 : Heap) (H : Hp) (h : Heap) (ea C : Addr) : Prop := h0.get? ea = none ∧ H ea = none ∧ ∃ a0 oe vs T oT ts, h.get? ea = some oe ∧ (oe.cls = .ref C ∧ vs[0]? = some a0) ∧ oe.data = .fields vs ∧ vs[1]? = some (.ref T) ∧ T ≠ ea ∧ h0.get? T = none ∧ H T = none ∧ h.get? T = some oT ∧ oT.data = .fields ts ∧ ts[3]? = some .none
def Fresh (h0 : Heap) (H : Hp) (h : Heap) (ea C : Addr) : Prop := h0.get? ea = none ∧ H ea = none ∧ ∃ a0 oe vs, h.get? ea = some oe ∧ (oe.cls = .ref C ∧ vs[0]? = some a0) ∧ oe.data = .fields vs ∧ vs[1]? = some .none
theorem funFrames_at {h base : Heap} : ∀ {l : List Env}, h.FunFrames base l → ∀ b ∈ frs l, ∃ o, h.get? b = some o ∧ ∀ vs, o.data ≠ .fields vs
  | [], _, b, hb => by simp [frs] at hb
  | env :: r, hl, b, hb => by
    obtain ⟨hk, ⟨L, o, hf, hn, ho, hd⟩, hr⟩ := hl
    unfold frs at hb
    rw [List.filterMap_cons, hf] at hb
    rcases List.mem_cons.mp hb with z | z
    · rw [z]; exact ⟨o, ho, hd⟩
    · exact funFrames_at hr b z
theorem funFrames_base {h base base' : Heap} : ∀ {l : List Env}, h.FunFrames base l → (∀ b ∈ frs l, base'.get? b = none) → h.FunFrames base' l
  | [], _, _ => trivial
  | env :: r, hl, hb => by
    obtain ⟨hk, ⟨L, o, hf, hn, ho, hd⟩, hr⟩ := hl
    have e : frs (env :: r) = L :: frs r := by unfold frs; rw [List.filterMap_cons, hf]
    exact ⟨hk, ⟨L, o, hf, hb L (by rw [e]; simp), ho, hd⟩, funFrames_base hr fun b hb' => hb b (by rw [e]; exact List.mem_cons_of_mem _ hb')⟩
section
variable {P : Program} {w : World}
theorem objThere {H : Hp} {h : Heap} {a : Addr} {o : HO} (x : ObjOk P w H h a o) : ∃ ob, h.get? a = some ob := by
  cases o with
  | lst xs => obtain ⟨_, _, _, _, e⟩ := x; exact ⟨_, e⟩
  | tup xs => obtain ⟨_, _, _, _, e⟩ := x; exact ⟨_, e⟩
  | dK kvs => obtain ⟨_, _, _, _, o, _, _, e, _⟩ := x; exact ⟨_, e⟩
  | dT kvs => obtain ⟨_, _, _, _, o, _, _, e, _⟩ := x; exact ⟨_, e⟩
  | set S n => obtain ⟨o, _, _, _, e, _⟩ := x; exact ⟨_, e⟩
  | ins C dx fs => obtain ⟨_, _, _, e, _⟩ := x; exact ⟨_, e⟩
  | own y => obtain ⟨_, e⟩ := x; exact ⟨_, e⟩
  | xd fs => obtain ⟨_, ⟨_, _, _, e, _⟩, _⟩ := x; exact ⟨_, e⟩
  | rng lo hi => obtain ⟨_, _, _, e⟩ := x; exact ⟨_, e⟩
  | frz ob u => obtain ⟨e, _⟩ := x; exact ⟨_, e⟩
  | tbl ps => exact ⟨_, show h.get? a = some _ from x⟩
  | met f y => exact ⟨_, show h.get? a = some _ from x⟩
  | ext φ => obtain ⟨_, ⟨_, e⟩, _⟩ := x; exact ⟨_, e⟩
theorem left_ok {fr : List Addr} {H1 H' : Hp} {h1 h h' : Heap} {env : Env} {outer : List Env} {ea C : Addr} {a0 : Value} {base : Heap} {hid : List Addr} (FF : h.FunFrames base (env :: outer)) (u : Un fr [] H1 H' h1 h) (hok : HOk P w H' h)
    (hfr : ∀ b ∈ frs (env :: outer), H' b = none ∧ (b ∈ fr ∨ h1.get? b = none)) (hfr2 : ∀ b ∈ fr, b ∈ frs (env :: outer)) (he1 : h1.get? ea = none) (heH : H' ea = none) (hid1 : ∀ b ∈ hid, h1.get? b = none ∧ H' b = none)
    (lf : (PySem.W.hideAll h (ea :: (hid ++ frs (env :: outer)))).LeftW (env :: outer) ea (.ref C) a0 h h') :
    Un fr [] H1 H' h1 h' ∧ HOk P w H' h' ∧ Fly h1 H' h' ea C := by
  obtain ⟨st, ff, tr, sl⟩ := lf
  have keep : ∀ b o, h.get? b = some o → b ≠ ea → b ∉ hid → b ∉ frs (env :: outer) → h'.get? b = some o := fun b o e n1 n2 n3 =>
    st b o (PySem.W.hideAll_get _ e fun z => by
      rcases List.mem_cons.mp z with z | z
      · exact n1 z
      · rcases List.mem_append.mp z with z | z
        · exact n2 z
        · exact n3 z)
  have slot : ∀ b o, h.get? b = some o → b ∈ frs (env :: outer) → ∃ s, h'.get? b = some { o with slots := s } := fun b o e hb => by
    obtain ⟨o', e', hd⟩ := funFrames_at FF b hb
    rw [e] at e'
    cases e'
    exact sl b o e hd
  have nh : ∀ b o, h1.get? b = some o → b ≠ ea ∧ b ∉ hid := fun b o e => ⟨fun z => (by rw [z, he1] at e; cases e), fun z => (by rw [(hid1 b z).1] at e; cases e)⟩
  refine ⟨⟨fun b o e n hb hx => ?_, fun b o e n hb hx => ?_, u.free, fun b o e hx => ?_, u.tups, u.frzs, u.tbls⟩, fun a o e => ?_, he1, heH, ?_⟩
  · have e2 := u.keep b o e n hb hx
    refine keep b o e2 (nh b o e).1 (nh b o e).2 fun z => ?_
    rcases (hfr b z).2 with z | z
    · exact hb z
    · rw [z] at e; cases e
  · obtain ⟨s1, e2⟩ := u.slot b o e n hb hx
    obtain ⟨s2, e3⟩ := slot b _ e2 (hfr2 b hb)
    exact ⟨s2, e3⟩
  · obtain ⟨o', e2⟩ := u.there b o e hx
    by_cases hb : b ∈ frs (env :: outer)
    · obtain ⟨s2, e3⟩ := slot b _ e2 hb
      exact ⟨_, e3⟩
    · exact ⟨o', keep b o' e2 (nh b o e).1 (nh b o e).2 hb⟩
  · refine (hok a o e).stay (fun b v hb q => ?_) (fun _ q => q) fun _ _ q => q
    have hbs : ∃ ob, H' b = some ob := by
      rcases hb with z | z
      · rw [z]; exact ⟨_, e⟩
      · exact ⟨_, z⟩
    obtain ⟨ob, hob⟩ := hbs
    refine keep b v q (fun z => ?_) (fun z => ?_) fun z => ?_
    · rw [z, heH] at hob; cases hob
    · rw [(hid1 b z).2] at hob; cases hob
    · rw [(hfr b z).1] at hob; cases hob
  · obtain ⟨oe, vs, T, oT, ts, g1, g2, g3, g4, g5, g6, g7, g8, g9⟩ := tr
    have hT : h1.get? T = none ∧ H' T = none := by
      cases eT : h.get? T with
      | none =>
        refine ⟨?_, ?_⟩
        · cases q : h1.get? T with
          | none => rfl
          | some o =>
            obtain ⟨o', e2⟩ := u.there T o q (by simp)
            rw [eT] at e2; cases e2
        · cases q : H' T with
          | none => rfl
          | some o =>
            obtain ⟨ob, hob⟩ := objThere (hok T o q)
            rw [eT] at hob; cases hob
      | some oT' =>
        have hm : T ∈ ea :: (hid ++ frs (env :: outer)) := Classical.byContradiction fun nm => by
          rw [PySem.W.hideAll_get _ eT nm] at g5; cases g5
        rcases List.mem_cons.mp hm with z | z
        · exact absurd z g6
        · rcases List.mem_append.mp z with z | z
          · exact hid1 T z
          · obtain ⟨o', e', hd⟩ := funFrames_at ff T z
            rw [g7] at e'
            cases e'
            exact absurd g8 (hd ts)
    exact ⟨a0, oe, vs, T, oT, ts, g1, g2, g3, g4, g6, hT.1, hT.2, g7, g8, g9⟩
theorem leave_ok {M : Model} {A : Around} {E : Value → Shared → Prop} {Q : Unit → Shared → Prop} {s : Shared} {fr : List Addr} {H1 H' : Hp} {h1 : Heap} {env : Env} {outer : List Env} {L ea C : Addr} {base : Heap} (hA : A.frames = some (env :: outer)) (hL : env.frame = some L) (FF : s.heap.FunFrames base (env :: outer)) (u : Un fr [] H1 H' h1 s.heap) (hok : HOk P w H' s.heap)
    (hfr : ∀ b ∈ frs (env :: outer), H' b = none ∧ (b ∈ fr ∨ h1.get? b = none)) (hfr2 : ∀ b ∈ fr, b ∈ frs (env :: outer)) (hf : Fresh h1 H' s.heap ea C ∨ Fly h1 H' s.heap ea C)
    (k : ∀ h', Un fr [] H1 H' h1 h' → HOk P w H' h' → Fly h1 H' h' ea C → Q () { s with heap := h' }) : wpAny M A (leaving env (.ref ea)) Q E s := by
  rcases hf with ⟨he1, heH, a0, oe, vs, g1, ⟨g2, g20⟩, g3, g4⟩ | ⟨he1, heH, a0, oe, vs, T, oT, ts, g1, g2, g3, g4, g5, g6, g7, g8, g9, g10⟩
  · have FF' : s.heap.FunFrames (PySem.W.hideAll s.heap (ea :: ([] ++ frs (env :: outer)))) (env :: outer) := funFrames_base FF fun b hb => PySem.W.hideAll_none _ (by simp [hb])
    refine wpAny_leaving_firstW hA FF' hL g1 (fun b o e => PySem.W.of_hideAll _ e) (PySem.W.hideAll_none _ (by simp)) g3 g4 g20 fun h' lf => ?_
    rw [g2] at lf
    obtain ⟨a, b, c⟩ := left_ok (hid := []) FF u hok hfr hfr2 he1 heH (fun b hb => by simp at hb) lf
    exact k h' a b c
  · have FF' : s.heap.FunFrames (PySem.W.hideAll s.heap (ea :: ([T] ++ frs (env :: outer)))) (env :: outer) := funFrames_base FF fun b hb => PySem.W.hideAll_none _ (by simp [hb])
    refine wpAny_leaving_nextW hA FF' hL ⟨oe, vs, T, oT, ts, g1, g2, g3, g4, PySem.W.hideAll_none _ (by simp), g5, g8, g9, g10⟩ (fun b o e => PySem.W.of_hideAll _ e) (PySem.W.hideAll_none _ (by simp)) fun h' lf => ?_
    obtain ⟨a, b, c⟩ := left_ok (hid := [T]) FF u hok hfr hfr2 he1 heH (fun b hb => by rw [List.mem_singleton.mp hb]; exact ⟨g6, g7⟩) lf
    exact k h' a b c
def CXx (P : Program) (w : World) : CXT := fun outer H s E e s' => ∃ (ea C : Addr) (H' : Hp), e = .ref ea ∧ s'.os = s.os ∧ AllBare s'.gens ∧ Un (frs outer) [] H H' s.heap s'.heap ∧ HOk P w H' s'.heap ∧ Fly s.heap H' s'.heap ea C ∧ E (.ref ea) (some C) H'
instance : NoE (CXx P w) := ⟨fun ⟨_, _, _, _, _, _, _, _, _, h⟩ => h⟩
theorem xe_of {K : PySem.W.Frag} {mg : Str → Option Value} {base : Heap} {N : List Str} {qual : Str} {scope : Scope} {f : Addr} {cd : Value} {A : Around} {outer : List Env} {s : Shared} {H : Hp} {E : XK} {pins : List (Addr × Obj)} {σ : St} {H' : Hp} {s' : Shared} {ea C : Addr}
    (J : Inv (cxOf (CXx P w) P w K mg base N qual scope f cd A outer s H E) pins σ H' s') (hf : Fresh s.heap H' s'.heap ea C ∨ Fly s.heap H' s'.heap ea C) (hE : E (.ref ea) (some C) H') : (cxOf (CXx P w) P w K mg base N qual scope f cd A outer s H E).xe (.ref ea) s' := by
  have hsub := J.stkSub
  have hfree := J.stkFree
  have hst := J.stack
  have hfrm := J.ok.frames
  show wpAny (model P w) (A.deeper (envOfC qual scope s.heap.objs.size f cd)) (leaving (envOfC qual scope s.heap.objs.size f cd) (.ref ea)) (fun _ s'' => CXx P w outer H s E (.ref ea) s'') (fun e' s'' => CXx P w outer H s E e' s'') s'
  refine leave_ok (P := P) (w := w) (fr := frs outer) (H1 := H) (H' := H') (h1 := s.heap) (base := base) hfrm rfl hst J.base J.hok (fun b hb => ⟨hfree b hb, ?_⟩) (fun b hb => List.mem_cons_of_mem _ hb) hf fun h' a b c => ?_
  · rcases List.mem_cons.mp (hsub b hb) with z | z
    · right
      rw [z]
      exact Heap.get?_none_of_le (Nat.le_refl _)
    · exact .inl z
  · exact ⟨ea, C, H', rfl, J.os, J.bare, a, b, c, hE⟩
theorem passX {K : PySem.W.Frag} {mg : Str → Option Value} {base : Heap} {N : List Str} {qual : Str} {scope : Scope} {f : Addr} {cd : Value} {A : Around} {outer : List Env} {s : Shared} {H : Hp} {E E' : XK} (hE : ∀ e C H', E' e C H' → E e C H') :
    Passes (CXx P w) (cxOf (CXx P w) P w K mg base N qual scope f cd A outer s H E) E' := by
  intro pins σ H1 s1 e s' I hx
  obtain ⟨ea, C, H', rfl, os, bare, un, hok, fly, q⟩ := hx
  have J := I.call' (ch := []) os un hok bare (fun b z => absurd z (by simp))
  refine xe_of J (.inr ?_) (hE _ _ _ q)
  have up : ∀ b, s1.heap.get? b = none → s.heap.get? b = none := fun b z => by
    cases q : s.heap.get? b with
    | none => rfl
    | some o =>
      obtain ⟨o', e⟩ := I.base.there b o q (by simp [cxOf])
      rw [z] at e; cases e
  obtain ⟨a1, a2, a0, oe, vs, T, oT, ts, g1, g2, g3, g4, g5, g6, r⟩ := fly
  exact ⟨up _ a1, a2, a0, oe, vs, T, oT, ts, g1, g2, g3, g4, g5, up _ g6, r⟩
end
end L2

set_option Elab.async false
set_option linter.all false
set_option maxRecDepth 100000
set_option maxHeartbeats 4000000
namespace L2
open PySem PySem.Spec PyProof.Rows
theorem exc_obj {K : PySem.W.Frag} {h : Heap} {C : Addr} {bmB : List Value} {newId : String} (X : K.In h) (e : PySem.W.excIn K C bmB newId = true) : ∃ bm N nm q bs hdct sn sub ab col dd k0 k1 k2 k3 k5 mN,
    h.get? C = some (excClassObj nm q C N bs bm hdct sn sub ab col dd k0 k1 k2 k3 k5 newId) ∧ h.Ns N mN ∧ mN "__init__" = none ∧ OwnTail h bmB bm := by
  unfold PySem.W.excIn at e
  split at e
  · rename_i dict cd sl hl
    split at e
    · rename_i C' bm a0 a1 a2 a3 n a5 hm hs
      simp only [Bool.and_eq_true, beq_iff_eq, Bool.not_eq_true'] at e
      obtain ⟨⟨⟨⟨⟨e1, e2⟩, e3⟩, e4⟩, e5⟩, e6⟩ := e
      have hC := X C _ hl
      subst e1 e2
      have hsl : sl = #[a0, a1, a2, a3, some (Value.builtin n), a5] := by rw [← Array.toArray_toList (xs := sl), hs]
      obtain ⟨nm, bs, mro, ns, q, hd, sn, sub, ab, col, hdel⟩ := cd
      simp only at hm e3 e5 e6
      subst hm e3 hsl
      exact ⟨bm, ns, nm, q, bs, hd, sn, sub, ab, col, dict, a0, a1, a2, a3, a5, h.nsMap ns, hC, Heap.Ns.of_isNs (PySem.W.isNs_of_in X e5), PySem.W.nsMap_none_of_in X e5 e6, PySem.W.tail_of_in X e4⟩
    · cases e
  · cases e
theorem tail_has {h : Heap} {bmB bm : List Value} {v : Value} (t : OwnTail h bmB bm) (hb : bmB.contains v = true) : bm.contains v = true := by
  induction t with
  | base => exact hb
  | own _ _ _ _ ih => rw [List.contains_cons, ih]; simp
section
variable {P : Program} {w : World} {K : PySem.W.Frag} {mg : Str → Option Value} {base : Heap} {N : List Str} {qual : Str} {scope : Scope} {f : Addr} {cd : Value} {A : Around} {outer : List Env} {s0 : Shared} {H0 : Hp} {E : XK}
theorem ps_raise {x : Str} {C : Addr} {B newId initId : String} {bmB : List Value} {arg : Expr} {ta : TE} {np cpos pos : Pos} (hx : mg x = some (.ref C)) (hg : Gl (cxOf (CXx P w) P w K mg base N qual scope f cd A outer s0 H0 E) x) (he : PySem.W.excIn K C bmB newId = true) (hB : ExcBaseFacts B newId initId bmB)
    (ha : PE (cxOf (CXx P w) P w K mg base N qual scope f cd A outer s0 H0 E) arg ta)
    (htr : backTo cpos (starEach [arg] (cxOf (CXx P w) P w K mg base N qual scope f cd A outer s0 H0 E).env) = [(false, eval arg (cxOf (CXx P w) P w K mg base N qual scope f cd A outer s0 H0 E).env)] := by rfl) (hdb : (x == ("__debug__" : Str)) = false := by decide) :
    PS (cxOf (CXx P w) P w K mg base N qual scope f cd A outer s0 H0 E) (.Raise (some (.Call (.Name x np) [arg] [] cpos)) none pos) (fun D σ H => ta σ H fun v H1 => ∀ ea, E (.ref ea) (some C) H1) := by
  intro pins s σ H D I h
  obtain ⟨bm, NN, nm, q, bs, hd, sn, sub, ab, col, dict, a0, a1, a2, a3, a5, mN, hC, hN, hi, ht⟩ := exc_obj I.ok.mod.kin he
  refine wpAny_Raise_call_subT (nm := nm) (q := q) (N := NN) (bs := bs) (hdct := hd) (sn := sn) (sub := sub) (ab := ab) (col := col) (dd := dict) (k0 := a0) (k1 := a1) (k2 := a2) (k3 := a3) (k5 := a5) hB (tail_has ht hB.hasBase) (I.ok.hd rfl) (by rw [htr]; rfl) hi (ld_glob I hg hx ⟨rfl, ?_⟩ hdb)
  rw [htr]
  refine Calls.evalArgs_plain (Calls.spliced_cons (thn (ha pins s σ H _ I h) fun u s2 ⟨v, H2, I2, r2, q2⟩ => Calls.spliced_nil ?_))
  have bk := I2.bk
  refine ⟨rfl, by show 1 ≤ sizeLine; decide, bk _ _ hC, hN.keeps bk, ht.keeps bk, fun h' e me => ?_⟩
  obtain ⟨kp, nw, t, g1, g2, g3⟩ := me
  have J := I2.kept (h' := h') (t' := s2.toks) kp
  refine xe_of J (.inl ⟨?_, ?_, _, _, _, g1, ⟨rfl, rfl⟩, rfl, rfl⟩) (q2 e)
  · cases z : s0.heap.get? e with
    | none => rfl
    | some o =>
      obtain ⟨o', e'⟩ := I2.base.there e o z (by simp [cxOf])
      rw [nw] at e'; cases e'
  · cases z : H2 e with
    | none => rfl
    | some o =>
      obtain ⟨ob, hob⟩ := objThere (I2.hok e o z)
      rw [nw] at hob; cases hob
end
end L2

set_option Elab.async false
set_option linter.all false
set_option maxRecDepth 100000
set_option maxHeartbeats 4000000
namespace L2
open PySem PySem.Spec PyProof.Rows
section
variable {P : Program} {w : World}
theorem again_ok {M : Model} {A : Around} {E : Value → Shared → Prop} {Q : Unit → Shared → Prop} {s : Shared} {fr : List Addr} {H1 H' : Hp} {h1 : Heap} {env : Env} {outer : List Env} {ea C : Addr} {base : Heap} (FF : s.heap.FunFrames base (env :: outer)) (u : Un fr [] H1 H' h1 s.heap) (hok : HOk P w H' s.heap)
    (hfr : ∀ b ∈ frs (env :: outer), H' b = none ∧ (b ∈ fr ∨ h1.get? b = none)) (hfr2 : ∀ b ∈ fr, b ∈ frs (env :: outer)) (hf : Fly h1 H' s.heap ea C)
    (k : ∀ h', Un fr [] H1 H' h1 h' → HOk P w H' h' → Fly h1 H' h' ea C → Q () { s with heap := h' }) : wpAny M A (setFlight (.ref ea) none) Q E s := by
  obtain ⟨he1, heH, a0, oe, vs, T, oT, ts, g1, g2, g3, g4, g5, g6, g7, g8, g9, g10⟩ := hf
  have FF' : s.heap.FunFrames (PySem.W.hideAll s.heap (ea :: ([T] ++ frs (env :: outer)))) (env :: outer) := funFrames_base FF fun b hb => PySem.W.hideAll_none _ (by simp [hb])
  refine lands_againW (base := PySem.W.hideAll s.heap (ea :: ([T] ++ frs (env :: outer)))) (l := env :: outer) (cls := .ref C) (a0 := a0) ⟨fun b o e => PySem.W.of_hideAll _ e, PySem.W.hideAll_none _ (by simp), FF', oe, vs, T, oT, ts, g1, g2, g3, g4, PySem.W.hideAll_none _ (by simp), g5, g8, g9, g10⟩ fun h' fl up => ?_
  obtain ⟨f1, f2, f3, f4⟩ := fl
  obtain ⟨a, b, c⟩ := left_ok (hid := [T]) FF u hok hfr hfr2 he1 heH (fun b hb => by rw [List.mem_singleton.mp hb]; exact ⟨g6, g7⟩) ⟨f1, f3, f4, up⟩
  exact k h' a b c
theorem land_ok {M : Model} {A : Around} {E : Value → Shared → Prop} {Q : Unit → Shared → Prop} {s : Shared} {fr : List Addr} {H1 H' : Hp} {h1 : Heap} {env : Env} {outer : List Env} {L ea C : Addr} {base : Heap} (hA : A.frames = some (env :: outer)) (hL : env.frame = some L) (FF : s.heap.FunFrames base (env :: outer)) (u : Un fr [] H1 H' h1 s.heap) (hok : HOk P w H' s.heap)
    (hfr : ∀ b ∈ frs (env :: outer), H' b = none ∧ (b ∈ fr ∨ h1.get? b = none)) (hfr2 : ∀ b ∈ fr, b ∈ frs (env :: outer)) (hf : Fly h1 H' s.heap ea C)
    (k : ∀ h', Un fr [] H1 H' h1 h' → HOk P w H' h' → Fly h1 H' h' ea C → Q () { s with heap := h' }) : wpAny M A (noteFrame (.ref ea) env) (fun _ s2 => wpAny M A (setFlight (.ref ea) none) Q E s2) E s := by
  obtain ⟨he1, heH, a0, oe, vs, T, oT, ts, g1, g2, g3, g4, g5, g6, g7, g8, g9, g10⟩ := hf
  have FF' : s.heap.FunFrames (PySem.W.hideAll s.heap (ea :: ([T] ++ frs (env :: outer)))) (env :: outer) := funFrames_base FF fun b hb => PySem.W.hideAll_none _ (by simp [hb])
  refine wpAny_noteFrame_onW hA FF' hL ⟨oe, vs, T, oT, ts, g1, g2, g3, g4, PySem.W.hideAll_none _ (by simp), g5, g8, g9, g10⟩ (fun b o e => PySem.W.of_hideAll _ e) (PySem.W.hideAll_none _ (by simp)) fun h2 nt => ?_
  obtain ⟨n1, n2, n3, n4⟩ := nt
  refine wpAny_landsW (L := L) ⟨n1, PySem.W.hideAll_none _ (by simp), n2, n3⟩ fun h' fl up => ?_
  obtain ⟨f1, f2, f3, f4⟩ := fl
  have lw : (PySem.W.hideAll s.heap (ea :: ([T] ++ frs (env :: outer)))).LeftW (env :: outer) ea (.ref C) a0 s.heap h' := ⟨f1, f3, f4, fun b o e hd => by
    obtain ⟨s1, e1⟩ := n4 b o e hd
    obtain ⟨s2, e2⟩ := up b _ e1 hd
    exact ⟨s2, e2⟩⟩
  obtain ⟨a, b, c⟩ := left_ok (hid := [T]) FF u hok hfr hfr2 he1 heH (fun b hb => by rw [List.mem_singleton.mp hb]; exact ⟨g6, g7⟩) lw
  exact k h' a b c
end
abbrev Cx.sup (X : Cx) (e : Addr) : Cx := { X with A := X.A.mark (some (.ref e)), calm := false, xe := fun _ _ => False }
abbrev Cx.tried (X : Cx) (pn : List (Addr × Obj)) (E : Value → Shared → Prop) : Cx := { X with pn := pn, xe := E }
theorem Cx.Ok.sup {X : Cx} (ok : X.Ok) (e : Addr) : (X.sup e).Ok :=
  ⟨ok.mod, ok.kind, ok.glob, ok.blt, ok.above, ok.inj, ok.has, ok.cab, fun z => (by cases z), ok.frames, ok.stk, ok.exf, ok.bs, ok.bsz, ok.noex, ok.exfs, ok.funs, ok.frf⟩
theorem Cx.Ok.tried {X : Cx} (ok : X.Ok) (pn : List (Addr × Obj)) (E : Value → Shared → Prop) : (X.tried pn E).Ok :=
  ⟨ok.mod, ok.kind, ok.glob, ok.blt, ok.above, ok.inj, ok.has, ok.cab, ok.hd, ok.frames, ok.stk, ok.exf, ok.bs, ok.bsz, ok.noex, ok.exfs, ok.funs, ok.frf⟩
end L2

set_option Elab.async false
set_option linter.all false
set_option maxRecDepth 100000
set_option maxHeartbeats 4000000
namespace L2
open PySem PySem.Spec PyProof.Rows PySem.SeqAt
section
variable {X : Cx}
end
end L2

set_option Elab.async false
set_option linter.all false
set_option maxRecDepth 100000
set_option maxHeartbeats 4000000
namespace Gu
open PySem L2
/-! ### what raises -/
def TMx (Ct : Addr) (E : XK) (H : Hp) : Prop := ∀ (ea : Addr) (H' : Hp), Same H H' → E (.ref ea) (some Ct) H'
end Gu
namespace L2
open PySem PySem.Spec PyProof.Rows
theorem Fun.okx {CX : CXT} {P : Program} {w : World} {K : PySem.W.Frag} {mg : Str → Option Value} {base : Heap} {x qual : Str} {st : Stmt} {f : Addr} {fd : FuncData} {N ps : List Str} {k : Nat} {sp : Sp} (F : Fun K x qual st f fd) (S : FnScope N ps (defScope st)) (len : ∀ vs H Q E, sp vs H Q E → vs.length = ps.length)
    (hbody : ∀ (cdv : Value) (A : Around) (outer : List Env) (s : Shared) (H : Hp) (vs : List V) (Q : VK) (E : XK), Room k (A.deeper (envOfC qual (defScope st) s.heap.objs.size f cdv)) → sp vs H Q E →
      ∃ t, PSs (cxOf CX P w K mg base N qual (defScope st) f cdv A outer s H E) (defBody st) t ∧ t { nx := fun _ H' => Q .non H', rt := Q } (start N vs) H) : FnOk P w K mg base CX (k + 1) f fd ps sp := by
  obtain ⟨oc, od, kV, doc, pm, an, cdv, ct, osl, rfl, lk, hcd⟩ := F.ex
  exact fn_of lk hcd S len fun A outer s H vs Q E hr hsp => hbody cdv A outer s H vs Q E hr hsp
end L2

set_option Elab.async false
set_option linter.all false
set_option maxRecDepth 100000
set_option maxHeartbeats 4000000
namespace L2
open PySem PySem.Spec PyProof.Rows PySem.SeqAt
section
variable {X : Cx}
theorem op_catU : OpR X (binaryOp .Add) (fun x y H Q => ∃ (a b : Addr) (xs ys : List V), x = .ref a ∧ y = .ref b ∧ H a = some (.tup xs) ∧ H b = some (.tup ys) ∧ xs.length + ys.length ≤ sizeLine ∧
    ∀ (p : Addr) (H' : Hp), Same H H' → H' p = some (.tup (xs ++ ys)) → Q (.ref p) H') := by
  intro pins s σ H x y v u Q I rx ry h
  obtain ⟨a, b, xs, ys, rfl, rfl, ha, hb, hz, q⟩ := h
  by_cases hx : xs = []
  · subst hx
    cases rx
    cases ry
    obtain ⟨its, r1, p1, _⟩ := I.tuple (SqT.of ha)
    obtain ⟨its2, r2, p2, _⟩ := I.tuple (SqT.of hb)
    cases r1
    obtain ⟨⟨cls, dd, data, sl⟩, ho, hc, n, hd⟩ := id p1
    obtain ⟨⟨cls2, dd2, data2, sl2⟩, ho2, hc2, n2, hd2⟩ := id p2
    simp only at hc hd hc2 hd2
    subst hc hd hc2 hd2
    exact concat_meets ⟨_, ho, rfl⟩ ⟨_, ho2, rfl⟩ noFill_tuple_add seq_tuple_add PySem.F.slot_tuple_add PySem.F.entry_tuple_add (PySem.F.args_tuple_add_2 _ _)
      (tuple_addW0 a b _ _ n n2 dd dd2 sl sl2 (by simp)) ⟨ho, ho2, ⟨.ref b, H, I, rfl, q b H (Same.refl H) hb⟩⟩
  · exact op_catT pins s σ H _ _ v u Q I rx ry ⟨a, b, xs, ys, rfl, rfl, SqT.of ha, SqT.of hb, hx, hz, fun e => by subst e; exact q a H (Same.refl H) (by rw [List.append_nil]; exact ha), fun _ p hp => q p _ (Gu.same_up (Same.refl H) hp) upd_same⟩
/-! ### t * k -/
/-! ### t != u of ints -/
end
end L2

set_option Elab.async false
set_option linter.all false
set_option maxRecDepth 100000
set_option maxHeartbeats 4000000
namespace Gu
/-! ### endless words: a beginning and a ring -/
/-! ### the least ring -/
end Gu

set_option Elab.async false
set_option linter.all false
set_option maxRecDepth 100000
set_option maxHeartbeats 4000000
namespace Gu
open PySem L2
/-! ### cuts of lists of ints -/
end Gu

set_option Elab.async false
set_option linter.all false
set_option maxRecDepth 100000
set_option maxHeartbeats 4000000
namespace Gu
open PySem L2
end Gu
namespace Gu
open PySem L2
end Gu

set_option Elab.async false
set_option linter.all false
set_option maxRecDepth 100000
set_option maxHeartbeats 4000000
namespace L2
open PySem PySem.Spec PyProof.Rows
/-! ### a thing that stays as it is -/
section
variable {P : Program} {w : World} {H H1 : Hp} {h : Heap} {a : Addr} {o : Obj}
end
end L2

set_option Elab.async false
set_option linter.all false
set_option maxRecDepth 100000
set_option maxHeartbeats 4000000
namespace L2
open PySem PySem.Spec PyProof.Rows
section
variable {X : Cx} {CX : CXT} {k : Nat} {x : Str} {p pos : Pos} {e : Expr} {es : List Expr} {t : TA}
end
end L2

set_option Elab.async false
set_option linter.all false
set_option maxRecDepth 100000
set_option maxHeartbeats 4000000
namespace L2
open PySem PySem.Spec PyProof.Rows
/-! ### code tables: where a def's lambda lies, and the code that was made of it -/
structure Tb where
  at_ : Addr
  pos : Pos
  qual : Str
class NT (o : HO) : Prop where
  no : ∀ ps, o ≠ .tbl ps
instance NT.lst {xs : List V} : NT (.lst xs) := ⟨fun _ z => by cases z⟩
instance NT.tup {xs : List V} : NT (.tup xs) := ⟨fun _ z => by cases z⟩
instance NT.dK {xs : List (Key × V)} : NT (.dK xs) := ⟨fun _ z => by cases z⟩
instance NT.ext {f : Heap → Prop} : NT (.ext f) := ⟨fun _ z => by cases z⟩
instance NT.frz {o : Obj} {u : HO} : NT (.frz o u) := ⟨fun _ z => by cases z⟩
/-! ### a def is called with things tracked that the body around keeps to itself -/
section
variable {X : Cx} {pins : List (Addr × Obj)} {σ : St} {H : Hp} {s s' : Shared} {cs : List Addr} {ob : Addr → Obj}
end
end L2

set_option Elab.async false
set_option linter.all false
set_option maxRecDepth 100000
set_option maxHeartbeats 4000000
namespace L2
open PySem PySem.Spec PyProof.Rows
section
variable {X : Cx} {N : List Str} {ix : List (Option Nat)} {params : Arguments} {body : Expr} {lsc : Scope} {lpos : Pos} {c : Addr} {T : Tb} {Ts : List Tb}
/-! ### g(e, lambda ..) -/
variable {k : Nat} {g : Addr} {gd : FuncData} {ps : List Str} {sp : Sp} {E : XK} {x : Str} {p pos : Pos} {e0 : Expr} {t0 : TE}
end
end L2

set_option Elab.async false
set_option linter.all false
set_option maxRecDepth 100000
set_option maxHeartbeats 4000000
namespace L2
open PySem PySem.Spec PyProof.Rows
/-! ### data stay where frozen things are hidden -/
end L2

set_option Elab.async false
set_option linter.all false
set_option maxRecDepth 100000
set_option maxHeartbeats 4000000
namespace Gu
open PySem L2
/-! ### machines whose rows are told by a function, under names -/
abbrev kN (nm : Int → Int) (i : Int) : Key := Sum.inl (nm i)
def rowN (nm : Int → Int) (r : Row) : Row := (r.1, r.2.map nm)
section
variable (P : Program) (w : World) (K : PySem.W.Frag) (mg : Str → Option Value) (base : Heap) (CX : CXT) (k : Nat)
end
/-! ### what a def hands back that makes lambdas -/
end Gu

set_option Elab.async false
set_option linter.all false
set_option maxRecDepth 100000
set_option maxHeartbeats 4000000
namespace L2
open PySem PySem.Spec PyProof.Rows
end L2

set_option Elab.async false
set_option linter.all false
set_option maxRecDepth 100000
set_option maxHeartbeats 4000000
namespace L2
open PySem PySem.Spec PyProof.Rows
/-! ### a list or a tuple -/
end L2
namespace Gu
open PySem L2
/-! ### a dict from named rows to data -/
section
variable {K : PySem.W.Frag} {H H' : Hp} {f : Int → D} {r : Int} {nm : Int → Int}
end
end Gu

set_option Elab.async false
set_option linter.all false
set_option maxRecDepth 100000
set_option maxHeartbeats 4000000
namespace Gu
open PySem L2
/-! ### the form and its machine -/
/-! ### a machine begun at another row -/
def sw (s i : Int) : Int := if i = 0 then s else if i = s then 0 else i
def swM (rows : List Row) (s : Int) : List Row := (iota rows.length).map fun i => rowN (sw s) (row rows (sw s i))
/-! ### words -/
def goW (M : List Row) : Int → List Int → Int
  | x, [] => x
  | x, l :: w => goW M ((row M x).2.getD l.toNat 0) w
def LW (n : Nat) (w : List Int) : Prop := ∀ l ∈ w, 0 ≤ l ∧ l < (n : Int)
end Gu

set_option Elab.async false
set_option linter.all false
set_option maxRecDepth 100000
set_option maxHeartbeats 4000000
namespace L2
open PySem PySem.Spec PyProof.Rows
end L2
namespace Gu
open PySem L2
instance LW.dec (n : Nat) (w : List Int) : Decidable (LW n w) := by unfold LW; infer_instance
end Gu

set_option Elab.async false
set_option linter.all false
set_option maxRecDepth 100000
set_option maxHeartbeats 4000000
namespace Gu
open PySem L2
/-! ### branches put together -/
def hds : Nat → List (List Row) → List Int
  | _, [] => []
  | o, g :: gs => (o : Int) :: hds (o + g.length) gs
end Gu

set_option Elab.async false
set_option linter.all false
set_option maxRecDepth 100000
set_option maxHeartbeats 4000000
namespace L2
open PySem PySem.Spec PyProof.Rows
section
variable {X : Cx} {K : PySem.W.Frag} {k v : Expr} {tk tv : TE} {pos : Pos}
end
end L2

set_option Elab.async false
set_option linter.all false
set_option maxRecDepth 100000
set_option maxHeartbeats 4000000
namespace L2
open PySem PySem.Spec PyProof.Rows
/-! ### zip over any two things that are drawn from -/
structure ZA (z TI TO i1 i2 : Addr) (fp1 fp2 : List Addr) : Prop where
  TIz : TI ≠ z
  TOz : TO ≠ z
  i1z : i1 ≠ z
  i2z : i2 ≠ z
  TITO : TI ≠ TO
  TIi1 : TI ≠ i1
  TIi2 : TI ≠ i2
  TOi1 : TO ≠ i1
  TOi2 : TO ≠ i2
  i12 : i1 ≠ i2
  f1z : z ∉ fp1
  f1T : TO ∉ fp1
  f1i : i2 ∉ fp1
  f2z : z ∉ fp2
  f2T : TO ∉ fp2
  f2i : i1 ∉ fp2
section
variable {prog : Program} {w : World} {A : Around} {E : Value → Shared → Prop} {s : Shared} {z TI TO i1 i2 : Addr} {fp1 fp2 : List Addr} {n1 n2 : Nat} {P1 P2 : Nat → Value → Prop} {S1 S2 : Nat → Heap → Prop}
theorem ndr {it : Addr} {fp : List Addr} {n : Nat} {P : Nat → Value → Prop} {St : Nat → Heap → Prop} (D : Draws prog w A it fp n P St) {i : Nat} {h h' : Heap} {a : Addr} (st : St i h) (hs : Heap.SameBut a h h') (ha : a ∉ fp) : St i h' :=
  D.frame i h h' st fun b hb o e => hs.extBut b o (fun q => ha (q ▸ hb)) e
theorem zipD_item {k1 k2 : Nat} {a b : Value} {Q : Value → Shared → Prop} (D1 : Draws prog w A i1 fp1 n1 P1 S1) (D2 : Draws prog w A i2 fp2 n2 P2 S2) (Z : ZA z TI TO i1 i2 fp1 fp2) (hz : IsZip s.heap z TI TO .none) (hTI : IsPair s.heap TI (.ref i1) (.ref i2)) (hTO : IsPair s.heap TO a b)
    (t1 : S1 k1 s.heap) (t2 : S2 k2 s.heap) (l1 : k1 < n1) (l2 : k2 < n2)
    (hQ : ∀ x y h' tk, P1 k1 x → P2 k2 y → IsZip h' z TI TO (rawInt s.heap.objs.size) → IsPair h' TO x y → S1 (k1 + 1) h' → S2 (k2 + 1) h' → IsPair h' s.heap.objs.size x y →
      (∀ c o, c ≠ z → c ≠ TO → c ≠ i1 → c ≠ i2 → s.heap.get? c = some o → h'.get? c = some o) → Q (.ref s.heap.objs.size) { s with heap := h', toks := tk }) :
    wpAny (model prog w) A (Builtin.«zip.__next__» ⟨[.ref z], []⟩) (fun fin s' => ∃ v, fin = .done (.ret v) ∧ Q v s') E s := by
  show wpAny _ _ (field (.ref z) 2 >>= _) _ _ _
  refine wpAny_bind (wpAny_field hz rfl (x := .bool false) rfl ?_)
  show wpAny _ _ (field (.ref z) 3 >>= _) _ _ _
  refine wpAny_bind (wpAny_field hz rfl (x := .ref TI) rfl (wpAny_bind (wpAny_seqItems hTI rfl ?_)))
  show wpAny _ _ (Builtin.SmallTypes.ownedTupleIsFree (.ref z) >>= _) _ _ _
  refine wpAny_bind ?_
  unfold Builtin.SmallTypes.ownedTupleIsFree
  refine wpAny_bind (wpAny_field hz rfl (x := .none) rfl (wpAny_pure ?_))
  simp only [if_true]
  refine wpAny_bind (wpAny_rule (wpAny_bind (wpAny_field hz rfl (x := .ref TO) rfl (wpAny_bind (wpAny_setField_rec hz (by simp) fun ha za sa => ?_)))))
  replace za : IsZip ha z TI TO .ellipsis := za
  refine wpAny_bind ?_
  simp only [List.zipIdx_cons, List.zipIdx_nil, List.forIn_cons, List.forIn_nil]
  refine wpAny_bind (wpAny_bind (wpAny_onRaise ?_))
  show wpAny _ _ (Builtin.SmallTypes.nextOf (.ref i1) >>= _) _ _ _
  refine wpAny_bind (D1.item k1 _ _ _ l1 (ndr D1 t1 sa Z.f1z) fun x hb tb px t1b sb => wpAny_pure ?_)
  have Tb : IsPair hb TO a b := sb.extBut _ _ Z.TOi1 (sa.extBut _ _ Z.TOz hTO)
  refine wpAny_bind (wpAny_seqItems Tb rfl (wpAny_bind (wpAny_updateSeq_pair Tb fun hc Tc sc => ?_)))
  replace Tc : IsPair hc TO x b := Tc
  refine wpAny_bind (wpAny_letGo (wpAny_pure ?_))
  refine wpAny_bind (wpAny_bind (wpAny_onRaise ?_))
  show wpAny _ _ (Builtin.SmallTypes.nextOf (.ref i2) >>= _) _ _ _
  refine wpAny_bind (D2.item k2 _ _ _ l2 (ndr D2 (ndr D2 (ndr D2 t2 sa Z.f2z) sb Z.f2i) sc Z.f2T) fun y hd td py t2d sd => wpAny_pure ?_)
  have Td : IsPair hd TO x b := sd.extBut _ _ Z.TOi2 Tc
  refine wpAny_bind (wpAny_seqItems Td rfl (wpAny_bind (wpAny_updateSeq_pair Td fun he Te se => ?_)))
  replace Te : IsPair he TO x y := Te
  refine wpAny_bind (wpAny_letGo (wpAny_pure (wpAny_pure ?_)))
  refine wpAny_bind (wpAny_seqItems Te rfl (wpAny_bind (wpAny_newTuple ?_)))
  have hsz : he.objs.size = s.heap.objs.size := by rw [se.1, sd.1, sc.1, sb.1, sa.1]
  have ze : IsZip he z TI TO .ellipsis := se.extBut _ _ Z.TOz.symm (sd.extBut _ _ Z.i2z.symm (sc.extBut _ _ Z.TOz.symm (sb.extBut _ _ Z.i1z.symm za)))
  have ke : ∀ c o, c ≠ z → c ≠ TO → c ≠ i1 → c ≠ i2 → s.heap.get? c = some o → he.get? c = some o := fun c o c1 c2 c3 c4 e => se.extBut _ _ c2 (sd.extBut _ _ c4 (sc.extBut _ _ c2 (sb.extBut _ _ c3 (sa.extBut _ _ c1 e))))
  have t1e := ndr D1 (ndr D1 (ndr D1 t1b sc Z.f1T) sd Z.f1i) se Z.f1T
  have t2e := ndr D2 t2d se Z.f2T
  have zlt : z < he.objs.size := Heap.lt_size ze
  show wpAny _ _ (Builtin.SmallTypes.ownedTupleHandOut (.ref z) (.ref he.objs.size) >>= _) _ _ _
  refine wpAny_bind ?_
  unfold Builtin.SmallTypes.ownedTupleHandOut
  have zf : IsZip (he.push { cls := .type "tuple", data := .seq #[x, y] }) z TI TO .ellipsis := Heap.get?_push_of_some _ ze
  refine wpAny_bind (wpAny_setField_rec zf (by simp) fun hg zg sg => ?_)
  replace zg : IsZip hg z TI TO (rawInt he.objs.size) := zg
  refine wpAny_setField_rec zg (by simp) fun hh zh sh => ?_
  replace zh : IsZip hh z TI TO (rawInt he.objs.size) := zh
  have up : ∀ c o, c ≠ z → he.get? c = some o → hh.get? c = some o := fun c o c1 e => sh.extBut _ _ c1 (sg.extBut _ _ c1 (Heap.get?_push_of_some _ e))
  have pr : IsPair hh he.objs.size x y := sh.extBut _ _ (Nat.ne_of_gt zlt) (sg.extBut _ _ (Nat.ne_of_gt zlt) (Heap.get?_push_size _ rfl))
  rw [hsz] at zh pr
  refine wpAny_pure ⟨_, rfl, ?_⟩
  show Q (.ref he.objs.size) _
  rw [hsz]
  exact hQ x y hh _ px py zh (up _ _ Z.TOz Te) (D1.frame _ _ _ t1e fun b hb o e => up b o (fun q => Z.f1z (q ▸ hb)) e) (D2.frame _ _ _ t2e fun b hb o e => up b o (fun q => Z.f2z (q ▸ hb)) e) pr fun c o c1 c2 c3 c4 e => up c o c1 (ke c o c1 c2 c3 c4 e)
theorem zipD_end {a b : Value} {Q : Fin → Shared → Prop} (D1 : Draws prog w A i1 fp1 n1 P1 S1) (Z : ZA z TI TO i1 i2 fp1 fp2) (hz : IsZip s.heap z TI TO .none) (hTI : IsPair s.heap TI (.ref i1) (.ref i2)) (hTO : IsPair s.heap TO a b)
    (t1 : S1 n1 s.heap)
    (hE : ∀ h' e, (∀ c o, c ≠ z → c ≠ TO → c ≠ i1 → c ≠ i2 → s.heap.get? c = some o → h'.get? c = some o) → (∃ o, h'.get? e = some o ∧ o.cls = .type "StopIteration") → E (.ref e) { s with heap := h' }) :
    wpAny (model prog w) A (Builtin.«zip.__next__» ⟨[.ref z], []⟩) Q E s := by
  show wpAny _ _ (field (.ref z) 2 >>= _) _ _ _
  refine wpAny_bind (wpAny_field hz rfl (x := .bool false) rfl ?_)
  show wpAny _ _ (field (.ref z) 3 >>= _) _ _ _
  refine wpAny_bind (wpAny_field hz rfl (x := .ref TI) rfl (wpAny_bind (wpAny_seqItems hTI rfl ?_)))
  show wpAny _ _ (Builtin.SmallTypes.ownedTupleIsFree (.ref z) >>= _) _ _ _
  refine wpAny_bind ?_
  unfold Builtin.SmallTypes.ownedTupleIsFree
  refine wpAny_bind (wpAny_field hz rfl (x := .none) rfl (wpAny_pure ?_))
  simp only [if_true]
  refine wpAny_bind (wpAny_rule (wpAny_bind (wpAny_field hz rfl (x := .ref TO) rfl (wpAny_bind (wpAny_setField_rec hz (by simp) fun ha za sa => ?_)))))
  replace za : IsZip ha z TI TO .ellipsis := za
  refine wpAny_bind ?_
  simp only [List.zipIdx_cons, List.zipIdx_nil, List.forIn_cons, List.forIn_nil]
  refine wpAny_bind (wpAny_bind (wpAny_onRaise ?_))
  show wpAny _ _ (Builtin.SmallTypes.nextOf (.ref i1) >>= _) _ _ _
  refine wpAny_bind (D1.done _ _ _ (ndr D1 t1 sa Z.f1z) fun hb e sb he => ?_)
  obtain ⟨oe, hoe, hce⟩ := he
  have zb : IsZip hb z TI TO .ellipsis := sb _ _ Z.i1z.symm za
  have hez : e ≠ z := fun x => by subst x; rw [zb] at hoe; cases hoe; simp at hce
  exact wpAny_setField_rec zb (by simp) fun hc _ sc => hE hc e (fun c o c1 _ c3 _ x => sc.extBut _ _ c1 (sb _ _ c3 (sa.extBut _ _ c1 x))) ⟨oe, sc.extBut _ _ hez hoe, hce⟩
end
end L2

set_option Elab.async false
set_option linter.all false
set_option maxRecDepth 100000
set_option maxHeartbeats 4000000
namespace L2
open PySem PySem.Spec PyProof.Rows
section
variable {prog : Program} {w : World} {A : Around} {E : Value → Shared → Prop} {s : Shared}
end
/-! ### zip over two tuples -/
section
variable {X : Cx} {elts : List Expr} {tk : Nat} {tp : Pos}
end
end L2

set_option Elab.async false
set_option linter.all false
set_option maxRecDepth 100000
set_option maxHeartbeats 4000000
namespace Gu
open PySem L2
/-! ### rows under pairs of numbers -/
def pr (m : Nat) (i : Int) : D := .tup [.int (i / (m : Int)), .int (i % (m : Int))]
section
variable (P : Program) (w : World) (K : PySem.W.Frag) (mg : Str → Option Value) (base : Heap) (CX : CXT) (k : Nat)
end
end Gu

set_option Elab.async false
set_option linter.all false
set_option maxRecDepth 100000
set_option maxHeartbeats 4000000
namespace Gu
open PySem L2
/-! ### the one and then the other -/
def prow (m : Nat) (R S : Row) : Row := (turn R.1 S.1, (List.range R.1.length).map fun k => R.2.getD k 0 * (m : Int) + S.2.getD (R.1.getD k 0).toNat 0)
def prodM (one other : List Row) : List Row := (iota (one.length * other.length)).map fun i => prow other.length (row one (i / (other.length : Int))) (row other (i % (other.length : Int)))
end Gu

set_option Elab.async false
set_option linter.all false
set_option maxRecDepth 100000
set_option maxHeartbeats 4000000
namespace Gu
open PySem L2
/-! ### the way back -/
/-! ### joined with the way back -/
end Gu

set_option Elab.async false
set_option linter.all false
set_option maxRecDepth 100000
set_option maxHeartbeats 4000000
namespace Gu
open PySem L2
end Gu

set_option Elab.async false
set_option linter.all false
set_option maxRecDepth 100000
set_option maxHeartbeats 4000000
namespace Gu
open PySem L2
/-! ### what is made of a word -/
end Gu

set_option Elab.async false
set_option linter.all false
set_option maxRecDepth 100000
set_option maxHeartbeats 4000000
namespace L2
open PySem PySem.Spec PyProof.Rows
section
variable {M : Model} {A : Around} {E : Value → Shared → Prop}
variable {nm q : Str} {C N : Addr} {bs bm : List Value} {hdct : Bool} {sn : List Str} {sub : List Value} {ab : Bool} {col : Option Bool} {dd : Option Addr} {k0 k1 k2 k3 k5 : Option Value} {newId : String}
variable {nm' q' : Str} {C' N' : Addr} {bs' bm' : List Value} {hdct' : Bool} {sn' : List Str} {sub' : List Value} {ab' : Bool} {col' : Option Bool} {dd' : Option Addr} {k0' k1' k2' k3' k5' : Option Value} {newId' : String}
end
end L2

set_option Elab.async false
set_option linter.all false
set_option maxRecDepth 100000
set_option maxHeartbeats 4000000
namespace Gu
open PySem L2
def stillM (n : Nat) : List Row := [(iota n, List.replicate n 0)]
end Gu

set_option Elab.async false
set_option linter.all false
set_option maxRecDepth 100000
set_option maxHeartbeats 4000000
namespace Gu
open PySem L2
/-! ### so many times -/
end Gu

set_option Elab.async false
set_option linter.all false
set_option maxRecDepth 100000
set_option maxHeartbeats 4000000
namespace L2
open PySem PySem.StrLaws PySem.Builtin PySem.Builtin.Str
/-! ### a joined text is split into what it was joined of -/
abbrev sg (x : Str) : List Nat := x.cps.toList
theorem sg_app (a b : Str) : sg (a ++ b) = sg a ++ sg b := by show (a.cps ++ b.cps).toList = _; rw [Array.toList_append]
theorem sg_inj {a b : Str} (h : sg a = sg b) : a = b := PySem.Str.ext' (Array.toList_inj.mp h)
theorem sg_len (a : Str) : (sg a).length = a.length := by show a.cps.toList.length = a.cps.size; rw [Array.length_toList]
theorem at_iff {x y : Str} {k : Nat} : At x y x.length k ↔ k + y.length ≤ x.length ∧ ((sg x).drop k).take y.length = sg y := by
  unfold At
  rw [subAt_eq]
  simp
theorem chain_one {x y : Str} {n L : Nat} (hw : 1 ≤ y.length) : ∀ (l m : List Nat) (a f g : Nat), ChainG x y n a l f → ChainG x y n a m g → l.length ≤ L → m.length ≤ L → (l.length < L → ∀ k, f ≤ k → ¬ At x y n k) → (m.length < L → ∀ k, g ≤ k → ¬ At x y n k) → l = m
  | [], [], _, _, _, _, _, _, _, _, _ => rfl
  | [], c :: r, a, f, g, h, h', _, hm, fr, _ => by
    have e : f = a := h
    subst e
    exact absurd h'.2.1 (fr (by simp at hm ⊢; omega) c h'.1)
  | c :: r, [], a, f, g, h, h', hl, _, _, fr => by
    have e : g = a := h'
    subst e
    exact absurd h.2.1 (fr (by simp at hl ⊢; omega) c h.1)
  | c :: r, c' :: r', a, f, g, h, h', hl, hm, fr, fr' => by
    have e : c = c' := by
      rcases Nat.lt_trichotomy c c' with q | q | q
      · exact absurd h.2.1 (h'.2.2.1 c h.1 q)
      · exact q
      · exact absurd h'.2.1 (h.2.2.1 c' h'.1 q)
    subst e
    cases L with
    | zero => simp at hl
    | succ L =>
      rw [chain_one (L := L) hw r r' _ f g h.2.2.2 h'.2.2.2 (by simpa using hl) (by simpa using hm) (fun q => fr (by simpa using q)) fun q => fr' (by simpa using q)]
theorem run_lim (s sub : Str) (hi limit lo : Nat) (hw : 1 ≤ sub.length) : ∀ (m cur : Nat) (st : Array Nat × Nat), ChainG s sub hi lo st.fst.toList st.snd → st.fst.size ≤ limit → (st.fst.size < limit → ∀ k, st.snd ≤ k → k < cur → ¬ At s sub hi k) →
    ChainG s sub hi lo (forIn (List.range' cur m) st (occBody s sub hi limit)).run.fst.toList (forIn (List.range' cur m) st (occBody s sub hi limit)).run.snd ∧ (forIn (List.range' cur m) st (occBody s sub hi limit)).run.fst.size ≤ limit ∧
    ((forIn (List.range' cur m) st (occBody s sub hi limit)).run.fst.size < limit → ∀ k, (forIn (List.range' cur m) st (occBody s sub hi limit)).run.snd ≤ k → k < cur + m → ¬ At s sub hi k)
  | 0, cur, st, h, hl, hn => ⟨h, hl, hn⟩
  | m + 1, cur, st, h, hl, hn => by
    rw [List.range'_succ, List.forIn_cons]
    unfold occBody
    have e : cur + (m + 1) = (cur + 1) + m := by omega
    rw [e]
    split
    · rename_i hc
      refine run_lim s sub hi limit lo hw m (cur + 1) _ ?_ ?_ ?_
      · show ChainG s sub hi lo (st.fst.push cur).toList (cur + sub.length)
        rw [Array.toList_push]
        exact chainG_snoc h hc.1.1.2 ⟨hc.1.2, hc.2⟩ (hn hc.1.1.1)
      · show (st.fst.push cur).size ≤ limit
        rw [Array.size_push]; have := hc.1.1.1; omega
      · intro _ k h1 h2
        have h1' : cur + sub.length ≤ k := h1
        omega
    · rename_i hc
      refine run_lim s sub hi limit lo hw m (cur + 1) _ h hl ?_
      intro hs k h1 h2 hA
      by_cases hk : k < cur
      · exact hn hs k h1 hk hA
      · have ek : k = cur := by omega
        subst ek
        exact hc ⟨⟨⟨hs, h1⟩, hA.1⟩, hA.2⟩
theorem occ_lim (x y : Str) (L : Nat) (hw : 1 ≤ y.length) : ∃ f, ChainG x y x.length 0 (occurrences x y 0 x.length L) f ∧ (occurrences x y 0 x.length L).length ≤ L ∧ ((occurrences x y 0 x.length L).length < L → ∀ k, f ≤ k → ¬ At x y x.length k) := by
  rw [occ_eq]
  have key := run_lim x y x.length L 0 hw (x.length + 1 - 0) 0 ((#[] : Array Nat), 0) rfl (Nat.zero_le _) (fun _ k _ h => by omega)
  refine ⟨_, key.1, by rw [Array.length_toList]; exact key.2.1, fun hl k hk hA => ?_⟩
  rw [Array.length_toList] at hl
  exact key.2.2 hl k hk (by have := hA.1; omega) hA
def ends (w : Nat) : Nat → List Str → List Nat
  | _, [] => []
  | _, [_] => []
  | a, p :: q :: r => (a + p.length) :: ends w (a + p.length + w) (q :: r)
structure Mark (y : Str) (c o : Nat) : Prop where
  at_ : (sg y)[o]? = some c
  no : ∀ j, j < o → (sg y)[j]? ≠ some c
theorem Mark.lt {y : Str} {c o : Nat} (m : Mark y c o) : o < y.length := by
  have := (List.getElem?_eq_some_iff.mp m.at_).1
  rw [sg_len] at this; exact this
theorem at_sign {x y : Str} {c o k : Nat} (m : Mark y c o) (h : At x y x.length k) : (sg x)[k + o]? = some c := by
  obtain ⟨_, e⟩ := at_iff.mp h
  have ho := m.lt
  have := m.at_
  rw [← e, List.getElem?_take, if_pos ho, List.getElem?_drop] at this
  exact this
theorem join_chain {y : Str} {c o : Nat} (m : Mark y c o) : ∀ (parts : List Str) (x : Str) (pre : List Nat), parts ≠ [] → sg x = pre ++ sg (Str.join y parts) → (∀ p ∈ parts.dropLast, c ∉ sg p) →
    ∃ f, ChainG x y x.length pre.length (ends y.length pre.length parts) f ∧ partsFrom x y.length pre.length (ends y.length pre.length parts) = parts ∧ (∀ p, parts.getLast? = some p → c ∉ sg p → ∀ k, f ≤ k → ¬ At x y x.length k)
  | [], _, _, h, _, _ => absurd rfl h
  | [p], x, pre, _, e, _ => by
    refine ⟨pre.length, rfl, ?_, fun p' hp hc k hk hA => ?_⟩
    · show [strSub x pre.length x.length] = [p]
      congr 1
      refine sg_inj ?_
      show (strSub x pre.length x.length).cps.toList = _
      have e' : sg x = pre ++ sg p := e
      rw [strSub_toList]
      show ((sg x).drop pre.length).take _ = _
      rw [e', List.drop_left, List.take_of_length_le]
      rw [← sg_len x, e', List.length_append]; omega
    · cases hp
      have e' : sg x = pre ++ sg p := e
      have := at_sign m hA
      rw [e', List.getElem?_append_right (by omega)] at this
      exact hc (List.mem_of_getElem? this)
  | p :: q :: r, x, pre, _, e, hc => by
    have e' : sg x = pre ++ (sg p ++ (sg y ++ sg (Str.join y (q :: r)))) := by
      rw [e]
      show pre ++ sg (p ++ y ++ Str.join y (q :: r)) = _
      rw [sg_app, sg_app, List.append_assoc]
    have hp : c ∉ sg p := hc p (by simp)
    obtain ⟨f, h1, h2, h3⟩ := join_chain m (q :: r) x (pre ++ (sg p ++ sg y)) (by simp) (by rw [e', List.append_assoc, List.append_assoc]) fun z hz => hc z (by simp [List.dropLast] at hz ⊢; exact .inr hz)
    have hl : (pre ++ (sg p ++ sg y)).length = pre.length + p.length + y.length := by rw [List.length_append, List.length_append, sg_len, sg_len]; omega
    rw [hl] at h1 h2
    have hxl : x.length = pre.length + (p.length + (y.length + (Str.join y (q :: r)).length)) := by rw [← sg_len x, e', List.length_append, List.length_append, List.length_append, sg_len, sg_len, sg_len]
    refine ⟨f, ⟨Nat.le_add_right _ _, at_iff.mpr ⟨by omega, ?_⟩, fun k hk hk2 hA => ?_, h1⟩, ?_, fun z hz => h3 z (by simpa using hz)⟩
    · rw [e', ← List.append_assoc, List.drop_append_of_le_length (by rw [List.length_append, sg_len]; omega), List.drop_of_length_le (by rw [List.length_append, sg_len]; omega), List.nil_append, List.take_append_of_le_length (by rw [sg_len]; omega), List.take_of_length_le (by rw [sg_len]; omega)]
    · have ho := m.lt
      have := at_sign m hA
      rw [e', List.getElem?_append_right (by omega)] at this
      rcases Nat.lt_or_ge (k + o - pre.length) p.length with z | z
      · rw [List.getElem?_append_left (by rw [sg_len]; exact z)] at this
        exact hp (List.mem_of_getElem? this)
      · rw [List.getElem?_append_right (by rw [sg_len]; exact z), List.getElem?_append_left (by rw [sg_len, sg_len]; omega)] at this
        exact m.no _ (by rw [sg_len]; omega) this
    · show strSub x pre.length (pre.length + p.length) :: partsFrom x y.length (pre.length + p.length + y.length) _ = _
      rw [h2]
      congr 1
      refine sg_inj ?_
      show (strSub x pre.length (pre.length + p.length)).cps.toList = _
      rw [strSub_toList]
      show ((sg x).drop pre.length).take _ = _
      rw [e', List.drop_left, show pre.length + p.length - pre.length = p.length by omega, ← sg_len p, List.take_left]
theorem ends_len (w : Nat) : ∀ (parts : List Str) (a : Nat), (ends w a parts).length = parts.length - 1
  | [], _ => rfl
  | [_], _ => rfl
  | p :: q :: r, a => by show (ends w _ (q :: r)).length + 1 = _; rw [ends_len w (q :: r)]; rfl
theorem join_occ {y : Str} {c o L : Nat} (m : Mark y c o) {parts : List Str} (hne : parts ≠ []) (hc : ∀ p ∈ parts.dropLast, c ∉ sg p) (hL : parts.length - 1 = L ∨ parts.length - 1 < L ∧ ∀ p, parts.getLast? = some p → c ∉ sg p) :
    occurrences (Str.join y parts) y 0 (Str.join y parts).length L = ends y.length 0 parts ∧ partsFrom (Str.join y parts) y.length 0 (ends y.length 0 parts) = parts := by
  have hw : 1 ≤ y.length := by have := m.lt; omega
  obtain ⟨f, h1, h2, h3⟩ := join_chain m parts (Str.join y parts) [] hne rfl hc
  obtain ⟨g, k1, k2, k3⟩ := occ_lim (Str.join y parts) y L hw
  refine ⟨chain_one hw _ _ 0 g f k1 h1 k2 (by rw [ends_len]; omega) k3 fun q => ?_, h2⟩
  rw [ends_len] at q
  rcases hL with z | ⟨_, z⟩
  · omega
  · obtain ⟨p, hp⟩ : ∃ p, parts.getLast? = some p := ⟨parts.getLast hne, List.getLast?_eq_some_getLast hne⟩
    exact h3 p hp (z p hp)
theorem kind_pos (x : Str) : 1 ≤ strKind x := by unfold Builtin.Str.strKind; split; · omega
                                                 · split <;> omega
theorem join_len {y : Str} : ∀ (parts : List Str), parts.length - 1 ≤ (Str.join y parts).length ∨ y.length = 0
  | [] => .inl (Nat.zero_le _)
  | [_] => .inl (Nat.zero_le _)
  | p :: q :: r => by
    rcases join_len (y := y) (q :: r) with h | h
    · rcases Nat.eq_zero_or_pos y.length with z | z
      · exact .inr z
      · refine .inl ?_
        show _ ≤ (p ++ y ++ Str.join y (q :: r)).length
        rw [PySem.Str.length_append, PySem.Str.length_append]
        simp at h ⊢
        omega
    · exact .inr h
theorem join_ge {y p q : Str} {r : List Str} : y.length ≤ (Str.join y (p :: q :: r)).length := by
  show _ ≤ (p ++ y ++ Str.join y (q :: r)).length
  rw [PySem.Str.length_append, PySem.Str.length_append]; omega
theorem splitL {y : Str} {c o L : Nat} (m : Mark y c o) (hk : strKind y = 1) {parts : List Str} (hne : parts ≠ []) (hc : ∀ p ∈ parts.dropLast, c ∉ sg p) (hL : parts.length - 1 = L ∨ parts.length - 1 < L ∧ ∀ p, parts.getLast? = some p → c ∉ sg p) :
    (if (decide ((Str.join y parts).length < y.length) || decide (strKind (Str.join y parts) < strKind y)) = true then [Str.join y parts] else
      if (occurrences (Str.join y parts) y 0 (Str.join y parts).length L).isEmpty = true then [Str.join y parts] else partsBetween (Str.join y parts) (occurrences (Str.join y parts) y 0 (Str.join y parts).length L) y.length) = parts := by
  obtain ⟨h1, h2⟩ := join_occ m hne hc hL
  have hkk : decide (strKind (Str.join y parts) < strKind y) = false := decide_eq_false (by have := kind_pos (Str.join y parts); omega)
  rw [hkk, Bool.or_false]
  cases parts with
  | nil => exact absurd rfl hne
  | cons p t =>
    cases t with
    | nil =>
      split
      · rfl
      · rw [h1]; rfl
    | cons q r =>
      rw [if_neg (by have := join_ge (y := y) (p := p) (q := q) (r := r); simp; omega), h1, if_neg (by simp [ends]), partsBetween_eq]
      exact h2
theorem splitMax_join {y : Str} {c o : Nat} (m : Mark y c o) (hk : strKind y = 1) {parts : List Str} {k : Nat} (hl : parts.length = k + 1) (hc : ∀ p ∈ parts.dropLast, c ∉ sg p) : Txt.splitMax (Str.join y parts) y (k : Int) = parts := by
  unfold Txt.splitMax
  have e : limitOf (Str.join y parts) (k : Int) = k := by unfold limitOf; rw [if_neg (by omega)]; omega
  rw [e]
  exact splitL m hk (fun z => by rw [z] at hl; simp at hl) hc (.inl (by omega))
theorem join_eq (y : Str) (parts : List Str) : Txt.join y parts = Str.join y parts := glued_eq_join y parts
end L2

set_option Elab.async false
set_option linter.all false
set_option maxRecDepth 100000
set_option maxHeartbeats 4000000
namespace L2
open PySem PySem.Spec PyProof.Rows PySem.SeqAt
/-! ### signs of a text, one by one -/
def Its (x : Str) : It := ⟨fun i _ => i < x.length, fun i H v H' => H' = H ∧ ∃ c, (sg x)[i]? = some c ∧ v = .str ⟨#[c]⟩, fun i _ => x.length ≤ i⟩
theorem sg_get {x : Str} {i : Nat} : (sg x)[i]? = x.cps[i]? := by simp
theorem turn_ascii {P : Program} {w : World} {K : PySem.W.Frag} {tg : Expr} (it : Addr) (x : Str) (t : Tok) : Turn P w K tg (Its x) [it] it (fun i h => h.IsStrIter it "str_ascii_iterator" x t i) where
  mem := by simp
  obj := fun i h st b hb => by
    have e : b = it := by simpa using hb
    subst e
    obtain ⟨o, e, c, d⟩ := st
    exact ⟨o, e, fun v z => by rw [d] at z; cases z⟩
  keep := fun i h h' st k => let ⟨o, ho, r⟩ := st; ⟨o, k it (by simp) o ho, r⟩
  item := by
    intro X hP hw hK hc i pins s σ H E I hf st hg
    subst hP hw hK
    obtain ⟨f0, f1, f2, f3, f4, f5⟩ := hf it (by simp)
    have hg' : i < x.cps.size := hg
    refine wpAny_pyNext_ascii_item st (c := x.cps[i]) (by simp [hg']) fun h' st' sb => ?_
    have I1 : Inv X pins σ H { s with heap := h', toks := s.toks + 1 } := I.turned (t' := s.toks + 1) (fun b o hb e => (sb.2 b hb).trans e) f0 f1 f3 f4 f5
    obtain ⟨o, e, c, d⟩ := id st'
    exact ⟨_, rfl, go_of (s := { s with heap := h', toks := s.toks + 1 }) e c d (by decide) ⟨.str ⟨#[x.cps[i]]⟩, H, I1, ⟨_, rfl⟩, ⟨rfl, x.cps[i], by rw [sg_get]; simp [hg'], rfl⟩, st', fun b hb => (hf b hb).1⟩⟩
  done := by
    intro X hP hw hK hc i pins s σ H E I hf st hg
    subst hP hw hK
    obtain ⟨f0, f1, f2, f3, f4, f5⟩ := hf it (by simp)
    exact wpAny_pyNext_ascii_end (I.ok.hd hc) st (Array.getElem?_eq_none hg) fun h' eb => ⟨rfl, I.turned (t' := s.toks) (fun b o hb e => eb b o hb e) f0 f1 f3 f4 f5⟩
  self := fun _ _ _ _ _ st h => wpAny_pyIter_striter_ascii st h
theorem turn_wide {P : Program} {w : World} {K : PySem.W.Frag} {tg : Expr} (it : Addr) (x : Str) (t : Tok) : Turn P w K tg (Its x) [it] it (fun i h => h.IsStrIter it "str_iterator" x t i) where
  mem := by simp
  obj := fun i h st b hb => by
    have e : b = it := by simpa using hb
    subst e
    obtain ⟨o, e, c, d⟩ := st
    exact ⟨o, e, fun v z => by rw [d] at z; cases z⟩
  keep := fun i h h' st k => let ⟨o, ho, r⟩ := st; ⟨o, k it (by simp) o ho, r⟩
  item := by
    intro X hP hw hK hc i pins s σ H E I hf st hg
    subst hP hw hK
    obtain ⟨f0, f1, f2, f3, f4, f5⟩ := hf it (by simp)
    have hg' : i < x.cps.size := hg
    refine wpAny_pyNext_wide_item st (c := x.cps[i]) (by simp [hg']) fun h' st' sb => ?_
    have I1 : Inv X pins σ H { s with heap := h', toks := s.toks + 1 } := I.turned (t' := s.toks + 1) (fun b o hb e => (sb.2 b hb).trans e) f0 f1 f3 f4 f5
    obtain ⟨o, e, c, d⟩ := id st'
    exact ⟨_, rfl, go_of (s := { s with heap := h', toks := s.toks + 1 }) e c d (by decide) ⟨.str ⟨#[x.cps[i]]⟩, H, I1, ⟨_, rfl⟩, ⟨rfl, x.cps[i], by rw [sg_get]; simp [hg'], rfl⟩, st', fun b hb => (hf b hb).1⟩⟩
  done := by
    intro X hP hw hK hc i pins s σ H E I hf st hg
    subst hP hw hK
    obtain ⟨f0, f1, f2, f3, f4, f5⟩ := hf it (by simp)
    exact wpAny_pyNext_wide_end (I.ok.hd hc) st (Array.getElem?_eq_none hg) fun h' eb => ⟨rfl, I.turned (t' := s.toks) (fun b o hb e => eb b o hb e) f0 f1 f3 f4 f5⟩
  self := fun _ _ _ _ _ st h => wpAny_pyIter_striter_wide st h
def iStr (tl : TE) : TI := fun σ H R => tl σ H fun v H1 => ∃ x, v = .str x ∧ R (Its x) H1
section
variable {X : Cx} {tg : Expr}
theorem pi_str {l : Expr} {tl : TE} (hl : PE X l tl) : PI X tg l (iStr tl) := by
  intro pins s σ H R I h
  refine thn (hl pins s σ H _ I h) fun v s1 ⟨x, H1, I1, r1, q1⟩ => ?_
  obtain ⟨z, e, q⟩ := q1
  subst e
  obtain ⟨t, rfl⟩ := r1
  have fp : ∀ b ∈ [s1.heap.objs.size], FpOk X pins H1 b := fun b hb => by
    have e : b = s1.heap.objs.size := by simpa using hb
    subst e
    exact I1.fpOk (Nat.le_refl _) (I1.hok.fresh (Nat.le_refl _))
  cases ha : z.cps.all (· < 128) with
  | true => exact wpAny_pyIter_ascii ha ⟨s1.heap.objs.size, [s1.heap.objs.size], _, _, H1, rfl, I1.kept (t' := s1.toks) fun b o e => Heap.get?_push_of_some _ e, turn_ascii _ z t, ⟨_, Heap.get?_push_size _ rfl, rfl, rfl⟩, fp, q⟩
  | false => exact wpAny_pyIter_wide ha ⟨s1.heap.objs.size, [s1.heap.objs.size], _, _, H1, rfl, I1.kept (t' := s1.toks) fun b o e => Heap.get?_push_of_some _ e, turn_wide _ z t, ⟨_, Heap.get?_push_size _ rfl, rfl, rfl⟩, fp, q⟩
end
theorem comp_str {x : Str} {l : Addr} {ix : List (Option Nat)} {g : TG} {te : TE} {σ : St} {H0 : Hp} {Qe : Hp → Prop} (Pv : Nat → List V → Hp → Prop) (h0 : Pv 0 [] H0) (hz : x.length ≤ sizeLine) (hn : ∀ i ys H, Pv i ys H → ys.length = i)
    (hs : ∀ i c ys H, (sg x)[i]? = some c → Pv i ys H → H l = some (.lst ys) → g (.str ⟨#[c]⟩) (compSt ix σ) H fun σ2 H2 => te σ2 H2 fun v H3 => H3 l = some (.lst ys) ∧ Pv (i + 1) (ys ++ [v]) (upd H3 l (.lst (ys ++ [v]))))
    (hd : ∀ ys H, Pv x.length ys H → H l = some (.lst ys) → Qe H) : compW ix (Its x) g te σ l H0 Qe := by
  refine comp_by (n := x.length) Pv h0 (fun i ys H hi p hy => ⟨hi, by rw [hn i ys H p]; exact Nat.lt_of_lt_of_le hi hz, fun v H' y => ?_⟩) fun ys H p hy => ⟨Nat.le_refl _, hd ys H p hy⟩
  obtain ⟨rfl, c, hc, rfl⟩ := y
  exact hs i c ys _ hc p hy
/-! ### methods of texts -/
theorem vals_strs : ∀ {xs : List Str} {us : List Value}, Vals (xs.map V.str) us → ∃ l : List (Str × Tok), strValues l = us ∧ l.map (·.1) = xs
  | [], _, .nil => ⟨[], rfl, rfl⟩
  | x :: xs, _, .cons r t => by
    obtain ⟨tk, rfl⟩ := r
    obtain ⟨l, rfl, rfl⟩ := vals_strs t
    exact ⟨(x, tk) :: l, rfl, rfl⟩
theorem strs_vals : ∀ (l : List (Str × Tok)), Vals ((l.map (·.1)).map V.str) (strValues l)
  | [] => .nil
  | p :: l => .cons ⟨p.2, rfl⟩ (strs_vals l)
theorem parts_len (x : Str) (cuts : List Nat) (w : Nat) : (Builtin.Str.partsBetween x cuts w).length = cuts.length + 1 := by
  rw [StrLaws.partsBetween_eq]
  have : ∀ (cuts : List Nat) (a : Nat), (StrLaws.partsFrom x w a cuts).length = cuts.length + 1 := fun cuts => by
    induction cuts with
    | nil => intro a; rfl
    | cons c r ih => intro a; show (StrLaws.partsFrom x w (c + w) r).length + 1 = _; rw [ih]; rfl
  exact this cuts 0
section
variable {X : Cx} (K : PySem.W.Frag)
theorem mt_join (hK : X.K = K) : MtR X "str.join" (fun x vs H Q => ∃ (y : Str) (p : Addr) (xs : List Str), x = .str y ∧ vs = [.ref p] ∧ SqL K H p (xs.map V.str) ∧ (xs.map (·.length)).sum + xs.length * y.length ≤ 16777216 ∧ Q (.str (Str.join y xs)) H) := by
  subst hK
  intro pins s σ H x vs v us Q I rx r h
  obtain ⟨y, p, xs, rfl, rfl, hq, hz, q⟩ := h
  obtain ⟨t, rfl⟩ := rx
  obtain ⟨u, rfl, ru⟩ := vals1 r
  cases ru
  obtain ⟨its, rv, pl, _⟩ := I.list hq
  obtain ⟨l, rfl, rfl⟩ := vals_strs rv
  refine SC.join pl.isList rfl (joinOk_of hz) fun t' k => ⟨.str _, H, I.tok _, ⟨_, rfl⟩, ?_⟩
  rw [join_eq]
  exact q
theorem mt_starts : MtR X "str.startswith" (fun x vs H Q => ∃ (y z : Str), x = .str y ∧ vs = [.str z] ∧ Q (.bl (Txt.startswith y z)) H) := by
  intro pins s σ H x vs v us Q I rx r h
  obtain ⟨y, z, rfl, rfl, q⟩ := h
  obtain ⟨t, rfl⟩ := rx
  obtain ⟨u, rfl, t', rfl⟩ := vals1 r
  exact SC.startswith ⟨.bl _, H, I, rfl, q⟩
theorem mt_rmpre : MtR X "str.removeprefix" (fun x vs H Q => ∃ (y z : Str), x = .str y ∧ vs = [.str z] ∧ y.length ≤ sizeLine ∧ Q (.str (Txt.removeprefix y z)) H) := by
  intro pins s σ H x vs v us Q I rx r h
  obtain ⟨y, z, rfl, rfl, hz, q⟩ := h
  obtain ⟨t, rfl⟩ := rx
  obtain ⟨u, rfl, t', rfl⟩ := vals1 r
  exact SC.removeprefix (fun t' k => ⟨.str _, H, I.tok _, ⟨_, rfl⟩, q⟩) hz
theorem call_int_text : CallR X (.type "int") (fun xs H Q => ∃ (x : Str) (n : Int), xs = [.str x] ∧ intText? x = some n ∧ x.length ≤ 640 ∧ Q (.int n) H) := by
  intro pins s σ H xs us Q I r h
  obtain ⟨x, n, rfl, hn, hl, q⟩ := h
  obtain ⟨u, rfl, t, rfl⟩ := vals1 r
  exact PySem.W.KIN.call_text hn hl ⟨.int n, H, I.tok _, ⟨_, rfl⟩, q⟩
theorem call_str_str : CallR X (.type "str") (fun xs H Q => ∃ (x : Str), xs = [.str x] ∧ Q (.str x) H) := by
  intro pins s σ H xs us Q I r h
  obtain ⟨x, rfl, q⟩ := h
  obtain ⟨u, rfl, t, rfl⟩ := vals1 r
  exact PySem.P.str_of_str ⟨.str x, H, I, ⟨_, rfl⟩, q⟩
theorem laid_strs {pins : List (Addr × Obj)} {σ : St} {H : Hp} {s : Shared} {tk : Nat} {l : List (Str × Tok)} {us : List Value} (I : Inv X pins σ H s) (hu : us = strValues l) (hz : l.length ≤ sizeLine) {Q : VK} (q : ∀ a, H a = none → Q (.ref a) (upd H a (.lst ((l.map (·.1)).map V.str)))) :
    EP X pins σ Q (.ref s.heap.objs.size) { s with heap := s.heap.push { cls := .type "list", data := .seq us.toArray }, toks := tk } := by
  subst hu
  exact ⟨.ref _, _, I.laid (a := s.heap.objs.size) (o := .lst ((l.map (·.1)).map V.str)) (t' := tk) (fun b u e => Heap.get?_push_of_some _ e) (Nat.le_refl _) ⟨by rw [List.length_map, List.length_map]; exact hz, strValues l, 0, strs_vals l, Heap.get?_push_size _ rfl⟩, rfl, q _ I.fresh⟩
open PySem.Builtin.Str in
theorem mt_split : MtR X "str.split" (fun x vs H Q => ∃ (y z : Str), x = .str y ∧ vs = [.str z] ∧ 1 ≤ z.length ∧ y.length + 2 ≤ sizeLine ∧ ∀ a, H a = none → Q (.ref a) (upd H a (.lst ((Txt.split y z).map V.str)))) := by
  intro pins s σ H x vs v us Q I rx r h
  obtain ⟨y, z, rfl, rfl, hz, hy, q⟩ := h
  obtain ⟨t, rfl⟩ := rx
  obtain ⟨u, rfl, t', rfl⟩ := vals1 r
  have hz0 : (z.length == 0) = false := by simp; omega
  have hcut := StrLaws.occ_length_le y z 0 y.length (y.length + 1)
  unfold Txt.split at q
  cases h1 : (decide (y.length < z.length) || decide (strKind y < strKind z))
  · rw [if_neg (ne_true_of_eq_false h1)] at q
    cases hf : (occurrences y z 0 y.length (y.length + 1)).isEmpty
    · rw [if_neg (ne_true_of_eq_false hf)] at q
      have hpl : (partsBetween y (occurrences y z 0 y.length (y.length + 1)) z.length).length ≤ sizeLine := by
        rw [parts_len]; omega
      refine call_meets F.slot_str_split (typeIs_str _ _ _) F.entry_str_split (F.args_str_split_2 _ _) (meets_str_split_sep y z t t' h1 hz0 hf (by omega) hpl) ?_
      refine laid_strs (l := numbered s.toks (partsBetween y (occurrences y z 0 y.length (y.length + 1)) z.length)) I (strsFrom_eq _ _) ?_ ?_
      · have := congrArg List.length (numbered_texts s.toks (partsBetween y (occurrences y z 0 y.length (y.length + 1)) z.length))
        rw [List.length_map] at this
        omega
      · rw [numbered_texts]; exact q
    · rw [if_pos hf] at q
      exact call_meets F.slot_str_split (typeIs_str _ _ _) F.entry_str_split (F.args_str_split_2 _ _) (meets_str_split_not_found y z t t' h1 hz0 hf) (laid_strs (l := [(y, t)]) (tk := s.toks) I rfl (show 1 ≤ sizeLine by decide) q)
  · rw [if_pos h1] at q
    exact call_meets F.slot_str_split (typeIs_str _ _ _) F.entry_str_split (F.args_str_split_2 _ _) (meets_str_split_cannot_occur y z t t' h1) (laid_strs (l := [(y, t)]) (tk := s.toks) I rfl (show 1 ≤ sizeLine by decide) q)
open PySem.Builtin.Str in
theorem mt_splitMax : MtR X "str.split" (fun x vs H Q => ∃ (y z : Str) (k : Int), x = .str y ∧ vs = [.str z, .int k] ∧ 1 ≤ z.length ∧ y.length + 2 ≤ sizeLine ∧ 0 ≤ k ∧ k < 1000 ∧ ∀ a, H a = none → Q (.ref a) (upd H a (.lst ((Txt.splitMax y z k).map V.str)))) := by
  intro pins s σ H x vs v us Q I rx r h
  obtain ⟨y, z, k, rfl, rfl, hz, hy, k0, k1, q⟩ := h
  obtain ⟨t, rfl⟩ := rx
  obtain ⟨u, u2, rfl, ⟨t', rfl⟩, t2, rfl⟩ := vals2 r
  have hz0 : (z.length == 0) = false := by simp; omega
  have hk : (decide (k < -(2 ^ 63 : Int)) || decide (k ≥ 2 ^ 63)) = false := by simp; omega
  unfold Txt.splitMax at q
  cases h1 : (decide (y.length < z.length) || decide (strKind y < strKind z))
  · rw [if_neg (ne_true_of_eq_false h1)] at q
    cases hf : (occurrences y z 0 y.length (limitOf y k)).isEmpty
    · rw [if_neg (ne_true_of_eq_false hf)] at q
      have hpl : (partsBetween y (occurrences y z 0 y.length (limitOf y k)) z.length).length ≤ sizeLine := by
        have hcut := StrLaws.occ_length_le y z 0 y.length (limitOf y k)
        have e : limitOf y k = k.toNat := by unfold limitOf; rw [if_neg (by omega)]
        have hs : 2000 ≤ sizeLine := by decide
        rw [parts_len]; omega
      refine call_meets F.slot_str_split (typeIs_str _ _ _) F.entry_str_split (F.args_str_split_3 _ _ _) (meets_str_split_sep_max y z k t t' t2 hk h1 hz0 hf (by omega) hpl) ?_
      refine laid_strs (l := numbered s.toks (partsBetween y (occurrences y z 0 y.length (limitOf y k)) z.length)) I (strsFrom_eq _ _) ?_ ?_
      · have := congrArg List.length (numbered_texts s.toks (partsBetween y (occurrences y z 0 y.length (limitOf y k)) z.length))
        rw [List.length_map] at this
        omega
      · rw [numbered_texts]; exact q
    · rw [if_pos hf] at q
      exact call_meets F.slot_str_split (typeIs_str _ _ _) F.entry_str_split (F.args_str_split_3 _ _ _) (meets_str_split_max_not_found y z k t t' t2 hk h1 hz0 hf) (laid_strs (l := [(y, t)]) (tk := s.toks) I rfl (show 1 ≤ sizeLine by decide) q)
  · rw [if_pos h1] at q
    exact call_meets F.slot_str_split (typeIs_str _ _ _) F.entry_str_split (F.args_str_split_3 _ _ _) (meets_str_split_max_cannot_occur y z k t t' t2 hk h1) (laid_strs (l := [(y, t)]) (tk := s.toks) I rfl (show 1 ≤ sizeLine by decide) q)
end
end L2

set_option Elab.async false
set_option linter.all false
set_option maxRecDepth 100000
set_option maxHeartbeats 4000000
namespace L2
open PySem PySem.Spec PyProof.Rows PySem.SeqAt PySem.W
/-! ### a list is unpacked -/
def gLst (K : PySem.W.Frag) (n : Nat) (t : TGs) : TG := fun v σ H Q => ∃ a xs, v = .ref a ∧ SqL K H a xs ∧ xs.length = n ∧ t xs σ H Q
def gStar (K : PySem.W.Frag) (t : TGs) : TG := fun v σ H Q => ∃ a x xs, v = .ref a ∧ SqL K H a (x :: xs) ∧ ∀ D, H D = none → t [x, .ref D] σ (upd H D (.lst xs)) Q
section
variable {X : Cx} {pos : Pos}
theorem pg_lst {es : List Expr} {k : Nat} {t : TGs} {n : Nat} (hc : X.calm = true) (h : PGs X es t)
    (hn : (assignEach es X.env).length = n := by rfl) (hst : (assignEach es X.env).findIdx? (·.1) = none := by rfl) : PG X (.Tuple es k pos) (gLst X.K n t) := by
  intro pins s σ H v u Q I r hw
  obtain ⟨a, xs, e1, hq, hl, hw⟩ := hw
  subst e1
  cases r
  obtain ⟨its, rv, pl, hz⟩ := I.list hq
  rw [assign_Tuple]
  refine wpAny_bind (wpAny_standAt ?_)
  unfold unpack
  rw [show (assignEach es X.env).length = its.toArray.size by simp [hn, ← hl, rv.length], hst]
  refine wpAny_bind (wpAny_holding (kun_itemsOf (I.ok.hd hc) pl.isList fun h' hx => ?_))
  have I1 : Inv X pins σ H { s with heap := h' } := I.kept (t' := s.toks) fun b o e => hx b o (Nat.ne_of_lt (Heap.lt_size e)) e
  exact h pins _ σ H xs _ Q I1 (by simpa using rv) hw
theorem pgs_star {e : Expr} {es : List Expr} {p : Pos} {t : TG} {u : TGs} (h1 : PG X e t) (h2 : PGs X es u) : PGs X (.Starred e p :: es) (gCons t u) := by
  intro pins s σ H vs us Q I r h
  obtain ⟨v, vr, e1, h⟩ := h
  subst e1
  cases r with
  | cons r rr =>
    show wpAny _ _ (assignInOrder (assign e X.env :: (assignEach es X.env).map (·.2)) _) _ _ _
    refine assignInOrder_cons (thn (h1 pins s σ H _ _ _ I r h) fun _ s1 ⟨σ1, H1, I1, q1⟩ => ?_)
    exact h2 pins s1 σ1 H1 _ _ Q I1 rr q1
theorem pg_star {es : List Expr} {k : Nat} {t : TGs} (hc : X.calm = true) (h : PGs X es t)
    (hn : (assignEach es X.env).length = 2 := by rfl) (hst : (assignEach es X.env).findIdx? (·.1) = some 1 := by rfl) : PG X (.Tuple es k pos) (gStar X.K t) := by
  intro pins s σ H v u Q I r hw
  obtain ⟨a, x, xs, e1, hq, hw⟩ := hw
  subst e1
  cases r
  obtain ⟨its, rv, pl, hz⟩ := I.list hq
  cases rv with
  | @cons _ y _ ys ry rys =>
  rw [assign_Tuple]
  refine wpAny_bind (wpAny_standAt ?_)
  unfold unpack
  rw [hn, hst]
  refine wpAny_bind (wpAny_holding ?_)
  have hl := pl.isList
  have hlt : a ≠ s.heap.objs.size := by obtain ⟨o, ho, _⟩ := hl; exact Nat.ne_of_lt (Heap.lt_size ho)
  have hsz : (y :: ys).toArray.size = ys.length + 1 := by simp
  have hyl : ys.length = xs.length := rys.length.symm
  have hzz : ys.length + 1 ≤ sizeLine := by rw [hyl]; exact hz
  unfold unpackItems
  refine wpAny_bind ?_
  unfold notIterableAtAll
  refine wpAny_bind (wpAny_specialOf hl.typeIs slot_list_iter.lookup ?_)
  refine wpAny_pure ?_
  simp only [Bool.false_eq_true, if_false]
  refine wpAny_bind (wpAny_holding (wpAny_pyIter_list hl ?_))
  refine wpAny_bind (wpAny_holding (kun_draw hlt 1 0 _ _ ⟨_, Heap.get?_push_size _ rfl, rfl, rfl⟩ (hl.push _) (by omega) fun h₁ hit₁ hs₁ => ?_))
  have hl₁ : h₁.IsList a (y :: ys).toArray := (hl.push _).extBut hs₁.extBut hlt
  rw [Nat.zero_add] at hit₁
  have hit₁' := hit₁
  obtain ⟨oi, hoi, _⟩ := hit₁'
  have hl₁' := hl₁
  obtain ⟨ol, hol, _⟩ := hl₁'
  rw [List.drop_zero]
  rw [if_neg (show ¬ (((y :: ys).toArray.toList.take 1).length < 1) by simp)]
  refine wpAny_bind (wpAny_holding (kun_collect (s := { s with heap := h₁ }) (T := "list_iterator") (.inr (.inr (.inl rfl))) (Walks.list (A := X.A.in1) (I.ok.hd hc) s.heap.objs.size a hlt (y :: ys).toArray) (fun j u st => st.1.typeIs) (k := 1) (by omega) ⟨hit₁, hl₁⟩ (Heap.lt_size hoi) (Heap.lt_size hol) (fun h₂ tk hk => ?_) (by rw [hsz]; exact hzz)))
  have he : Heap.ExtBut s.heap.objs.size s.heap h₂ := fun b o hb e => hk b o hb (hs₁.extBut b o hb (Heap.get?_push_of_some _ e))
  have I1 : Inv X pins σ H { s with heap := h₂, toks := tk } := I.kept (t' := tk) fun b o e => he b o (Nat.ne_of_lt (Heap.lt_size e)) e
  have e1 : (y :: ys).toArray.toList.drop 1 = ys := rfl
  have e2 : (y :: ys).toArray.toList.take 1 = [y] := rfl
  rw [e1, e2]
  show wpAny _ _ (if ys.length < 2 - 1 - 1 then _ else _) _ _ _
  rw [if_neg (by omega)]
  show wpAny _ _ (newList (ys.take (ys.length - (2 - 1 - 1))) >>= fun d => pure ([y] ++ [d] ++ ys.drop (ys.length - (2 - 1 - 1)))) _ _ _
  rw [show ys.length - (2 - 1 - 1) = ys.length by omega, List.take_length, List.drop_length]
  refine wpAny_bind (wpAny_newList ?_ (by omega))
  refine wpAny_pure ?_
  have I2 : Inv X pins σ (upd H h₂.objs.size (.lst xs)) { s with heap := h₂.push { cls := .type "list", data := .seq ys.toArray }, toks := tk } := I1.laid (a := h₂.objs.size) (o := .lst xs) (t' := tk) (fun b u e => Heap.get?_push_of_some _ e) (Nat.le_refl _) ⟨by omega, ys, 0, rys, Heap.get?_push_size _ rfl⟩
  exact h pins _ σ _ [x, .ref h₂.objs.size] _ Q I2 (.cons ry (.cons rfl .nil)) (hw _ I1.fresh)
end
end L2

set_option Elab.async false
set_option linter.all false
set_option maxRecDepth 100000
set_option maxHeartbeats 4000000
namespace L2
open PySem PySem.Spec PyProof.Rows PySem.SeqAt
open PySem.W (Frag nsIn)
/-! ### dicts of the module, by texts -/
def dictM (K : Frag) (a : Addr) : Bool := !(a == sysModules) && match K.lookup a with
  | some o => (o.cls == .type "dict") && o.dict.isNone && (o.slots == #[]) && (match o.data with | .dict es _ => es.all (fun e => isExactStrKey e.key) | _ => false)
  | none => false
theorem dictM_at {K : Frag} {a : Addr} (h : dictM K a = true) : (a == sysModules) = false ∧ ∃ o es ep, K.lookup a = some o ∧ o.ExactDict ∧ o.data = .dict es ep ∧ (es.all fun e => isExactStrKey e.key) = true := by
  unfold dictM at h
  rw [Bool.and_eq_true] at h
  obtain ⟨h1, h2⟩ := h
  refine ⟨by simpa using h1, ?_⟩
  cases hl : K.lookup a with
  | none => rw [hl] at h2; cases h2
  | some o =>
    rw [hl] at h2
    simp only [Bool.and_eq_true] at h2
    obtain ⟨⟨⟨c1, c2⟩, c3⟩, c4⟩ := h2
    cases hd : o.data with
    | dict es ep => rw [hd] at c4; exact ⟨o, es, ep, rfl, ⟨by simpa using c1, by simpa using c2, by simpa using c3⟩, hd, c4⟩
    | _ => rw [hd] at c4; cases c4
section
variable {prog : Program} {w : World} {A : Around} {E : Value → Shared → Prop} {s : Shared} {K : Frag} {a : Addr} {x : Str} {tk : Tok}
theorem get_M {r : Option Value} {Q : Option Value → Shared → Prop} (hd : dictM K a = true) (hK : K.In s.heap) (hn : nsIn K a x = some r) (h : Q r { s with toks := s.toks + 1 }) : wpAny (model prog w) A (dictGet a (.str x tk)) Q E s := by
  obtain ⟨_, o, es, ep, hl, hex, hdt, hall⟩ := dictM_at hd
  have ho := hK _ _ hl
  unfold dictGet
  try with_reducible refine wpAny_holding ?_
  refine wpAny_bind (wpAny_pyHash_str (wpAny_bind (KTD.kt_dictFind_strs (s := { s with toks := s.toks + 1 }) ho hdt hall ?_)))
  have hf : findBy (fun k v => v.isStr k) es x = r := by
    have e1 : findBy (fun k v => v.isStr k) es x = (es.toList.find? fun e => e.key.isStr x).map (·.val) := by obtain ⟨l⟩ := es; simp [findBy]
    rw [e1]
    unfold nsIn at hn
    obtain ⟨cl, dc, dt, sl⟩ := o
    have hdt' : dt = .dict es ep := hdt
    subst hdt'
    rw [hl] at hn
    dsimp only at hn
    cases hq : es.toList.find? fun e => e.key.isStr x with
    | none =>
      rw [hq] at hn
      dsimp only at hn
      split at hn
      · cases hn
      · exact Option.some.inj hn
    | some e => rw [hq] at hn; exact Option.some.inj hn
  rw [findBy_of_findIdx?] at hf
  cases hi : es.findIdx? fun e => e.key.isStr x with
  | none => rw [hi] at hf; exact wpAny_pure (by rw [← hf] at h; exact h)
  | some i => rw [hi] at hf; exact wpAny_bind (wpAny_dictEntries (s := { s with toks := s.toks + 1 }) ho hdt (wpAny_pure (by rw [← hf] at h; exact h)))
theorem typeM (hd : dictM K a = true) (hK : K.In s.heap) : s.TypeIs (.ref a) "dict" := by
  obtain ⟨_, o, es, ep, hl, hex, hdt, hall⟩ := dictM_at hd
  exact ⟨o, hK _ _ hl, hex.1⟩
theorem getItem_M {v : Value} {Q : Value → Shared → Prop} (hd : dictM K a = true) (hK : K.In s.heap) (hn : nsIn K a x = some (some v)) (h : Q v { s with toks := s.toks + 1 }) : wpAny (model prog w) A (getItem (.ref a) (.str x tk)) Q E s := by
  have T := typeM hd hK
  unfold getItem
  try with_reducible refine wpAny_holding ?_
  refine wpAny_bind (wpAny_sequenceKey T (by decide) ?_)
  refine wpAny_bind (wpAny_callSpecial?_slot (name := Str.ofString "__getitem__") T slot_dict_getitem
    (wpAny_call_entry slot_dict_getitem T entry_dict_getitem ?_ (args_dict_getitem _ _)))
  show wpAny _ _ (dictGet a (.str x tk) >>= _) _ _ s
  exact wpAny_bind (get_M hd hK hn (wpAny_pure ⟨v, rfl, wpAny_pure h⟩))
theorem notIn_M {r : Option Value} {Q : Value → Shared → Prop} (hd : dictM K a = true) (hK : K.In s.heap) (hn : nsIn K a x = some r) (h : Q (.bool (!r.isSome)) { s with toks := s.toks + 1 }) : wpAny (model prog w) A (compareOp .NotIn (.str x tk) (.ref a)) Q E s := by
  have T := typeM hd hK
  show wpAny _ _ (do return .bool (!(← contains (.ref a) (.str x tk)))) Q E s
  refine wpAny_bind ?_
  unfold contains
  try with_reducible refine wpAny_holding ?_
  refine wpAny_bind (wpAny_specialOf T slot_dict_contains.lookup ?_)
  show wpAny _ _ (if (some (Value.builtin "dict.__contains__") == some Value.none) = true then _ else _) _ E s
  rw [if_neg (by rw [beq_builtin_none]; exact Bool.false_ne_true)]
  refine wpAny_bind (wpAny_callSpecialUnlessNone?_slot (name := Str.ofString "__contains__") T slot_dict_contains
    (wpAny_call_entry slot_dict_contains T entry_dict_contains ?_ (args_dict_contains _ _)))
  show wpAny _ _ (dictGet a (.str x tk) >>= _) _ _ s
  refine wpAny_bind (get_M hd hK hn ?_)
  cases r with
  | some v =>
    show wpAny _ _ (ret (.bool true)) _ _ _
    exact wpAny_pure ⟨_, rfl, wpAny_truthy_bool (wpAny_pure h)⟩
  | none =>
    show wpAny _ _ (Builtin.Dict.pendingKey? a (.str x tk) >>= _) _ _ _
    exact wpAny_bind (wpAny_pendingKey_other (dictM_at hd).1 (wpAny_pure ⟨_, rfl, wpAny_truthy_bool (wpAny_pure h)⟩))
end
def tDGetM (K : Frag) (td ty : TE) : TE := fun σ H Q => td σ H fun x H1 => ty σ H1 fun y H2 => ∃ a z v u, x = .ref a ∧ dictM K a = true ∧ y = .str z ∧ nsIn K a z = some (some u) ∧ RelV v u ∧ Q v H2
def tDNotInM (K : Frag) (ty td : TE) : TE := fun σ H Q => ty σ H fun y H1 => td σ H1 fun x H2 => ∃ a z r, x = .ref a ∧ dictM K a = true ∧ y = .str z ∧ nsIn K a z = some r ∧ Q (.bl (!r.isSome)) H2
section
variable {X : Cx} {o i : Expr} {td ty : TE} {pos : Pos}
theorem Inv.inK {pins : List (Addr × Obj)} {σ : St} {H : Hp} {s : Shared} (I : Inv X pins σ H s) : X.K.In s.heap := fun a o e => I.kIn a o e
theorem pe_dgetM (ho : PE X o td) (hi : PE X i ty) (hs : NoSl i) : PE X (.Subscript o i pos) (tDGetM X.K td ty) := by
  intro pins s σ H Q I h
  refine subD_of PySem.F.slot_dict_getitem.lookup hs (thn (ho pins s σ H _ I h) fun u s1 ⟨x, H1, I1, rx, q1⟩ => thn (hi pins s1 σ H1 _ I1 q1) fun iv s2 ⟨y, H2, I2, ry, a, z, v, w, ex, hd, ey, hn, rv, q2⟩ => ?_)
  subst ex ey
  obtain rfl : u = Value.ref a := rx
  obtain ⟨t, rfl⟩ := ry
  exact ⟨typeM hd I2.inK, getItem_M hd I2.inK hn ⟨v, H2, I2.tok _, rv, q2⟩⟩
theorem pc_dnotinM (hi : PE X i ty) (ho : PE X o td) : PC X .NotIn i o (tDNotInM X.K ty td) := by
  intro pins s σ H Q I h
  refine thn (hi pins s σ H _ I h) fun iv s1 ⟨y, H1, I1, ry, q1⟩ => thn (ho pins s1 σ H1 _ I1 q1) fun u s2 ⟨x, H2, I2, rx, a, z, r, ex, hd, ey, hn, q2⟩ => ?_
  subst ex ey
  obtain rfl : u = Value.ref a := rx
  obtain ⟨t, rfl⟩ := ry
  exact notIn_M hd I2.inK hn ⟨.bl _, H2, I2.tok _, rfl, q2⟩
end
def tupM (K : Frag) (a : Addr) (xs : List Str) : Bool := match K.lookup a with
  | some ⟨.type "tuple", _, .seq its _, _⟩ => decide (its.toList.length = xs.length) && (its.toList.zip xs).all fun p => p.1.isStr p.2
  | _ => false
theorem isStr_at {v : Value} {x : Str} (h : v.isStr x = true) : RelV (.str x) v := KTD.kt_isStr h
theorem zip_vals : ∀ {us : List Value} {xs : List Str}, us.length = xs.length → ((us.zip xs).all fun p => p.1.isStr p.2) = true → Vals (xs.map V.str) us
  | [], [], _, _ => .nil
  | u :: us, x :: xs, h, ha => by
    rw [List.zip_cons_cons, List.all_cons, Bool.and_eq_true] at ha
    exact .cons (isStr_at ha.1) (zip_vals (by simpa using h) ha.2)
theorem tupM_at {K : Frag} {a : Addr} {xs : List Str} (h : tupM K a xs = true) (hz : xs.length ≤ 1000) (H : Hp) : SqT K H a (xs.map V.str) := by
  unfold tupM at h
  split at h
  · rename_i dc its n sl hl
    rw [Bool.and_eq_true] at h
    have h1 := of_decide_eq_true h.1
    refine .inr ⟨_, its, n, hl, rfl, rfl, ?_, zip_vals h1 h.2⟩
    rw [Array.length_toList] at h1
    rw [h1]
    exact Nat.le_trans hz (by decide)
  · cases h
end L2

set_option Elab.async false
set_option linter.all false
set_option maxRecDepth 100000
set_option maxHeartbeats 4000000
namespace L2
open PySem PySem.Spec PyProof.Rows PySem.SeqAt
/-! ### a def of the module, held in a name -/
def tCallH (X : Cx) (CX : CXT) (k i : Nat) (t : TA) : TE := fun σ H Q => ∃ (f : Addr) (fd : FuncData) (ps : List Str) (sp : Sp) (E : XK), σ[i]? = some (some (.ref f)) ∧ FnOk X.prog X.w X.K X.mg X.base CX k f fd ps sp ∧ Binds X.K fd ps [] ∧ PySem.W.keepIn X.K (.ref f) = true ∧ Passes CX X E ∧ t σ H fun vs H1 => sp vs H1 Q E
section
variable {X : Cx} {CX : CXT} {k : Nat} {x : Str} {p pos : Pos} {e : Expr} {es : List Expr} {t : TA}
theorem pe_callH (i : Nat) (hr : Room k X.A) (ha : PA X (e :: es) t) (hN : X.N[i]? = some x := by rfl) (hv : Vis X.env.scope x := by first | exact Or.inl rfl | exact Or.inr (Or.inl rfl) | exact Or.inr (Or.inr rfl)) (hd : (x == ("__debug__" : Str)) = false := by decide)
    (hcd : (x == ("__classdict__" : Str)) = false := by decide) (he : starEach (e :: es) X.env = (false, eval e X.env) :: starEach es X.env := by rfl) (hpl : (backTo pos (starEach es X.env)).any (·.1) = false := by rfl) :
    PE X (.Call (.Name x p) (e :: es) [] pos) (tCallH X CX k i t) := by
  intro pins s σ H Q I h
  obtain ⟨f, fd, ps, sp, E, ef, F, hb, hk, hx, h⟩ := h
  refine wpAny_Call_Name_kw (thn (pe_var hN hv hd hcd pins s σ H (fun v H1 => v = .ref f ∧ H1 = H) I ⟨_, ef, rfl, rfl⟩) fun u s1 ⟨v, H1, I1, r1, hv1, hH1⟩ => ?_)
  subst hv1 hH1
  cases r1
  refine PySem.W.callWith_K (h₀ := X.base) I1.ok.mod.kin hk (thn (ha pos pins s1 σ H1 _ I1 h) fun us s2 ⟨vs, H2, I2, r, q⟩ => ⟨I2.kIn, ?_⟩) he hpl
  exact run_fn F hr hb .nil hx I2 r (by rw [List.append_nil]; exact q)
end
/-! ### figures -/
open PySem.W.KIN (signs_num val_back)
def numS (n : Nat) : Str := Str.ofString (toString ((n : Nat) : Int))
theorem sg_num (n : Nat) : sg (numS n) = (Nat.toDigits 10 n).map Char.toNat := signs_num n
theorem num_figs (n : Nat) : ∀ c ∈ sg (numS n), 48 ≤ c ∧ c ≤ 57 := fun c hc => by
  rw [sg_num] at hc
  obtain ⟨ch, hch, e⟩ := List.mem_map.mp hc
  have r := PyProof.Rows.digit_range (Nat.isDigit_of_mem_toDigits (by decide) (by decide) hch)
  rw [← e]
  exact r
end L2

set_option Elab.async false
set_option linter.all false
set_option maxRecDepth 100000
set_option maxHeartbeats 4000000
namespace L2
open PySem PyProof.Rows
/-! ### the whole sort: any count of things, any order -/
section
variable {prog : Program} {w : World} {A : Around} {E : Value → Shared → Prop} {s : Shared} {α : Type} {kf : Keyed → α} {lt : α → α → Bool} {kd : SortKind} {S : List Keyed}
end
end L2

set_option Elab.async false
set_option linter.all false
set_option maxRecDepth 100000
set_option maxHeartbeats 4000000
namespace L2
open PySem PyProof.Rows
section
variable {α : Type} (kf : Keyed → α) (lt : α → α → Bool)
end
section
variable {α : Type} {kf : Keyed → α} {lt : α → α → Bool}
end
section
variable {prog : Program} {w : World} {A : Around} {E : Value → Shared → Prop} {s : Shared} {α : Type} {kf : Keyed → α} {lt : α → α → Bool} {kd : SortKind} {S : List Keyed}
end
end L2

set_option Elab.async false
set_option linter.all false
set_option maxRecDepth 100000
set_option maxHeartbeats 4000000
namespace L2
open PySem PyProof.Rows
section
variable {α : Type} (kf : Keyed → α) (lt : α → α → Bool)
end
section
variable {α : Type} {kf : Keyed → α} {lt : α → α → Bool}
end
section
variable {prog : Program} {w : World} {A : Around} {E : Value → Shared → Prop} {s : Shared} {α : Type} {kf : Keyed → α} {lt : α → α → Bool} {kd : SortKind} {S : List Keyed}
end
end L2

set_option Elab.async false
set_option linter.all false
set_option maxRecDepth 100000
set_option maxHeartbeats 4000000
namespace L2
open PySem PyProof.Rows
section
variable {α : Type} (kf : Keyed → α) (lt : α → α → Bool)
def KA (xs : Array Keyed) (i : Nat) : α := kf (xs[i]?.getD (.none, .none))
end
section
variable {α : Type} {kf : Keyed → α} {lt : α → α → Bool} {kd : SortKind} {p0 : Array (Nat × Nat × Nat)} {a₀ : Array Keyed} {lo hi : Nat} {st : SortSt}
end
section
variable {prog : Program} {w : World} {A : Around} {E : Value → Shared → Prop} {s : Shared} {α : Type} {kf : Keyed → α} {lt : α → α → Bool} {kd : SortKind} {S : List Keyed} {p0 : Array (Nat × Nat × Nat)} {a₀ : Array Keyed} {lo hi : Nat}
end
end L2

set_option Elab.async false
set_option linter.all false
set_option maxRecDepth 100000
set_option maxHeartbeats 4000000
namespace L2
open PySem PyProof.Rows
section
variable {prog : Program} {w : World} {A : Around} {E : Value → Shared → Prop} {s : Shared} {α : Type} {kf : Keyed → α} {lt : α → α → Bool} {kd : SortKind} {S : List Keyed} {p0 : Array (Nat × Nat × Nat)} {a₀ : Array Keyed} {lo hi : Nat}
end
end L2

set_option Elab.async false
set_option linter.all false
set_option maxRecDepth 100000
set_option maxHeartbeats 4000000
namespace L2
open PySem PyProof.Rows
section
variable {prog : Program} {w : World} {A : Around} {E : Value → Shared → Prop} {s : Shared} {α : Type} {kf : Keyed → α} {lt : α → α → Bool} {kd : SortKind} {S : List Keyed}
end
end L2

set_option Elab.async false
set_option linter.all false
set_option maxRecDepth 100000
set_option maxHeartbeats 4000000
namespace L2
open PySem PyProof.Rows
def marks : Nat → List (List Keyed) → List (Nat × Nat)
  | _, [] => []
  | off, r :: rs => (off, r.length) :: marks (off + r.length) rs
section
variable {α : Type} {kf : Keyed → α} {lt : α → α → Bool} {kd : SortKind}
end
section
variable {prog : Program} {w : World} {A : Around} {E : Value → Shared → Prop} {s : Shared} {α : Type} {kf : Keyed → α} {lt : α → α → Bool} {kd : SortKind} {S : List Keyed}
end
end L2

set_option Elab.async false
set_option linter.all false
set_option maxRecDepth 100000
set_option maxHeartbeats 4000000
namespace L2
open PySem PySem.Spec PyProof.Rows
/-! ### xs[::-1] of a list -/
section
variable {X : Cx} {e st : Expr} {te ts : TE} {pos p2 : Pos}
end
end L2

set_option Elab.async false
set_option linter.all false
set_option maxRecDepth 100000
set_option maxHeartbeats 4000000
namespace Gu
open PySem L2
/-! ### numbers of words -/
def lit (n : Int) : Nat → Int → List Int
  | 0, _ => []
  | k + 1, x => x % n :: lit n k (x / n)
end Gu

set_option Elab.async false
set_option linter.all false
set_option maxRecDepth 100000
set_option maxHeartbeats 4000000
namespace Gu
open PySem L2
/-! ### floors -/
end Gu

set_option Elab.async false
set_option linter.all false
set_option maxRecDepth 100000
set_option maxHeartbeats 4000000
namespace Gu
open PySem L2
/-! ### rounds -/
end Gu

set_option Elab.async false
set_option linter.all false
set_option maxRecDepth 100000
set_option maxHeartbeats 4000000
namespace Gu
open PySem L2
/-! ### the way back of two joined -/
end Gu

set_option Elab.async false
set_option linter.all false
set_option maxRecDepth 100000
set_option maxHeartbeats 4000000
namespace Gu
open PySem L2
end Gu

set_option Elab.async false
set_option linter.all false
set_option maxRecDepth 100000
set_option maxHeartbeats 4000000
namespace Gu
open PySem L2
/-! ### one promise for least_form, by numbers and by pairs -/
theorem len1 {α : Type} {us : List α} (h : us.length = 1) : ∃ a, us = [a] := by
  cases us with
  | nil => cases h
  | cons a r =>
    cases r with
    | nil => exact ⟨a, rfl⟩
    | cons _ _ => simp at h
theorem len2 {α : Type} {us : List α} (h : us.length = 2) : ∃ a b, us = [a, b] := by
  cases us with
  | nil => cases h
  | cons a r =>
    obtain ⟨b, rfl⟩ := len1 (show r.length = 1 by simpa using h)
    exact ⟨a, b, rfl⟩
section
variable (P : Program) (w : World) (K : PySem.W.Frag) (mg : Str → Option Value) (base : Heap) (CX : CXT) (k : Nat)
end
section
variable {P : Program} {w : World} {K : PySem.W.Frag} {mg : Str → Option Value} {base : Heap} {CX : CXT} {k : Nat} {Ct : Addr}
end
end Gu

set_option Elab.async false
set_option linter.all false
set_option maxRecDepth 100000
set_option maxHeartbeats 4000000
namespace L2
open PySem PySem.Spec PyProof.Rows
/-! ### a comprehension of one clause and one test -/
section
variable {prog : Program} {w : World} {A : Around} {R : Result → Shared → Prop} {s : Shared}
end
section
variable {X : Cx} {pins : List (Addr × Obj)} {σ : St} {H : Hp} {s : Shared} {N : List Str} {ix : List (Option Nat)} {scope : Scope} {elt iter tg cx : Expr} {pos : Pos} {g : TG} {tt : TT} {te : TE} {E : Value → Shared → Prop}
end
end L2

set_option Elab.async false
set_option linter.all false
set_option maxRecDepth 100000
set_option maxHeartbeats 4000000
namespace L2
open PySem PySem.Spec PyProof.Rows
/-! ### a comprehension over a dict without keys -/
section
variable {X : Cx} {pins : List (Addr × Obj)} {σ : St} {H : Hp} {s : Shared} {N : List Str} {ix : List (Option Nat)} {scope : Scope} {elt iter tg cx : Expr} {pos : Pos} {te : TE} {E : Value → Shared → Prop}
end
end L2

set_option Elab.async false
set_option linter.all false
set_option maxRecDepth 100000
set_option maxHeartbeats 4000000
namespace L2
open PySem PySem.Spec PyProof.Rows
/-! ### an exception that leaves the frame's values as they stood (a try whose body binds nothing) -/
def PassesS (CX : CXT) (X : Cx) (σ0 : St) (E : XK) : Prop := ∀ (pins : List (Addr × Obj)) (H : Hp) (s : Shared) (e : Value) (s' : Shared), Inv X pins σ0 H s → CX X.stack H s E e s' → X.xe e s'
def tAt (σ0 : St) (t : TE) : TE := fun σ H Q => σ = σ0 ∧ t σ H Q
section
variable {X : Cx} {CX : CXT} {k : Nat} {f C : Addr} {fd : FuncData} {ps : List Str} {sp : Sp} {dvs : List V} {ds : List Value} {E : XK} {x m : Str} {p pos apos : Pos} {e o : Expr} {es : List Expr} {ta : TE} {t : TA} {σ0 : St}
theorem runS_fn {pins : List (Addr × Obj)} {H : Hp} {s : Shared} {Q : VK} {us : List Value} {vs : List V} (F : FnOk X.prog X.w X.K X.mg X.base CX k f fd ps sp) (hr : Room k X.A) (hb : Binds X.K fd ps ds) (hd : Vals dvs ds) (hx : PassesS CX X σ0 E)
    (I : Inv X pins σ0 H s) (r : Vals vs us) (h : sp (vs ++ dvs) H Q E) : wpAny (model X.prog X.w) X.A (call (.ref f) us) (EP X pins σ0 Q) X.xe s := by
  have r2 : Vals (vs ++ dvs) (us ++ ds) := r.append hd
  have hl : (us ++ ds).length = ps.length := by rw [← r2.length]; exact F.len _ _ _ _ h
  refine wpAny_call (codeAny_mono (F.run X.A X.stack s H ⟨us, []⟩ (us ++ ds) (vs ++ dvs) Q E hr I.env0 (hb s us I.kIn hl) r2 h) fun r s' hq => ?_)
  cases r with
  | error e => exact hx pins H s e s' I hq
  | ok fl =>
    cases fl with
    | ret u => exact I.after hq
    | next => exact False.elim hq
    | brk => exact False.elim hq
    | cont => exact False.elim hq
end
def XES (C : Addr) (σ0 : St) (th : TS) (D : Ends) : XK := fun _ C' H' => C' = some C ∧ th D σ0 H'
theorem psS_try {X : Cx} {x : Str} {C : Addr} {newId : String} {bmB : List Value} {np hpos pos : Pos} {body suite : List Stmt} {b₀ : Stmt} {tb : Ends → St → TS} {th : TS} (hfr : X.env.frame = some X.env.locals) (hstk : X.stack = X.env :: X.outer)
    (hx : X.mg x = some (.ref C)) (hg : Gl X x) (he : PySem.W.excIn X.K C bmB newId = true) (hB : bmB.contains (.type "BaseException") = true)
    (hb : ∀ pn E1 D σ0, PassesS (CXx X.prog X.w) (X.tried pn E1) σ0 (XES C σ0 th D) → PSs (X.tried pn E1) body (tb D σ0))
    (hs : ∀ e, PSs (X.sup e) (b₀ :: suite) th) (hdb : (x == ("__debug__" : Str)) = false := by decide) :
    PS X (.Try body [.ExceptHandler (some (.Name x np)) none (b₀ :: suite) hpos] [] [] pos) (fun D σ H => tb D σ D σ H) := by
  intro pins s σ H D I h
  refine wpAny_Try_except ?_
  have pass : PassesS (CXx X.prog X.w) (X.tried (X.pn ++ pins) fun e s₁ => wpAny (model X.prog X.w) X.A (noteFrame e X.env) (fun _ s₂ => wpAny (model X.prog X.w) X.A (setFlight e none) (fun _ s₃ => wpAny (model X.prog X.w) X.A (handleBy e X.env [.ExceptHandler (some (.Name x np)) none (b₀ :: suite) hpos]) (SP X pins D) X.xe s₃) X.xe s₂) X.xe s₁) σ (XES C σ th D) := by
    intro pins' H1 s1 e s' I1 hx'
    obtain ⟨ea, Ce, H', rfl, os, bare, un, hok, fly, hC, hth⟩ := hx'
    cases hC
    have J := I1.call' (ch := []) os un hok bare (fun b z => absurd z (by simp))
    have FF : s'.heap.FunFrames X.base (X.env :: X.outer) := by have := J.stack; rw [show (X.tried (X.pn ++ pins) _).stack = X.stack from rfl, hstk] at this; exact this
    have un' : Un (frs (X.env :: X.outer)) [] H1 H' s1.heap s'.heap := by rw [← hstk]; exact un
    have hfree : ∀ b ∈ frs (X.env :: X.outer), H' b = none ∧ (b ∈ frs (X.env :: X.outer) ∨ s1.heap.get? b = none) := fun b hb => ⟨J.stkFree b (by show b ∈ frs X.stack; rw [hstk]; exact hb), .inl hb⟩
    refine land_ok (P := X.prog) (w := X.w) (fr := frs (X.env :: X.outer)) (H1 := H1) (H' := H') (h1 := s1.heap) (base := X.base) (outer := X.outer) (L := X.env.locals) (by rw [I.ok.frames, hstk]) hfr FF un' hok hfree (fun b hb => hb) fly fun h2 u2 k2 f2 => ?_
    have mk : ∀ h3, Un (frs (X.env :: X.outer)) [] H1 H' s1.heap h3 → HOk X.prog X.w H' h3 → Inv (X.sup ea) pins σ H' { s' with heap := h3 } := fun h3 u3 k3 => by
      have J3 := I1.call' (s' := { s' with heap := h3 }) (ch := []) os (by show Un (frs X.stack) [] H1 H' s1.heap h3; rw [hstk]; exact u3) k3 bare (fun b z => absurd z (by simp))
      exact ⟨I.ok.sup ea, J3.os, J3.bare, J3.base, J3.loc, J3.cell, J3.free, J3.freeC, fun p hp => J3.pin p (List.mem_append_left _ hp), J3.hok, J3.len⟩
    have J2 := mk h2 u2 k2
    obtain ⟨bm, NN, nm, q, bs, hd, sn, sub, ab, col, dict, a0, a1, a2, a3, a5, mN, hC, hN, hi, ht⟩ := exc_obj J2.kIn he
    refine wpAny_handleBy_cons (codeAny_handlers_test (ld_glob J2 hg hx ?_ hdb)) (by intro z; cases z)
    obtain ⟨_, _, b0, oe, vs, T, oT, ts, g1, ⟨g2, _⟩, _⟩ := id f2
    refine wpAny_excMatches_sub_self hC g1 g2 (tail_has ht hB) ?_
    refine codeAny_handlers_suite ?_
    refine again_ok (P := X.prog) (w := X.w) (fr := frs (X.env :: X.outer)) (H1 := H1) (H' := H') (h1 := s1.heap) (base := X.base) (env := X.env) (outer := X.outer) (by have := J2.stack; rw [show (X.sup ea).stack = X.stack from rfl, hstk] at this; exact this) u2 k2 hfree (fun b hb => hb) f2 fun h3 u3 k3 f3 => ?_
    have J3 := mk h3 u3 k3
    refine wpAny_mono (hs ea pins _ σ H' D J3 hth) (fun f s4 sp => ?_) fun _ _ z => False.elim z
    have back : ∀ {σ4 H4}, Inv (X.sup ea) pins σ4 H4 s4 → Inv X pins σ4 H4 s4 := fun K4 => ⟨I.ok, K4.os, K4.bare, K4.base, K4.loc, K4.cell, K4.free, K4.freeC, K4.pin, K4.hok, K4.len⟩
    cases f with
    | next => obtain ⟨σ4, H4, K4, q⟩ := sp; exact ⟨σ4, H4, back K4, q⟩
    | brk => obtain ⟨σ4, H4, K4, q⟩ := sp; exact ⟨σ4, H4, back K4, q⟩
    | cont => obtain ⟨σ4, H4, K4, q⟩ := sp; exact ⟨σ4, H4, back K4, q⟩
    | ret u => obtain ⟨v, σ4, H4, K4, r, q⟩ := sp; exact ⟨v, σ4, H4, back K4, r, q⟩
  have I0 : ∀ E, Inv (X.tried (X.pn ++ pins) E) [] σ H s := fun E => ⟨I.ok.tried _ _, I.os, I.bare, I.base, I.loc, I.cell, I.free, I.freeC, fun p hp => I.pin p (by rw [List.append_nil] at hp; exact hp), I.hok, I.len⟩
  refine wpAny_mono (hb (X.pn ++ pins) _ D σ pass [] s σ H D (I0 _) h) (fun f s1 sp => ?_) fun e s1 z => z
  have back : ∀ {E σ4 H4 s4}, Inv (X.tried (X.pn ++ pins) E) [] σ4 H4 s4 → Inv X pins σ4 H4 s4 := fun K4 => ⟨I.ok, K4.os, K4.bare, K4.base, K4.loc, K4.cell, K4.free, K4.freeC, fun p hp => K4.pin p (by rw [List.append_nil]; exact hp), K4.hok, K4.len⟩
  cases f with
  | next => obtain ⟨σ4, H4, K4, q⟩ := sp; exact wpAny_execs_nil ⟨σ4, H4, back K4, q⟩
  | brk => obtain ⟨σ4, H4, K4, q⟩ := sp; exact ⟨σ4, H4, back K4, q⟩
  | cont => obtain ⟨σ4, H4, K4, q⟩ := sp; exact ⟨σ4, H4, back K4, q⟩
  | ret u => obtain ⟨v, σ4, H4, K4, r, q⟩ := sp; exact ⟨v, σ4, H4, back K4, r, q⟩
end L2

set_option Elab.async false
set_option linter.all false
set_option maxRecDepth 100000
set_option maxHeartbeats 4000000
namespace L2
open PySem PySem.Spec PyProof.Rows PySem.SeqAt
open PySem.AutoSeq1 (wpAny_loadPart')
section
variable {X : Cx} (K : PySem.W.Frag)
end
end L2

set_option Elab.async false
set_option linter.all false
set_option maxRecDepth 100000
set_option maxHeartbeats 4000000
namespace L2
open PySem PySem.Spec PyProof.Rows
/-! ### the table of a set: its places rise, the walk goes through all of them -/
def Ris (xs : Array Nat) : Prop := xs.toList.Pairwise (· < ·)
section
variable {M : Model} {A : Around} {E : Value → Shared → Prop}
end
end L2

set_option Elab.async false
set_option linter.all false
set_option maxRecDepth 100000
set_option maxHeartbeats 4000000
namespace L2
open PySem PySem.Spec PyProof.Rows
/-! ### a set of ints by the list of its members -/
def led0 (w : World) : Bool := !w.params.followText "set-order"
structure Sit (prog : Program) (w : World) (es : Array (Int × Value)) (t : SetTable) (ks : List Int) : Prop where
  elems : ElemsOf (intKind prog w) es.toList
  keysI : IntsAre (es.toList.map (·.2)) ks
  fits : t.fits es.size = true
  led : t.led = led0 w
  ris : Ris t.place
def SetI (prog : Program) (w : World) (h : Heap) (a : Addr) (ks : List Int) : Prop :=
  ∃ o es ep t, h.get? a = some o ∧ o.ExactSet ∧ o.data = .set es ep t ∧ Sit prog w es t ks
section
variable {prog : Program} {w : World} {A : Around} {E : Value → Shared → Prop} {s : Shared}
end
section
variable {prog : Program} {w : World} {A : Around} {R : Result → Shared → Prop} {I : Addr} {fp wr : List Addr} {G : Array GenState → Array GenState → Prop} {n : Nat} {P : Nat → Value → Prop} {St : Nat → Shared → Prop}
end
section
variable {prog : Program} {w : World} {A : Around} {E : Value → Shared → Prop} {s : Shared}
end
end L2

set_option Elab.async false
set_option linter.all false
set_option maxRecDepth 100000
set_option maxHeartbeats 4000000
namespace L2
open PySem PySem.Spec PyProof.Rows
/-! ### a set is walked through -/
namespace SF
end SF
section
variable {prog : Program} {w : World} {A : Around} {E : Value → Shared → Prop} {s : Shared} {it a : Addr} {es : Array (Int × Value)} {ep : Nat} {t : SetTable} {i : Nat}
end
end L2

set_option Elab.async false
set_option linter.all false
set_option maxRecDepth 100000
set_option maxHeartbeats 4000000
namespace L2
open PySem PySem.Spec PyProof.Rows
section
variable {prog : Program} {w : World} {A : Around} {E : Value → Shared → Prop} {s : Shared} {it a : Addr} {es : Array (Int × Value)} {ep : Nat} {t : SetTable} {i : Nat}
end
/-! the iteration of a set, by its roads -/
section
variable {prog : Program} {w : World} {A : Around} {es : Array (Int × Value)} {ep : Nat} {t : SetTable}
end
section
variable {prog : Program} {w : World} {A : Around} {E : Value → Shared → Prop} {s : Shared} {it a : Addr} {es : Array (Int × Value)} {ep : Nat} {t : SetTable} {i : Nat}
end
end L2

set_option Elab.async false
set_option linter.all false
set_option maxRecDepth 100000
set_option maxHeartbeats 4000000
namespace L2
open PySem PySem.Spec PyProof.Rows
section
variable {prog : Program} {w : World} {A : Around} {E : Value → Shared → Prop} {s : Shared} {a : Nat} {es : Array (Int × Value)} {ep : Nat} {t : SetTable}
end
end L2

set_option Elab.async false
set_option linter.all false
set_option maxRecDepth 100000
set_option maxHeartbeats 4000000
namespace L2
open PySem PySem.Spec PyProof.Rows PySem.SeqAt
open PySem.AutoSeq1 (wpAny_loadPart')
/-! ### set(list of ints), sorted(set) -/
def SetO (P : Program) (w : World) (a : Addr) (ks : List Int) : HO := .ext fun h => SetI P w h a ks
section
variable {X : Cx} (K : PySem.W.Frag)
end
end L2

set_option Elab.async false
set_option linter.all false
set_option maxRecDepth 100000
set_option maxHeartbeats 4000000
namespace L2
open PySem PySem.Spec PyProof.Rows PySem.SeqAt
open PySem.AutoSeq1 (wpAny_loadPart')
/-! ### sorted, any size -/
section
variable {prog : Program} {w : World} {A : Around} {E : Value → Shared → Prop} {s : Shared} {α : Type} {kf : Keyed → α} {lt : α → α → Bool} {kd : SortKind}
end
end L2

set_option Elab.async false
set_option linter.all false
set_option maxRecDepth 100000
set_option maxHeartbeats 4000000
namespace Gu
open PySem L2
/-! ### loops whose ends stay closed while a turn is read (the terms stay small) -/
theorem cutN {W : Nat → St → Hp → Prop} {m : Nat} {T : (St → Hp → Prop) → Prop} (h : ∀ N : St → Hp → Prop, (∀ m' σ' H', m' < m → W m' σ' H' → N σ' H') → T N) : ∃ N : St → Hp → Prop, (∀ σ' H', N σ' H' → ∃ m', m' < m ∧ W m' σ' H') ∧ T N :=
  ⟨fun σ' H' => ∃ m', m' < m ∧ W m' σ' H', fun _ _ z => z, h _ fun m' σ' H' a b => ⟨m', a, b⟩⟩
theorem rangeO {lo : Int} {n : Nat} {g : TG} {tb : TS} {D : Ends} {σ : St} {H : Hp} (Pv : Nat → St → Hp → Prop) (h0 : Pv 0 σ H)
    (hs : ∀ i σ H, i < n → Pv i σ H → ∀ Ed : Ends, (∀ σ' H', Pv (i + 1) σ' H' → Ed.nx σ' H') → g (.int (lo + i)) σ H fun σ2 H2 => tb Ed σ2 H2) (hd : ∀ σ H, Pv n σ H → D.nx σ H) :
    ∃ W : Nat → Nat → St → Hp → Prop, (∃ m, W 0 m σ H) ∧ ∀ i m σ H, W i m σ H →
      ((Itr lo n).stop i H ∧ D.nx σ H) ∨ ((Itr lo n).go i H ∧ ∃ N : St → Hp → Prop, (∀ σ' H', N σ' H' → ∃ m', m' < m ∧ W (i + 1) m' σ' H') ∧ ∀ x H', (Itr lo n).yld i H x H' → g x σ H' fun σ2 H2 => tb { D with nx := N, ct := N, bk := D.nx } σ2 H2) :=
  for_range Pv h0 (fun i σ H hi p => hs i σ H hi p _ fun _ _ z => z) hd
theorem cutW {c : TT} {tb : TS} {D : Ends} {σ : St} {H : Hp} (Post : St → Hp → Prop) (h1 : ∀ Ed : Ends, (∀ σ' H', Post σ' H' → Ed.nx σ' H') → tWhile c tb Ed σ H) (h2 : ∀ σ' H', Post σ' H' → D.nx σ' H') : tWhile c tb D σ H := h1 D h2
theorem cutQ {t1 t2 : TS} {D : Ends} {σ : St} {H : Hp} (Post : St → Hp → Prop) (h1 : ∀ Ed : Ends, (∀ σ' H', Post σ' H' → Ed.nx σ' H') → t1 Ed σ H) (h2 : ∀ σ' H', Post σ' H' → t2 D σ' H') : tSeq t1 t2 D σ H := h1 _ h2
theorem cutS {t1 t2 : TS} {D : Ends} {σ : St} {H : Hp} (h1 : ∀ Ed : Ends, Ed.nx σ H → t1 Ed σ H) (h2 : t2 D σ H) : tSeq t1 t2 D σ H := h1 _ h2
end Gu

set_option Elab.async false
set_option linter.all false
set_option maxRecDepth 100000
set_option maxHeartbeats 4000000
namespace Gu
open PySem L2
/-! ### what stands behind a word in a joined guise -/
end Gu

set_option Elab.async false
set_option linter.all false
set_option maxRecDepth 100000
set_option maxHeartbeats 4000000
namespace Gu
open PySem L2
/-! ### where two guises part -/
def fuL : List Int → List Int → Nat
  | a :: as, b :: bs => if a = b then fuL as bs + 1 else 0
  | _, _ => 0
def pgo (m : Nat) (R S : Row) : List Int := (List.range R.2.length).map fun k => R.2.getD k 0 * (m : Int) + S.2.getD k 0
def prM (one other : List Row) : List Row := (iota (one.length * other.length)).map fun c => ((row one (c / (other.length : Int))).1, pgo other.length (row one (c / (other.length : Int))) (row other (c % (other.length : Int))))
def addWs (w : List Int) : List Int → List (List Int) → Nat → List Int → List (List Int)
  | _, ws, _, [] => ws
  | o, ws, k, g :: gs => if g ∈ o then addWs w o ws (k + 1) gs else addWs w (o ++ [g]) (ws ++ [w ++ [(k : Int)]]) (k + 1) gs
def pb (one other : List Row) : Nat → List Int → List (List Int) → Nat → Option (List Int)
  | 0, _, _, _ => none
  | f + 1, o, ws, i => match o[i]?, ws[i]? with
    | some c, some w => if (row one (c / (other.length : Int))).1 = (row other (c % (other.length : Int))).1 then pb one other f (addAll o (row (prM one other) c).2) (addWs w o ws 0 (row (prM one other) c).2) (i + 1)
      else some (w ++ [((fuL (row one (c / (other.length : Int))).1 (row other (c % (other.length : Int))).1 : Nat) : Int)])
    | _, _ => none
def parting (one other : List Row) : Option (List Int) := pb one other (one.length * other.length + 1) [0] [[]] 0
/-! the other way round -/
/-! none parts what is one, and what nothing parts is one -/
end Gu

set_option Elab.async false
set_option linter.all false
set_option maxRecDepth 100000
set_option maxHeartbeats 4000000
namespace L2
open PySem PySem.Spec PyProof.Rows
/-! ### enumerate over a zip: the zip's own tuple is held by a name, so the zip hands out fresh ones -/
section
variable {prog : Program} {w : World} {A : Around} {E : Value → Shared → Prop} {s : Shared} {z TI TO i1 i2 : Addr} {fp1 fp2 : List Addr} {n1 n2 : Nat} {P1 P2 : Nat → Value → Prop} {S1 S2 : Nat → Heap → Prop}
end
end L2

set_option Elab.async false
set_option linter.all false
set_option maxRecDepth 100000
set_option maxHeartbeats 4000000
namespace L2
open PySem PySem.Spec PyProof.Rows
section
variable {X : Cx} {elts : List Expr} {tk : Nat} {tp : Pos}
end
end L2

set_option Elab.async false
set_option linter.all false
set_option maxRecDepth 100000
set_option maxHeartbeats 4000000
namespace Gu
open PySem L2
/-! ### parting words: what is promised -/
end Gu

set_option Elab.async false
set_option linter.all false
set_option maxRecDepth 100000
set_option maxHeartbeats 4000000
namespace Gu
open PySem L2
/-! ### what the word that parts does -/
end Gu

set_option Elab.async false
set_option linter.all false
set_option maxRecDepth 100000
set_option maxHeartbeats 4000000
namespace L2
open PySem PySem.Spec PyProof.Rows
variable {X : Cx}
end L2

set_option Elab.async false
set_option linter.all false
set_option maxRecDepth 100000
set_option maxHeartbeats 4000000
namespace Gu
open PySem L2
end Gu

set_option Elab.async false
set_option linter.all false
set_option maxRecDepth 100000
set_option maxHeartbeats 4000000
namespace L2
open PySem PySem.Spec PyProof.Rows
/-! ### a comprehension of two clauses and no test -/
section
variable {prog : Program} {w : World} {A : Around} {R : Result → Shared → Prop} {s : Shared}
end
section
variable {X : Cx} {pins : List (Addr × Obj)} {σ : St} {H : Hp} {s : Shared} {N : List Str} {ix : List (Option Nat)} {scope : Scope} {elt iter tg iter2 tg2 : Expr} {pos : Pos} {g g2 : TG} {wi2 : TI} {te : TE} {E : Value → Shared → Prop}
end
end L2

set_option Elab.async false
set_option linter.all false
set_option maxRecDepth 100000
set_option maxHeartbeats 4000000
namespace Gu
open PySem L2
/-! ### an endless word, worn -/
def lapA (M : List Row) (e : Row) : Nat → Int
  | 0 => goW M 0 e.1
  | t + 1 => goW M (lapA M e t) e.2
/-! two endless words are unlike where what is made of them is -/
/-! how far two words go together -/
end Gu

set_option Elab.async false
set_option linter.all false
set_option maxRecDepth 100000
set_option maxHeartbeats 4000000
namespace Gu
open PySem L2
theorem cutV_from (xs : List V) (k : Nat) (h : k ≤ xs.length) : cutV xs (some (k : Int)) none = xs.drop k := by
  unfold cutV
  rw [HT.sIx_none, HT.sIx_nat, Nat.min_eq_left h]
  exact List.take_of_length_le (by rw [List.length_drop]; exact Nat.le_refl _)
end Gu

set_option Elab.async false
set_option linter.all false
set_option maxRecDepth 100000
set_option maxHeartbeats 4000000
namespace L2
open PySem PySem.Spec PyProof.Rows PySem.SeqAt
/-! no list or tuple in it is very long -/
mutual
def D.fewB : D → Prop
  | .tup a => a.length ≤ 1000000 ∧ D.fewBL a
  | .lst a => a.length ≤ 1000000 ∧ D.fewBL a
  | _ => True
def D.fewBL : List D → Prop
  | [] => True
  | d :: ds => D.fewB d ∧ D.fewBL ds
end
theorem D.fewBL_get : ∀ {ds : List D} {j : Nat} {d : D}, D.fewBL ds → ds[j]? = some d → D.fewB d
  | [], _, _, _, h => by simp at h
  | _ :: _, 0, _, h, e => by
    simp only [D.fewBL] at h
    simp at e; subst e; exact h.1
  | _ :: _, j + 1, _, h, e => by
    simp only [D.fewBL] at h
    exact D.fewBL_get h.2 (by simpa using e)
theorem D.fewBL_ints : ∀ ns : List Int, D.fewBL (ns.map D.int)
  | [] => by simp only [List.map_nil, D.fewBL]
  | n :: r => by simp only [List.map_cons, D.fewBL, D.fewB]; exact ⟨trivial, D.fewBL_ints r⟩
section
variable {X : Cx}
end
end L2

set_option Elab.async false
set_option linter.all false
set_option maxRecDepth 100000
set_option maxHeartbeats 4000000
namespace L2
open PySem PySem.Spec PyProof.Rows
open PySem.AutoSeq1 (wpAny_loadPart')
section
variable {X : Cx}
/-! ### t != u of ints -/
end
end L2

set_option Elab.async false
set_option linter.all false
set_option maxRecDepth 100000
set_option maxHeartbeats 4000000
namespace Gu
open PySem L2
/-! ### endless words worn, of great length, and refused -/
theorem line_leB {n : Nat} (h : n ≤ 1000000) : n ≤ sizeLine := Nat.le_trans h (by decide)
def spLikeB (K : PySem.W.Frag) (n : Nat) : Sp := fun vs H Q _ => ∃ (a b : V) (d : D), vs = [a, b] ∧ Dr K H d a ∧ Dr K H d b ∧ D.dep d < n ∧ D.fewB d ∧ ∀ H', Same H H' → Q (.bl true) H'
def seen (M : List Row) (e : Row) (t : Nat) : List Int := (List.range t).map (lapA M e)
end Gu

set_option Elab.async false
set_option linter.all false
set_option maxRecDepth 100000
set_option maxHeartbeats 4000000
namespace L2
open PySem PySem.Spec PyProof.Rows PySem.SeqAt
section
variable {X : Cx} (K : PySem.W.Frag)
end
end L2

set_option Elab.async false
set_option linter.all false
set_option maxRecDepth 100000
set_option maxHeartbeats 4000000
namespace Gu
open PySem L2
/-! ### whole joining -/
end Gu

set_option Elab.async false
set_option linter.all false
set_option maxRecDepth 100000
set_option maxHeartbeats 4000000
namespace Gu
open PySem L2
/-! ### what guises make of words: of least forms, joined, turned back -/
/-! ### the same of endless words -/
/-! ### the promises of endless words worn twice -/
end Gu
namespace Gu
open PySem L2
/-! the rest of a body, kept closed while a statement is read -/
theorem seqG {a b : TS} {D : Ends} {σ : St} {H : Hp} (h : ∀ R : TS, R = b → tSeq a R D σ H) : tSeq a b D σ H := h b rfl
theorem atR {R b : TS} {D : Ends} {σ : St} {H : Hp} (e : R = b) (h : b D σ H) : R D σ H := by rw [e]; exact h
end Gu

set_option Elab.async false
set_option linter.all false
set_option maxRecDepth 100000
set_option maxHeartbeats 4000000
namespace Gu
open PySem L2
/-! ### a guise worn so many times -/
end Gu

set_option Elab.async false
set_option linter.all false
set_option maxRecDepth 100000
set_option maxHeartbeats 4000000
namespace Gu
open PySem L2
/-! ### the rows of a form are unlike -/
/-! ### rows that leave all that follows -/
def StR (n : Nat) (M : List Row) (r : Int) : Prop := row M r = (iota n, List.replicate n r)
instance (n : Nat) (M : List Row) (r : Int) : Decidable (StR n M r) := inferInstanceAs (Decidable (_ = _))
end Gu

set_option Elab.async false
set_option linter.all false
set_option maxRecDepth 100000
set_option maxHeartbeats 4000000
namespace Gu
open PySem L2
/-! ### how deep a guise goes -/
def goneTo (M : List Row) (rs : List Int) : List Int := uniq (rs.flatMap fun r => (row M r).2)
def mvF (n : Nat) (M : List Row) (rs : List Int) : List Int := rs.filter fun r => !decide (StR n M r)
def mvs (n : Nat) (M : List Row) : Nat → List Int
  | 0 => [0]
  | k + 1 => goneTo M (mvF n M (mvs n M k))
def dlp (n : Nat) (M : List Row) : Nat → Nat → Option Nat
  | 0, _ => none
  | f + 1, k => if mvF n M (mvs n M k) = [] then some k else dlp n M f (k + 1)
def dep (n : Nat) (M : List Row) : Option Nat := dlp n M M.length 0
def Lp (n : Nat) (M : List Row) (r : Int) : Prop := ∃ v, v ≠ [] ∧ LW n v ∧ goW M r v = r
end Gu

set_option Elab.async false
set_option linter.all false
set_option maxRecDepth 100000
set_option maxHeartbeats 4000000
namespace Gu
open PySem L2
/-! ### depths of sections, what lasts -/
noncomputable def lpB (n : Nat) (M : List Row) (j : Nat) : Bool := @decide (Lp n M (j : Int)) (Classical.propDecidable _)
end Gu

set_option Elab.async false
set_option linter.all false
set_option maxRecDepth 100000
set_option maxHeartbeats 4000000
namespace L2
open PySem PySem.Spec PyProof.Rows
section
variable {X : Cx}
end
end L2

set_option Elab.async false
set_option linter.all false
set_option maxRecDepth 100000
set_option maxHeartbeats 4000000
namespace L2
open PySem PySem.Spec PyProof.Rows
/-! ### {k: v for x in ..} of one clause and no test, its keys whole numbers or texts -/
section
variable {prog : Program} {w : World} {A : Around} {R : Result → Shared → Prop} {s : Shared}
end
section
variable {X : Cx} {pins : List (Addr × Obj)} {σ : St} {H : Hp} {s : Shared} {N : List Str} {ix : List (Option Nat)} {scope : Scope} {kx vx iter tg : Expr} {pos : Pos} {g : TG} {tk tv : TE} {E : Value → Shared → Prop}
end
section
variable {X : Cx} {pins : List (Addr × Obj)} {σ : St} {H : Hp} {s : Shared} {N : List Str} {ix : List (Option Nat)} {scope : Scope} {elt iter tg cx : Expr} {pos : Pos} {g : TG} {tt : TT} {te : TE} {E : Value → Shared → Prop}
end
end L2
namespace L2
open PySem PySem.Spec PyProof.Rows PySem.SeqAt
section
variable {X : Cx} (K : PySem.W.Frag)
end
end L2

set_option Elab.async false
set_option linter.all false
set_option maxRecDepth 100000
set_option maxHeartbeats 4000000
namespace Gu
open PySem L2
theorem D.depL_le {k : Nat} : ∀ {ds : List D}, (∀ d ∈ ds, D.dep d ≤ k) → D.depL ds ≤ k
  | [], _ => by simp only [D.depL]; omega
  | d :: ds, h => by
    have h1 := h d (by simp)
    have h2 := D.depL_le (ds := ds) fun x hx => h x (by simp [hx])
    simp only [D.depL]
    omega
theorem tup_over {H : Hp} {l : Addr} {ys : List V} {o : HO} (e : H l = some (.lst ys)) : ∀ b xs, H b = some (.tup xs) → upd H l o b = some (.tup xs) := fun b xs h => by
  rw [upd_ne (fun z => by subst z; rw [e] at h; cases h)]
  exact h
end Gu

set_option Elab.async false
set_option linter.all false
set_option maxRecDepth 100000
set_option maxHeartbeats 4000000
namespace Gu
open PySem L2
/-! ### rows gone to, rows that come again, depths: their promises -/
end Gu

set_option Elab.async false
set_option linter.all false
set_option maxRecDepth 100000
set_option maxHeartbeats 4000000
namespace Gu
open PySem L2
/-! ### machines that go round; the rows behind all words of a length -/
def At (n : Nat) (F : List Row) (i : Nat) (x : Int) : Prop := ∃ w, LW n w ∧ w.length = i ∧ goW F 0 w = x
/-! promises -/
end Gu
namespace L2
open PySem PySem.Spec PyProof.Rows
end L2
namespace L2
open PySem PySem.Spec PyProof.Rows
end L2
namespace Gu
open PySem L2
end Gu

set_option Elab.async false
set_option linter.all false
set_option maxRecDepth 100000
set_option maxHeartbeats 4000000
namespace L2
open PySem PySem.Spec PyProof.Rows PySem.SeqAt
open PySem.AutoSeq1 (wpAny_loadPart')
/-! ### sorted of a list of any length -/
section
variable {X : Cx} (K : PySem.W.Frag)
end
/-! ### xs[::k] of a list -/
section
variable {X : Cx} {e st : Expr} {te ts : TE} {pos p2 : Pos}
end
end L2

set_option Elab.async false
set_option linter.all false
set_option maxRecDepth 100000
set_option maxHeartbeats 4000000
namespace Gu
open PySem L2
/-! ### floors of what is joined -/
theorem comp_ints {K : PySem.W.Frag} {a l : Addr} {ns : List Int} {ix : List (Option Nat)} {g : TG} {te : TE} {σ : St} {H1 : Hp} {Qe : Hp → Prop} (f : Int → Int) (hl : H1 l = none) (ha : SqL K H1 a (ns.map V.int)) (hz : ns.length ≤ sizeLine)
    (hs : ∀ x ∈ ns, ∀ (H : Hp) (Q' : V → Hp → Prop), Same H1 H → Q' (.int (f x)) H → g (.int x) (compSt ix σ) H fun σ2 H2 => te σ2 H2 Q')
    (hd : ∀ H, Same H1 H → H l = some (.lst ((ns.map f).map V.int)) → Qe H) : compW ix (Itl K a) g te σ l (upd H1 l (.lst [])) Qe := by
  refine comp_list (xs := ns.map V.int) (fun i ys H => ys = ((ns.take i).map f).map V.int ∧ i ≤ ns.length ∧ Same H1 H) ⟨rfl, Nat.zero_le _, same_up (Same.refl H1) hl⟩ (fun i ys H _ h => h.2.2.seq ha) (by rw [List.length_map]; exact hz) (fun i ys H h => by rw [h.1, List.length_map, List.length_map, List.length_take]; have := h.2.1; omega) (fun i x ys H ex h hy => ?_) (fun ys H h hy => ?_)
  · obtain ⟨rfl, hi, s⟩ := h
    rw [List.getElem?_map] at ex
    have hi' : i < ns.length := by
      rcases Nat.lt_or_ge i ns.length with z | z
      · exact z
      · rw [List.getElem?_eq_none z] at ex; cases ex
    rw [List.getElem?_eq_getElem hi'] at ex
    cases ex
    refine hs _ (List.getElem_mem hi') H _ s ⟨hy, ?_, hi', same_over s hl⟩
    rw [List.take_add_one, List.getElem?_eq_getElem hi', List.map_append, List.map_append]
    rfl
  · obtain ⟨rfl, _, s⟩ := h
    rw [List.length_map, List.take_length] at hy
    exact hd H s hy
end Gu

set_option Elab.async false
set_option linter.all false
set_option maxRecDepth 100000
set_option maxHeartbeats 4000000
namespace L2
open PySem PySem.Spec PyProof.Rows
/-! ### the table of a set of tuples: a free place is found -/
def base (m : Nat) (q : Nat × Nat) (d : Option Nat) : SetTable.Probe := { j := q.1, more := SetTable.runEnd m q.1 - q.1, i := q.1, perturb := q.2, dummy := d }
def Within (t : SetTable) (p : SetTable.Probe) : Prop := p.j + p.more ≤ t.mask ∧ p.dummy = none
end L2

set_option Elab.async false
set_option linter.all false
set_option maxRecDepth 100000
set_option maxHeartbeats 4000000
namespace L2
open PySem PySem.Spec PyProof.Rows
end L2

set_option Elab.async false
set_option linter.all false
set_option maxRecDepth 100000
set_option maxHeartbeats 4000000
namespace L2
open PySem PySem.Spec PyProof.Rows
section
variable {prog : Program} {w : World} {A : Around} {E : Value → Shared → Prop} {s : Shared}
end
end L2

set_option Elab.async false
set_option linter.all false
set_option maxRecDepth 100000
set_option maxHeartbeats 4000000
namespace L2
open PySem PySem.Spec PyProof.Rows
section
variable {prog : Program} {w : World} {A : Around} {E : Value → Shared → Prop} {s : Shared} {a x : Addr} {es : Array (Int × Value)} {ep : Nat} {t : SetTable} {seen : List D} {d : D}
end
end L2

set_option Elab.async false
set_option linter.all false
set_option maxRecDepth 100000
set_option maxHeartbeats 4000000
namespace L2
open PySem PySem.Spec PyProof.Rows
section
variable {prog : Program} {w : World} {A : Around} {E : Value → Shared → Prop} {s : Shared} {a x : Addr} {seen : List D} {d : D}
end
end L2
namespace L2
open PySem PySem.Spec PyProof.Rows
section
variable {prog : Program} {w : World} {A : Around} {R : Result → Shared → Prop} {I : Addr} {fp wr : List Addr} {G : Array GenState → Array GenState → Prop} {n : Nat} {P : Nat → Value → Prop} {St : Nat → Shared → Prop}
end
section
variable {prog : Program} {w : World} {A : Around} {E : Value → Shared → Prop} {s : Shared}
end
end L2

set_option Elab.async false
set_option linter.all false
set_option maxRecDepth 100000
set_option maxHeartbeats 4000000
namespace L2
open PySem PySem.Spec PyProof.Rows PySem.SeqAt
/-! ### len(set(list of unlike nested tuples)) -/
section
variable {X : Cx} (K : PySem.W.Frag)
end
end L2

set_option Elab.async false
set_option linter.all false
set_option maxRecDepth 100000
set_option maxHeartbeats 4000000
namespace Gu
open PySem L2
end Gu
namespace Gu
open PySem L2
end Gu
namespace L2
open PySem
end L2

set_option Elab.async false
set_option linter.all false
set_option maxRecDepth 100000
set_option maxHeartbeats 4000000
namespace Gu
open PySem L2
/-! ### sections of sections, of ways back, of joined guises -/
end Gu

set_option Elab.async false
set_option linter.all false
set_option maxRecDepth 100000
set_option maxHeartbeats 4000000
namespace L2
open PySem PySem.Spec PyProof.Rows PySem.SeqAt
open PySem.AutoSeq1 (wpAny_loadPart')
/-! ### which of two things is less -/
mutual
def D.lt : D → D → Bool
  | .int a, .int b => decide (a < b)
  | .tup a, .tup b => D.ltL a b
  | _, _ => false
def D.ltL : List D → List D → Bool
  | d :: ds, e :: es => if D.eq d e = true then D.ltL ds es else D.lt d e
  | [], _ :: _ => true
  | _, [] => false
end
section
variable {X : Cx} {pins : List (Addr × Obj)} {s : Shared} {σ : St} {H : Hp}
end
end L2

set_option Elab.async false
set_option linter.all false
set_option maxRecDepth 100000
set_option maxHeartbeats 4000000
namespace L2
open PySem PySem.Spec PyProof.Rows PySem.SeqAt PySem.W
open PySem.AutoSeq1 (wpAny_loadPart')
/-! ### a list sorted by keys -/
section
variable {prog : Program} {w : World} {A : Around} {E : Value → Shared → Prop} {s : Shared} {α : Type} {kf : Keyed → α} {lt : α → α → Bool} {kd : SortKind}
end
end L2

set_option Elab.async false
set_option linter.all false
set_option maxRecDepth 100000
set_option maxHeartbeats 4000000
namespace L2
open PySem PySem.Spec PyProof.Rows PySem.SeqAt
open PySem.AutoSeq1 (wpAny_loadPart')
/-! ### sorted(set) of up to 4,000 ints -/
section
variable {X : Cx} (K : PySem.W.Frag)
end
end L2

set_option Elab.async false
set_option linter.all false
set_option maxRecDepth 100000
set_option maxHeartbeats 4000000
namespace L2
open PySem PySem.Spec PyProof.Rows
/-! ### a comprehension whose element raises -/
def FlyM (h0 : Heap) (H : Hp) (h : Heap) (ea C : Addr) (fl : Value) : Prop := h0.get? ea = none ∧ H ea = none ∧ ∃ a0 oe vs T oT ts, h.get? ea = some oe ∧ (oe.cls = .ref C ∧ vs[0]? = some a0) ∧ oe.data = .fields vs ∧ vs[1]? = some (.ref T) ∧ T ≠ ea ∧ h0.get? T = none ∧ H T = none ∧ h.get? T = some oT ∧ oT.data = .fields ts ∧ ts[3]? = some fl
section
variable {P : Program} {w : World}
theorem left_okM {fl : Value} {fr : List Addr} {H1 H' : Hp} {h1 h h' : Heap} {env : Env} {outer : List Env} {ea C : Addr} {a0 : Value} {base : Heap} {hid : List Addr} (FF : h.FunFrames base (env :: outer)) (u : Un fr [] H1 H' h1 h) (hok : HOk P w H' h)
    (hfr : ∀ b ∈ frs (env :: outer), H' b = none ∧ (b ∈ fr ∨ h1.get? b = none)) (hfr2 : ∀ b ∈ fr, b ∈ frs (env :: outer)) (he1 : h1.get? ea = none) (heH : H' ea = none) (hid1 : ∀ b ∈ hid, h1.get? b = none ∧ H' b = none)
    (lf : (PySem.W.hideAll h (ea :: (hid ++ frs (env :: outer)))).NotedW (env :: outer) ea (.ref C) a0 fl h h') :
    Un fr [] H1 H' h1 h' ∧ HOk P w H' h' ∧ FlyM h1 H' h' ea C fl := by
  obtain ⟨st, ff, tr, sl⟩ := lf
  have keep : ∀ b o, h.get? b = some o → b ≠ ea → b ∉ hid → b ∉ frs (env :: outer) → h'.get? b = some o := fun b o e n1 n2 n3 =>
    st b o (PySem.W.hideAll_get _ e fun z => by
      rcases List.mem_cons.mp z with z | z
      · exact n1 z
      · rcases List.mem_append.mp z with z | z
        · exact n2 z
        · exact n3 z)
  have slot : ∀ b o, h.get? b = some o → b ∈ frs (env :: outer) → ∃ s, h'.get? b = some { o with slots := s } := fun b o e hb => by
    obtain ⟨o', e', hd⟩ := funFrames_at FF b hb
    rw [e] at e'
    cases e'
    exact sl b o e hd
  have nh : ∀ b o, h1.get? b = some o → b ≠ ea ∧ b ∉ hid := fun b o e => ⟨fun z => (by rw [z, he1] at e; cases e), fun z => (by rw [(hid1 b z).1] at e; cases e)⟩
  refine ⟨⟨fun b o e n hb hx => ?_, fun b o e n hb hx => ?_, u.free, fun b o e hx => ?_, u.tups, u.frzs, u.tbls⟩, fun a o e => ?_, he1, heH, ?_⟩
  · have e2 := u.keep b o e n hb hx
    refine keep b o e2 (nh b o e).1 (nh b o e).2 fun z => ?_
    rcases (hfr b z).2 with z | z
    · exact hb z
    · rw [z] at e; cases e
  · obtain ⟨s1, e2⟩ := u.slot b o e n hb hx
    obtain ⟨s2, e3⟩ := slot b _ e2 (hfr2 b hb)
    exact ⟨s2, e3⟩
  · obtain ⟨o', e2⟩ := u.there b o e hx
    by_cases hb : b ∈ frs (env :: outer)
    · obtain ⟨s2, e3⟩ := slot b _ e2 hb
      exact ⟨_, e3⟩
    · exact ⟨o', keep b o' e2 (nh b o e).1 (nh b o e).2 hb⟩
  · refine (hok a o e).stay (fun b v hb q => ?_) (fun _ q => q) fun _ _ q => q
    have hbs : ∃ ob, H' b = some ob := by
      rcases hb with z | z
      · rw [z]; exact ⟨_, e⟩
      · exact ⟨_, z⟩
    obtain ⟨ob, hob⟩ := hbs
    refine keep b v q (fun z => ?_) (fun z => ?_) fun z => ?_
    · rw [z, heH] at hob; cases hob
    · rw [(hid1 b z).2] at hob; cases hob
    · rw [(hfr b z).1] at hob; cases hob
  · obtain ⟨oe, vs, T, oT, ts, g1, g2, g3, g4, g5, g6, g7, g8, g9⟩ := tr
    have hT : h1.get? T = none ∧ H' T = none := by
      cases eT : h.get? T with
      | none =>
        refine ⟨?_, ?_⟩
        · cases q : h1.get? T with
          | none => rfl
          | some o =>
            obtain ⟨o', e2⟩ := u.there T o q (by simp)
            rw [eT] at e2; cases e2
        · cases q : H' T with
          | none => rfl
          | some o =>
            obtain ⟨ob, hob⟩ := objThere (hok T o q)
            rw [eT] at hob; cases hob
      | some oT' =>
        have hm : T ∈ ea :: (hid ++ frs (env :: outer)) := Classical.byContradiction fun nm => by
          rw [PySem.W.hideAll_get _ eT nm] at g5; cases g5
        rcases List.mem_cons.mp hm with z | z
        · exact absurd z g6
        · rcases List.mem_append.mp z with z | z
          · exact hid1 T z
          · obtain ⟨o', e', hd⟩ := funFrames_at ff T z
            rw [g7] at e'
            cases e'
            exact absurd g8 (hd ts)
    exact ⟨a0, oe, vs, T, oT, ts, g1, g2, g3, g4, g6, hT.1, hT.2, g7, g8, g9⟩
theorem leave_at {M : Model} {A : Around} {E : Value → Shared → Prop} {s : Shared} {base : Heap} {env : Env} {outer : List Env} {L e : Addr} {cls a0 v : Value} {Q : Unit → Shared → Prop} (hA : A.frames = some (env :: outer)) (hl : s.heap.FunFrames base (env :: outer)) (hL : env.frame = some L)
    (ht : s.heap.TracedAtW base e cls a0 v) (hb : base.StaysIn s.heap) (he0 : base.get? e = none) (k : ∀ h', Heap.LeftW base (env :: outer) e cls a0 s.heap h' → Q () { s with heap := h' }) : wpAny M A (leaving env (.ref e)) Q E s := by
  obtain ⟨oe, vs, T, oT, ts, g1, ⟨g2, g20⟩, g3, g4, g5, g6, g7, g8, g9⟩ := id ht
  subst g2
  unfold leaving
  refine wpAny_bind ?_
  unfold noteFrame
  simp only [hL]
  refine wpAny_bind (wpAny_field g1 g3 g4 ?_)
  rw [if_pos (show (Value.ref T != .none) = true by simp)]
  refine wpAny_bind (wpAny_field g7 g8 g9 ?_)
  cases hv : v == rawInt L with
  | true =>
    rw [if_pos rfl]
    refine wpAny_pure (wpAny_setFlight_noneW hb hl ht fun h' k1 k2 k3 k4 => k h' ⟨k1, k2, k3, fun b o q hn => ⟨o.slots, k4 b o q hn⟩⟩)
  | false =>
    rw [if_neg (by simp)]
    refine wpAny_bind (wpAny_setField g7 g8 (Array.getElem?_eq_some_iff.mp g9).1 ?_)
    have oth : ∀ b, b ≠ T → (s.heap.update T (Obj.mapFields fun z => z.setIfInBounds 3 Value.none)).get? b = s.heap.get? b := fun b hb' => Heap.get?_update_other _ _ (Ne.symm hb')
    have nT : ∀ b o, s.heap.get? b = some o → (∀ z, o.data ≠ .fields z) → b ≠ T := fun b o q hn z => by
      rw [z, g7] at q; cases q; exact hn ts g8
    refine wpAny_newEntryW hA (hl.of_keeps fun b o q hn => ⟨o, (oth b (nT b o q hn)).trans q, rfl⟩) hL ((oth e (Ne.symm g6)).trans g1) (fun b o q => (oth b fun z => (by rw [z, g5] at q; cases q)).trans (hb b o q)) he0 g3 (Array.getElem?_eq_some_iff.mp g4).1 g20 fun h' x => k h' ⟨x.1, x.2.1, x.2.2.1, fun b o q hn => x.2.2.2 b o ((oth b (nT b o q hn)).trans q) hn⟩
section
variable {M : Model} {A : Around} {E : Value → Shared → Prop} {Q : Unit → Shared → Prop} {s : Shared} {fr : List Addr} {H1 H' : Hp} {h1 : Heap} {env : Env} {outer : List Env} {L ea C : Addr} {base : Heap} {fl : Value}
theorem noted_ok (hA : A.frames = some (env :: outer)) (hL : env.frame = some L) (FF : s.heap.FunFrames base (env :: outer)) (u : Un fr [] H1 H' h1 s.heap) (hok : HOk P w H' s.heap)
    (hfr : ∀ b ∈ frs (env :: outer), H' b = none ∧ (b ∈ fr ∨ h1.get? b = none)) (hfr2 : ∀ b ∈ fr, b ∈ frs (env :: outer)) (hf : Fly h1 H' s.heap ea C)
    (k : ∀ h', Un fr [] H1 H' h1 h' → HOk P w H' h' → FlyM h1 H' h' ea C (rawInt L) → s.heap.UpToSlots h' → Q () { s with heap := h' }) : wpAny M A (noteFrame (.ref ea) env) Q E s := by
  obtain ⟨he1, heH, a0, oe, vs, T, oT, ts, g1, g2, g3, g4, g5, g6, g7, g8, g9, g10⟩ := hf
  have FF' : s.heap.FunFrames (PySem.W.hideAll s.heap (ea :: ([T] ++ frs (env :: outer)))) (env :: outer) := funFrames_base FF fun b hb => PySem.W.hideAll_none _ (by simp [hb])
  refine wpAny_noteFrame_onW hA FF' hL ⟨oe, vs, T, oT, ts, g1, g2, g3, g4, PySem.W.hideAll_none _ (by simp), g5, g8, g9, g10⟩ (fun b o e => PySem.W.of_hideAll _ e) (PySem.W.hideAll_none _ (by simp)) fun h2 nt => ?_
  obtain ⟨a, b, c⟩ := left_okM (hid := [T]) FF u hok hfr hfr2 he1 heH (fun b hb => by rw [List.mem_singleton.mp hb]; exact ⟨g6, g7⟩) nt
  exact k h2 a b c nt.2.2.2
theorem pass_leave {what : String} {cenv : Env} (hA : A.frames = some (env :: outer)) (hL : env.frame = some L) (FF : s.heap.FunFrames base (env :: outer)) (u : Un fr [] H1 H' h1 s.heap) (hok : HOk P w H' s.heap)
    (hfr : ∀ b ∈ frs (env :: outer), H' b = none ∧ (b ∈ fr ∨ h1.get? b = none)) (hfr2 : ∀ b ∈ fr, b ∈ frs (env :: outer)) (hf : FlyM h1 H' s.heap ea C fl)
    (k : ∀ h', Un fr [] H1 H' h1 h' → HOk P w H' h' → Fly h1 H' h' ea C → Q () { s with heap := h' }) : wpAny M A (PySem.passOn what (.ref ea) cenv : Sem Value) (fun _ _ => False) (fun e s' => e = .ref ea ∧ wpAny M A (leaving env (.ref ea)) Q E s') s := by
  obtain ⟨he1, heH, a0, oe, vs, T, oT, ts, g1, ⟨g2, g20⟩, g3, g4, g5, g6, g7, g8, g9, g10⟩ := hf
  have FF' : s.heap.FunFrames (PySem.W.hideAll s.heap (ea :: ([T] ++ frs (env :: outer)))) (env :: outer) := funFrames_base FF fun b hb => PySem.W.hideAll_none _ (by simp [hb])
  unfold PySem.passOn setFlight
  refine wpAny_bind (wpAny_field g1 g3 g4 ?_)
  rw [if_neg (show ¬ ((Value.ref T == .none) = true) by simp)]
  refine wpAny_bind (wpAny_bind (wpAny_field g1 g3 g4 ?_))
  rw [if_pos (show (Value.ref T != .none) = true by simp)]
  refine wpAny_setField g8 g9 (Array.getElem?_eq_some_iff.mp g10).1 (wpAny_throw ⟨rfl, ?_⟩)
  have oth : ∀ b, b ≠ T → (s.heap.update T (Obj.mapFields fun z => z.setIfInBounds 3 (cenv.frame.elim Value.none fun f => rawInt f))).get? b = s.heap.get? b := fun b hb' => Heap.get?_update_other _ _ (Ne.symm hb')
  have nT : ∀ b o, s.heap.get? b = some o → (∀ z, o.data ≠ .fields z) → b ≠ T := fun b o q hn z => by
    rw [z, g8] at q; cases q; exact hn ts g9
  have sz : 3 < ts.size := (Array.getElem?_eq_some_iff.mp g10).1
  refine leave_at (base := PySem.W.hideAll s.heap (ea :: ([T] ++ frs (env :: outer)))) (cls := .ref C) (a0 := a0) (v := cenv.frame.elim Value.none fun f => rawInt f) hA (FF'.of_keeps fun b o q hn => ⟨o, (oth b (nT b o q hn)).trans q, rfl⟩) hL
    ⟨oe, vs, T, _, _, (oth ea (Ne.symm g5)).trans g1, ⟨g2, g20⟩, g3, g4, PySem.W.hideAll_none _ (by simp), g5, Heap.get?_update_self _ g8 (Obj.isFreed_of_fields (Obj.data_mapFields g9 _)), Obj.data_mapFields g9 _, by simp [sz]⟩
    (fun b o q => (oth b fun z => (by rw [z, PySem.W.hideAll_none _ (by simp)] at q; cases q)).trans (PySem.W.of_hideAll _ q)) (PySem.W.hideAll_none _ (by simp)) fun h' x => ?_
  obtain ⟨a, b, c⟩ := left_ok (h' := h') (C := C) (a0 := a0) (hid := [T]) FF u hok hfr hfr2 he1 heH (fun b hb => by rw [List.mem_singleton.mp hb]; exact ⟨g6, g7⟩) ⟨x.1, x.2.1, x.2.2.1, fun b o q hn => x.2.2.2 b o ((oth b (nT b o q hn)).trans q) hn⟩
  exact k h' a b c
end
end
def PassA (X : Cx) (E : XK) : Prop := ∀ (pins : List (Addr × Obj)) (σ : St) (H' : Hp) (s' : Shared) (ea C : Addr) (fl : Value) (cenv : Env), Inv X pins σ H' s' → FlyM X.s₀.heap H' s'.heap ea C fl → E (.ref ea) (some C) H' →
  wpAny (model X.prog X.w) X.A (PySem.passOn "comprehension.variables-let-go" (.ref ea) cenv : Sem Value) (fun _ _ => False) X.xe s'
theorem passA {P : Program} {w : World} {K : PySem.W.Frag} {mg : Str → Option Value} {base : Heap} {N : List Str} {qual : Str} {scope : Scope} {f : Addr} {cd : Value} {A : Around} {outer : List Env} {s : Shared} {H : Hp} {E : XK} : PassA (cxOf (CXx P w) P w K mg base N qual scope f cd A outer s H E) E := by
  intro pins σ H' s' ea C fl cenv J hf hE
  have hsub := J.stkSub
  have hfree := J.stkFree
  have hst := J.stack
  have hfrm := J.ok.frames
  refine wpAny_mono (pass_leave (P := P) (w := w) (fr := frs outer) (H1 := H) (H' := H') (h1 := s.heap) (base := base) (E := fun e' s'' => CXx P w outer H s E e' s'') (Q := fun _ s'' => CXx P w outer H s E (.ref ea) s'') (env := envOfC qual scope s.heap.objs.size f cd) (outer := outer) hfrm rfl hst J.base J.hok (fun b hb => ⟨hfree b hb, ?_⟩) (fun b hb => List.mem_cons_of_mem _ hb) hf fun h' a b c => ?_) (fun _ _ z => z) fun e s2 z => ?_
  · rcases List.mem_cons.mp (hsub b hb) with z | z
    · right
      rw [z]
      exact Heap.get?_none_of_le (Nat.le_refl _)
    · exact .inl z
  · exact ⟨ea, C, H', rfl, J.os, J.bare, a, b, c, hE⟩
  · obtain ⟨rfl, z⟩ := z
    exact z
def cxCompE (X : Cx) (N : List Str) (scope : Scope) (cl : List (Str × Addr)) (C : Addr) (ex : List Addr) (s : Shared) (H : Hp) (E : XK) : Cx :=
  { cxComp X N scope cl C ex s H with xe := fun e s' => ∃ (pins : List (Addr × Obj)) (σ : St) (H1 : Hp) (s1 : Shared), Inv (cxComp X N scope cl C ex s H) pins σ H1 s1 ∧ CXx X.prog X.w X.stack H1 s1 E e s' }
section
variable {X : Cx} {N : List Str} {scope : Scope} {cl : List (Str × Addr)} {C : Addr} {ex : List Addr} {s : Shared} {H : Hp} {E : XK} {pins : List (Addr × Obj)} {σ : St} {H' : Hp} {s' : Shared}
theorem Inv.unE (I : Inv (cxCompE X N scope cl C ex s H E) pins σ H' s') : Inv (cxComp X N scope cl C ex s H) pins σ H' s' :=
  ⟨⟨I.ok.mod, I.ok.kind, I.ok.glob, I.ok.blt, I.ok.above, I.ok.inj, I.ok.has, I.ok.cab, I.ok.hd, I.ok.frames, I.ok.stk, I.ok.exf, I.ok.bs, I.ok.bsz, I.ok.noex, I.ok.exfs, I.ok.funs, I.ok.frf⟩, I.os, I.bare, I.base, I.loc, I.cell, I.free, I.freeC, I.pin, I.hok, I.len⟩
theorem Inv.toE (I : Inv (cxComp X N scope cl C ex s H) pins σ H' s') : Inv (cxCompE X N scope cl C ex s H E) pins σ H' s' :=
  ⟨⟨I.ok.mod, I.ok.kind, I.ok.glob, I.ok.blt, I.ok.above, I.ok.inj, I.ok.has, I.ok.cab, I.ok.hd, I.ok.frames, I.ok.stk, I.ok.exf, I.ok.bs, I.ok.bsz, I.ok.noex, I.ok.exfs, I.ok.funs, I.ok.frf⟩, I.os, I.bare, I.base, I.loc, I.cell, I.free, I.freeC, I.pin, I.hok, I.len⟩
theorem passE : Passes (CXx X.prog X.w) (cxCompE X N scope cl C ex s H E) E := fun pins σ H1 s1 e s' I hx => ⟨pins, σ, H1, s1, I.unE, hx⟩
end
section
variable {prog : Program} {w : World} {A : Around} {R : Result → Shared → Prop} {s : Shared}
theorem comp_turnsX {elt tg iter : Expr} {scope : Scope} {pos : Pos} {it acc : Value} {env : Env} {EE : Value → Shared → Prop} (hE : ∀ e s', EE e s' → notedBy (model prog w) A env (fun x s'' => R (.error x) s'') e s') (I : Nat → Shared → Prop)
    (turn : ∀ n s, I n s → wpAny (model prog w) A (pyNext it) (fun r s1 => match r with
      | none => R (.ok .next) s1
      | some v => wpAny (model prog w) A (letOwnedTupleGo tg it v) (fun _ s2 => wpAny (model prog w) A (assign tg env v) (fun _ s3 => wpAny (model prog w) A (eval elt env) (fun x s4 =>
          wpAny (model prog w) A (call (.builtin "list.append") [acc, x]) (fun _ s5 => ∃ m, m < n ∧ I m s5) EE s4) EE s3) EE s2) noE s1) noE s)
    (n : Nat) (h : I n s) : codeAny (model prog w) A (.compLoop (.ListComp elt [⟨tg, iter, [], 0⟩] scope pos) 0 it acc env) R s := by
  have no : ∀ (P : Value → Shared → Prop) (a : Value) (b : Shared), noE a b → P a b := fun _ _ _ z => False.elim z
  refine codeAny_loop rfl I (fun n s hI => ?_) n h
  show wpAny _ _ ((compTurn (.ListComp elt [⟨tg, iter, [], 0⟩] scope pos) 0 it acc env).onRaise
    (fun x => do noteFrame x env; theTreesLotGoes x)) _ _ s
  refine wpAny_noted ?_
  rw [compTurn_list1]
  refine wpAny_bind (wpAny_standAt (wpAny_bind (wpAny_mono (turn n s hI) (fun r s1 h1 => ?_) (no _))))
  cases r with
  | none => exact wpAny_pure h1
  | some v =>
    refine wpAny_bind (wpAny_mono h1 (fun _ s2 h2 => ?_) (no _))
    refine wpAny_bind (wpAny_mono h2 (fun _ s3 h3 => ?_) hE)
    refine wpAny_bind (wpAny_bind (wpAny_mono h3 (fun x s4 h4 => ?_) hE))
    exact wpAny_bind (wpAny_mono h4 (fun _ s5 h5 => wpAny_pure (wpAny_pure ⟨rfl, h5⟩)) hE)
end
section
variable {X : Cx} {pins : List (Addr × Obj)} {σ : St} {H : Hp} {s : Shared} {N : List Str} {ix : List (Option Nat)} {scope : Scope} {elt iter tg : Expr} {pos : Pos} {g : TG} {te : TE} {E : Value → Shared → Prop}
theorem comp_blockX {E0 : XK} {it : Addr} {fp : List Addr} {tn : Nat → Heap → Prop} {J : It} {Qe : Addr → Hp → Prop} {RR : Value → Addr → Result → Shared → Prop} (hc : X.calm = true) (S : CompS X.N X.env.scope N ix scope)
    (hfr : X.env.frame = some X.env.locals) (hstk : X.stack = X.env :: X.outer) (hex : X.ex = []) (hg : ∀ cl C ex s H, PG (cxCompE X N scope cl C ex s H E0) tg g) (he : ∀ cl C ex s H, PE (cxCompE X N scope cl C ex s H E0) elt te)
    (I : Inv X pins σ H s) (T : Turn X.prog X.w X.K tg J fp it tn) (st : tn 0 s.heap) (hf : ∀ b ∈ fp, FpOk X pins H b)
    (hw : ∀ l, H l = none → compW ix J g te σ l (upd H l (.lst [])) (Qe l))
    (hRR : ∀ l C s' H' m, s'.heap.Ns C m → Inv X pins σ H' s' → FpOk X pins H' C → Qe l H' → RR (.ref l) C (.ok .next) s')
    (hRX : ∀ l C s' H' m ea Ce, s'.heap.Ns C m → Inv X pins σ H' s' → FpOk X pins H' C → FlyM X.s₀.heap H' s'.heap ea Ce (rawInt X.env.locals) → E0 (.ref ea) (some Ce) H' → RR (.ref l) C (.error (.ref ea)) s') :
    wpAny (model X.prog X.w) X.A (newList []) (fun acc s3 => wpAny (model X.prog X.w) X.A (newFunctionEnv scope X.env.globals (closeL X.env.cells scope.names []) [] X.env.qual none .none (some X.env)) (fun cenv s4 =>
      codeAny (model X.prog X.w) X.A (.compStart (.ListComp elt [⟨tg, iter, [], 0⟩] scope pos) 0 (.ref it) acc { cenv with scope := relabel scope X.env }) (RR acc cenv.locals) s4) E s3) E s := by
  have hlt : ∀ b ∈ fp, b < s.heap.objs.size := fun b hb => by
    obtain ⟨o, e, _⟩ := T.obj 0 s.heap st b hb
    exact Heap.lt_size e
  have hl0 : H s.heap.objs.size = none := I.fresh
  obtain ⟨W, ⟨m0, w0⟩, turn⟩ := hw s.heap.objs.size hl0
  refine wpAny_newObj_type ?_
  generalize hs3 : ({ s with heap := s.heap.push { cls := .type "list", dict := none, data := .seq ([] : List Value).toArray } } : Shared) = s3
  have I3 : Inv X pins σ (upd H s.heap.objs.size (.lst [])) s3 := by
    rw [← hs3]
    exact I.lnew (its := []) (t' := s.toks) .nil (Nat.zero_le _)
  have k3 : ∀ b o, s.heap.get? b = some o → s3.heap.get? b = some o := fun b o e => by
    rw [← hs3]; exact Heap.get?_push_of_some _ e
  have sz3 : s3.heap.objs.size = s.heap.objs.size + 1 := by rw [← hs3]; exact Heap.size_push ..
  have lnfp : s.heap.objs.size ∉ fp := fun hb => Nat.lt_irrefl _ (hlt _ hb)
  have st3 : tn 0 s3.heap := T.keep 0 _ _ st fun b _ o e => k3 b o e
  have hf3 : ∀ b ∈ fp, FpOk X pins (upd H s.heap.objs.size (.lst [])) b := fun b hb => by
    obtain ⟨f0, f⟩ := hf b hb
    have nb : b ≠ s.heap.objs.size := fun e => lnfp (by rw [← e]; exact hb)
    exact ⟨by rw [upd_ne nb]; exact f0, f⟩
  have hlt3 : ∀ b ∈ fp, b < s3.heap.objs.size := fun b hb => by rw [sz3]; exact Nat.lt_succ_of_lt (hlt b hb)
  clear hs3
  refine wpAny_newFunctionEnv S.nocell (by intro y hy; simp at hy) (fun h1 hn1 hb1 => ?_) S.kind
  have hk1 : ∀ b o, s3.heap.get? b = some o → h1.get? b = some o := fun b o e =>
    (hb1.2 b (Nat.ne_of_lt (Heap.lt_size e))).trans (Heap.get?_push_of_some _ e)
  have J0 : Inv (cxCompE X N scope (closeL X.env.cells scope.names []) s3.heap.objs.size fp s3 (upd H s.heap.objs.size (.lst [])) E0) [] (compSt ix σ) (upd H s.heap.objs.size (.lst [])) { s3 with heap := h1, toks := s3.toks + ([] : List (Str × Value)).length } :=
    (comp_inv I3 S rfl hf3 hlt3 hn1 hk1).toE
  have st1 : tn 0 h1 := T.keep 0 _ _ st3 fun b _ o e => hk1 b o e
  have fpY : ∀ {Hc : Hp}, (∀ b ∈ fp, Hc b = none) → ∀ b ∈ fp, FpOk (cxCompE X N scope (closeL X.env.cells scope.names []) s3.heap.objs.size fp s3 (upd H s.heap.objs.size (.lst [])) E0) [] Hc b := fun {Hc} hn b hb => by
    obtain ⟨_, f1, f2, _, f4, _⟩ := hf3 b hb
    refine ⟨hn b hb, Nat.ne_of_lt (hlt3 b hb), fun hb2 => (List.mem_cons.mp (I3.stkSub b hb2)).elim f1 f2, .inl hb, fun x c e => f4 x c (comp_look I3 S e), fun p hp => absurd (show p ∈ ([] : List (Addr × Obj)) from hp) (by simp)⟩
  have loop : ∀ s4 : Shared, s4 = ({ s3 with heap := h1, toks := s3.toks + ([] : List (Str × Value)).length } : Shared) → codeAny (model X.prog X.w) X.A (.compLoop (.ListComp elt [⟨tg, iter, [], 0⟩] scope pos) 0 (.ref it) (.ref s.heap.objs.size)
      (compEnvC scope (closeL X.env.cells scope.names []) s3.heap.objs.size X.env)) (RR (.ref s.heap.objs.size) s3.heap.objs.size) s4 := by
    intro s4 hs4
    subst hs4
    refine comp_turnsX (EE := (cxCompE X N scope (closeL X.env.cells scope.names []) s3.heap.objs.size fp s3 (upd H s.heap.objs.size (.lst [])) E0).xe) (fun e s' z => ?_) (fun n s' => ∃ i ys Hc, Inv (cxCompE X N scope (closeL X.env.cells scope.names []) s3.heap.objs.size fp s3 (upd H s.heap.objs.size (.lst [])) E0) [] (compSt ix σ) Hc s' ∧ tn i s'.heap ∧ (∀ b ∈ fp, Hc b = none) ∧ Hc s.heap.objs.size = some (.lst ys) ∧ W i n ys Hc) ?_ m0 ⟨0, [], _, J0, st1, fun b hb => (hf3 b hb).1, upd_same, w0⟩
    · obtain ⟨pins', σ', H1, s1, J1, ea, Ce, H', rfl, os, bare, un, hok, fly, hEE⟩ := z
      have J := J1.call' (ch := []) os un hok bare (fun b z => absurd z (by simp))
      have FF : s'.heap.FunFrames X.base (X.env :: X.outer) := by rw [← hstk]; exact J.stack
      have un' : Un (frs (X.env :: X.outer)) [] H1 H' s1.heap s'.heap := by rw [← hstk]; exact un
      have hfree : ∀ b ∈ frs (X.env :: X.outer), H' b = none ∧ (b ∈ frs (X.env :: X.outer) ∨ s1.heap.get? b = none) := fun b hb => ⟨J.stkFree b (by show b ∈ frs X.stack; rw [hstk]; exact hb), .inl hb⟩
      show wpAny (model X.prog X.w) X.A (noteFrame (.ref ea) X.env) _ _ s'
      refine noted_ok (P := X.prog) (w := X.w) (fr := frs (X.env :: X.outer)) (H1 := H1) (H' := H') (h1 := s1.heap) (base := X.base) (outer := X.outer) (L := X.env.locals) (by rw [I.ok.frames, hstk]) hfr FF un' hok hfree (fun b hb => hb) fly fun h2 u2 k2 f2 _ => ?_
      have J2 := J1.call' (s' := { s' with heap := h2 }) (ch := []) os (by show Un (frs X.stack) [] H1 H' s1.heap h2; rw [hstk]; exact u2) k2 bare (fun b z => absurd z (by simp))
      have I6 : Inv X pins σ H' { s' with heap := h2 } := I3.call' (ch := fp) J2.os J2.base J2.hok J2.bare fun b hb => by
        obtain ⟨_, f1, f2, f3, f4, f5⟩ := hf3 b hb
        exact ⟨f3, f1, f4, f5⟩
      obtain ⟨m6, hn6, _⟩ := J2.loc
      have up : ∀ b, s1.heap.get? b = none → X.s₀.heap.get? b = none := fun b z => by
        cases q : X.s₀.heap.get? b with
        | none => rfl
        | some o =>
          obtain ⟨o3, e3⟩ := I3.base.there b o q (by rw [hex]; simp)
          obtain ⟨o4, e4⟩ := J1.base.there b o3 e3 (fun hb => by
            obtain ⟨_, _, _, f3, _⟩ := hf3 b hb
            rcases f3 with f3 | f3
            · rw [hex] at f3; cases f3
            · exact absurd (Nat.lt_of_lt_of_le (Heap.lt_size q) f3) (Nat.lt_irrefl _))
          rw [z] at e4; cases e4
      obtain ⟨a1, a2, a0, oe, vs, T, oT, ts, g1, g2, g3, g4, g5, g6, r⟩ := f2
      exact hRX _ _ _ H' m6 ea Ce hn6 I6 (I3.fpOk (Nat.le_refl _) J2.free) ⟨up _ a1, a2, a0, oe, vs, T, oT, ts, g1, g2, g3, g4, g5, up _ g6, r⟩ hEE
    rintro n s5 ⟨i, ys, Hc, J5, st5, fr5, hl5, w5⟩
    rcases turn i n ys Hc w5 hl5 with ⟨stop, qe⟩ | ⟨go, hz, NN, hNN, step⟩
    · refine thn (T.done (cxCompE X N scope (closeL X.env.cells scope.names []) s3.heap.objs.size fp s3 (upd H s.heap.objs.size (.lst [])) E0) rfl rfl rfl hc i [] s5 _ Hc noE J5 (fpY fr5) st5 stop) fun r s6 ⟨hr, J6⟩ => ?_
      subst hr
      have I6 : Inv X pins σ Hc s6 := I3.call' (ch := fp) J6.os J6.base J6.hok J6.bare fun b hb => by
        obtain ⟨_, f1, f2, f3, f4, f5⟩ := hf3 b hb
        exact ⟨f3, f1, f4, f5⟩
      obtain ⟨m6, hn6, _⟩ := J6.loc
      exact hRR _ _ s6 Hc m6 hn6 I6 (I3.fpOk (Nat.le_refl _) J6.free) qe
    · refine thn (T.item (cxCompE X N scope (closeL X.env.cells scope.names []) s3.heap.objs.size fp s3 (upd H s.heap.objs.size (.lst [])) E0) rfl rfl rfl hc i [] s5 _ Hc noE J5 (fpY fr5) st5 go) fun r s6 ⟨u, hr, h6⟩ => ?_
      subst hr
      refine thn h6 fun _ s7 ⟨x, H7, J7, r7, y7, st7, fr7⟩ => ?_
      have J7' := J7.pinned (fpY fr7) (T.obj _ _ st7)
      refine thn (hg _ _ _ _ _ _ s7 _ H7 x u _ J7' r7 (step x H7 y7)) fun _ s8 ⟨σ8, H8, J8, q8⟩ => ?_
      refine wpAny_mono (he _ _ _ _ _ _ s8 σ8 H8 _ J8 q8) (fun y s9 ⟨v, H9, J9, r9, hl9, n9⟩ => ?_) fun _ _ z => z
      obtain ⟨m', hm', w9⟩ := hNN _ _ n9
      refine thn (mt_append (X := cxCompE X N scope (closeL X.env.cells scope.names []) s3.heap.objs.size fp s3 (upd H s.heap.objs.size (.lst [])) E0) _ s9 σ8 H9 (.ref s.heap.objs.size) [v] (.ref s.heap.objs.size) [y]
        (fun z Hz => z = .non ∧ Hz = upd H9 s.heap.objs.size (.lst (ys ++ [v]))) J9 rfl (.cons r9 .nil) ⟨_, ys, v, rfl, rfl, hl9, hz, rfl, rfl⟩) fun _ s10 ⟨_, H10, J10, _, _, e10⟩ => ?_
      subst e10
      have len8 : (compSt ix σ).length = σ8.length := by
        rw [J10.len]
        unfold compSt
        rw [List.length_map]
        exact S.len
      refine ⟨m', hm', i + 1, ys ++ [v], _, ?_, T.keep _ _ _ st7 fun b hb o e => (J10.pin (b, o) (List.mem_append_right _ (List.mem_append_right _ (mem_pinsAt hb e)))).1, fun b hb => ?_, upd_same, w9⟩
      · exact (comp_again I3 S J10.unE).toE
      · obtain ⟨o, e, d⟩ := T.obj _ _ st7 b hb
        exact (J10.pin (b, o) (List.mem_append_right _ (List.mem_append_right _ (mem_pinsAt hb e)))).2.1
  exact codeAny_compStart_list (loop _ rfl) (T.self _ 0 _ _ _ st1 (loop _ rfl))
end
end L2

set_option Elab.async false
set_option linter.all false
set_option maxRecDepth 100000
set_option maxHeartbeats 4000000
namespace Gu
open PySem L2
/-! ### what ways lead to -/
def lbf (g : Int → List Int) : Nat → Nat → List Int → List Int
  | 0, _, o => o
  | f + 1, i, o => match o[i]? with
    | none => o
    | some r => lbf g f (i + 1) (addAll o (g r))
def gof (W : List (List Int)) (x : Int) : List Int := W.map fun w => w.getD x.toNat 0
def cmp (L : Nat) (W : List (List Int)) (x : Int) : List Int := lbf (gof W) (L + 1) 0 [x]
section
variable {L : Nat} {W : List (List Int)} (hW : ∀ w ∈ W, IsP L w)
include hW
end
def led (L : Nat) (W : List (List Int)) (x : Int) : List Int := (iota L).filter fun y => decide (y ∈ cmp L W x)
end Gu

set_option Elab.async false
set_option linter.all false
set_option maxRecDepth 100000
set_option maxHeartbeats 4000000
namespace L2
open PySem PySem.Spec PyProof.Rows PySem.SeqAt
/-! ### sorted(dict) of ints -/
section
variable {prog : Program} {w : World} {A : Around} {E : Value → Shared → Prop} {s : Shared} {T : String} {r d : Addr} {n : Nat} {P : Nat → Value → Prop} {OK : Heap → Prop}
end
section
variable {X : Cx} (K : PySem.W.Frag)
end
end L2

set_option Elab.async false
set_option linter.all false
set_option maxRecDepth 100000
set_option maxHeartbeats 4000000
namespace L2
open PySem PySem.Spec PyProof.Rows PySem.SeqAt
/-! ### the keys of a dict, one by one, whatever they are -/
section
variable {prog : Program} {w : World} {A : Around} {E : Value → Shared → Prop} {s : Shared} {d it : Addr} {ks : List Value} {ep i : Nat}
end
end L2

set_option Elab.async false
set_option linter.all false
set_option maxRecDepth 100000
set_option maxHeartbeats 4000000
namespace L2
open PySem PySem.Spec PyProof.Rows PySem.SeqAt PySem.W
/-! ### an order of ints and tuples of such -/
mutual
def D.ltK : D → D → Bool
  | .int a, .int b => decide (a < b)
  | .int _, .tup _ => true
  | .tup a, .tup b => D.ltKL a b
  | _, _ => false
def D.ltKL : List D → List D → Bool
  | d :: ds, e :: es => if D.eq d e = true then D.ltKL ds es else D.ltK d e
  | [], _ :: _ => true
  | _, [] => false
end
abbrev DK := { d : D // D.key d }
def DK.lt (a b : DK) : Bool := D.ltK a.1 b.1
section
variable {X : Cx} {pins : List (Addr × Obj)} {s : Shared} {σ : St} {H : Hp} {prog : Program} {w : World} {A : Around} {E : Value → Shared → Prop}
end
end L2

set_option Elab.async false
set_option linter.all false
set_option maxRecDepth 100000
set_option maxHeartbeats 4000000
namespace L2
open PySem PySem.Spec PyProof.Rows PySem.SeqAt PySem.W
/-! ### sorted(dict, key=..) where the key is a pair, the first of it a number -/
section
variable {X : Cx} {CX : CXT} {k : Nat} {pins : List (Addr × Obj)} {s : Shared} {σ : St} {H : Hp} {p fa : Addr} {sz : D → Int} {E : Value → Shared → Prop}
end
end L2

set_option Elab.async false
set_option linter.all false
set_option maxRecDepth 100000
set_option maxHeartbeats 4000000
namespace L2
open PySem PySem.Spec PyProof.Rows PySem.SeqAt PySem.W
section
variable {X : Cx} {CX : CXT} {k : Nat} {N : List Str} {ix : List (Option Nat)} {params : Arguments} {body : Expr} {lsc : Scope} {lpos : Pos} {c : Addr} {T : Tb} {Ts : List Tb} {p pos kp : Pos} {e0 : Expr} {t0 : TE} {sz : D → Int}
end
end L2

set_option Elab.async false
set_option linter.all false
set_option maxRecDepth 100000
set_option maxHeartbeats 4000000
namespace L2
open PySem PySem.Spec PyProof.Rows PySem.SeqAt PySem.W
section
variable {X : Cx} (K : PySem.W.Frag)
end
section
variable {X : Cx} {pins : List (Addr × Obj)} {s : Shared} {σ : St} {H : Hp} {sz : D → Int} {E : Value → Shared → Prop}
end
section
variable {X : Cx} (K : PySem.W.Frag)
end
end L2

set_option Elab.async false
set_option linter.all false
set_option maxRecDepth 100000
set_option maxHeartbeats 4000000
namespace Gu
open PySem L2
/-! ### crews -/
end Gu

set_option Elab.async false
set_option linter.all false
set_option maxRecDepth 100000
set_option maxHeartbeats 4000000
namespace Gu
open PySem L2
/-! ### each of some with each of others -/
end Gu

set_option Elab.async false
set_option linter.all false
set_option maxRecDepth 100000
set_option maxHeartbeats 4000000
namespace L2
open PySem PySem.Spec PyProof.Rows
/-! ### sets of tuples in which some are alike: what was put in is found again -/
section
variable {prog : Program} {w : World} {A : Around} {E : Value → Shared → Prop} {s : Shared} {a x : Addr} {es : Array (Int × Value)} {ep : Nat} {t : SetTable} {seen : List D} {d : D}
end
end L2

set_option Elab.async false
set_option linter.all false
set_option maxRecDepth 100000
set_option maxHeartbeats 4000000
namespace L2
open PySem PySem.Spec PyProof.Rows
/-! ### a table laid anew: all is found again -/
end L2

set_option Elab.async false
set_option linter.all false
set_option maxRecDepth 100000
set_option maxHeartbeats 4000000
namespace L2
open PySem PySem.Spec PyProof.Rows
/-! ### set(list of nested tuples, some of them alike) -/
section
variable {prog : Program} {w : World} {A : Around} {E : Value → Shared → Prop} {s : Shared} {a x : Addr} {seen : List D} {d : D}
end
end L2

set_option Elab.async false
set_option linter.all false
set_option maxRecDepth 100000
set_option maxHeartbeats 4000000
namespace L2
open PySem PySem.Spec PyProof.Rows
section
variable {prog : Program} {w : World} {A : Around} {R : Result → Shared → Prop} {I : Addr} {fp wr : List Addr} {G : Array GenState → Array GenState → Prop} {n : Nat} {P : Nat → Value → Prop} {St : Nat → Shared → Prop} {Ps : Value → Prop}
end
section
variable {prog : Program} {w : World} {A : Around} {E : Value → Shared → Prop} {s : Shared}
end
end L2

set_option Elab.async false
set_option linter.all false
set_option maxRecDepth 100000
set_option maxHeartbeats 4000000
namespace L2
open PySem PySem.Spec PyProof.Rows PySem.SeqAt PySem.W
/-! ### sorted(set(list of pairs)) -/
section
variable {X : Cx} (K : PySem.W.Frag)
end
end L2

set_option Elab.async false
set_option linter.all false
set_option maxRecDepth 100000
set_option maxHeartbeats 4000000
namespace Gu
open PySem L2
/-! ### crews told by a law: all sections, each once, sorted -/
theorem cutV_take (xs : List V) (k : Nat) : cutV xs none (some (k : Int)) = xs.take k := by
  unfold cutV
  rw [HT.sIx_none, HT.sIx_nat, List.drop_zero, Nat.sub_zero]
  rcases Nat.le_total k xs.length with z | z
  · rw [Nat.min_eq_left z]
  · rw [Nat.min_eq_right z, List.take_length, List.take_of_length_le z]
end Gu

set_option Elab.async false
set_option linter.all false
set_option maxRecDepth 100000
set_option maxHeartbeats 4000000
namespace L2
mutual
def D.flat : D → Prop
  | .tup ds => D.flatL ds
  | .lst _ => False
  | _ => True
def D.flatL : List D → Prop
  | [] => True
  | d :: ds => D.flat d ∧ D.flatL ds
end
mutual
theorem Dr.flat {K : PySem.W.Frag} {H H' : Hp} (k : ∀ b xs, H b = some (.tup xs) → H' b = some (.tup xs)) : ∀ {d : D} {v : V}, D.flat d → Dr K H d v → Dr K H' d v
  | .non, _, _, h => by simp only [Dr] at h ⊢; exact h
  | .bl _, _, _, h => by simp only [Dr] at h ⊢; exact h
  | .int _, _, _, h => by simp only [Dr] at h ⊢; exact h
  | .str _, _, _, h => by simp only [Dr] at h ⊢; exact h
  | .lst _, _, q, _ => by simp only [D.flat] at q
  | .tup ds, _, q, h => by
    simp only [Dr] at h ⊢
    simp only [D.flat] at q
    obtain ⟨a, vs, e, z, r⟩ := h
    exact ⟨a, vs, e, k a vs z, DrL.flat k q r⟩
theorem DrL.flat {K : PySem.W.Frag} {H H' : Hp} (k : ∀ b xs, H b = some (.tup xs) → H' b = some (.tup xs)) : ∀ {ds : List D} {vs : List V}, D.flatL ds → DrL K H ds vs → DrL K H' ds vs
  | [], _, _, h => by simp only [DrL] at h ⊢; exact h
  | d :: ds, _, q, h => by
    simp only [DrL] at h ⊢
    simp only [D.flatL] at q
    obtain ⟨v, r, e, q1, q2⟩ := h
    exact ⟨v, r, e, Dr.flat k q.1 q1, DrL.flat k q.2 q2⟩
end
theorem flatL_all {l : List D} : D.flatL l ↔ ∀ d ∈ l, D.flat d := by
  induction l with
  | nil => simp [D.flatL]
  | cons d l ih => simp only [D.flatL, ih, List.forall_mem_cons]
end L2
namespace Gu
open PySem L2
/-! ### names, figures, words, rows as texts -/
abbrev str (s : String) : Str := Str.ofString s
def nameB (x : Str) : Bool := decide (1 ≤ x.length ∧ x.length ≤ 12) && (sg x).all fun c => decide (97 ≤ c ∧ c ≤ 122)
def figsB (x : Str) : Bool := decide (0 < x.length) && (sg x).all fun c => decide (48 ≤ c ∧ c ≤ 57)
theorem sg_small : sg (str "abcdefghijklmnopqrstuvwxyz") = List.range' 97 26 := by decide +kernel
theorem sg_figs : sg (str "0123456789") = List.range' 48 10 := by decide +kernel
theorem in_small (c : Nat) : (!(Builtin.Str.occurrences (str "abcdefghijklmnopqrstuvwxyz") ⟨#[c]⟩ 0 (str "abcdefghijklmnopqrstuvwxyz").length 1).isEmpty) = decide (97 ≤ c ∧ c ≤ 122) := by
  rw [StrLaws.found_one]
  show decide (c ∈ sg (str "abcdefghijklmnopqrstuvwxyz")) = _
  rw [sg_small, decide_eq_decide, List.mem_range'_1]
  omega
theorem in_figs (c : Nat) : (!(Builtin.Str.occurrences (str "0123456789") ⟨#[c]⟩ 0 (str "0123456789").length 1).isEmpty) = decide (48 ≤ c ∧ c ≤ 57) := by
  rw [StrLaws.found_one]
  show decide (c ∈ sg (str "0123456789")) = _
  rw [sg_figs, decide_eq_decide, List.mem_range'_1]
  omega
def spIsName : Sp := fun vs H Q _ => ∃ x : Str, vs = [.str x] ∧ x.length ≤ 1000000 ∧ ∀ H', Same H H' → Q (.bl (nameB x)) H'
def spAreF : Sp := fun vs H Q _ => ∃ x : Str, vs = [.str x] ∧ x.length ≤ 1000000 ∧ ∀ H', Same H H' → Q (.bl (figsB x)) H'
def numT (i : Int) : Str := str (toString i)
def textD : D → Str
  | .int i => numT i
  | .str x => x
  | _ => Str.empty
def wordS (w : List Int) : Str := if w = [] then str "-" else Str.join (str "") (w.map numT)
def Figs (w : List Int) : Prop := w.length ≤ 100 ∧ ∀ i ∈ w, 0 ≤ i ∧ i ≤ 9
def spWordW (K : PySem.W.Frag) : Sp := fun vs H Q _ => ∃ (a : Addr) (w : List Int), vs = [.ref a] ∧ SqT K H a (w.map V.int) ∧ Figs w ∧ ∀ H', Same H H' → Q (.str (wordS w)) H'
theorem log_small {i : Int} (h : i.natAbs < 10 ^ 61) : i.natAbs.log2 < 1920 := by
  rcases Nat.eq_zero_or_pos i.natAbs with z | z
  · rw [z]; decide
  · exact (Nat.log2_lt (by omega)).mpr (Nat.lt_of_lt_of_le h (by decide +kernel))
theorem num_len {n : Nat} (h : n < 10 ^ 60) : 1 ≤ (numS n).length ∧ (numS n).length ≤ 60 := by
  rw [← sg_len, sg_num, List.length_map]
  exact ⟨toDigits_len_ge 10 n, toDigits_len_pow (by decide) (by decide) h⟩
theorem fig_len {i : Int} (h0 : 0 ≤ i) (h9 : i ≤ 9) : (numT i).length = 1 := by
  obtain ⟨n, rfl⟩ := Int.eq_ofNat_of_zero_le h0
  rw [show numT ((n : Nat) : Int) = numS n from rfl, ← sg_len, sg_num, List.length_map]
  rw [Nat.toDigits_of_lt_base (by omega)]
  rfl
theorem sum_ones {l : List Str} (h : ∀ x ∈ l, x.length = 1) : (l.map (·.length)).sum = l.length := by
  induction l with
  | nil => rfl
  | cons x l ih => rw [List.map_cons, List.sum_cons, h x List.mem_cons_self, ih fun y hy => h y (List.mem_cons_of_mem _ hy), List.length_cons]; omega
end Gu

set_option Elab.async false
set_option linter.all false
set_option maxRecDepth 100000
set_option maxHeartbeats 4000000
namespace Gu
open PySem L2
/-! ### the signs of what is written -/
theorem join_empty : ∀ xs : List Str, sg (Str.join (str "") xs) = (xs.map sg).flatten
  | [] => rfl
  | [x] => by show sg x = _; simp
  | x :: z :: r => by
    show sg (x ++ str "" ++ Str.join (str "") (z :: r)) = _
    rw [sg_app, sg_app, join_empty (z :: r)]
    show sg x ++ [] ++ _ = _
    simp
theorem join_most {y : Str} {xs : List Str} {B : Nat} (h : ∀ x ∈ xs, x.length ≤ B) : (Str.join y xs).length ≤ xs.length * (B + y.length) ∧ (xs.map (·.length)).sum + xs.length * y.length ≤ xs.length * (B + y.length) := by
  have h1 := StrLaws.join_length_le y xs
  have h2 := StrLaws.sumLen_le xs h
  rw [Nat.mul_add]
  exact ⟨by omega, by omega⟩
theorem sg_fig {i : Int} (h0 : 0 ≤ i) (h9 : i ≤ 9) : sg (numT i) = [48 + i.toNat] := by
  obtain ⟨n, rfl⟩ := Int.eq_ofNat_of_zero_le h0
  rw [show numT ((n : Nat) : Int) = numS n from rfl, sg_num, Nat.toDigits_of_lt_base (by omega)]
  have : ∀ n : Nat, n < 10 → [Nat.digitChar n].map Char.toNat = [48 + n] := by decide
  exact this n (by omega)
theorem sg_word {w : List Int} (hf : Figs w) (hne : w ≠ []) : sg (wordS w) = w.map fun i => 48 + i.toNat := by
  unfold wordS
  rw [if_neg hne, join_empty, List.map_map]
  have h := hf.2
  clear hne hf
  induction w with
  | nil => rfl
  | cons i w ih =>
    rw [List.map_cons, List.flatten_cons, List.map_cons, ih fun j hj => h j (List.mem_cons_of_mem _ hj)]
    show sg (numT i) ++ _ = _
    rw [sg_fig (h i List.mem_cons_self).1 (h i List.mem_cons_self).2]
    rfl
theorem word_len {w : List Int} (hf : Figs w) : 1 ≤ (wordS w).length ∧ (wordS w).length ≤ 100 := by
  by_cases hne : w = []
  · subst hne; exact ⟨by decide +kernel, by decide +kernel⟩
  · rw [← sg_len, sg_word hf hne, List.length_map]
    have := List.length_pos_iff.mpr hne
    exact ⟨this, hf.1⟩
theorem word_signs {w : List Int} (hf : Figs w) : ∀ c ∈ sg (wordS w), c = 45 ∨ (48 ≤ c ∧ c ≤ 57) := fun c hc => by
  by_cases hne : w = []
  · subst hne
    have e : sg (wordS []) = [45] := by decide +kernel
    rw [e] at hc
    exact .inl (List.mem_singleton.mp hc)
  · rw [sg_word hf hne] at hc
    obtain ⟨i, hi, rfl⟩ := List.mem_map.mp hc
    obtain ⟨h0, h9⟩ := hf.2 i hi
    exact .inr (by omega)
def GoodG (g : D) : Prop := (∃ x, g = .str x ∧ nameB x = true) ∨ ∃ n : Nat, g = .int n ∧ n < 10 ^ 60
abbrev Row7 := List Int × List D
def rD (r : Row7) : D := .tup [D.its r.1, .tup r.2]
structure GoodR (r : Row7) : Prop where
  some : r.1 ≠ []
  figs : Figs r.1
  few : r.2.length ≤ 10
  go : ∀ g ∈ r.2, GoodG g
def rowS (r : Row7) : Str := Str.join (str " ") (wordS r.1 :: r.2.map textD)
def rowsS (rs : List Row7) : Str := Str.join (str " / ") (rs.map rowS)
theorem name_len {x : Str} (h : nameB x = true) : 1 ≤ x.length ∧ x.length ≤ 12 := by
  unfold nameB at h
  rw [Bool.and_eq_true] at h
  exact of_decide_eq_true h.1
theorem name_signs {x : Str} (h : nameB x = true) : ∀ c ∈ sg x, 97 ≤ c ∧ c ≤ 122 := fun c hc => by
  unfold nameB at h
  rw [Bool.and_eq_true] at h
  exact of_decide_eq_true (List.all_eq_true.mp h.2 c hc)
theorem go_len {g : D} (h : GoodG g) : 1 ≤ (textD g).length ∧ (textD g).length ≤ 60 := by
  rcases h with ⟨x, rfl, hx⟩ | ⟨n, rfl, hn⟩
  · have := name_len hx
    exact ⟨this.1, by show x.length ≤ 60; omega⟩
  · exact num_len hn
theorem go_signs {g : D} (h : GoodG g) : ∀ c ∈ sg (textD g), 48 ≤ c := fun c hc => by
  rcases h with ⟨x, rfl, hx⟩ | ⟨n, rfl, hn⟩
  · have := name_signs hx c hc; omega
  · exact (num_figs n c hc).1
theorem row_parts {r : Row7} (h : GoodR r) : ∀ p ∈ wordS r.1 :: r.2.map textD, p.length ≤ 100 ∧ ∀ c ∈ sg p, 45 ≤ c ∧ c ≠ 47 := fun p hp => by
  rcases List.mem_cons.mp hp with rfl | hp
  · refine ⟨(word_len h.figs).2, fun c hc => ?_⟩
    have := word_signs h.figs c hc
    omega
  · obtain ⟨g, hg, rfl⟩ := List.mem_map.mp hp
    have := (go_len (h.go g hg)).2
    refine ⟨by omega, fun c hc => ?_⟩
    have := go_signs (h.go g hg) c hc
    omega
theorem row_len {r : Row7} (h : GoodR r) : (rowS r).length ≤ 1200 := by
  have := (join_most (y := str " ") fun p hp => (row_parts h p hp).1).1
  have h1 : (wordS r.1 :: r.2.map textD).length ≤ 11 := by rw [List.length_cons, List.length_map]; have := h.few; omega
  have h2 : (str " ").length = 1 := by decide +kernel
  rw [h2] at this
  have h3 : (wordS r.1 :: r.2.map textD).length * (100 + 1) ≤ 11 * 101 := Nat.mul_le_mul_right _ h1
  unfold rowS
  omega
def spRowsW (K : PySem.W.Frag) : Sp := fun vs H Q _ => ∃ (a : Addr) (us : List V) (rs : List Row7), vs = [.ref a] ∧ SqL K H a us ∧ DrL K H (rs.map rD) us ∧ (∀ r ∈ rs, GoodR r) ∧ rs.length ≤ 100 ∧ ∀ H', Same H H' → Q (.str (rowsS rs)) H'
end Gu

set_option Elab.async false
set_option linter.all false
set_option maxRecDepth 100000
set_option maxHeartbeats 4000000
namespace Gu
open PySem L2 PySem.NumText
/-! ### what is written is read -/
theorem fig_head : ∀ m : Nat, 0 < m → ∃ c r, sg (numS m) = c :: r ∧ 49 ≤ c := fun m => by
  rw [sg_num]
  induction m using Nat.strongRecOn with
  | _ m ih =>
    intro h0
    by_cases h : m < 10
    · rw [Nat.toDigits_of_lt_base h]
      have : ∀ m : Nat, m < 10 → 0 < m → 49 ≤ (Nat.digitChar m).toNat := by decide
      exact ⟨_, [], rfl, this m h h0⟩
    · have hm : m % 10 < 10 := Nat.mod_lt m (by decide)
      have t : Nat.toDigits 10 (m / 10) ++ Nat.toDigits 10 (m % 10) = Nat.toDigits 10 (10 * (m / 10) + m % 10) := Nat.toDigits_append_toDigits (by decide) (by omega) hm
      rw [Nat.div_add_mod] at t
      obtain ⟨c, r, e, hc⟩ := ih (m / 10) (by omega) (by omega)
      rw [← t, List.map_append, e]
      exact ⟨c, _, rfl, hc⟩
theorem sg_neg (m : Nat) : sg (numT (-((m + 1 : Nat) : Int))) = 45 :: sg (numS (m + 1)) := by
  have e : toString (-((m + 1 : Nat) : Int)) = "-" ++ toString (m + 1) := rfl
  unfold numT
  rw [e]
  show (Str.ofString ("-" ++ toString (m + 1))).cps.toList = 45 :: (Str.ofString (toString (((m + 1 : Nat) : Int)))).cps.toList
  rw [Str.ofString_eq_toList, Str.ofString_eq_toList]
  have e2 : (toString (((m + 1 : Nat) : Int))) = toString (m + 1) := rfl
  rw [e2, String.toList_append, List.map_append]
  rfl
theorem num_val (m : Nat) : digitsVal (sg (numS m)) = m := by rw [sg_num]; exact PySem.W.KIN.val_back m
theorem num_ne (m : Nat) : sg (numS m) ≠ [] := fun e => by
  have := toDigits_len_ge 10 m
  rw [sg_num, List.map_eq_nil_iff] at e
  rw [e] at this
  simp at this
theorem int_num {m : Nat} (h : m < 10 ^ 60) : intText? (numS m) = some (m : Int) := by
  have e := intText_digits (x := numS m) (num_figs m) (num_ne m) (by have := num_len h; omega)
  rw [e]
  show some ((digitsVal (sg (numS m)) : Nat) : Int) = _
  rw [num_val]
theorem int_neg {m : Nat} (h : m + 1 < 10 ^ 60) : intText? (numT (-((m + 1 : Nat) : Int))) = some (-((m + 1 : Nat) : Int)) := by
  have hl : (numT (-((m + 1 : Nat) : Int))).length ≤ 61 := by rw [← sg_len, sg_neg, List.length_cons, sg_len]; have := num_len h; omega
  have e := intText_neg (x := numT (-((m + 1 : Nat) : Int))) (sg_neg m) (num_figs (m + 1)) (num_ne (m + 1)) (by omega)
  rw [e, num_val]
theorem num_figsB {m : Nat} (h : m < 10 ^ 60) : figsB (numS m) = true := by
  unfold figsB
  rw [decide_eq_true (show 0 < (numS m).length from (num_len h).1), Bool.true_and, List.all_eq_true]
  exact fun c hc => decide_eq_true (num_figs m c hc)
theorem sub_one (x : Str) (c : Nat) : Builtin.Str.subAt x ⟨#[c]⟩ 0 = decide ((sg x).head? = some c) := by
  rw [StrLaws.subAt_eq, List.drop_zero]
  show ((sg x).take 1 == [c]) = _
  cases sg x with
  | nil => rfl
  | cons a r =>
    show ([a] == [c]) = decide (some a = some c)
    by_cases h : a = c
    · subst h; simp
    · simp [h]
theorem sgs (c : Nat) (s : Str) (h : sg s = [c]) : s = ⟨#[c]⟩ := sg_inj h
theorem minus_is : str "-" = ⟨#[45]⟩ := sgs 45 _ (by decide +kernel)
theorem nought_is : str "0" = ⟨#[48]⟩ := sgs 48 _ (by decide +kernel)
theorem rm_minus {x : Str} {r : List Nat} (h : sg x = 45 :: r) {y : Str} (hy : sg y = r) : Txt.removeprefix x (str "-") = y := by
  have hl : x.length = r.length + 1 := by rw [← sg_len, h]; rfl
  rw [minus_is, StrLaws.removeprefix_eq, sub_one, h]
  have e1 : (⟨#[45]⟩ : Str).length = 1 := rfl
  rw [e1, if_pos (by simp; omega)]
  refine sg_inj ?_
  show (((sg x).drop 1).take (x.length - 1)) = sg y
  rw [h, hy, List.drop_succ_cons, List.drop_zero, List.take_of_length_le (by omega)]
theorem rm_none {x : Str} {c : Nat} {r : List Nat} (h : sg x = c :: r) (hc : c ≠ 45) : Txt.removeprefix x (str "-") = x := by
  rw [minus_is, StrLaws.removeprefix_eq, sub_one, h, if_neg (by simp [hc])]
theorem starts0 {x : Str} {c : Nat} {r : List Nat} (h : sg x = c :: r) : Txt.startswith x (str "0") = decide (c = 48) := by
  have hl : x.length = r.length + 1 := by rw [← sg_len, h]; rfl
  unfold Txt.startswith
  rw [nought_is, sub_one, h]
  have e1 : (⟨#[48]⟩ : Str).length = 1 := rfl
  rw [e1, decide_eq_true (by omega), Bool.true_and]
  by_cases e : c = 48
  · subst e; simp
  · simp [e]
theorem int_sign {i : Int} (h0 : 0 ≤ i) (h9 : i ≤ 9) : intText? ⟨#[48 + i.toNat]⟩ = some i := by
  have e := intText_digits (x := ⟨#[48 + i.toNat]⟩) (fun c hc => by have : c ∈ [48 + i.toNat] := hc; rw [List.mem_singleton.mp this]; omega) (by simp) (by show 1 ≤ 4300; decide)
  rw [e]
  show some (((0 * 10 + (48 + i.toNat - 48) : Nat)) : Int) = some i
  congr 1
  omega
/-! ### the promises of the readers -/
theorem blank_mark : Mark (str " ") 32 0 := ⟨by decide +kernel, fun j h => by omega⟩
theorem blank_kind : Builtin.Str.strKind (str " ") = 1 := by decide +kernel
theorem rows_len {rs : List Row7} (h : ∀ r ∈ rs, GoodR r) (hl : rs.length ≤ 100) : (rowsS rs).length ≤ 130000 := by
  have h1 := (join_most (y := str " / ") (xs := rs.map rowS) (B := 1200) fun p hp => by obtain ⟨r, hr, rfl⟩ := List.mem_map.mp hp; exact row_len (h r hr)).1
  have h2 : (rs.map rowS).length * (1200 + (str " / ").length) ≤ 100 * (1200 + (str " / ").length) := Nat.mul_le_mul_right _ (by rw [List.length_map]; omega)
  have h3 : 100 * (1200 + (str " / ").length) ≤ 130000 := by decide +kernel
  exact Nat.le_trans h1 (Nat.le_trans h2 h3)
theorem go_flat {g : D} (h : GoodG g) : D.flat g := by
  rcases h with ⟨x, rfl, _⟩ | ⟨n, rfl, _⟩ <;> simp only [D.flat]
theorem its_flat (w : List Int) : D.flatL (w.map D.int) := flatL_all.mpr fun d hd => by
  obtain ⟨i, _, rfl⟩ := List.mem_map.mp hd
  simp only [D.flat]
theorem row_flat {r : Row7} (h : GoodR r) : D.flat (rD r) := by
  simp only [rD, D.flat, D.flatL]
  exact ⟨its_flat r.1, flatL_all.mpr fun d hd => go_flat (h.go d hd), trivial⟩
end Gu

set_option Elab.async false
set_option linter.all false
set_option maxRecDepth 100000
set_option maxHeartbeats 4000000
namespace L2
open PySem PySem.Spec PyProof.Rows
abbrev zm1 (h : Heap) (a : Addr) : Heap := h.push { cls := .type "tuple_iterator", data := .fields #[.ref a, .int 0 0] }
abbrev zm2 (h : Heap) (a b : Addr) : Heap := (zm1 h a).push { cls := .type "list_iterator", data := .fields #[.ref b, .int 0 0] }
abbrev zm3 (h : Heap) (a b : Addr) : Heap := (zm2 h a b).push { cls := .type "tuple", data := .seq #[.ref h.objs.size, .ref (zm1 h a).objs.size] }
abbrev zm4 (h : Heap) (a b : Addr) : Heap := (zm3 h a b).push { cls := .type "tuple", data := .seq #[.none, .none] }
abbrev zm5 (h : Heap) (a b : Addr) : Heap := (zm4 h a b).push { cls := .type "zip", data := .fields #[.none, .bool false, .bool false, .ref (zm2 h a b).objs.size, .ref (zm3 h a b).objs.size] }
theorem meets_zip_mix (a b : Addr) (xs ys : Array Value) :
    Meets (Builtin.«zip.__new__» ⟨[.type "zip", .ref a, .ref b], []⟩) (fun _ R s => s.heap.IsTuple a xs ∧ s.heap.IsList b ys ∧ R (.ok (.ret (.ref (zm4 s.heap a b).objs.size))) { s with heap := zm5 s.heap a b }) :=
  .of_wp fun prog w A R s h => by
    obtain ⟨hp, g, d, tk, os⟩ := s
    obtain ⟨hl1, hl2, h⟩ := h
    have hsub := sub_zip
    have hL1 : Heap.IsTuple (Shared.heap ⟨hp, g, d, tk, os⟩) a xs := hl1
    have hL2 : Heap.IsList (Shared.heap ⟨hp.push { cls := .type "tuple_iterator", data := .fields #[.ref a, .int 0 0] }, g, d, tk, os⟩) b ys := by
      obtain ⟨o, e, r⟩ := hl2
      exact ⟨o, Heap.get?_push_of_some _ e, r⟩
    wp_walk using wpAny_pyIter_tuple hL1, wpAny_pyIter_list hL2
    exact ⟨_, rfl, h⟩
section
variable {prog : Program} {w : World} {A : Around} {E : Value → Shared → Prop} {s : Shared}
theorem call_zip_mix {a b : Addr} {xs ys : Array Value} {Q : Value → Shared → Prop} (hl1 : s.heap.IsTuple a xs) (hl2 : s.heap.IsList b ys)
    (h : ∀ h', IsZip h' (s.heap.objs.size + 4) (s.heap.objs.size + 2) (s.heap.objs.size + 3) .none → IsPair h' (s.heap.objs.size + 2) (.ref s.heap.objs.size) (.ref (s.heap.objs.size + 1)) →
      IsPair h' (s.heap.objs.size + 3) .none .none → h'.IsTupleIter s.heap.objs.size a 0 → h'.IsListIter (s.heap.objs.size + 1) b 0 → h'.objs.size = s.heap.objs.size + 5 →
      (∀ c o, s.heap.get? c = some o → h'.get? c = some o) → Q (.ref (s.heap.objs.size + 4)) { s with heap := h' }) :
    wpAny (model prog w) A (call (.type "zip") [.ref a, .ref b]) Q E s := by
  refine callType_new F.called_zip (by decide) (F.typeCall_zip_2 _ _) (F.newCall_zip_2 _ _) (fun obj => F.args_object_init_3 obj _ _) F.entry_zip_new (meets_zip_mix a b xs ys) ⟨hl1, hl2, ?_⟩
  have e1 : (zm1 s.heap a).objs.size = s.heap.objs.size + 1 := Heap.size_push ..
  have e2 : (zm2 s.heap a b).objs.size = s.heap.objs.size + 2 := by rw [Heap.size_push, e1]
  have e3 : (zm3 s.heap a b).objs.size = s.heap.objs.size + 3 := by rw [Heap.size_push, e2]
  have e4 : (zm4 s.heap a b).objs.size = s.heap.objs.size + 4 := by rw [Heap.size_push, e3]
  have e5 : (zm5 s.heap a b).objs.size = s.heap.objs.size + 5 := by rw [Heap.size_push, e4]
  have p : ∀ {h : Heap} {o u : Obj} {c : Addr}, h.get? c = some u → (h.push o).get? c = some u := fun e => Heap.get?_push_of_some _ e
  have g5 : (zm5 s.heap a b).get? (zm4 s.heap a b).objs.size = some _ := Heap.get?_push_size _ rfl
  have g4 : (zm5 s.heap a b).get? (zm3 s.heap a b).objs.size = some _ := p (Heap.get?_push_size _ rfl)
  have g3 : (zm5 s.heap a b).get? (zm2 s.heap a b).objs.size = some _ := p (p (Heap.get?_push_size _ rfl))
  have g2 : (zm5 s.heap a b).get? (zm1 s.heap a).objs.size = some _ := p (p (p (Heap.get?_push_size _ rfl)))
  have g1 : (zm5 s.heap a b).get? s.heap.objs.size = some _ := p (p (p (p (Heap.get?_push_size _ rfl))))
  show _ ∧ _
  rw [e2, e3, e4] at g5
  rw [e1, e2] at g3
  rw [e3] at g4
  rw [e1] at g2
  rw [e4]
  exact ⟨⟨_, g5, rfl⟩, h _ g5 g3 g4 ⟨_, g1, rfl, rfl⟩ ⟨_, g2, rfl, rfl⟩ e5 fun c o x => p (p (p (p (p x))))⟩
end
/-! ### zip over a tuple and a list -/
def ItzM (K : PySem.W.Frag) (a b : Addr) : It :=
  ⟨fun i H => ∃ xs ys x y, SqT K H a xs ∧ SqL K H b ys ∧ xs[i]? = some x ∧ ys[i]? = some y,
   fun i H v H' => ∃ p x y, v = .ref p ∧ H p = none ∧ (∀ xs, SqT K H a xs → xs[i]? = some x) ∧ (∀ ys, SqL K H b ys → ys[i]? = some y) ∧ H' = upd H p (.tup [x, y]),
   fun i H => ∃ xs ys, SqT K H a xs ∧ SqL K H b ys ∧ xs.length = i ∧ ys.length = i⟩
section
variable {X : Cx} {elts : List Expr} {tk : Nat} {tp : Pos}
theorem turn_zipM {P : Program} {w : World} {K : PySem.W.Frag} (a b z TI TO i1 i2 : Addr) (D : TI ≠ z ∧ TO ≠ z ∧ i1 ≠ z ∧ i2 ≠ z ∧ TI ≠ TO ∧ TI ≠ i1 ∧ TI ≠ i2 ∧ TO ≠ i1 ∧ TO ≠ i2 ∧ i1 ≠ i2) (aT : a ≠ TO) (bT : b ≠ TO) :
    Turn P w K (.Tuple elts tk tp) (ItzM K a b) [z, TI, TO, i1, i2] z (fun i h => IsZip h z TI TO .none ∧ IsPair h TI (.ref i1) (.ref i2) ∧ (∃ u v, IsPair h TO u v) ∧ h.IsTupleIter i1 a i ∧ h.IsListIter i2 b i) where
  mem := by simp
  obj := fun i h st c hc => by
    obtain ⟨hz, hTI, ⟨u, v, hTO⟩, ⟨o1, e1, c1, d1⟩, ⟨o2, e2, c2, d2⟩⟩ := st
    simp at hc
    rcases hc with q | q | q | q | q
    · rw [q]; exact ⟨_, hz, fun v z => by cases z⟩
    · rw [q]; exact ⟨_, hTI, fun v z => by cases z⟩
    · rw [q]; exact ⟨_, hTO, fun v z => by cases z⟩
    · rw [q]; exact ⟨_, e1, fun v z => by rw [d1] at z; cases z⟩
    · rw [q]; exact ⟨_, e2, fun v z => by rw [d2] at z; cases z⟩
  keep := fun i h h' st k => by
    obtain ⟨hz, hTI, ⟨u, v, hTO⟩, ⟨o1, e1, c1⟩, ⟨o2, e2, c2⟩⟩ := st
    exact ⟨k z (by simp) _ hz, k TI (by simp) _ hTI, ⟨u, v, k TO (by simp) _ hTO⟩, ⟨o1, k i1 (by simp) _ e1, c1⟩, ⟨o2, k i2 (by simp) _ e2, c2⟩⟩
  item := by
    intro X hP hw hK hc i pins s σ H E I hf st hg
    subst hP hw hK
    obtain ⟨hz, hTI, ⟨u, v, hTO⟩, h1, h2⟩ := st
    obtain ⟨xs, ys, x, y, hxs, hys, hx, hy⟩ := hg
    obtain ⟨its, rv, p, _⟩ := I.tuple hxs
    obtain ⟨itt, rw', p0', _⟩ := I.list hys
    have p' := p0'.isList
    obtain ⟨ux, hux, rux⟩ := rv.get hx
    obtain ⟨uy, huy, ruy⟩ := rw'.get hy
    obtain ⟨d1, d2, d3, d4, d5, d6, d7, d8, d9, d10⟩ := D
    have Da : ∀ {l : Addr} {its : Array Value}, s.heap.IsTuple l its → l ≠ z ∧ l ≠ i1 ∧ l ≠ i2 := fun {l its} hl => by
      obtain ⟨o, e, c, _⟩ := hl
      obtain ⟨o1, e1, c1, _⟩ := id h1
      obtain ⟨o2, e2, c2, _⟩ := id h2
      exact ⟨ne_cls e hz c rfl (by decide), ne_cls e e1 c c1 (by decide), ne_cls e e2 c c2 (by decide)⟩
    obtain ⟨a1, a3, a4⟩ := Da p
    have Db : ∀ {l : Addr} {its : Array Value}, s.heap.IsList l its → l ≠ z ∧ l ≠ i1 ∧ l ≠ i2 := fun {l its} hl => by
      obtain ⟨o, e, c, _⟩ := hl
      obtain ⟨o1, e1, c1, _⟩ := id h1
      obtain ⟨o2, e2, c2, _⟩ := id h2
      exact ⟨ne_cls e hz c rfl (by decide), ne_cls e e1 c c1 (by decide), ne_cls e e2 c c2 (by decide)⟩
    obtain ⟨b1, b3, b4⟩ := Db p'
    have D1 := draws_tup (prog := X.prog) (w := X.w) (A := X.A.in1) (I.ok.hd hc) i1 a a3 its.toArray
    have D2 := Draws.list (prog := X.prog) (w := X.w) (A := X.A.in1) (I.ok.hd hc) i2 b b4 itt.toArray
    have Z : ZA z TI TO i1 i2 [i1, a] [i2, b] := ⟨d1, d2, d3, d4, d5, d6, d7, d8, d9, d10, by simp [Ne.symm d3, Ne.symm a1], by simp [d8, Ne.symm aT], by simp [Ne.symm d10, Ne.symm a4], by simp [Ne.symm d4, Ne.symm b1], by simp [d9, Ne.symm bT], by simp [d10, Ne.symm b3]⟩
    have l1 : i < its.toArray.size := by have := (List.getElem?_eq_some_iff.mp hux).1; simpa using this
    have l2 : i < itt.toArray.size := by have := (List.getElem?_eq_some_iff.mp huy).1; simpa using this
    have hT : s.TypeIs (.ref z) "zip" := ⟨_, hz, rfl⟩
    unfold pyNext
    refine wpAny_bind (wpAny_attempt (wpAny_callSpecial?_slot (name := Str.ofString "__next__") hT F.slot_zip_next (wpAny_call_entry F.slot_zip_next hT F.entry_zip_next
      (zipD_item D1 D2 Z hz hTI hTO ⟨h1, p⟩ ⟨h2, p'⟩ l1 l2 fun x' y' h' tk px py q1 q2 q3 q4 q5 hk => wpAny_pure ?_) (F.args_zip_next_1 _))))
    have ex : x' = ux := by
      have e1 : its.toArray[i]? = some ux := by simpa using hux
      rw [e1] at px; exact (Option.some.inj px).symm
    have ey : y' = uy := by
      have e1 : itt.toArray[i]? = some uy := by simpa using huy
      rw [e1] at py; exact (Option.some.inj py).symm
    subst ex ey
    refine ⟨_, rfl, wpAny_letOwnedTupleGo_zip q1 fun h2' hz2 hs2 => ?_⟩
    have zlt : z < s.heap.objs.size := Heap.lt_size hz
    have kk : ∀ c o, c ∉ [z, TO, i1, i2] → s.heap.get? c = some o → h2'.get? c = some o := fun c o hc q => by
      simp at hc
      exact (hs2.2 c hc.1).trans (hk c o hc.1 hc.2.1 hc.2.2.1 hc.2.2.2 q)
    have sub : ∀ c ∈ [z, TO, i1, i2], c ∈ [z, TI, TO, i1, i2] := fun c hc => by simp at hc ⊢; rcases hc with q | q | q | q <;> simp [q]
    have I1 : Inv X pins σ (upd H s.heap.objs.size (.tup [x, y])) { s with heap := h2', toks := tk } := by
      refine I.turnedNew (ch := [z, TO, i1, i2]) kk (Nat.le_refl _) ?_ (fun c hc => hf c (sub c hc))
      exact ⟨by show 2 ≤ sizeLine; decide, [x', y'], 0, .cons rux (.cons ruy .nil), (hs2.2 _ (Nat.ne_of_gt zlt)).trans q5⟩
    have up : ∀ {c : Addr} {o : Obj}, c ≠ z → h'.get? c = some o → h2'.get? c = some o := fun {c o} hc q => (hs2.2 c hc).trans q
    obtain ⟨⟨o3, e3, c3⟩, _⟩ := q3
    obtain ⟨⟨o4, e4, c4⟩, _⟩ := q4
    refine ⟨.ref s.heap.objs.size, _, I1, rfl, ⟨s.heap.objs.size, x, y, rfl, I.fresh, fun zs hz' => by rw [I.tuple_inj hz' hxs]; exact hx, fun zs hz' => by rw [I.list_inj hz' hys]; exact hy, rfl⟩, ⟨hz2, ?_, ⟨_, _, up d2 q2⟩, ⟨o3, up d3 e3, c3⟩, ⟨o4, up d4 e4, c4⟩⟩, fun c hc => ?_⟩
    · exact up d1 (hk TI _ d1 d5 d6 d7 hTI)
    · have c0 := (hf c hc).1
      have lt : c < s.heap.objs.size := by
        obtain ⟨o1, e1, _⟩ := id h1
        obtain ⟨o2, e2, _⟩ := id h2
        simp at hc
        rcases hc with q | q | q | q | q
        · rw [q]; exact zlt
        · rw [q]; exact Heap.lt_size hTI
        · rw [q]; exact Heap.lt_size hTO
        · rw [q]; exact Heap.lt_size e1
        · rw [q]; exact Heap.lt_size e2
      rw [upd_ne (Nat.ne_of_lt lt)]; exact c0
  done := by
    intro X hP hw hK hc i pins s σ H E I hf st hg
    subst hP hw hK
    obtain ⟨hz, hTI, ⟨u, v, hTO⟩, h1, h2⟩ := st
    obtain ⟨xs, ys, hxs, hys, hx, hy⟩ := hg
    obtain ⟨its, rv, p, _⟩ := I.tuple hxs
    obtain ⟨itt, rw', p0', _⟩ := I.list hys
    have p' := p0'.isList
    obtain ⟨d1, d2, d3, d4, d5, d6, d7, d8, d9, d10⟩ := D
    have Da : ∀ {l : Addr} {its : Array Value}, s.heap.IsTuple l its → l ≠ z ∧ l ≠ i1 ∧ l ≠ i2 := fun {l its} hl => by
      obtain ⟨o, e, c, _⟩ := hl
      obtain ⟨o1, e1, c1, _⟩ := id h1
      obtain ⟨o2, e2, c2, _⟩ := id h2
      exact ⟨ne_cls e hz c rfl (by decide), ne_cls e e1 c c1 (by decide), ne_cls e e2 c c2 (by decide)⟩
    obtain ⟨a1, a3, a4⟩ := Da p
    have Db : ∀ {l : Addr} {its : Array Value}, s.heap.IsList l its → l ≠ z ∧ l ≠ i1 ∧ l ≠ i2 := fun {l its} hl => by
      obtain ⟨o, e, c, _⟩ := hl
      obtain ⟨o1, e1, c1, _⟩ := id h1
      obtain ⟨o2, e2, c2, _⟩ := id h2
      exact ⟨ne_cls e hz c rfl (by decide), ne_cls e e1 c c1 (by decide), ne_cls e e2 c c2 (by decide)⟩
    obtain ⟨b1, b3, b4⟩ := Db p'
    have l1 := rv.length
    have D1 := draws_tup (prog := X.prog) (w := X.w) (A := X.A.in1) (I.ok.hd hc) i1 a a3 its.toArray
    have Z : ZA z TI TO i1 i2 [i1, a] [i2, b] := ⟨d1, d2, d3, d4, d5, d6, d7, d8, d9, d10, by simp [Ne.symm d3, Ne.symm a1], by simp [d8, Ne.symm aT], by simp [Ne.symm d10, Ne.symm a4], by simp [Ne.symm d4, Ne.symm b1], by simp [d9, Ne.symm bT], by simp [d10, Ne.symm b3]⟩
    have hT : s.TypeIs (.ref z) "zip" := ⟨_, hz, rfl⟩
    have ei : i = its.toArray.size := by simp; omega
    unfold pyNext
    refine wpAny_bind (wpAny_attempt (wpAny_callSpecial?_slot (name := Str.ofString "__next__") hT F.slot_zip_next (wpAny_call_entry F.slot_zip_next hT F.entry_zip_next
      (zipD_end D1 Z hz hTI hTO ⟨ei ▸ h1, p⟩ fun h' e hk he => ?_) (F.args_zip_next_1 _))))
    obtain ⟨o, ho, hcl⟩ := he
    refine wpAny_bind (wpAny_isInstance (T := "StopIteration") (b := true) ⟨o, ho, hcl⟩ isSubtype_stop (wpAny_pure ⟨rfl, ?_⟩))
    refine I.turnedL (ch := [z, TO, i1, i2]) (t' := s.toks) (fun c o hcc q => ?_) (fun c hcc => hf c ?_)
    · simp at hcc
      exact hk c o hcc.1 hcc.2.1 hcc.2.2.1 hcc.2.2.2 q
    · simp at hcc ⊢; rcases hcc with q | q | q | q <;> simp [q]
  self := fun A i s Q E st h => wpAny_pyIter_zip st.1 h
def iZipM (K : PySem.W.Frag) (ta : TA) : TI := fun σ H R => ta σ H fun vs H1 => ∃ a b : Addr, vs = [.ref a, .ref b] ∧ (∃ xs, SqT K H1 a xs) ∧ (∃ ys, SqL K H1 b ys) ∧ R (ItzM K a b) H1
theorem pi_zipM {a b : Expr} {ta : TA} {p pos : Pos} (hg : Gl X "zip") (hm : X.mg "zip" = none) (ha : PA X [a, b] ta) (hs : starEach [a, b] X.env = [(false, eval a X.env), (false, eval b X.env)] := by rfl) (hs2 : starEach [b] X.env = [(false, eval b X.env)] := by rfl) :
    PI X (.Tuple elts tk tp) (.Call (.Name "zip" p) [a, b] [] pos) (iZipM X.K ta) := by
  intro pins s σ H R I h
  refine Call_ (ld_blt I hg hm boot_zip (PyProof.Rows.callWith_type1 (thn (ha pos pins s σ H _ I h) fun us s1 ⟨vs, H1, I1, r1, q1⟩ => ?_) (by rw [hs, hs2]) (by rw [hs2]; rfl)))
  obtain ⟨a, b, e, ⟨xs, hq⟩, ⟨ys, hq'⟩, q⟩ := q1
  subst e
  obtain ⟨u, v, rfl, ru, rv'⟩ := vals2 r1
  cases ru
  cases rv'
  obtain ⟨its, rv, pl, hz⟩ := I1.tuple hq
  obtain ⟨its2, rv2, pl02, hz2⟩ := I1.list hq'
  have pl2 := pl02.isList
  have lt : ∀ {l : Addr} {its : Array Value}, s1.heap.IsTuple l its → l < s1.heap.objs.size := fun ⟨o, e, _⟩ => Heap.lt_size e
  have la := lt pl
  have lb : b < s1.heap.objs.size := by obtain ⟨o, e, _⟩ := pl2; exact Heap.lt_size e
  refine call_zip_mix pl pl2 fun h' z1 z2 z3 z4 z5 z6 hk => wpAny_pyIter_zip z1 ?_
  have I2 : Inv X pins σ H1 { s1 with heap := h' } := I1.kept (t' := s1.toks) hk
  refine ⟨s1.heap.objs.size + 4, [s1.heap.objs.size + 4, s1.heap.objs.size + 2, s1.heap.objs.size + 3, s1.heap.objs.size, s1.heap.objs.size + 1], _, _, H1, rfl, I2,
    turn_zipM a b (s1.heap.objs.size + 4) (s1.heap.objs.size + 2) (s1.heap.objs.size + 3) s1.heap.objs.size (s1.heap.objs.size + 1) (by refine ⟨?_, ?_, ?_, ?_, ?_, ?_, ?_, ?_, ?_, ?_⟩ <;> (show @Ne Nat _ _; omega)) (Nat.ne_of_lt (Nat.lt_trans la (by omega))) (Nat.ne_of_lt (Nat.lt_trans lb (by omega))), ⟨z1, z2, ⟨_, _, z3⟩, z4, z5⟩, fun c hb => ?_, q⟩
  have hb' : s1.heap.objs.size ≤ c := by
    simp only [List.mem_cons, List.not_mem_nil, or_false] at hb
    rcases hb with q | q | q | q | q <;> (have q : @Eq Nat c _ := q; omega)
  exact I1.fpOk hb' (I1.hok.fresh hb')
end
theorem zipMO {K : PySem.W.Frag} {a b : Addr} {xs ys : List V} {g : TG} {tb : TS} {D : Ends} {σ : St} {H : Hp} (hlen : xs.length = ys.length) (Pv : Nat → St → Hp → Prop) (h0 : Pv 0 σ H) (hl : ∀ i σ H, i ≤ xs.length → Pv i σ H → SqT K H a xs ∧ SqL K H b ys)
    (hs : ∀ i x y p σ H, xs[i]? = some x → ys[i]? = some y → Pv i σ H → H p = none → ∀ Ed : Ends, (∀ σ' H', Pv (i + 1) σ' H' → Ed.nx σ' H') → g (.ref p) σ (upd H p (.tup [x, y])) fun σ2 H2 => tb Ed σ2 H2) (hd : ∀ σ H, Pv xs.length σ H → D.nx σ H) :
    ∃ W : Nat → Nat → St → Hp → Prop, (∃ m, W 0 m σ H) ∧ ∀ i m σ H, W i m σ H →
      ((ItzM K a b).stop i H ∧ D.nx σ H) ∨ ((ItzM K a b).go i H ∧ ∃ N : St → Hp → Prop, (∀ σ' H', N σ' H' → ∃ m', m' < m ∧ W (i + 1) m' σ' H') ∧ ∀ x H', (ItzM K a b).yld i H x H' → g x σ H' fun σ2 H2 => tb { D with nx := N, ct := N, bk := D.nx } σ2 H2) := by
  refine ⟨fun i m σ H => m = xs.length - i ∧ i ≤ xs.length ∧ Pv i σ H, ⟨xs.length, by simp, Nat.zero_le _, h0⟩, ?_⟩
  rintro i m σ H ⟨rfl, hi, p⟩
  obtain ⟨q, q'⟩ := hl i σ H hi p
  rcases Nat.lt_or_ge i xs.length with hlt | hge
  · refine .inr ⟨⟨xs, ys, xs[i], ys[i]'(by omega), q, q', by simp [hlt], by simp [show i < ys.length by omega]⟩, fun σ' H' => Pv (i + 1) σ' H', fun σ' H' z => ⟨xs.length - (i + 1), by omega, rfl, by omega, z⟩, fun v H' y => ?_⟩
    obtain ⟨c, z, z', rfl, hb, hz, hz', rfl⟩ := y
    exact hs i z z' c σ H (hz xs q) (hz' ys q') p hb _ fun _ _ z => z
  · have e : i = xs.length := by omega
    subst e
    exact .inl ⟨⟨xs, ys, q, q', rfl, hlen.symm⟩, hd σ H p⟩
end L2

set_option Elab.async false
set_option linter.all false
set_option maxRecDepth 100000
set_option maxHeartbeats 4000000
namespace Gu
open PySem L2
/-! ### parts of a line, deeds -/
inductive PartOk : Str → Str → D → Prop
  | name {x : Str} : nameB x = true → PartOk (str "name") x (.str x)
  | num {n : Int} : n.natAbs < 10 ^ 60 → PartOk (str "number") (numT n) (.int n)
  | word {w : List Int} : Figs w → PartOk (str "word") (wordS w) (D.its w)
  | ring {w : List Int} : w ≠ [] → Figs w → PartOk (str "ring") (wordS w) (D.its w)
  | rows {rs : List Row7} : rs ≠ [] → (∀ r ∈ rs, GoodR r) → rs.length ≤ 100 → PartOk (str "rows") (rowsS rs) (.lst (rs.map rD))
inductive Parts : List Str → List Str → List D → Prop
  | nil : Parts [] [] []
  | cons {k x : Str} {d : D} {ks xs : List Str} {ds : List D} : PartOk k x d → Parts ks xs ds → Parts (k :: ks) (x :: xs) (d :: ds)
theorem Parts.len {ks xs : List Str} {ds : List D} (h : Parts ks xs ds) : xs.length = ks.length ∧ ds.length = ks.length := by
  induction h with
  | nil => exact ⟨rfl, rfl⟩
  | cons _ _ ih => exact ⟨by rw [List.length_cons, List.length_cons, ih.1], by rw [List.length_cons, List.length_cons, ih.2]⟩
theorem Parts.get {ks xs : List Str} {ds : List D} (h : Parts ks xs ds) : ∀ {i : Nat} {k : Str}, ks[i]? = some k → ∃ x d, xs[i]? = some x ∧ ds[i]? = some d ∧ PartOk k x d := by
  induction h with
  | nil => intro i k e; simp at e
  | @cons k x d ks xs ds p _ ih =>
    intro i k' e
    cases i with
    | zero => simp at e; subst e; exact ⟨x, d, rfl, rfl, p⟩
    | succ i => exact ih (by simpa using e)
theorem numT_signs {n : Int} (h : n.natAbs < 10 ^ 60) : (∀ c ∈ sg (numT n), 45 ≤ c) ∧ (numT n).length ≤ 61 := by
  rcases Int.lt_or_le n 0 with q | q
  · obtain ⟨k, rfl⟩ : ∃ k : Nat, n = -((k + 1 : Nat) : Int) := ⟨(-n).toNat - 1, by omega⟩
    have hk : k + 1 < 10 ^ 60 := by omega
    refine ⟨fun c hc => ?_, ?_⟩
    · rw [sg_neg] at hc
      rcases List.mem_cons.mp hc with rfl | hc
      · omega
      · have := num_figs _ c hc; omega
    · rw [← sg_len, sg_neg, List.length_cons, sg_len]; have := num_len hk; omega
  · obtain ⟨k, rfl⟩ := Int.eq_ofNat_of_zero_le q
    have hk : k < 10 ^ 60 := by omega
    refine ⟨fun c hc => ?_, ?_⟩
    · have := num_figs k c hc; omega
    · have := num_len hk; show (numS k).length ≤ 61; omega
theorem part_len {k x : Str} {d : D} (h : PartOk k x d) : x.length ≤ 130000 := by
  cases h with
  | name h => have := name_len h; omega
  | num h => have := (numT_signs h).2; omega
  | word h => have := word_len h; omega
  | ring _ h => have := word_len h; omega
  | rows _ h hl => exact rows_len h hl
theorem part_blank {k x : Str} {d : D} (h : PartOk k x d) (hk : k ≠ str "rows") : 32 ∉ sg x := fun hc => by
  cases h with
  | name h => have := name_signs h 32 hc; omega
  | num h => have := (numT_signs h).1 32 hc; omega
  | word h => have := word_signs h 32 hc; omega
  | ring _ h => have := word_signs h 32 hc; omega
  | rows _ _ _ => exact hk rfl
def deedT : List (Str × List Str) := [(str "sew", [str "name", str "rows"]), (str "join", [str "name", str "name", str "name"]), (str "turn", [str "name", str "name"]), (str "look", [str "name", str "name", str "word"]), (str "power", [str "name", str "name", str "number"]), (str "drop", [str "name"]), (str "hang", [str "name", str "word", str "ring"]), (str "wear", [str "name", str "name"]), (str "doff", [str "name"]), (str "unhang", [str "name"])]
theorem blank_is : str " " = ⟨#[32]⟩ := sgs 32 _ (by decide +kernel)
theorem split_ne (x y : Str) : Txt.split x y ≠ [] := by
  unfold Txt.split
  split
  · simp
  · split
    · simp
    · rw [StrLaws.partsBetween_eq]
      obtain ⟨p, r, e⟩ := StrLaws.partsFrom_ne x y.length 0 (Builtin.Str.occurrences x y 0 x.length (x.length + 1))
      rw [e]
      simp
theorem Parts.blank {ks xs : List Str} {ds : List D} (h : Parts ks xs ds) : (∀ k ∈ ks.dropLast, k ≠ str "rows") → ∀ x ∈ xs.dropLast, 32 ∉ sg x := by
  induction h with
  | nil => intro _ x hx; simp at hx
  | @cons k x d ks xs ds p q ih =>
    intro hk y hy
    cases q with
    | nil => simp at hy
    | @cons k' x' d' ks' xs' ds' p' q' =>
      have hy' : y ∈ x :: (x' :: xs').dropLast := hy
      have hk' : ∀ z ∈ k :: (k' :: ks').dropLast, z ≠ str "rows" := hk
      rcases List.mem_cons.mp hy' with rfl | hy'
      · exact part_blank p (hk' k List.mem_cons_self)
      · exact ih (fun z hz => hk' z (List.mem_cons_of_mem _ hz)) y hy'
theorem deed_table : ∀ p ∈ deedT, 32 ∉ sg p.1 ∧ p.1.length ≤ 100 ∧ (∀ k ∈ p.2.dropLast, k ≠ str "rows") ∧ p.2.length ≤ 3 ∧ p.2 ≠ [] := by decide +kernel
theorem deed_facts {head : Str} {kinds xs : List Str} {ds : List D} (hm : (head, kinds) ∈ deedT) (hp : Parts kinds xs ds) : 32 ∉ sg head ∧ head.length ≤ 100 ∧ (∀ x ∈ xs.dropLast, 32 ∉ sg x) ∧ kinds.length ≤ 3 ∧ xs ≠ [] := by
  obtain ⟨h1, h2, h3, h4, h5⟩ := deed_table _ hm
  refine ⟨h1, h2, hp.blank h3, h4, fun z => h5 ?_⟩
  have := hp.len.1
  rw [z] at this
  exact List.length_eq_zero_iff.mp this.symm
end Gu

set_option Elab.async false
set_option linter.all false
set_option maxRecDepth 100000
set_option maxHeartbeats 4000000
namespace Gu
open PySem L2
/-! ### the law's own deeds -/
theorem cut_mid {ns : List Int} {i j : Nat} (hij : i ≤ j) (hj : j ≤ ns.length) (h : ∀ x ∈ ns, 0 ≤ x ∧ x < 1009) : ∃ ps : List Int, cutV (ns.map V.int) (some (i : Int)) (some (j : Int)) = ps.map V.int ∧ ps.length = j - i ∧ ∀ p ∈ ps, 0 ≤ p ∧ p < 1009 := by
  refine ⟨(ns.drop i).take (j - i), ?_, ?_, fun p hp => h p (List.mem_of_mem_drop (List.mem_of_mem_take hp))⟩
  · unfold cutV
    rw [HT.sIx_nat, HT.sIx_nat, List.length_map, Nat.min_eq_left hj, Nat.min_eq_left (show i ≤ ns.length by omega)]
    rw [← List.map_drop, ← List.map_take]
  · rw [List.length_take, List.length_drop]; omega
theorem cut_to {ns : List Int} {j : Nat} (h : ∀ x ∈ ns, 0 ≤ x ∧ x < 1009) : ∃ ps : List Int, cutV (ns.map V.int) none (some (j : Int)) = ps.map V.int ∧ ps.length = min j ns.length ∧ ∀ p ∈ ps, 0 ≤ p ∧ p < 1009 := by
  refine ⟨ns.take j, ?_, by rw [List.length_take], fun p hp => h p (List.mem_of_mem_take hp)⟩
  rw [cutV_take, List.map_take]
def spGoodN : Sp := fun vs H Q _ => ∃ n : Int, vs = [.int n] ∧ ∀ (x : Str) (H' : Hp), Same H H' → nameB x = true → Q (.str x) H'
def spBigL : Sp := fun vs H Q _ => ∃ n : Int, vs = [.int n] ∧ 0 ≤ n ∧ n < 1009 ∧ ∀ (m : Nat) (H' : Hp), Same H H' → m < 10 ^ 60 → Q (.int m) H'
def spGoodRw (K : PySem.W.Frag) : Sp := fun vs H Q _ => ∃ (a : Addr) (ns : List Int), vs = [.ref a] ∧ SqL K H a (ns.map V.int) ∧ (∀ x ∈ ns, 0 ≤ x ∧ x < 1009) ∧ 33 ≤ ns.length ∧
  ∀ (l : Addr) (us : List V) (rs : List Row7) (H' : Hp), Same H H' → H l = none → H' l = some (.lst us) → DrL K H' (rs.map rD) us → rs ≠ [] → (∀ r ∈ rs, GoodR r) → rs.length ≤ 4 → Q (.ref l) H'
def goodNames : List Str := [str "m", str "ab", str "zz", str "b", str "abcdefghijkl", str "k", str "a", str "undo"]
theorem good_names : ∀ x ∈ goodNames, nameB x = true := by decide +kernel
def spAnyD (K : PySem.W.Frag) : Sp := fun vs H Q _ => ∃ c : Int, vs = [.int c] ∧ ∀ (v : V) (H' : Hp) (name : Str) (kinds xs : List Str) (ds : List D), Same H H' → Dr K H' (.tup (.str name :: ds)) v → (name, kinds) ∈ deedT → Parts kinds xs ds → Q v H'
def spLineL (K : PySem.W.Frag) : Sp := fun vs H Q _ => ∃ (v : V) (name : Str) (kinds xs : List Str) (ds : List D), vs = [v] ∧ Dr K H (.tup (.str name :: ds)) v ∧ (name, kinds) ∈ deedT ∧ Parts kinds xs ds ∧ ∀ H', Same H H' → Q (.str (Str.join (str " ") (name :: xs))) H'
theorem Parts.two {ks xs : List Str} {ds : List D} {k1 k2 : Str} (h : Parts ks xs ds) (e : ks = [k1, k2]) : ∃ x1 x2 d1 d2, xs = [x1, x2] ∧ ds = [d1, d2] ∧ PartOk k1 x1 d1 ∧ PartOk k2 x2 d2 := by
  subst e
  cases h with
  | cons p h => cases h with
    | cons p' h => cases h with
      | nil => exact ⟨_, _, _, _, rfl, rfl, p, p'⟩
theorem sew_kinds {kinds : List Str} (h : (str "sew", kinds) ∈ deedT) : kinds = [str "name", str "rows"] := by
  have : ∀ p ∈ deedT, p.1 = str "sew" → p.2 = [str "name", str "rows"] := by decide +kernel
  exact this _ h rfl
theorem other_kinds {name : Str} {kinds : List Str} (h : (name, kinds) ∈ deedT) (hn : name ≠ str "sew") : str "rows" ∉ kinds := by
  have : ∀ p ∈ deedT, p.1 ≠ str "sew" → str "rows" ∉ p.2 := by decide +kernel
  exact this _ h hn
theorem kind_name {x : Str} {d : D} (h : PartOk (str "name") x d) : d = .str x ∧ nameB x = true := by
  generalize hk : str "name" = k at h
  cases h with
  | name h => exact ⟨rfl, h⟩
  | num _ => exact absurd hk (by decide +kernel)
  | word _ => exact absurd hk (by decide +kernel)
  | ring _ _ => exact absurd hk (by decide +kernel)
  | rows _ _ _ => exact absurd hk (by decide +kernel)
theorem kind_rows {x : Str} {d : D} (h : PartOk (str "rows") x d) : ∃ rs : List Row7, x = rowsS rs ∧ d = .lst (rs.map rD) ∧ rs ≠ [] ∧ (∀ r ∈ rs, GoodR r) ∧ rs.length ≤ 100 := by
  generalize hk : str "rows" = k at h
  cases h with
  | name h => exact absurd hk (by decide +kernel)
  | num _ => exact absurd hk (by decide +kernel)
  | word _ => exact absurd hk (by decide +kernel)
  | ring _ _ => exact absurd hk (by decide +kernel)
  | rows h1 h2 h3 => exact ⟨_, rfl, rfl, h1, h2, h3⟩
theorem Parts.mem {ks xs : List Str} {ds : List D} (h : Parts ks xs ds) {i : Nat} {d : D} (e : ds[i]? = some d) : ∃ k x, ks[i]? = some k ∧ xs[i]? = some x ∧ PartOk k x d := by
  have hl := h.len
  have hi := (List.getElem?_eq_some_iff.mp e).1
  obtain ⟨x, d', ex, ed, p⟩ := h.get (i := i) (List.getElem?_eq_getElem (show i < ks.length by omega))
  rw [e] at ed
  cases ed
  exact ⟨_, x, List.getElem?_eq_getElem (by omega), ex, p⟩
theorem sew_join (name x : Str) : str "sew " ++ name ++ str " " ++ x = Str.join (str " ") [str "sew", name, x] := by
  show _ = str "sew" ++ str " " ++ (name ++ str " " ++ x)
  have e : str "sew " = str "sew" ++ str " " := by decide +kernel
  rw [e]
  simp only [PySem.Str.append_assoc]
/-! ### a dict by texts -/
theorem putS {kvs : List (Key × V)} {ks : List Str} {k : Str} {v : V} (hk : kvs.map (·.1) = ks.map Sum.inr) (h : k ∉ ks) : putK kvs (Sum.inr k) v = kvs ++ [(Sum.inr k, v)] := by
  unfold putK
  rw [if_neg]
  intro c
  obtain ⟨kv, hkv, e⟩ := List.any_eq_true.mp c
  have e' : kv.1 = Sum.inr k := of_decide_eq_true e
  have : kv.1 ∈ ks.map Sum.inr := by rw [← hk]; exact List.mem_map.mpr ⟨kv, hkv, rfl⟩
  obtain ⟨z, hz, ez⟩ := List.mem_map.mp this
  rw [e'] at ez
  exact h (Sum.inr.inj ez ▸ hz)
theorem valS_hit {pre post : List (Key × V)} {ks : List Str} {k : Str} {v : V} (hk : pre.map (·.1) = ks.map Sum.inr) (h : k ∉ ks) : valV (pre ++ (Sum.inr k, v) :: post) (Sum.inr k) = some v := by
  unfold valV
  rw [List.find?_append, List.find?_eq_none.mpr, Option.none_or, List.find?_cons_of_pos (by simp)]
  · rfl
  · intro kv hkv c
    have e' : kv.1 = Sum.inr k := of_decide_eq_true c
    have : kv.1 ∈ ks.map Sum.inr := by rw [← hk]; exact List.mem_map.mpr ⟨kv, hkv, rfl⟩
    obtain ⟨z, hz, ez⟩ := List.mem_map.mp this
    rw [e'] at ez
    exact h (Sum.inr.inj ez ▸ hz)
theorem valS_none {kvs : List (Key × V)} {ks : List Str} {k : Str} (hk : kvs.map (·.1) = ks.map Sum.inr) (h : k ∉ ks) : valV kvs (Sum.inr k) = none := by
  unfold valV
  rw [List.find?_eq_none.mpr]
  · rfl
  · intro kv hkv c
    have e' : kv.1 = Sum.inr k := of_decide_eq_true c
    have : kv.1 ∈ ks.map Sum.inr := by rw [← hk]; exact List.mem_map.mpr ⟨kv, hkv, rfl⟩
    obtain ⟨z, hz, ez⟩ := List.mem_map.mp this
    rw [e'] at ez
    exact h (Sum.inr.inj ez ▸ hz)
def someT : List Str := [str "sew", str "join", str "turn", str "look", str "power", str "drop", str "hang", str "wear", str "doff", str "unhang", str "sew"]
abbrev kvs7 (t1 t2 t3 t4 t5 t6 t7 : V) : List (Key × V) := [(Sum.inr (str "join"), t1), (Sum.inr (str "turn"), t2), (Sum.inr (str "wear"), t3), (Sum.inr (str "look"), t4), (Sum.inr (str "sew"), t5), (Sum.inr (str "power"), t6), (Sum.inr (str "hang"), t7)]
theorem merge4 (t1 t2 t3 t4 : V) : mergeK ([] : List (Key × V)) [(Sum.inr (str "join"), t1), (Sum.inr (str "turn"), t2), (Sum.inr (str "wear"), t3), (Sum.inr (str "look"), t4)] = [(Sum.inr (str "join"), t1), (Sum.inr (str "turn"), t2), (Sum.inr (str "wear"), t3), (Sum.inr (str "look"), t4)] := by
  have a1 := putS (kvs := []) (ks := []) (k := str "join") (v := t1) rfl (by simp)
  have a2 := putS (kvs := [(Sum.inr (str "join"), t1)]) (ks := [str "join"]) (k := str "turn") (v := t2) rfl (by decide +kernel)
  have a3 := putS (kvs := [(Sum.inr (str "join"), t1), (Sum.inr (str "turn"), t2)]) (ks := [str "join", str "turn"]) (k := str "wear") (v := t3) rfl (by decide +kernel)
  have a4 := putS (kvs := [(Sum.inr (str "join"), t1), (Sum.inr (str "turn"), t2), (Sum.inr (str "wear"), t3)]) (ks := [str "join", str "turn", str "wear"]) (k := str "look") (v := t4) rfl (by decide +kernel)
  simp only [List.nil_append, List.cons_append] at a1 a2 a3 a4
  unfold mergeK
  simp only [List.foldl_cons, List.foldl_nil]
  rw [a1, a2, a3, a4]
theorem put5 (t1 t2 t3 t4 t5 : V) : putK ([(Sum.inr (str "join"), t1), (Sum.inr (str "turn"), t2), (Sum.inr (str "wear"), t3), (Sum.inr (str "look"), t4)] : List (Key × V)) (Sum.inr (str "sew")) t5 = [(Sum.inr (str "join"), t1), (Sum.inr (str "turn"), t2), (Sum.inr (str "wear"), t3), (Sum.inr (str "look"), t4), (Sum.inr (str "sew"), t5)] := by
  rw [putS (ks := [str "join", str "turn", str "wear", str "look"]) rfl (by decide +kernel)]; rfl
theorem put6 (t1 t2 t3 t4 t5 t6 : V) : putK ([(Sum.inr (str "join"), t1), (Sum.inr (str "turn"), t2), (Sum.inr (str "wear"), t3), (Sum.inr (str "look"), t4), (Sum.inr (str "sew"), t5)] : List (Key × V)) (Sum.inr (str "power")) t6 = [(Sum.inr (str "join"), t1), (Sum.inr (str "turn"), t2), (Sum.inr (str "wear"), t3), (Sum.inr (str "look"), t4), (Sum.inr (str "sew"), t5), (Sum.inr (str "power"), t6)] := by
  rw [putS (ks := [str "join", str "turn", str "wear", str "look", str "sew"]) rfl (by decide +kernel)]; rfl
theorem put7 (t1 t2 t3 t4 t5 t6 t7 : V) : putK ([(Sum.inr (str "join"), t1), (Sum.inr (str "turn"), t2), (Sum.inr (str "wear"), t3), (Sum.inr (str "look"), t4), (Sum.inr (str "sew"), t5), (Sum.inr (str "power"), t6)] : List (Key × V)) (Sum.inr (str "hang")) t7 = kvs7 t1 t2 t3 t4 t5 t6 t7 := by
  rw [putS (ks := [str "join", str "turn", str "wear", str "look", str "sew", str "power"]) rfl (by decide +kernel)]; rfl
theorem get7 {K : PySem.W.Frag} {H : Hp} {t1 t2 t3 t4 t5 t6 t7 : Addr} {x0 x1 x2 : Str} {w w2 : List Int} {rs : List Row7} {n : Int} {vw v2 vl : V} (h0 : nameB x0 = true) (h1 : nameB x1 = true) (h2 : nameB x2 = true) (hw : Figs w) (hw2 : Figs w2) (hne : w2 ≠ []) (hr : rs ≠ []) (G : ∀ r ∈ rs, GoodR r) (hl : rs.length ≤ 100) (hn : n.natAbs < 10 ^ 60)
    (e1 : H t1 = some (.tup [.str x1, .str x2])) (e2 : H t2 = some (.tup [.str x1])) (e3 : H t3 = some (.tup [.str x1])) (e4 : H t4 = some (.tup [.str x1, vw])) (e5 : H t5 = some (.tup [vl])) (e6 : H t6 = some (.tup [.str x1, .int n])) (e7 : H t7 = some (.tup [vw, v2]))
    (dw : Dr K H (D.its w) vw) (d2 : Dr K H (D.its w2) v2) (dl : Dr K H (.lst (rs.map rD)) vl) {z : Addr} (ez : H z = some (.tup [])) {kind : Str} (hk : kind ∈ someT) :
    ∃ (t : Addr) (ys : List V) (kinds xs : List Str) (ds : List D), (valV (kvs7 (.ref t1) (.ref t2) (.ref t3) (.ref t4) (.ref t5) (.ref t6) (.ref t7)) (Sum.inr kind)).getD (.ref z) = .ref t ∧ H t = some (.tup ys) ∧ ys.length ≤ 2 ∧ DrL K H ds ys ∧ (kind, kinds) ∈ deedT ∧ Parts kinds (x0 :: xs) (.str x0 :: ds) := by
  have hs1 : Dr K H (.str x1) (.str x1) := by simp only [Dr]
  have hs2 : Dr K H (.str x2) (.str x2) := by simp only [Dr]
  have hsn : Dr K H (.int n) (.int n) := by simp only [Dr]
  have sew : ∃ (t : Addr) (ys : List V) (kinds xs : List Str) (ds : List D), (valV (kvs7 (.ref t1) (.ref t2) (.ref t3) (.ref t4) (.ref t5) (.ref t6) (.ref t7)) (Sum.inr (str "sew"))).getD (.ref z) = .ref t ∧ H t = some (.tup ys) ∧ ys.length ≤ 2 ∧ DrL K H ds ys ∧ (str "sew", kinds) ∈ deedT ∧ Parts kinds (x0 :: xs) (.str x0 :: ds) :=
    ⟨t5, _, [str "name", str "rows"], [rowsS rs], [.lst (rs.map rD)], by rw [show kvs7 (V.ref t1) (V.ref t2) (V.ref t3) (V.ref t4) (V.ref t5) (V.ref t6) (V.ref t7) = [(Sum.inr (str "join"), V.ref t1), (Sum.inr (str "turn"), V.ref t2), (Sum.inr (str "wear"), V.ref t3), (Sum.inr (str "look"), V.ref t4)] ++ (Sum.inr (str "sew"), V.ref t5) :: [(Sum.inr (str "power"), V.ref t6), (Sum.inr (str "hang"), V.ref t7)] from rfl, valS_hit (ks := [str "join", str "turn", str "wear", str "look"]) rfl (by decide +kernel)]; rfl, e5, by simp, DrL.one dl, by decide +kernel, .cons (.name h0) (.cons (.rows hr G hl) .nil)⟩
  unfold someT at hk
  simp only [List.mem_cons, List.not_mem_nil, or_false] at hk
  rcases hk with rfl | rfl | rfl | rfl | rfl | rfl | rfl | rfl | rfl | rfl | rfl
  · exact sew
  · exact ⟨t1, _, [str "name", str "name", str "name"], [x1, x2], [.str x1, .str x2], by rw [show kvs7 (V.ref t1) (V.ref t2) (V.ref t3) (V.ref t4) (V.ref t5) (V.ref t6) (V.ref t7) = [] ++ (Sum.inr (str "join"), V.ref t1) :: [(Sum.inr (str "turn"), V.ref t2), (Sum.inr (str "wear"), V.ref t3), (Sum.inr (str "look"), V.ref t4), (Sum.inr (str "sew"), V.ref t5), (Sum.inr (str "power"), V.ref t6), (Sum.inr (str "hang"), V.ref t7)] from rfl, valS_hit (ks := []) rfl (by simp)]; rfl, e1, by simp, DrL.cons hs1 (DrL.one hs2), by decide +kernel, .cons (.name h0) (.cons (.name h1) (.cons (.name h2) .nil))⟩
  · exact ⟨t2, _, [str "name", str "name"], [x1], [.str x1], by rw [show kvs7 (V.ref t1) (V.ref t2) (V.ref t3) (V.ref t4) (V.ref t5) (V.ref t6) (V.ref t7) = [(Sum.inr (str "join"), V.ref t1)] ++ (Sum.inr (str "turn"), V.ref t2) :: [(Sum.inr (str "wear"), V.ref t3), (Sum.inr (str "look"), V.ref t4), (Sum.inr (str "sew"), V.ref t5), (Sum.inr (str "power"), V.ref t6), (Sum.inr (str "hang"), V.ref t7)] from rfl, valS_hit (ks := [str "join"]) rfl (by decide +kernel)]; rfl, e2, by simp, DrL.one hs1, by decide +kernel, .cons (.name h0) (.cons (.name h1) .nil)⟩
  · exact ⟨t4, _, [str "name", str "name", str "word"], [x1, wordS w], [.str x1, D.its w], by rw [show kvs7 (V.ref t1) (V.ref t2) (V.ref t3) (V.ref t4) (V.ref t5) (V.ref t6) (V.ref t7) = [(Sum.inr (str "join"), V.ref t1), (Sum.inr (str "turn"), V.ref t2), (Sum.inr (str "wear"), V.ref t3)] ++ (Sum.inr (str "look"), V.ref t4) :: [(Sum.inr (str "sew"), V.ref t5), (Sum.inr (str "power"), V.ref t6), (Sum.inr (str "hang"), V.ref t7)] from rfl, valS_hit (ks := [str "join", str "turn", str "wear"]) rfl (by decide +kernel)]; rfl, e4, by simp, DrL.cons hs1 (DrL.one dw), by decide +kernel, .cons (.name h0) (.cons (.name h1) (.cons (.word hw) .nil))⟩
  · exact ⟨t6, _, [str "name", str "name", str "number"], [x1, numT n], [.str x1, .int n], by rw [show kvs7 (V.ref t1) (V.ref t2) (V.ref t3) (V.ref t4) (V.ref t5) (V.ref t6) (V.ref t7) = [(Sum.inr (str "join"), V.ref t1), (Sum.inr (str "turn"), V.ref t2), (Sum.inr (str "wear"), V.ref t3), (Sum.inr (str "look"), V.ref t4), (Sum.inr (str "sew"), V.ref t5)] ++ (Sum.inr (str "power"), V.ref t6) :: [(Sum.inr (str "hang"), V.ref t7)] from rfl, valS_hit (ks := [str "join", str "turn", str "wear", str "look", str "sew"]) rfl (by decide +kernel)]; rfl, e6, by simp, DrL.cons hs1 (DrL.one hsn), by decide +kernel, .cons (.name h0) (.cons (.name h1) (.cons (.num hn) .nil))⟩
  · exact ⟨z, [], [str "name"], [], [], by rw [valS_none (ks := [str "join", str "turn", str "wear", str "look", str "sew", str "power", str "hang"]) rfl (by decide +kernel)]; rfl, ez, by simp, DrL.nil, by decide +kernel, .cons (.name h0) .nil⟩
  · exact ⟨t7, _, [str "name", str "word", str "ring"], [wordS w, wordS w2], [D.its w, D.its w2], by rw [show kvs7 (V.ref t1) (V.ref t2) (V.ref t3) (V.ref t4) (V.ref t5) (V.ref t6) (V.ref t7) = [(Sum.inr (str "join"), V.ref t1), (Sum.inr (str "turn"), V.ref t2), (Sum.inr (str "wear"), V.ref t3), (Sum.inr (str "look"), V.ref t4), (Sum.inr (str "sew"), V.ref t5), (Sum.inr (str "power"), V.ref t6)] ++ (Sum.inr (str "hang"), V.ref t7) :: [] from rfl, valS_hit (ks := [str "join", str "turn", str "wear", str "look", str "sew", str "power"]) rfl (by decide +kernel)]; rfl, e7, by simp, DrL.cons dw (DrL.one d2), by decide +kernel, .cons (.name h0) (.cons (.word hw) (.cons (.ring hne hw2) .nil))⟩
  · exact ⟨t3, _, [str "name", str "name"], [x1], [.str x1], by rw [show kvs7 (V.ref t1) (V.ref t2) (V.ref t3) (V.ref t4) (V.ref t5) (V.ref t6) (V.ref t7) = [(Sum.inr (str "join"), V.ref t1), (Sum.inr (str "turn"), V.ref t2)] ++ (Sum.inr (str "wear"), V.ref t3) :: [(Sum.inr (str "look"), V.ref t4), (Sum.inr (str "sew"), V.ref t5), (Sum.inr (str "power"), V.ref t6), (Sum.inr (str "hang"), V.ref t7)] from rfl, valS_hit (ks := [str "join", str "turn"]) rfl (by decide +kernel)]; rfl, e3, by simp, DrL.one hs1, by decide +kernel, .cons (.name h0) (.cons (.name h1) .nil)⟩
  · exact ⟨z, [], [str "name"], [], [], by rw [valS_none (ks := [str "join", str "turn", str "wear", str "look", str "sew", str "power", str "hang"]) rfl (by decide +kernel)]; rfl, ez, by simp, DrL.nil, by decide +kernel, .cons (.name h0) .nil⟩
  · exact ⟨z, [], [str "name"], [], [], by rw [valS_none (ks := [str "join", str "turn", str "wear", str "look", str "sew", str "power", str "hang"]) rfl (by decide +kernel)]; rfl, ez, by simp, DrL.nil, by decide +kernel, .cons (.name h0) .nil⟩
  · exact sew
/-! ### tuples and lists kept -/
def Kp (H H' : Hp) : Prop := (∀ b xs, H b = some (.tup xs) → H' b = some (.tup xs)) ∧ ∀ b xs, H b = some (.lst xs) → H' b = some (.lst xs)
theorem Kp.same {H H' : Hp} (s : Same H H') : Kp H H' := ⟨fun _ _ e => s _ _ e, fun _ _ e => s _ _ e⟩
theorem Kp.trans {H H' H'' : Hp} (a : Kp H H') (b : Kp H' H'') : Kp H H'' := ⟨fun _ _ e => b.1 _ _ (a.1 _ _ e), fun _ _ e => b.2 _ _ (a.2 _ _ e)⟩
theorem Kp.over {H : Hp} {p : Addr} {kvs : List (Key × V)} {o : HO} (e : H p = some (.dK kvs)) : Kp H (upd H p o) :=
  ⟨fun b xs h => by rw [upd_ne (fun z => by subst z; rw [e] at h; cases h)]; exact h, fun b xs h => by rw [upd_ne (fun z => by subst z; rw [e] at h; cases h)]; exact h⟩
theorem figs_mod {fs : List Int} (h : fs.length ≤ 100) : Figs (fs.map fun x => x % 10) := ⟨by rw [List.length_map]; omega, fun x hx => by
  obtain ⟨y, _, rfl⟩ := List.mem_map.mp hx
  have z0 := Int.emod_nonneg y (show (10 : Int) ≠ 0 by decide)
  have z1 := Int.emod_lt_of_pos y (show (0 : Int) < 10 by decide)
  exact ⟨z0, by omega⟩⟩
def deedsIn (K : PySem.W.Frag) (a : Addr) : Bool := deedT.all fun p => match PySem.W.nsIn K a p.1 with
  | some (some (.ref t)) => tupM K t p.2
  | _ => false
theorem deedsIn_at {K : PySem.W.Frag} {a : Addr} (h : deedsIn K a = true) : ∀ p ∈ deedT, ∃ t, PySem.W.nsIn K a p.1 = some (some (.ref t)) ∧ tupM K t p.2 = true := fun p hp => by
  have := List.all_eq_true.mp h p hp
  split at this
  · rename_i t e
    exact ⟨t, e, this⟩
  · cases this
def textB : Expr → Bool
  | .Constant (.str _) _ _ => true
  | _ => false
def textV : Expr → V
  | .Constant (.str x) _ _ => .str x
  | _ => .non
theorem pa_txts {X : Cx} : ∀ {es : List Expr}, es.all textB = true → PA X es (fun _ H Q => Q (es.map textV) H)
  | [], _ => pa_nil
  | e :: es, h => by
    obtain ⟨h1, h2⟩ : textB e = true ∧ es.all textB = true := by rw [List.all_cons, Bool.and_eq_true] at h; exact h
    obtain ⟨x, j, p, rfl⟩ : ∃ x j p, e = .Constant (.str x) j p := by
      unfold textB at h1
      split at h1
      · exact ⟨_, _, _, rfl⟩
      · cases h1
    exact pa_cons pe_str (pa_txts h2)
theorem pe_lstT {X : Cx} {pos : Pos} {es : List Expr} {xs : List Str} (h : es.all textB = true) (e : es.map textV = xs.map V.str) : PE X (.List es pos) (tLst fun _ H Q => Q (xs.map V.str) H) := by
  have := pe_lst (pos := pos) (pa_txts (X := X) h)
  rw [e] at this
  exact this
end Gu

set_option Elab.async false
set_option linter.all false
set_option maxRecDepth 100000
set_option maxHeartbeats 4000000
namespace Gu
open PySem L2
/-! ### any text: which one is a number, which one is a word -/
theorem digit_sign : ∀ d : Nat, d < 10 → (Nat.digitChar d).toNat = 48 + d := by decide +kernel
theorem num_one {d : Nat} (hd : d < 10) : sg (numS d) = [48 + d] := by
  rw [sg_num, Nat.toDigits_of_lt_base hd, List.map_singleton, digit_sign d hd]
theorem num_snoc {m d : Nat} (hm : 0 < m) (hd : d < 10) : sg (numS (10 * m + d)) = sg (numS m) ++ [48 + d] := by
  rw [sg_num, sg_num, ← Nat.toDigits_append_toDigits (by decide) hm hd, List.map_append, Nat.toDigits_of_lt_base hd, List.map_singleton, digit_sign d hd]
theorem figs_add : ∀ (r : List Nat) (m : Nat), 0 < m → (∀ x ∈ r, 48 ≤ x ∧ x ≤ 57) → ∃ m', 0 < m' ∧ sg (numS m') = sg (numS m) ++ r
  | [], m, hm, _ => ⟨m, hm, by rw [List.append_nil]⟩
  | d :: r, m, hm, h => by
    obtain ⟨h1, h2⟩ := h d List.mem_cons_self
    obtain ⟨m', hm', e⟩ := figs_add r (10 * m + (d - 48)) (by omega) fun x hx => h x (List.mem_cons_of_mem _ hx)
    refine ⟨m', hm', ?_⟩
    rw [e, num_snoc hm (by omega), List.append_assoc, show 48 + (d - 48) = d by omega]
    rfl
theorem figs_num {c : Nat} {r : List Nat} (hc : 49 ≤ c ∧ c ≤ 57) (hr : ∀ x ∈ r, 48 ≤ x ∧ x ≤ 57) : ∃ m : Nat, 0 < m ∧ sg (numS m) = c :: r := by
  obtain ⟨m, hm, e⟩ := figs_add r (c - 48) (by omega) hr
  refine ⟨m, hm, ?_⟩
  rw [e, num_one (by omega), show 48 + (c - 48) = c by omega]
  rfl
theorem num_small {m : Nat} (h : (numS m).length ≤ 60) : m < 10 ^ 60 := by
  rw [← sg_len, sg_num, List.length_map] at h
  exact (Nat.length_toDigits_le_iff (by decide) (by decide)).mp h
def numB (x : Str) : Bool := figsB (Txt.removeprefix x (str "-")) && decide ((Txt.removeprefix x (str "-")).length ≤ 60) && !(Txt.startswith (Txt.removeprefix x (str "-")) (str "0") && decide (x ≠ str "0"))
theorem figsB_signs {x : Str} (h : figsB x = true) : ∃ c r, sg x = c :: r ∧ ∀ d ∈ sg x, 48 ≤ d ∧ d ≤ 57 := by
  unfold figsB at h
  rw [Bool.and_eq_true] at h
  have h1 : 0 < x.length := of_decide_eq_true h.1
  have h2 := List.all_eq_true.mp h.2
  cases hs : sg x with
  | nil => rw [← sg_len, hs] at h1; exact absurd h1 (by decide)
  | cons c r =>
    refine ⟨c, r, rfl, fun d hd => ?_⟩
    have := h2 d (by rw [hs]; exact hd)
    exact of_decide_eq_true this
theorem num_facts {n : Int} (hn : n.natAbs < 10 ^ 60) : ∃ m : Nat, m < 10 ^ 60 ∧ Txt.removeprefix (numT n) (str "-") = numS m ∧ intText? (numT n) = some n ∧ (numT n).length ≤ 61 ∧ (m = 0 → numT n = str "0") := by
  rcases Int.lt_or_le n 0 with q | q
  · obtain ⟨k, rfl⟩ : ∃ k : Nat, n = -((k + 1 : Nat) : Int) := ⟨(-n).toNat - 1, by omega⟩
    have hk : k + 1 < 10 ^ 60 := by omega
    refine ⟨k + 1, hk, rm_minus (sg_neg k) rfl, int_neg hk, ?_, fun z => by omega⟩
    rw [← sg_len, sg_neg, List.length_cons, sg_len]; have := num_len hk; omega
  · obtain ⟨k, rfl⟩ := Int.eq_ofNat_of_zero_le q
    have hk : k < 10 ^ 60 := by omega
    have hl := num_len hk
    refine ⟨k, hk, ?_, int_num hk, (by show (numS k).length ≤ 61; omega), fun z => by subst z; rfl⟩
    cases hs : sg (numS k) with
    | nil => exact absurd hs (num_ne k)
    | cons c r =>
      have hc : c ∈ sg (numS k) := by rw [hs]; exact List.mem_cons_self
      have := num_figs k c hc
      exact rm_none hs (by omega)
theorem numB_iff {x : Str} : numB x = true ↔ ∃ n : Int, x = numT n ∧ n.natAbs < 10 ^ 60 := by
  constructor
  · intro h
    unfold numB at h
    rw [Bool.and_eq_true, Bool.and_eq_true] at h
    obtain ⟨⟨h1, h2⟩, h3⟩ := h
    have h2' := of_decide_eq_true h2
    obtain ⟨c, r, hs, hd⟩ := figsB_signs h1
    rw [starts0 hs] at h3
    by_cases c0 : c = 48
    · rw [decide_eq_true c0, Bool.true_and, Bool.not_eq_true'] at h3
      have : x = str "0" := Decidable.byContradiction fun z => by rw [decide_eq_true z] at h3; cases h3
      exact ⟨0, this, by decide⟩
    · have hc := hd c (by rw [hs]; exact List.mem_cons_self)
      obtain ⟨m, hm, e⟩ := figs_num (c := c) (r := r) (by omega) fun y hy => hd y (by rw [hs]; exact List.mem_cons_of_mem _ hy)
      have hf : Txt.removeprefix x (str "-") = numS m := sg_inj (by rw [hs, e])
      have hm60 : m < 10 ^ 60 := num_small (by rw [← hf]; exact h2')
      cases hx : sg x with
      | nil =>
        have ex : x = str "" := sg_inj (by rw [hx]; rfl)
        subst ex
        have : figsB (Txt.removeprefix (str "") (str "-")) = false := by decide +kernel
        rw [this] at h1
        cases h1
      | cons a t =>
        by_cases ha : a = 45
        · subst ha
          obtain ⟨k, rfl⟩ : ∃ k, m = k + 1 := ⟨m - 1, by omega⟩
          refine ⟨-((k + 1 : Nat) : Int), sg_inj ?_, by omega⟩
          have ht : Txt.removeprefix x (str "-") = ⟨t.toArray⟩ := rm_minus hx rfl
          rw [sg_neg, hx]
          rw [ht] at hf
          have : t = sg (numS (k + 1)) := by rw [← hf]
          rw [this]
        · rw [rm_none hx ha] at hf
          exact ⟨(m : Int), hf, by omega⟩
  · rintro ⟨n, rfl, hn⟩
    obtain ⟨m, hm, hf, _, _, hz⟩ := num_facts hn
    unfold numB
    rw [hf, num_figsB hm, decide_eq_true (num_len hm).2, Bool.true_and, Bool.true_and]
    rcases Nat.eq_zero_or_pos m with z | z
    · rw [hz z, decide_eq_false (fun c => c rfl), Bool.and_false]; rfl
    · obtain ⟨c, r, hs, hc⟩ := fig_head m z
      rw [starts0 hs, decide_eq_false (by omega)]; rfl
end Gu

set_option Elab.async false
set_option linter.all false
set_option maxRecDepth 100000
set_option maxHeartbeats 4000000
namespace L2
open PySem
section
variable {X : Cx} {pins : List (Addr × Obj)} {σ : St} {H : Hp} {s : Shared} {N : List Str} {ix : List (Option Nat)} {scope : Scope} {elt iter tg : Expr} {pos : Pos} {g : TG} {te : TE} {E : Value → Shared → Prop}
theorem pe_compX {E0 : XK} {wi : TI} (hc : X.calm = true) (S : CompS X.N X.env.scope N ix scope) (hi : PI X tg iter wi) (hfr : X.env.frame = some X.env.locals) (hstk : X.stack = X.env :: X.outer) (hex : X.ex = []) (hpa : PassA X E0)
    (hg : ∀ cl C ex s H, PG (cxCompE X N scope cl C ex s H E0) tg g) (he : ∀ cl C ex s H, PE (cxCompE X N scope cl C ex s H E0) elt te)
    (hs : ∀ x, foldedSetIterable iter X.env x = pure x := by intro _; rfl) : PE X (.ListComp elt [⟨tg, iter, [], 0⟩] scope pos) (tComp ix wi g te) := by
  intro pins s σ H Q I h
  rw [eval_ListComp]
  refine wpAny_comprehension_free (use := none) rfl hs (closureFor_run (comp_cells I S)) S.kind S.names (thn (hi pins s σ H _ I h) fun v s1 h1 => thn h1 fun itv s2 h2 => ?_)
  obtain ⟨it, fp, tn, J, H2, e, I2, T, st2, f2, hw⟩ := h2
  subst e
  refine comp_blockX (RR := fun acc C => compPost (model X.prog X.w) X.A X.xe none (EP X pins σ Q) acc C) hc S hfr hstk hex hg he I2 T st2 f2 hw (fun l C s' H' m hn I' fC q => ⟨m, hn, fun h' hs' => ?_⟩) fun l C s' H' m ea Ce hn I' fC fly hE => ⟨m, hn, fun h' hs' cenv _ => ?_⟩
  · obtain ⟨c0, c1, _, c3, c4, c5⟩ := fC
    exact ⟨.ref l, H', I'.turned (t' := s'.toks) (fun b o hb e => (hs'.2 b hb).trans e) c0 c1 c3 c4 c5, rfl, q⟩
  · obtain ⟨c0, c1, c2, c3, c4, c5⟩ := fC
    have I2' := I'.turned (t' := s'.toks) (h' := h') (fun b o hb e => (hs'.2 b hb).trans e) c0 c1 c3 c4 c5
    obtain ⟨oC, _, _, eC, dC, _⟩ := hn
    have nC : ∀ b o vs, s'.heap.get? b = some o → o.data = .fields vs → b ≠ C := fun b o vs e d z => by
      rw [z, eC] at e; cases e; rw [dC] at d; cases d
    obtain ⟨a1, a2, a0, oe, vs, T, oT, ts, g1, g2, g3, g4, g5, g6, g7, g8, g9, g10⟩ := fly
    exact hpa pins σ H' { s' with heap := h' } ea Ce _ cenv I2' ⟨a1, a2, a0, oe, vs, T, oT, ts, (hs'.2 _ (nC _ _ _ g1 g3)).trans g1, g2, g3, g4, g5, g6, g7, (hs'.2 _ (nC _ _ _ g8 g9)).trans g8, g9, g10⟩ hE
end
end L2

set_option Elab.async false
set_option linter.all false
set_option maxRecDepth 100000
set_option maxHeartbeats 4000000
namespace Gu
open PySem L2
/-! ### what a part of a line means, if it means anything -/
def digs (x : Str) : List Int := (sg x).map fun d : Nat => (d : Int) - 48
def numV (x : Str) : Int := (intText? x).getD 0
def nameM (x : Str) : Option D := if nameB x = true then some (.str x) else none
def numM (x : Str) : Option D := if numB x = true then some (.int (numV x)) else none
def ringM (x : Str) : Option D := if figsB x = true then some (D.its (digs x)) else none
def wordM (x : Str) : Option D := if x = str "-" then some (D.its []) else ringM x
def goM (x : Str) : Option D := if nameB x = true then some (.str x) else if numB x = true ∧ 0 ≤ numV x then some (.int (numV x)) else none
def spRd8 (K : PySem.W.Frag) (Ct : Addr) (f : Str → Option D) : Sp := fun vs H Q E => ∃ x : Str, vs = [.str x] ∧ x.length ≤ 900000 ∧ (∀ d, f x = some d → Gives K H Q d) ∧ (f x = none → TMx Ct E H)
theorem numB_int {x : Str} (h : numB x = true) : intText? x = some (numV x) ∧ x.length ≤ 61 := by
  obtain ⟨n, rfl, hn⟩ := numB_iff.mp h
  obtain ⟨_, _, _, h1, h2, _⟩ := num_facts hn
  refine ⟨?_, h2⟩
  unfold numV
  rw [h1]
  rfl
theorem rm_len (x : Str) : (Txt.removeprefix x (str "-")).length ≤ x.length := by
  cases hx : sg x with
  | nil =>
    have ex : x = str "" := sg_inj (by rw [hx]; rfl)
    subst ex
    decide +kernel
  | cons a t =>
    by_cases ha : a = 45
    · subst ha
      have ht : Txt.removeprefix x (str "-") = ⟨t.toArray⟩ := rm_minus hx rfl
      rw [ht, ← sg_len, ← sg_len x, hx]
      show t.length ≤ (45 :: t).length
      simp
    · rw [rm_none hx ha]; exact Nat.le_refl _
theorem digs_len (x : Str) : (digs x).length = x.length := by unfold digs; rw [List.length_map, sg_len]
/-! ### the pieces of a text -/
theorem join_mem {y : Str} : ∀ {xs : List Str} {x : Str}, x ∈ xs → x.length ≤ (Str.join y xs).length
  | [p], x, h => by rw [List.mem_singleton.mp h]; exact Nat.le_refl _
  | p :: q :: r, x, h => by
    have e : Str.join y (p :: q :: r) = p ++ y ++ Str.join y (q :: r) := rfl
    rw [e, PySem.Str.length_append, PySem.Str.length_append]
    rcases List.mem_cons.mp h with z | z
    · rw [z]; omega
    · have := join_mem (y := y) z; omega
theorem split_mem {x y p : Str} (h : p ∈ Txt.split x y) : p.length ≤ x.length := by
  have := join_mem (y := y) h
  rwa [PySem.StrLaws.join_split] at this
theorem split_most {x y : Str} (hy : y.length ≠ 0) : (Txt.split x y).length ≤ x.length + 1 := by
  rcases join_len (y := y) (Txt.split x y) with h | h
  · rw [PySem.StrLaws.join_split] at h; omega
  · exact absurd h hy
theorem split_cons (x y : Str) : ∃ p ps, Txt.split x y = p :: ps := by
  cases h : Txt.split x y with
  | nil => exact absurd h (split_ne x y)
  | cons p ps => exact ⟨p, ps, rfl⟩
def mapO (f : Str → Option D) : List Str → Option (List D)
  | [] => some []
  | x :: xs => match f x, mapO f xs with
    | some d, some ds => some (d :: ds)
    | _, _ => none
theorem mapO_snoc {f : Str → Option D} {x : Str} {d : D} (hx : f x = some d) : ∀ {xs : List Str} {ds : List D}, mapO f xs = some ds → mapO f (xs ++ [x]) = some (ds ++ [d])
  | [], _, h => by
    simp only [mapO, Option.some.injEq] at h
    subst h
    simp only [List.nil_append, mapO, hx]
  | y :: ys, ds, h => by
    simp only [mapO] at h
    cases hy : f y with
    | none => rw [hy] at h; cases h
    | some e =>
      cases hr : mapO f ys with
      | none => rw [hy, hr] at h; cases h
      | some es =>
        rw [hy, hr] at h
        cases h
        simp only [List.cons_append, mapO, hy, mapO_snoc hx hr]
theorem mapO_none {f : Str → Option D} {x : Str} (hx : f x = none) : ∀ {xs : List Str}, x ∈ xs → mapO f xs = none
  | y :: ys, h => by
    rcases List.mem_cons.mp h with z | z
    · subst z; simp only [mapO, hx]
    · simp only [mapO, mapO_none hx z]
      cases f y <;> rfl
theorem mapO_len {f : Str → Option D} : ∀ {xs : List Str} {ds : List D}, mapO f xs = some ds → ds.length = xs.length
  | [], _, h => by cases h; rfl
  | y :: ys, ds, h => by
    simp only [mapO] at h
    cases hy : f y with
    | none => rw [hy] at h; cases h
    | some e =>
      cases hr : mapO f ys with
      | none => rw [hy, hr] at h; cases h
      | some es => rw [hy, hr] at h; cases h; rw [List.length_cons, List.length_cons, mapO_len hr]
theorem mapO_all {f : Str → Option D} {P : D → Prop} (hf : ∀ x d, f x = some d → P d) : ∀ {xs : List Str} {ds : List D}, mapO f xs = some ds → ∀ d ∈ ds, P d
  | [], _, h => by cases h; intro d hd; cases hd
  | y :: ys, ds, h => by
    simp only [mapO] at h
    cases hy : f y with
    | none => rw [hy] at h; cases h
    | some e =>
      cases hr : mapO f ys with
      | none => rw [hy, hr] at h; cases h
      | some es =>
        rw [hy, hr] at h
        cases h
        intro d hd
        rcases List.mem_cons.mp hd with z | z
        · rw [z]; exact hf y e hy
        · exact mapO_all hf hr d z
theorem goM_flat {x : Str} {d : D} (h : goM x = some d) : D.flat d := by
  unfold goM at h
  split at h
  · cases h; simp only [D.flat]
  · split at h
    · cases h; simp only [D.flat]
    · cases h
def rowM (x : Str) : Option D := match Txt.split x (str " ") with
  | [] => none
  | p :: ps => match ringM p, mapO goM ps with
    | some d, some ds => some (.tup [d, .tup ds])
    | _, _ => none
def rowsM (x : Str) : Option D := (mapO rowM (Txt.split x (str " / "))).map D.lst
theorem ringM_flat {x : Str} {d : D} (h : ringM x = some d) : D.flat d := by
  unfold ringM at h
  split at h
  · cases h
    unfold D.its
    simp only [D.flat]
    exact flatL_all.mpr fun d hd => by
      obtain ⟨i, _, rfl⟩ := List.mem_map.mp hd
      simp only [D.flat]
  · cases h
theorem rowM_flat {x : Str} {d : D} (h : rowM x = some d) : D.flat d := by
  unfold rowM at h
  split at h
  · cases h
  · rename_i p ps _
    cases h1 : ringM p with
    | none => rw [h1] at h; cases h
    | some e =>
      cases h2 : mapO goM ps with
      | none => rw [h1, h2] at h; cases h
      | some es =>
        rw [h1, h2] at h
        cases h
        simp only [D.flat, D.flatL, and_true]
        exact ⟨ringM_flat h1, flatL_all.mpr fun d hd => mapO_all (fun _ _ h => goM_flat h) h2 d hd⟩
end Gu

set_option Elab.async false
set_option linter.all false
set_option maxRecDepth 100000
set_option maxHeartbeats 4000000
namespace Gu
open PySem L2
/-! ### what the parts of a line mean, by their kinds -/
def kindF (k : Str) : Str → Option D := if k = str "name" then nameM else if k = str "number" then numM else if k = str "word" then wordM else if k = str "ring" then ringM else rowsM
def kindT : List Str := [str "name", str "number", str "word", str "ring", str "rows"]
def zipM : List Str → List Str → Option (List D)
  | k :: ks, p :: ps => match kindF k p, zipM ks ps with
    | some d, some ds => some (d :: ds)
    | _, _ => none
  | [], [] => some []
  | _, _ => none
def partsM (kinds : List Str) (x : Str) : Option D := match Txt.splitMax x (str " ") ((kinds.length : Nat) : Int) with
  | [] => none
  | p :: ps => (zipM kinds ps).map fun ds => .tup (.str p :: ds)
theorem zipM_len : ∀ {ks ps : List Str}, ks.length ≠ ps.length → zipM ks ps = none
  | [], [], h => absurd rfl h
  | [], _ :: _, _ => rfl
  | _ :: _, [], _ => rfl
  | k :: ks, p :: ps, h => by
    simp only [zipM, zipM_len (ks := ks) (ps := ps) (fun z => h (by rw [List.length_cons, List.length_cons, z]))]
    cases kindF k p <;> rfl
theorem zipM_snoc {k p : Str} {d : D} (hd : kindF k p = some d) : ∀ {ks ps : List Str} {ds : List D}, zipM ks ps = some ds → zipM (ks ++ [k]) (ps ++ [p]) = some (ds ++ [d])
  | [], [], ds, h => by
    cases h
    simp only [List.nil_append, zipM, hd]
  | [], _ :: _, _, h => by cases h
  | _ :: _, [], _, h => by cases h
  | k' :: ks, p' :: ps, ds, h => by
    simp only [zipM] at h
    cases h1 : kindF k' p' with
    | none => rw [h1] at h; cases h
    | some e =>
      cases h2 : zipM ks ps with
      | none => rw [h1, h2] at h; cases h
      | some es =>
        rw [h1, h2] at h
        cases h
        simp only [List.cons_append, zipM, h1, zipM_snoc hd h2]
theorem zipM_none {k p : Str} (hn : kindF k p = none) : ∀ {ks ps : List Str} {i : Nat}, ks[i]? = some k → ps[i]? = some p → zipM ks ps = none
  | [], _, _, h, _ => by simp at h
  | _ :: _, [], _, _, h => by simp at h
  | k' :: ks, p' :: ps, 0, h, h' => by
    simp only [List.getElem?_cons_zero, Option.some.injEq] at h h'
    subst h; subst h'
    simp only [zipM, hn]
  | k' :: ks, p' :: ps, i + 1, h, h' => by
    rw [List.getElem?_cons_succ] at h h'
    simp only [zipM, zipM_none hn h h']
    cases kindF k' p' <;> rfl
theorem rowM_tup {x : Str} {d : D} (h : rowM x = some d) : ∃ es, d = .tup es := by
  unfold rowM at h
  split at h
  · cases h
  · rename_i p ps _
    cases h1 : ringM p with
    | none => rw [h1] at h; cases h
    | some e =>
      cases h2 : mapO goM ps with
      | none => rw [h1, h2] at h; cases h
      | some es => rw [h1, h2] at h; cases h; exact ⟨_, rfl⟩
theorem kindF_other {k x : Str} {d : D} (hd : kindF k x = some d) {K : PySem.W.Frag} {H H' : Hp} {v : V} {l : Addr} {z : Str} {us : List V} (e : H l = some (.lst (.str z :: us))) (keep : ∀ b, b ≠ l → H' b = H b) (dv : Dr K H d v) : Dr K H' d v := by
  have kt : ∀ b xs, H b = some (.tup xs) → H' b = some (.tup xs) := fun b xs hb => by
    rw [keep b (fun q => by rw [q, e] at hb; cases hb)]; exact hb
  unfold kindF at hd
  split at hd
  · unfold nameM at hd
    split at hd
    · cases hd; simp only [Dr] at dv ⊢; exact dv
    · cases hd
  split at hd
  · unfold numM at hd
    split at hd
    · cases hd; simp only [Dr] at dv ⊢; exact dv
    · cases hd
  split at hd
  · unfold wordM at hd
    split at hd
    · cases hd
      refine Dr.flat kt ?_ dv
      simp only [D.its, D.flat, List.map_nil, D.flatL]
    · exact Dr.flat kt (ringM_flat hd) dv
  split at hd
  · exact Dr.flat kt (ringM_flat hd) dv
  · unfold rowsM at hd
    obtain ⟨ds, hds, rfl⟩ := Option.map_eq_some_iff.mp hd
    have hfl := flatL_all.mpr fun d hd => mapO_all (fun _ _ h => rowM_flat h) hds d hd
    simp only [Dr] at dv ⊢
    obtain ⟨a, vs, rfl, ea, dvs⟩ := dv
    refine ⟨a, vs, rfl, ?_, DrL.flat kt hfl dvs⟩
    have htp := mapO_all (fun _ _ h => rowM_tup h) hds
    have hno : ∀ vs', vs' = vs → vs' ≠ .str z :: us := fun vs' q c => by
      rw [← q, c] at dvs
      cases ds with
      | nil => simp only [DrL] at dvs; cases dvs
      | cons d0 ds =>
        obtain ⟨es, rfl⟩ := htp d0 List.mem_cons_self
        simp only [DrL] at dvs
        obtain ⟨v0, r0, e0, q0, _⟩ := dvs
        cases e0
        simp only [Dr] at q0
        obtain ⟨a0, _, q1, _⟩ := q0
        cases q1
    rcases ea with ea | ea
    · left
      by_cases hal : a = l
      · subst hal
        rcases ea with ea | ea
        · rw [e] at ea; cases ea; exact absurd rfl (hno _ rfl)
        · obtain ⟨o, ea⟩ := ea; rw [e] at ea; cases ea
      · rcases ea with ea | ea
        · exact .inl (by rw [keep a hal]; exact ea)
        · exact .inr (by rw [keep a hal]; exact ea)
    · exact .inr ea
theorem splitMax_cons (x y : Str) (k : Int) : ∃ p ps, Txt.splitMax x y k = p :: ps := by
  cases h : Txt.splitMax x y k with
  | nil => have := PyProof.Rows.splitMax_pos x y k; rw [h] at this; simp at this
  | cons p ps => exact ⟨p, ps, rfl⟩
def spHead8 : Sp := fun vs H Q _ => ∃ x : Str, vs = [.str x] ∧ x.length ≤ 900000 ∧ ∀ p ps, Txt.split x (str " ") = p :: ps → ∀ H', Same H H' → Q (.str p) H'
def spParts8 (K : PySem.W.Frag) (Ct : Addr) : Sp := fun vs H Q E => ∃ (t : Addr) (x : Str) (kinds : List Str), vs = [.str x, .ref t] ∧ SqT K H t (kinds.map V.str) ∧ kinds ≠ [] ∧ kinds.length ≤ 3 ∧ (∀ k ∈ kinds, k ∈ kindT) ∧ x.length ≤ 900000 ∧
  (∀ d, partsM kinds x = some d → Gives K H Q d) ∧ (partsM kinds x = none → TMx Ct E H)
def Rds (P : Program) (w : World) (K : PySem.W.Frag) (mg : Str → Option Value) (base : Heap) (n : Nat) (aR Ct : Addr) : Prop := ∀ k ∈ kindT, ∃ (f : Addr) (fd : FuncData), PySem.W.nsIn K aR k = some (some (.ref f)) ∧ FnOk P w K mg base (CXx P w) n f fd ["text"] (spRd8 K Ct (kindF k)) ∧ Binds K fd ["text"] [] ∧ PySem.W.keepIn K (.ref f) = true
theorem zipM_from : ∀ {ks ps : List Str} {ds : List D}, zipM ks ps = some ds → ∀ d ∈ ds, ∃ k x, kindF k x = some d
  | [], [], ds, h => by cases h; intro d hd; cases hd
  | [], _ :: _, _, h => by cases h
  | _ :: _, [], _, h => by cases h
  | k :: ks, p :: ps, ds, h => by
    simp only [zipM] at h
    cases h1 : kindF k p with
    | none => rw [h1] at h; cases h
    | some e =>
      cases h2 : zipM ks ps with
      | none => rw [h1, h2] at h; cases h
      | some es =>
        rw [h1, h2] at h
        cases h
        intro d hd
        rcases List.mem_cons.mp hd with z | z
        · rw [z]; exact ⟨k, p, h1⟩
        · exact zipM_from h2 d z
theorem parts_over {K : PySem.W.Frag} {H H' : Hp} {l : Addr} {z : Str} {us : List V} (e : H l = some (.lst (.str z :: us))) (keep : ∀ b, b ≠ l → H' b = H b) : ∀ {ds : List D} {vs : List V}, (∀ d ∈ ds, ∃ k x, kindF k x = some d) → DrL K H ds vs → DrL K H' ds vs
  | [], _, _, h => by simp only [DrL] at h ⊢; exact h
  | d :: ds, _, q, h => by
    simp only [DrL] at h ⊢
    obtain ⟨v, r, e1, h1, h2⟩ := h
    obtain ⟨k, x, hd⟩ := q d List.mem_cons_self
    exact ⟨v, r, e1, kindF_other hd e keep h1, parts_over e keep (fun d hd => q d (List.mem_cons_of_mem _ hd)) h2⟩
/-! ### a line -/
def deedsOnly (K : PySem.W.Frag) (a : Addr) : Bool := match K.lookup a with
  | some ⟨_, _, .dict es _, _⟩ => es.toList.all (fun e => deedT.any fun q => e.key.isStr q.1) && !(es.toList.any (·.refKey))
  | _ => false
theorem deedsOnly_at {K : PySem.W.Frag} {a : Addr} (h : deedsOnly K a = true) {p : Str} (hp : ∀ q ∈ deedT, q.1 ≠ p) : PySem.W.nsIn K a p = some none := by
  unfold deedsOnly at h
  unfold PySem.W.nsIn
  split at h
  · rename_i c dd es n sl hl
    rw [hl]
    rw [Bool.and_eq_true] at h
    have hf : es.toList.find? (·.key.isStr p) = none := List.find?_eq_none.mpr fun e he c => by
      obtain ⟨q, hq, hk⟩ := List.any_eq_true.mp (List.all_eq_true.mp h.1 e he)
      obtain ⟨t1, e1⟩ := isStr_at c
      obtain ⟨t2, e2⟩ := isStr_at hk
      rw [e1] at e2
      cases e2
      exact hp q hq rfl
    have h2 : es.toList.any (·.refKey) = false := by have := h.2; rwa [Bool.not_eq_true'] at this
    simp only [hf, h2]
    rfl
  · cases h
def lineM (x : Str) : Option D := match Txt.split x (str " ") with
  | [] => none
  | p :: _ => match deedT.find? (fun q => decide (q.1 = p)) with
    | some q => partsM q.2 x
    | none => none
theorem deed_kinds : ∀ q ∈ deedT, q.2 ≠ [] ∧ q.2.length ≤ 3 ∧ ∀ k ∈ q.2, k ∈ kindT := by decide +kernel
end Gu

set_option Elab.async false
set_option linter.all false
set_option maxRecDepth 100000
set_option maxHeartbeats 4000000
namespace Gu
open PySem L2 PySem.StrLaws PySem.Builtin PySem.Builtin.Str
/-! ### a line by its words -/
theorem splitMax_few {y : Str} {c o : Nat} (m : Mark y c o) (hk : strKind y = 1) {parts : List Str} {k : Nat} (hne : parts ≠ []) (hl : parts.length ≤ k + 1) (hc : ∀ p ∈ parts, c ∉ sg p) : Txt.splitMax (Str.join y parts) y (k : Int) = parts := by
  unfold Txt.splitMax
  have e : limitOf (Str.join y parts) (k : Int) = k := by unfold limitOf; rw [if_neg (by omega)]; omega
  rw [e]
  refine splitL m hk hne (fun p hp => hc p (List.dropLast_subset _ hp)) ?_
  by_cases h : parts.length - 1 = k
  · exact .inl h
  · exact .inr ⟨by omega, fun p hp => hc p (List.mem_of_getLast? hp)⟩
theorem join_group {y : Str} : ∀ {k : Nat} {ws : List Str}, k < ws.length → Str.join y (ws.take k ++ [Str.join y (ws.drop k)]) = Str.join y ws
  | 0, ws, _ => by rw [List.take_zero, List.drop_zero, List.nil_append]; rfl
  | k + 1, p :: q :: r, h => by
    rw [List.take_succ_cons, List.drop_succ_cons, List.cons_append]
    have ih := join_group (y := y) (k := k) (ws := q :: r) (by simp only [List.length_cons] at h ⊢; omega)
    have e2 : Str.join y (p :: q :: r) = p ++ y ++ Str.join y (q :: r) := rfl
    rw [e2, ← ih]
    cases hh : (q :: r).take k ++ [Str.join y ((q :: r).drop k)] with
    | nil => exact absurd hh (by simp)
    | cons a t => rfl
  | k + 1, [_], h => by simp at h
  | k + 1, [], h => by simp at h
theorem splitMax_more {ws : List Str} {k : Nat} (hk : k < ws.length) (hc : ∀ p ∈ ws, 32 ∉ sg p) : Txt.splitMax (Str.join (str " ") ws) (str " ") (k : Int) = ws.take k ++ [Str.join (str " ") (ws.drop k)] := by
  have := splitMax_join blank_mark blank_kind (parts := ws.take k ++ [Str.join (str " ") (ws.drop k)]) (k := k) (by rw [List.length_append, List.length_take, List.length_singleton]; omega) fun p hp => by
    rw [List.dropLast_concat] at hp
    exact hc p (List.mem_of_mem_take hp)
  rwa [join_group hk] at this
theorem words_free {x : Str} : ∀ p ∈ Txt.split x (str " "), 32 ∉ sg p := by
  rw [blank_is]
  exact split_free x 32
theorem blank_rows {k x : Str} (hk : k ≠ str "rows") (hkt : k ∈ kindT) (hb : 32 ∈ sg x) : kindF k x = none := by
  have hf : figsB x = false := by
    cases h : figsB x with
    | false => rfl
    | true => obtain ⟨_, _, _, hd⟩ := figsB_signs h; have := hd 32 hb; omega
  have hn : nameB x = false := by
    cases h : nameB x with
    | false => rfl
    | true => have := name_signs h 32 hb; omega
  have hu : numB x = false := by
    cases h : numB x with
    | false => rfl
    | true =>
      obtain ⟨n, rfl, hnn⟩ := numB_iff.mp h
      have := (numT_signs hnn).1 32 hb
      omega
  have hr : ringM x = none := by unfold ringM; rw [hf]; rfl
  unfold kindF
  split
  · unfold nameM; rw [hn]; rfl
  split
  · unfold numM; rw [hu]; rfl
  split
  · unfold wordM
    rw [if_neg, hr]
    intro z
    rw [z] at hb
    exact absurd hb (by decide +kernel)
  split
  · exact hr
  · rename_i h1 h2 h3 h4
    unfold kindT at hkt
    simp only [List.mem_cons, List.not_mem_nil, or_false] at hkt
    rcases hkt with z | z | z | z | z
    · exact absurd z h1
    · exact absurd z h2
    · exact absurd z h3
    · exact absurd z h4
    · exact absurd z hk
theorem join_blank {ws : List Str} (h : 2 ≤ ws.length) : 32 ∈ sg (Str.join (str " ") ws) := by
  match ws, h with
  | p :: q :: r, _ =>
    have e : Str.join (str " ") (p :: q :: r) = p ++ str " " ++ Str.join (str " ") (q :: r) := rfl
    rw [e, sg_app, sg_app]
    exact List.mem_append_left _ (List.mem_append_right _ (by decide +kernel))
def lawLine (p : Str) (ps : List Str) : Option D := match deedT.find? (fun q => decide (q.1 = p)) with
  | none => none
  | some q => if p = str "sew" then (match ps with
      | a :: b :: r => (zipM q.2 [a, Str.join (str " ") (b :: r)]).map fun ds => .tup (.str p :: ds)
      | _ => none)
    else if ps.length = q.2.length then (zipM q.2 ps).map fun ds => .tup (.str p :: ds) else none
theorem lineM_words {x p : Str} {ps : List Str} (h : Txt.split x (str " ") = p :: ps) : lineM x = lawLine p ps := by
  have hfree : ∀ w ∈ p :: ps, 32 ∉ sg w := fun w hw => words_free (x := x) w (by rw [h]; exact hw)
  have hx : x = Str.join (str " ") (p :: ps) := by rw [← h, join_split]
  unfold lineM lawLine
  rw [h]
  simp only
  cases hf : deedT.find? (fun q => decide (q.1 = p)) with
  | none => rfl
  | some q =>
    simp only
    have hqm := List.mem_of_find?_eq_some hf
    have hqp : q.1 = p := by
      have hq := List.find?_some hf
      exact of_decide_eq_true hq
    obtain ⟨k1, k2, k3⟩ := deed_kinds q hqm
    have few : ps.length ≤ q.2.length → Txt.splitMax x (str " ") ((q.2.length : Nat) : Int) = p :: ps := fun hl => by
      rw [hx]
      exact splitMax_few blank_mark blank_kind (by simp) (by rw [List.length_cons]; omega) hfree
    have more : q.2.length < ps.length → Txt.splitMax x (str " ") ((q.2.length : Nat) : Int) = (p :: ps).take q.2.length ++ [Str.join (str " ") ((p :: ps).drop q.2.length)] := fun hl => by
      rw [hx]
      exact splitMax_more (by rw [List.length_cons]; omega) hfree
    unfold partsM
    by_cases hs : p = str "sew"
    · rw [if_pos hs]
      have hkk : q.2 = [str "name", str "rows"] := sew_kinds (by rw [← hs, ← hqp]; exact hqm)
      match ps, few, more with
      | [], few, _ =>
        rw [few (by simp)]
        simp only [hkk]
        rfl
      | [a], few, _ =>
        rw [few (by rw [hkk]; simp)]
        simp only [hkk, zipM_len (ks := [str "name", str "rows"]) (ps := [a]) (by simp)]
        rfl
      | [a, b], few, _ =>
        rw [few (by rw [hkk]; simp)]
        rfl
      | a :: b :: c :: r, _, more =>
        rw [more (by rw [hkk]; simp)]
        rw [hkk]
        rfl
    · rw [if_neg hs]
      rcases Nat.lt_trichotomy ps.length q.2.length with hl | hl | hl
      · rw [few (by omega), if_neg (by omega)]
        simp only [zipM_len (ks := q.2) (ps := ps) (by omega)]
        rfl
      · rw [few (by omega), if_pos hl]
      · rw [more hl, if_neg (by omega)]
        obtain ⟨k, hk⟩ : ∃ k, q.2.length = k + 1 := ⟨q.2.length - 1, by have := List.length_pos_iff.mpr k1; omega⟩
        rw [hk, List.take_succ_cons, List.drop_succ_cons, List.cons_append]
        simp only
        have hki : q.2[k]? = some (q.2[k]'(by omega)) := List.getElem?_eq_getElem (by omega)
        rw [zipM_none (k := q.2[k]'(by omega)) (p := Str.join (str " ") (ps.drop k)) (blank_rows (fun z => other_kinds (name := q.1) hqm (fun y => hs (hqp.symm.trans y)) (by rw [← z]; exact List.getElem_mem _)) (k3 _ (List.getElem_mem _)) (join_blank (by rw [List.length_drop]; omega))) hki (by rw [List.getElem?_append_right (by rw [List.length_take]; omega), List.length_take, Nat.min_eq_left (by omega), Nat.sub_self]; rfl)]
        rfl
/-! ### the law's own reading -/
def smallF (c : Nat) : Bool := decide (97 ≤ c ∧ c ≤ 122)
def figF (c : Nat) : Bool := decide (48 ≤ c ∧ c ≤ 57)
def spAllOf : Sp := fun vs H Q _ => ∃ (x z : Str) (f : Nat → Bool), vs = [.str x, .str z] ∧ x.length ≤ 900000 ∧ (z = str "abcdefghijklmnopqrstuvwxyz" ∧ f = smallF ∨ z = str "0123456789" ∧ f = figF) ∧ ∀ H', Same H H' → Q (.bl (decide (0 < x.length) && (sg x).all f)) H'
end Gu

set_option Elab.async false
set_option linter.all false
set_option maxRecDepth 100000
set_option maxHeartbeats 4000000
namespace L2
open PySem PySem.Builtin PySem.Builtin.Str PyProof.Rows
section
variable {X : Cx}
theorem sl_str : SlR X (fun x lo hi H Q => ∃ z : Str, x = .str z ∧ z.length ≤ sizeLine ∧ Q (.str (Txt.slice z lo hi)) H) := by
  intro pins s σ H x v vl vu lo hi sl Q I rx hs pl pu h
  obtain ⟨z, rfl, hz, q⟩ := h
  obtain ⟨t, rfl⟩ := rx
  refine ⟨"str", _, F.slot_str_getitem.lookup, typeIs_str _ _ _, ?_⟩
  have fin : ∀ t' k, EP X pins σ Q (.str (Txt.slice z lo hi) t') { s with toks := k } := fun t' k => ⟨.str _, H, I.tok _, ⟨_, rfl⟩, q⟩
  obtain ⟨o, h1, h2, h3⟩ := hs
  cases pl with
  | none => cases pu with
    | none => exact wpAny_getItem_str_slice (l := none) (u := none) (st := none) ⟨o, h1, h2, h3⟩ rfl (post_val_or_str ⟨Nat.le_trans (Txt.slice_le z _ _) hz, fun t' k => fin t' k⟩)
    | int j tj => exact wpAny_getItem_str_slice (l := none) (u := some (j, tj)) (st := none) ⟨o, h1, h2, h3⟩ rfl (post_val_or_str ⟨Nat.le_trans (Txt.slice_le z _ _) hz, fun t' k => fin t' k⟩)
  | int i ti => cases pu with
    | none => exact wpAny_getItem_str_slice (l := some (i, ti)) (u := none) (st := none) ⟨o, h1, h2, h3⟩ rfl (post_val_or_str ⟨Nat.le_trans (Txt.slice_le z _ _) hz, fun t' k => fin t' k⟩)
    | int j tj => exact wpAny_getItem_str_slice (l := some (i, ti)) (u := some (j, tj)) (st := none) ⟨o, h1, h2, h3⟩ rfl (post_val_or_str ⟨Nat.le_trans (Txt.slice_le z _ _) hz, fun t' k => fin t' k⟩)
end
end L2

set_option Elab.async false
set_option linter.all false
set_option maxRecDepth 100000
set_option maxHeartbeats 4000000
namespace L2
open PySem PySem.Builtin PySem.Builtin.Str PyProof.Rows PySem.SeqAt
section
variable {X : Cx}
def rInsert : V → List V → Hp → VK → Prop := fun x vs H Q => ∃ l xs y, ∃ i : Nat, x = .ref l ∧ vs = [.int i, y] ∧ H l = some (.lst xs) ∧ i ≤ xs.length ∧ xs.length + 1 ≤ sizeLine ∧ Q .non (upd H l (.lst (xs.take i ++ y :: xs.drop i)))
theorem mt_insert : MtM X "list.insert" rInsert := by
  intro pins s σ H x vs v us Q I rx rv h
  obtain ⟨l, xs, y, i, rfl, rfl, hH, hi, hz, q⟩ := h
  cases rx
  obtain ⟨u, w', rfl, ru, rw'⟩ := vals2 rv
  obtain ⟨t, rfl⟩ := ru
  obtain ⟨z, its, n, r, hl, e⟩ := I.lstM hH
  have hn := line63
  obtain ⟨j, hj⟩ : ∃ j : Int, j = ((i : Nat) : Int) := ⟨_, rfl⟩
  rw [← hj]
  have hfit : ¬ (!Builtin.List.listFitsIndex j) = true := by rw [fitsIndex_both (by omega) (by omega)]; exact Bool.false_ne_true
  have M := PySem.AutoSeq1.list_insert_list_int_val_1 l its.toArray n j t w' hfit (by rw [List.size_toArray]; omega)
  refine call_meets F.slot_list_insert ⟨_, e, rfl⟩ F.entry_list_insert (F.args_list_insert_3 _ _ _) M ⟨e, ?_⟩
  refine ⟨.non, _, I.lset (its' := its.take i ++ w' :: its.drop i) hH e ?_ ?_ ?_, rfl, q⟩
  · show (its.toArray.extract 0 (if j < 0 then (j + (its.toArray.size : Int)).toNat else min j.toNat its.toArray.size)).push w' ++ its.toArray.extract (if j < 0 then (j + (its.toArray.size : Int)).toNat else min j.toNat its.toArray.size) = _
    have ek : (if j < 0 then (j + (its.toArray.size : Int)).toNat else min j.toNat its.toArray.size) = i := by rw [if_neg (by omega), hj, Int.toNat_natCast, List.size_toArray, Nat.min_eq_left (by omega)]
    rw [ek]
    exact PySem.W.kl_ins_eq its i w'
  · exact (r.take i).append (.cons rw' (r.drop i))
  · rw [List.length_append, List.length_cons, List.length_take, List.length_drop]; omega
theorem rep_size : ∀ (n : Nat) (x acc : Array Nat), ((List.replicate n x).foldl (· ++ ·) acc).size = acc.size + x.size * n
  | 0, x, acc => by simp
  | n + 1, x, acc => by rw [List.replicate_succ, List.foldl_cons, rep_size n x, Array.size_append, Nat.mul_succ]; omega
theorem op_mul_str : OpR X (binaryOp .Mult) (fun x y H Q => ∃ (z : Str) (k : Int), x = .str z ∧ y = .int k ∧ 2 ≤ k ∧ k ≤ 1000 ∧ 1 ≤ z.length ∧ z.length ≤ 1000 ∧ ∀ z' : Str, z'.length = z.length * k.toNat → Q (.str z') H) := by
  intro pins s σ H x y v u Q I rx ry h
  obtain ⟨z, k, rfl, rfl, h1, h2, h3, h4, q⟩ := h
  obtain ⟨t, rfl⟩ := rx
  obtain ⟨t', rfl⟩ := ry
  have hk : k.toNat ≤ 1000 := by omega
  have hm : z.length * k.toNat ≤ 1000 * 1000 := Nat.mul_le_mul h4 hk
  have hl : (⟨(List.replicate k.toNat z.cps).foldl (· ++ ·) #[]⟩ : Str).length = z.length * k.toNat := by
    show ((List.replicate k.toNat z.cps).foldl (· ++ ·) #[]).size = z.cps.size * k.toNat
    rw [rep_size]; simp
  refine P.mul_str ?_ (fun _ _ => ?_) (fun _ _ => ?_) ?_
  · rw [decide_eq_false (by omega), decide_eq_false (by omega)]; rfl
  · have : (2 ^ 63 - 1 : Int) / 1000 ≤ (2 ^ 63 - 1) / k := by
      refine Int.le_ediv_of_mul_le (by omega) ?_
      have : (2 ^ 63 - 1 : Int) / 1000 * k ≤ (2 ^ 63 - 1 : Int) / 1000 * 1000 := Int.mul_le_mul_of_nonneg_left h2 (by decide)
      omega
    omega
  · unfold tooLong
    refine decide_eq_false (Nat.not_lt.mpr (Nat.le_trans hm (by decide)))
  · rw [if_neg (by omega), if_neg (by simp; omega)]
    exact ⟨by rw [hl]; exact Nat.le_trans hm (by decide), ⟨.str _, H, I.tok _, ⟨_, rfl⟩, q _ hl⟩⟩
def NonV (K : PySem.W.Frag) (H : Hp) (v : V) : Prop := flatV v = true ∨ ∃ a us, v = .ref a ∧ (SqL K H a us ∨ SqT K H a us)
def isNon : V → Bool
  | .non => true
  | _ => false
def isNone : Value → Bool
  | .none => true
  | _ => false
theorem isNone_of {v : V} {u : Value} (r : RelV v u) : isNone u = isNon v := by
  cases v with
  | non => cases r; rfl
  | bl b => cases r; rfl
  | ref a => cases r; rfl
  | ty a => cases r; rfl
  | int i => obtain ⟨t, rfl⟩ := r; rfl
  | str i => obtain ⟨t, rfl⟩ := r; rfl
  | byt i => obtain ⟨t, rfl⟩ := r; rfl
  | flt i => obtain ⟨t, rfl⟩ := r; rfl
theorem any_isNone : ∀ {vs : List V} {us : List Value}, Vals vs us → us.any isNone = vs.any isNon
  | _, _, .nil => rfl
  | v :: vs, u :: us, .cons r t => by rw [List.any_cons, List.any_cons, isNone_of r, any_isNone t]
theorem op_inNone (K : PySem.W.Frag) (hK : X.K = K) (hu : X.A.units + 1 < cLine) : OpR X (compareOp .In) (fun x y H Q => ∃ (l : Addr) (vs : List V), x = .non ∧ y = .ref l ∧ (SqL K H l vs ∨ SqT K H l vs) ∧ (∀ v ∈ vs, NonV K H v) ∧ Q (.bl (vs.any isNon)) H) := by
  subst hK
  intro pins s σ H x y v u Q I rx ry h
  obtain ⟨l, vs, rfl, rfl, hl, hv, q⟩ := h
  cases rx
  cases ry
  have hu2 : X.A.in1.units < cLine := by show X.A.units + 1 < cLine; omega
  have each : ∀ {its : List Value}, Vals vs its → ∀ y ∈ its.toArray, EqAt X.A.in1 s y .none (isNone y) := fun {its} r y hy => by
    obtain ⟨i, hi⟩ := List.getElem?_of_mem (show y ∈ its by simpa using hy)
    have hil := (List.getElem?_eq_some_iff.mp hi).1
    have hll := r.length
    have hvi : vs[i]? = some (vs[i]'(by omega)) := List.getElem?_eq_getElem (by omega)
    obtain ⟨u', hu', ru⟩ := r.get hvi
    rw [hi] at hu'
    cases hu'
    have hn := hv _ (List.getElem_mem (show i < vs.length by omega))
    generalize vs[i]'(by omega) = v at ru hn
    rcases hn with f | ⟨a, us, rfl, h⟩
    · have e := eqAt_V (A := X.A.in1) (s := s) ru (show RelV .non .none from rfl) f rfl
      have : eqV v .non = isNone y := by
        cases v with
        | non => cases ru; rfl
        | bl b => cases ru; rfl
        | int i => obtain ⟨t, rfl⟩ := ru; rfl
        | str i => obtain ⟨t, rfl⟩ := ru; rfl
        | _ => exact absurd (show false = true from f) Bool.false_ne_true
      rw [← this]; exact e
    · cases ru
      rcases h with h | h
      · obtain ⟨ws, _, pl, _⟩ := I.list h
        exact EqAt.list_none pl.isList hu2
      · obtain ⟨ws, _, pl, _⟩ := I.tuple h
        exact EqAt.tuple_none pl hu2
  rcases hl with hl | hl
  · obtain ⟨its, rv, pl, _⟩ := I.list hl
    refine SeqAt.in_listAt isNone pl.isList (each rv) ⟨.bl _, H, I, ?_, q⟩
    rw [show its.toArray.any isNone = its.any isNone by simp, any_isNone rv]
    rfl
  · obtain ⟨its, rv, pl, _⟩ := I.tuple hl
    refine SeqAt.in_tupleAt isNone pl (each rv) ⟨.bl _, H, I, ?_, q⟩
    rw [show its.toArray.any isNone = its.any isNone by simp, any_isNone rv]
    rfl
end
section
variable {X : Cx} {o e : Expr} {apos cpos : Pos} {td te : TE}
def tDUpd (td te : TE) : TE := fun σ H Q => td σ H fun x H1 => ∃ a, x = .ref a ∧ IsD H1 a ∧ te σ H1 fun y H2 => ∃ b kvs more, y = .ref b ∧ a ≠ b ∧ H2 a = some (.dK kvs) ∧ H2 b = some (.dK more) ∧ kvs.length + more.length ≤ sizeLine ∧ Q .non (upd H2 a (.dK (mergeK kvs more)))
theorem pe_dupd (ho : PE X o td) (he : PE X e te) (m : M1 X o "update" apos e cpos) : PE X (.Call (.Attribute o "update" apos) [e] [] cpos) (tDUpd td te) := by
  intro pins s σ H Q I h
  refine wpAny_Call_method m.base m.few m.line PySem.F.plainAttrs_dict PySem.F.slot_dict_update PySem.F.type_dict_update (thn (ho pins s σ H _ I h) fun u s1 ⟨x, H1, I1, rx, a, ex, d, q1⟩ => ?_)
  subst ex
  obtain rfl : u = Value.ref a := rx
  obtain ⟨t1, t2, _⟩ := isD_at I1 d
  refine ⟨t1, t2, ?_⟩
  rw [m.trees]
  refine Calls.callWith_builtin rfl (Calls.evalArgs_plain (Calls.spliced_cons (thn (he pins s1 σ H1 _ I1 q1) fun iv s2 ⟨y, H2, I2, ry, b, kvs, more, ey, hab, ea, eb, hz, q2⟩ => Calls.spliced_nil ?_)))
  subst ey
  obtain rfl : iv = Value.ref b := ry
  obtain ⟨z, hd, vs, rel, dd⟩ := dk_of I2.hok ea
  obtain ⟨z', hd', vs', rel', dd'⟩ := dk_of I2.hok eb
  refine call_meetsIn PySem.F.slot_dict_update dd.typeIs PySem.F.entry_dict_update (PySem.F.args_dict_update_2 _ _) (meets_dict_update (mixKind X.prog X.w) a b hab hd') ⟨vs, vs', dd, dd', by rw [← rel.length, ← rel'.length]; exact hz, fun h' d1 d2 hs => ⟨.non, _, ?_, rfl, q2⟩⟩
  have hx : ∃ q, h'.get? a = some q := let ⟨q, _, _, hq, _⟩ := d1; ⟨q, hq⟩
  exact d_write (t' := s2.toks) I2 (by rw [ea]; exact True.intro) hs hx (dk_new (Nat.le_trans (length_mergeK _ _) hz) hd (rel'.merge rel) d1)
end
end L2

set_option Elab.async false
set_option linter.all false
set_option maxRecDepth 100000
set_option maxHeartbeats 4000000
namespace Gu
open PySem L2 PySem.StrLaws PySem.Builtin PySem.Builtin.Str
/-! ### how long a line is -/
theorem line_len9 {head : Str} {kinds xs : List Str} {ds : List D} (hh : head.length ≤ 100) (hk : kinds.length ≤ 3) (hp : Parts kinds xs ds) : (Str.join (str " ") (head :: xs)).length ≤ 400000 := by
  obtain ⟨hxl, _⟩ := hp.len
  have h1 := (join_most (y := str " ") (xs := xs) (B := 130000) fun p hpm => by
    obtain ⟨i, hi⟩ := List.getElem?_of_mem hpm
    have hil := (List.getElem?_eq_some_iff.mp hi).1
    obtain ⟨x, d, ex, _, pk⟩ := hp.get (i := i) (List.getElem?_eq_getElem (show i < kinds.length by omega))
    rw [hi] at ex
    cases ex
    exact part_len pk).1
  have h2 : xs.length * (130000 + (str " ").length) ≤ 3 * (130000 + (str " ").length) := Nat.mul_le_mul_right _ (by omega)
  have h3 : 3 * (130000 + (str " ").length) ≤ 390003 := by decide +kernel
  have h4 : (str " ").length = 1 := by decide +kernel
  cases xs with
  | nil =>
    have e : Str.join (str " ") [head] = head := rfl
    rw [e]
    omega
  | cons q r =>
    have e : Str.join (str " ") (head :: q :: r) = head ++ str " " ++ Str.join (str " ") (q :: r) := rfl
    rw [e, PySem.Str.length_append, PySem.Str.length_append]
    omega
/-! ### parts of a spoilt line -/
def wt (ps : List Str) : Nat := (ps.map (·.length)).sum + ps.length
theorem wt_cons (p : Str) (ps : List Str) : wt (p :: ps) = p.length + 1 + wt ps := by unfold wt; rw [List.map_cons, List.sum_cons, List.length_cons]; omega
theorem wt_app (ps qs : List Str) : wt (ps ++ qs) = wt ps + wt qs := by unfold wt; rw [List.map_append, List.sum_append, List.length_append]; omega
theorem wt_set : ∀ {ps : List Str} {k : Nat} {p y : Str}, ps[k]? = some p → wt (ps.set k y) + p.length = wt ps + y.length
  | [], _, _, _, h => by simp at h
  | q :: ps, 0, p, y, h => by
    simp only [List.getElem?_cons_zero, Option.some.injEq] at h
    subst h
    rw [List.set_cons_zero, wt_cons, wt_cons]; omega
  | q :: ps, k + 1, p, y, h => by
    rw [List.getElem?_cons_succ] at h
    have := wt_set (y := y) h
    rw [List.set_cons_succ, wt_cons, wt_cons]; omega
theorem wt_ins (ps : List Str) (k : Nat) (y : Str) : wt (ps.take k ++ y :: ps.drop k) = wt ps + y.length + 1 := by
  have e : wt ps = wt (ps.take k) + wt (ps.drop k) := by rw [← wt_app, List.take_append_drop]
  rw [wt_app, wt_cons, e]; omega
theorem wt_erase : ∀ (ps : List Str) (k : Nat), wt (ps.eraseIdx k) ≤ wt ps
  | [], _ => by simp
  | q :: ps, 0 => by rw [List.eraseIdx_cons_zero, wt_cons]; omega
  | q :: ps, k + 1 => by rw [List.eraseIdx_cons_succ, wt_cons, wt_cons]; have := wt_erase ps k; omega
theorem wt_join : ∀ (ps : List Str), ps ≠ [] → wt ps = (Str.join (str " ") ps).length + 1
  | [], h => absurd rfl h
  | [p], _ => by rw [wt_cons]; show _ = p.length + 1; unfold wt; simp
  | p :: q :: r, _ => by
    have e : Str.join (str " ") (p :: q :: r) = p ++ str " " ++ Str.join (str " ") (q :: r) := rfl
    have h4 : (str " ").length = 1 := by decide +kernel
    rw [wt_cons, wt_join (q :: r) (by simp), e, PySem.Str.length_append, PySem.Str.length_append]
    omega
theorem wt_split (x : Str) : wt (Txt.split x (str " ")) = x.length + 1 := by
  rw [wt_join _ (split_ne x _), join_split]
theorem join_wt {ps : List Str} {B : Nat} (h : wt ps ≤ B) : (Str.join (str " ") ps).length ≤ B ∧ (ps.map (·.length)).sum + ps.length * (str " ").length ≤ B := by
  have h4 : (str " ").length = 1 := by decide +kernel
  have e := join_length_le (str " ") ps
  unfold wt at h
  rw [h4, Nat.mul_one] at e ⊢
  omega
theorem atI_mod {α : Type} {xs : List α} (h : 0 < xs.length) (n : Int) {m : Int} (hm : m = (xs.length : Int)) : ∃ c, c ∈ xs ∧ atI xs (n % m) = some c := by
  have h0 := Int.emod_nonneg n (show m ≠ 0 by omega)
  have h1 := Int.emod_lt_of_pos n (show 0 < m by omega)
  obtain ⟨j, hj⟩ := nat_of h0
  have hjl : j < xs.length := by omega
  exact ⟨xs[j], List.getElem_mem hjl, by rw [hj]; exact atI_nat (List.getElem?_eq_getElem hjl)⟩
theorem ixN_nat {n j : Nat} (h : j < n) : ixN n (j : Int) = some j := by
  unfold ixN
  rw [if_pos (by omega), if_pos (by omega)]; simp
theorem ixN_last {n : Nat} (h : 0 < n) : ixN n (-1) = some (n - 1) := by
  unfold ixN
  rw [if_neg (by decide), if_pos (by omega)]
  congr 1
  omega
theorem atI_end {α : Type} {xs : List α} (h : 0 < xs.length) {v : α} (e : xs[xs.length - 1]? = some v) : atI xs (-1) = some v := by
  unfold atI
  rw [ixN_last h]
  exact e
theorem str_get {ps : List Str} {k : Nat} {p : Str} (h : ps[k]? = some p) : (ps.map V.str)[k]? = some (.str p) := by rw [List.getElem?_map, h]; rfl
theorem str_set (ps : List Str) (k : Nat) (y : Str) : (ps.map V.str).set k (.str y) = (ps.set k y).map V.str := by rw [List.map_set]
theorem seqIndex_nat {n j : Nat} (h : j < n) : seqIndex? (j : Int) n = some j := (ixN_seq (ixN_nat h)).1
structure Spt (K : PySem.W.Frag) (H H' : Hp) (l ln : Addr) (ns : List Int) (way j : Int) (ps qs : List Str) : Prop where
  same : Same H H'
  num : H' ln = some (.lst (ns.map V.int))
  at_ : H' l = some (.lst (qs.map V.str))
  or_ : (way ≤ j ∧ wt qs ≤ 850000) ∨ qs = ps
theorem Spt.go {K : PySem.W.Frag} {H H' : Hp} {l ln : Addr} {ns : List Int} {way j : Int} {ps qs : List Str} (h : Spt K H H' l ln ns way j ps qs) : Spt K H H' l ln ns way (j + 1) ps qs := ⟨h.same, h.num, h.at_, h.or_.imp (fun z => ⟨by omega, z.2⟩) id⟩
theorem Spt.here {K : PySem.W.Frag} {H H' : Hp} {l ln : Addr} {ns : List Int} {way j : Int} {ps qs : List Str} (h : Spt K H H' l ln ns way j ps qs) (hw : way = j + 1) : qs = ps := h.or_.elim (fun z => by omega) id
theorem Spt.put {K : PySem.W.Frag} {H H' : Hp} {l ln : Addr} {ns : List Int} {way j : Int} {ps qs rs : List Str} (h : Spt K H H' l ln ns way j ps qs) (hw : way = j + 1) (hn : H l = none) (hl : ln ≠ l) (hr : wt rs ≤ 850000) : Spt K H (upd H' l (.lst (rs.map V.str))) l ln ns way (j + 1) ps rs :=
  ⟨same_over h.same hn, (upd_ne hl).trans h.num, upd_same, .inl ⟨by omega, hr⟩⟩
def spSigns8 : Sp := fun vs H Q _ => vs = [] ∧ ∀ z : Str, 50 ≤ z.length → z.length ≤ 200 → Q (.str z) H
def spSpoilt48 : Sp := fun vs H Q _ => ∃ (x : Str) (c : Int), vs = [.str x, .int c] ∧ x.length ≤ 400000 ∧ ∀ (z : Str) (H' : Hp), Same H H' → z.length ≤ 900000 → Q (.str z) H'
theorem pe_tupT {X : Cx} {pos : Pos} {es : List Expr} {k : Nat} {xs : List Str} (h : es.all textB = true) (e : es.map textV = xs.map V.str) : PE X (.Tuple es k pos) (tTup fun _ H Q => Q (xs.map V.str) H) := by
  have := pe_tup (x1 := k) (pos := pos) (pa_txts (X := X) h)
  rw [e] at this
  exact this
def ways6 : List Str := [str "Sew", str "sewn", str "undo", str "page", str "", str "join ", str "order"]
def ways9 : List Str := [str "", str "/", str "abcdefghijklm", str "abcdefghijkl", str "a-", str "A"]
def ways10 : List Str := [str "", str " ", str "sew a ", str "sew a /"]
theorem ways_short : ∀ x ∈ ways6 ++ ways9 ++ ways10, x.length ≤ 20 := by decide +kernel
/-! ### what a part means -/
inductive Meant : Str → (Str → Option D) → Nat → Prop
  | name : Meant (str "name") nameM 0
  | number : Meant (str "number") numM 0
  | word : Meant (str "word") wordM 0
  | ring : Meant (str "ring") ringM 0
  | going : Meant (str "going") goM 1
def spMeantP (K : PySem.W.Frag) (n : Nat) : Sp := fun vs H Q _ => ∃ (k x : Str) (f : Str → Option D) (r : Nat), vs = [.str k, .str x] ∧ x.length ≤ 900000 ∧ Meant k f r ∧ r < n ∧ (∀ d, f x = some d → Gives K H Q d) ∧ (f x = none → ∀ H', Same H H' → Q .non H')
theorem nameB_eq (x : Str) : nameB x = ((decide (0 < x.length) && (sg x).all smallF) && decide (x.length ≤ 12)) := by
  unfold nameB
  have e : decide (1 ≤ x.length ∧ x.length ≤ 12) = (decide (0 < x.length) && decide (x.length ≤ 12)) := by rw [← Bool.decide_and]; rfl
  rw [e]
  show (_ && (sg x).all smallF) = _
  cases decide (0 < x.length) <;> cases decide (x.length ≤ 12) <;> cases (sg x).all smallF <;> rfl
theorem figsB_eq (x : Str) : figsB x = (decide (0 < x.length) && (sg x).all figF) := rfl
theorem sg_to1 (x : Str) : sg (Txt.slice x none (some 1)) = (sg x).take 1 := by
  by_cases h : 1 ≤ x.length
  · have e := eq_of_beq (PyProof.Rows.slice_closes_toL (x := x) (j := 1) (by decide) (by omega))
    rw [e]
    rfl
  · have hx : sg x = [] := List.length_eq_zero_iff.mp (by rw [sg_len]; omega)
    have ex : x = str "" := sg_inj (by rw [hx]; rfl)
    subst ex
    decide +kernel
theorem from1 {x : Str} {c : Nat} {t : List Nat} (h : sg x = c :: t) : Txt.slice x (some 1) none = ⟨t.toArray⟩ := by
  have hl : x.length = t.length + 1 := by rw [← sg_len, h]; rfl
  rw [PyProof.Rows.slice_from_eq (b := x.length) (by decide) (by omega) rfl]
  have e : x.cps.toList = c :: t := h
  rw [e]
  have e1 : (1 : Int).toNat = 1 := rfl
  rw [e1, List.drop_succ_cons, List.drop_zero, List.take_of_length_le (by omega)]
def plainFig (F : Str) : Bool := figsB F && decide (F.length ≤ 60) && !(decide ((sg F).head? = some 48) && decide (F ≠ str "0"))
def lawFig (x : Str) : Str := if (sg x).head? = some 45 ∧ x ≠ str "-0" then ⟨(sg x).tail.toArray⟩ else x
theorem figs_minus {x : Str} {t : List Nat} (h : sg x = 45 :: t) : figsB x = false := by
  cases hf : figsB x with
  | false => rfl
  | true =>
    obtain ⟨c, r, _, hd⟩ := figsB_signs hf
    have := hd 45 (by rw [h]; exact List.mem_cons_self)
    omega
theorem num_same {x : Str} (h : (sg x).head? ≠ some 45) : numB x = plainFig x := by
  cases hs : sg x with
  | nil =>
    have ex : x = str "" := sg_inj (by rw [hs]; rfl)
    subst ex
    decide +kernel
  | cons c t =>
    rw [hs, List.head?_cons] at h
    unfold numB plainFig
    rw [rm_none hs (fun z => h (by rw [z])), starts0 hs, hs, List.head?_cons]
    congr 3
    exact decide_eq_decide.mpr ⟨fun z => by rw [z], fun z => Option.some.inj z⟩
theorem num_law (x : Str) : numB x = plainFig (lawFig x) := by
  by_cases h : (sg x).head? = some 45
  · by_cases h0 : x = str "-0"
    · subst h0; decide +kernel
    · unfold lawFig
      rw [if_pos ⟨h, h0⟩]
      cases hs : sg x with
      | nil => rw [hs] at h; cases h
      | cons c t =>
        rw [hs, List.head?_cons] at h
        have hc := Option.some.inj h
        subst hc
        rw [List.tail_cons]
        have hx0 : x ≠ str "0" := fun z => by
          rw [z, show sg (str "0") = [48] by decide +kernel] at hs
          cases hs
        unfold numB plainFig
        rw [rm_minus hs (y := ⟨t.toArray⟩) rfl, decide_eq_true hx0, Bool.and_true]
        have e1 : sg (⟨t.toArray⟩ : Str) = t := rfl
        have hF0 : (⟨t.toArray⟩ : Str) ≠ str "0" := fun z => h0 (sg_inj (by
          have : t = sg (str "0") := by rw [← z]
          rw [hs, this]
          decide +kernel))
        rw [decide_eq_true hF0, Bool.and_true, e1]
        cases t with
        | nil => decide +kernel
        | cons d r =>
          rw [starts0 (x := ⟨(d :: r).toArray⟩) (c := d) (r := r) rfl, List.head?_cons]
          congr 2
          exact decide_eq_decide.mpr ⟨fun z => by rw [z], fun z => Option.some.inj z⟩
  · unfold lawFig
    rw [if_neg (fun z => h z.1)]
    exact num_same h
theorem go_num {x : Str} (h : ∀ c, (sg x).head? = some c → smallF c = false) : goM x = if plainFig x = true then some (.int (numV x)) else none := by
  have hn : nameB x = false := by
    cases hb : nameB x with
    | false => rfl
    | true =>
      cases hs : sg x with
      | nil => have := name_len hb; rw [← sg_len, hs] at this; exact absurd this.1 (by decide)
      | cons c t =>
        have h1 := name_signs hb c (by rw [hs]; exact List.mem_cons_self)
        have h2 := h c (by rw [hs]; rfl)
        exact absurd (decide_eq_true (show 97 ≤ c ∧ c ≤ 122 by omega)) (by unfold smallF at h2; rw [h2]; exact Bool.false_ne_true)
  unfold goM
  rw [if_neg (by rw [hn]; exact Bool.false_ne_true)]
  by_cases hm : (sg x).head? = some 45
  · cases hs : sg x with
    | nil => rw [hs] at hm; cases hm
    | cons c t =>
      rw [hs, List.head?_cons] at hm
      have hc := Option.some.inj hm
      subst hc
      have hp : plainFig x = false := by unfold plainFig; rw [figs_minus hs]; rfl
      rw [hp, if_neg, if_neg (by exact Bool.false_ne_true)]
      rintro ⟨hb, h0⟩
      obtain ⟨n, rfl, hn60⟩ := numB_iff.mp hb
      obtain ⟨_, _, _, hi, _, _⟩ := num_facts hn60
      unfold numV at h0
      rw [hi] at h0
      have h0' : 0 ≤ n := h0
      obtain ⟨m, rfl⟩ := Int.eq_ofNat_of_zero_le h0'
      have := num_figs m 45 (by show 45 ∈ sg (numT (m : Int)); rw [hs]; exact List.mem_cons_self)
      omega
  · rw [num_same hm]
    by_cases hp : plainFig x = true
    · rw [if_pos hp, if_pos]
      refine ⟨hp, ?_⟩
      rw [← num_same hm] at hp
      obtain ⟨n, rfl, hn60⟩ := numB_iff.mp hp
      obtain ⟨_, _, _, hi, _, _⟩ := num_facts hn60
      unfold numV
      rw [hi]
      show 0 ≤ n
      rcases Int.lt_or_le n 0 with q | q
      · obtain ⟨k, rfl⟩ : ∃ k : Nat, n = -((k + 1 : Nat) : Int) := ⟨(-n).toNat - 1, by omega⟩
        rw [sg_neg] at hm
        exact absurd rfl hm
      · exact q
    · rw [if_neg hp, if_neg (fun z => hp z.1)]
theorem go_numB {x : Str} (h : ∀ c, (sg x).head? = some c → smallF c = false) (hp : plainFig x = true) : numB x = true := by
  have hm : (sg x).head? ≠ some 45 := fun z => by
    cases hs : sg x with
    | nil => rw [hs] at z; cases z
    | cons c t =>
      rw [hs, List.head?_cons] at z
      have := Option.some.inj z
      subst this
      unfold plainFig at hp
      rw [figs_minus hs] at hp
      cases hp
  rw [num_same hm]
  exact hp
theorem go_name {x : Str} {c : Nat} (h : (sg x).head? = some c) (hc : smallF c = true) : goM x = nameM x := by
  have hc' : 97 ≤ c ∧ c ≤ 122 := of_decide_eq_true hc
  unfold goM nameM
  by_cases hb : nameB x = true
  · rw [if_pos hb, if_pos hb]
  · rw [if_neg hb, if_neg hb, if_neg]
    rintro ⟨z, _⟩
    have hm : (sg x).head? ≠ some 45 := fun y => by rw [h] at y; have := Option.some.inj y; omega
    rw [num_same hm] at z
    unfold plainFig at z
    rw [Bool.and_eq_true, Bool.and_eq_true] at z
    obtain ⟨d, r, hs, hd⟩ := figsB_signs z.1.1
    rw [hs, List.head?_cons] at h
    have e := Option.some.inj h
    have := hd d (by rw [hs]; exact List.mem_cons_self)
    omega
/-! ### what rows mean, what a line means -/
theorem rowM_words {x p : Str} {ps : List Str} (h : Txt.split x (str " ") = p :: ps) : rowM x = match ringM p, mapO goM ps with
    | some d, some ds => some (.tup [d, .tup ds])
    | _, _ => none := by
  (unfold rowM; rw [h]) <;> rfl
def spMeantR (K : PySem.W.Frag) : Sp := fun vs H Q _ => ∃ (a : Addr) (ps : List Str), vs = [.ref a] ∧ SqL K H a (ps.map V.str) ∧ ps ≠ [] ∧ wt ps ≤ 900001 ∧ (∀ d, rowsM (Str.join (str " ") ps) = some d → Gives K H Q d) ∧ (rowsM (Str.join (str " ") ps) = none → ∀ H', Same H H' → Q .non H')
def spMeantL (K : PySem.W.Frag) : Sp := fun vs H Q _ => ∃ x : Str, vs = [.str x] ∧ x.length ≤ 900000 ∧ (∀ d, lineM x = some d → Gives K H Q d) ∧ (lineM x = none → ∀ H', Same H H' → Q .non H')
end Gu

set_option Elab.async false
set_option linter.all false
set_option maxRecDepth 100000
set_option maxHeartbeats 4000000
namespace L2
open PySem PySem.Spec PyProof.Rows PySem.SeqAt
section
variable {X : Cx} {CX : CXT} {E : XK} {σ0 : St} {k : Nat} {f : Addr} {fd : FuncData} {ps : List Str} {sp : Sp} {x : Str} {ds : List Value} {dvs : List V} {e : Expr} {es : List Expr} {t : TA} {p pos : Pos}
theorem peS_callN (F : FnOk X.prog X.w X.K X.mg X.base CX k f fd ps sp) (hr : Room k X.A) (hg : Gl X x) (hm : X.mg x = some (.ref f)) (hk : PySem.W.keepIn X.K (.ref f) = true) (hb : Binds X.K fd ps ds) (hd : Vals dvs ds) (hx : PassesS CX X σ0 E)
    (ha : PA X (e :: es) t) (hdb : (x == ("__debug__" : Str)) = false := by decide) (he : starEach (e :: es) X.env = (false, eval e X.env) :: starEach es X.env := by rfl) (hpl : (backTo pos (starEach es X.env)).any (·.1) = false := by rfl) :
    PE X (.Call (.Name x p) (e :: es) [] pos) (tAt σ0 (tCall sp dvs E t)) := by
  rintro pins s σ H Q I ⟨rfl, h⟩
  refine wpAny_Call_Name_kw (ld_glob I hg hm ?_ hdb)
  refine PySem.W.callWith_K (h₀ := X.base) I.ok.mod.kin hk (thn (ha pos pins s σ H _ I h) fun us s1 ⟨vs, H1, I1, r, q⟩ => ⟨I1.kIn, ?_⟩) he hpl
  exact runS_fn F hr hb hd hx I1 r q
end
end L2

set_option Elab.async false
set_option linter.all false
set_option maxRecDepth 100000
set_option maxHeartbeats 4000000
namespace Gu
open PySem L2 PySem.StrLaws PySem.Builtin PySem.Builtin.Str
theorem listR {K : PySem.W.Frag} {a : Addr} {xs : List V} {g : TG} {tb : TS} {D : Ends} {σ : St} {H : Hp} (Pv : Nat → St → Hp → Prop) (h0 : Pv 0 σ H) (hl : ∀ i σ H, i ≤ xs.length → Pv i σ H → SqL K H a xs)
    (hs : ∀ i x σ H, xs[i]? = some x → Pv i σ H → ∀ Ed : Ends, (∀ σ' H', Pv (i + 1) σ' H' → Ed.nx σ' H') → (∀ v H', D.rt v H' → Ed.rt v H') → g x σ H fun σ2 H2 => tb Ed σ2 H2) (hd : ∀ σ H, Pv xs.length σ H → D.nx σ H) :
    ∃ W : Nat → Nat → St → Hp → Prop, (∃ m, W 0 m σ H) ∧ ∀ i m σ H, W i m σ H →
      ((Itl K a).stop i H ∧ D.nx σ H) ∨ ((Itl K a).go i H ∧ ∃ N : St → Hp → Prop, (∀ σ' H', N σ' H' → ∃ m', m' < m ∧ W (i + 1) m' σ' H') ∧ ∀ x H', (Itl K a).yld i H x H' → g x σ H' fun σ2 H2 => tb { D with nx := N, ct := N, bk := D.nx } σ2 H2) :=
  for_list Pv h0 hl (fun i x σ H hx p => hs i x σ H hx p _ (fun _ _ z => z) fun _ _ z => z) hd
/-! ### goings as values -/
def goV (w : Str) : V := if nameB w = true then .str w else if numB w = true ∧ 0 ≤ numV w then .int (numV w) else .non
theorem goV_some {K : PySem.W.Frag} {H : Hp} {w : Str} {d : D} {v : V} (h : goM w = some d) : Dr K H d v ↔ v = goV w := by
  unfold goM at h
  unfold goV
  split at h
  · rename_i c
    cases h
    rw [if_pos c]
    simp only [Dr]
  · rename_i c
    split at h
    · rename_i c2
      cases h
      rw [if_neg c, if_pos c2]
      simp only [Dr]
    · cases h
theorem goV_none {w : Str} (h : goM w = none) : goV w = .non := by
  unfold goM at h
  unfold goV
  split at h
  · cases h
  · rename_i c
    split at h
    · cases h
    · rename_i c2
      rw [if_neg c, if_neg c2]
theorem goV_flat (w : Str) : flatV (goV w) = true := by
  unfold goV
  split
  · rfl
  · split <;> rfl
theorem goV_non (w : Str) : isNon (goV w) = (goM w).isNone := by
  unfold goV goM
  split
  · rfl
  · split <;> rfl
theorem go_vals {K : PySem.W.Frag} {H : Hp} : ∀ {ws : List Str} {ds : List D}, mapO goM ws = some ds → DrL K H ds (ws.map goV)
  | [], _, h => by cases h; exact DrL.nil
  | w :: ws, ds, h => by
    simp only [mapO] at h
    cases h1 : goM w with
    | none => rw [h1] at h; cases h
    | some d =>
      cases h2 : mapO goM ws with
      | none => rw [h1, h2] at h; cases h
      | some es =>
        rw [h1, h2] at h
        cases h
        exact DrL.cons ((goV_some h1).mpr rfl) (go_vals h2)
theorem go_any : ∀ (ws : List Str), (ws.map goV).any isNon = (mapO goM ws).isNone
  | [] => rfl
  | w :: ws => by
    rw [List.map_cons, List.any_cons, goV_non, go_any ws]
    simp only [mapO]
    cases goM w with
    | none => rfl
    | some d => cases mapO goM ws <;> rfl
/-! ### things that are something -/
def Thing : D → Prop
  | .str _ => True
  | .int _ => True
  | .tup _ => True
  | .lst _ => True
  | _ => False
def NV (H : Hp) (v : V) : Prop := flatV v = true ∨ ∃ a us, v = .ref a ∧ H a = some (.tup us)
theorem NV.nonV {K : PySem.W.Frag} {H : Hp} {v : V} (h : NV H v) : NonV K H v := h.imp id fun ⟨a, us, e, h⟩ => ⟨a, us, e, .inr (SqT.of h)⟩
theorem NV.mono {H H' : Hp} {v : V} (k : ∀ b xs, H b = some (.tup xs) → H' b = some (.tup xs)) (h : NV H v) : NV H' v := h.imp id fun ⟨a, us, e, h⟩ => ⟨a, us, e, k _ _ h⟩
theorem thing_nv {K : PySem.W.Frag} {H : Hp} {d : D} {v : V} (t : Thing d) (f : D.flat d) (h : Dr K H d v) : NV H v ∧ isNon v = false := by
  cases d with
  | str x => simp only [Dr] at h; subst h; exact ⟨.inl rfl, rfl⟩
  | int x => simp only [Dr] at h; subst h; exact ⟨.inl rfl, rfl⟩
  | tup x => simp only [Dr] at h; obtain ⟨a, us, rfl, h, _⟩ := h; exact ⟨.inr ⟨a, us, rfl, h⟩, rfl⟩
  | lst x => simp only [D.flat] at f
  | non => exact t.elim
  | bl b => exact t.elim
theorem ringM_thing {x : Str} {d : D} (h : ringM x = some d) : ∃ w, d = D.its w := by
  unfold ringM at h
  split at h
  · cases h; exact ⟨_, rfl⟩
  · cases h
theorem Meant.flat {k : Str} {f : Str → Option D} {r : Nat} (m : Meant k f r) {x : Str} {d : D} (h : f x = some d) : D.flat d ∧ Thing d := by
  cases m with
  | name =>
    unfold nameM at h
    split at h
    · cases h; simp only [D.flat]; exact ⟨trivial, trivial⟩
    · cases h
  | number =>
    unfold numM at h
    split at h
    · cases h; simp only [D.flat]; exact ⟨trivial, trivial⟩
    · cases h
  | word =>
    unfold wordM at h
    split at h
    · cases h; simp only [D.its, D.flat, List.map_nil, D.flatL]; exact ⟨trivial, trivial⟩
    · obtain ⟨w, rfl⟩ := ringM_thing h
      exact ⟨ringM_flat h, trivial⟩
  | ring =>
    obtain ⟨w, rfl⟩ := ringM_thing h
    exact ⟨ringM_flat h, trivial⟩
  | going =>
    refine ⟨goM_flat h, ?_⟩
    unfold goM at h
    split at h
    · cases h; trivial
    · split at h
      · cases h; trivial
      · cases h
theorem meant_both {K : PySem.W.Frag} {f : Str → Option D} {x : Str} {H : Hp} {Q : VK} (h : ∀ (v : V) (H' : Hp), Same H H' → ((∃ d, f x = some d ∧ Dr K H' d v) ∨ (f x = none ∧ v = .non)) → Q v H') : (∀ d, f x = some d → Gives K H Q d) ∧ (f x = none → ∀ H', Same H H' → Q .non H') :=
  ⟨fun d hd v H' s' dv => h v H' s' (.inl ⟨d, hd, dv⟩), fun z H' s' => h .non H' s' (.inr ⟨z, rfl⟩)⟩
theorem cutV_1 (v : V) (vs : List V) : cutV (v :: vs) (some 1) none = vs := (cutV_from (v :: vs) 1 (by simp)).trans rfl
theorem cutV_2 (v w : V) (vs : List V) : cutV (v :: w :: vs) (some 2) none = vs := (cutV_from (v :: w :: vs) 2 (by simp)).trans rfl
/-! ### the kinds of the law -/
def kinds9 : List (Str × Str) := [(str "join", str "name name name"), (str "turn", str "name name"), (str "look", str "name name word"), (str "power", str "name name number"), (str "drop", str "name"), (str "hang", str "name word ring"), (str "wear", str "name name"), (str "doff", str "name"), (str "unhang", str "name")]
def kv9 : List (Key × V) := kinds9.map fun e => (Sum.inr e.1, V.str e.2)
theorem kinds9_split : ∀ e ∈ kinds9, (e.1, Txt.split e.2 (str " ")) ∈ deedT ∧ e.2.length ≤ 100 := by decide +kernel
theorem deed_kinds9 : ∀ q ∈ deedT, q.1 = str "sew" ∨ ∃ e ∈ kinds9, e.1 = q.1 := by decide +kernel
theorem deed_once : ∀ q ∈ deedT, deedT.find? (fun r => decide (r.1 = q.1)) = some q := by decide +kernel
theorem kinds9_meant : ∀ q ∈ deedT, q.1 ≠ str "sew" → ∀ k ∈ q.2, k = str "name" ∨ k = str "number" ∨ k = str "word" ∨ k = str "ring" := by decide +kernel
theorem kind_meant {k : Str} (h : k = str "name" ∨ k = str "number" ∨ k = str "word" ∨ k = str "ring") : Meant k (kindF k) 0 := by
  have e1 : kindF (str "name") = nameM := by unfold kindF; rw [if_pos rfl]
  have e2 : kindF (str "number") = numM := by unfold kindF; rw [if_neg (by decide +kernel), if_pos rfl]
  have e3 : kindF (str "word") = wordM := by unfold kindF; rw [if_neg (by decide +kernel), if_neg (by decide +kernel), if_pos rfl]
  have e4 : kindF (str "ring") = ringM := by unfold kindF; rw [if_neg (by decide +kernel), if_neg (by decide +kernel), if_neg (by decide +kernel), if_pos rfl]
  rcases h with rfl | rfl | rfl | rfl
  · rw [e1]; exact .name
  · rw [e2]; exact .number
  · rw [e3]; exact .word
  · rw [e4]; exact .ring
theorem kindF_name : kindF (str "name") = nameM := by unfold kindF; rw [if_pos rfl]
theorem kindF_rows : kindF (str "rows") = rowsM := by unfold kindF; rw [if_neg (by decide +kernel), if_neg (by decide +kernel), if_neg (by decide +kernel), if_neg (by decide +kernel)]
theorem kv9_val (p : Str) : valV kv9 (Sum.inr p) = (kinds9.find? fun e => decide (e.1 = p)).map fun e => V.str e.2 := by
  unfold valV kv9
  rw [List.find?_map, Option.map_map]
  have e : ((fun kv : Key × V => decide (kv.1 = Sum.inr p)) ∘ fun e : Str × Str => ((Sum.inr e.1, V.str e.2) : Key × V)) = fun e => decide (e.1 = p) := by
    funext e
    exact decide_eq_decide.mpr ⟨fun z => Sum.inr.inj z, fun z => congrArg Sum.inr z⟩
  rw [e]
  rfl
theorem law_kinds {p : Str} {ps : List Str} {e : Str × Str} (h : kinds9.find? (fun e => decide (e.1 = p)) = some e) (hl : ps.length = (Txt.split e.2 (str " ")).length) : lawLine p ps = (zipM (Txt.split e.2 (str " ")) ps).map fun ds => .tup (.str p :: ds) := by
  have hm := List.mem_of_find?_eq_some h
  have hp : e.1 = p := of_decide_eq_true (List.find?_some (p := fun e : Str × Str => decide (e.1 = p)) h)
  obtain ⟨hd, _⟩ := kinds9_split e hm
  have hf := deed_once _ hd
  unfold lawLine
  have hs : p ≠ str "sew" := fun z => by
    have : ∀ e ∈ kinds9, e.1 ≠ str "sew" := by decide +kernel
    exact this e hm (hp.trans z)
  rw [show (fun q : Str × List Str => decide (q.1 = p)) = fun r => decide (r.1 = e.1) by rw [hp], hf]
  simp only
  rw [if_neg hs, if_pos hl]
theorem law_none {p : Str} {ps : List Str} (h1 : ¬ (p = str "sew" ∧ 2 ≤ ps.length)) (h2 : ∀ e, kinds9.find? (fun e => decide (e.1 = p)) = some e → ps.length ≠ (Txt.split e.2 (str " ")).length) : lawLine p ps = none := by
  unfold lawLine
  cases hf : deedT.find? (fun q => decide (q.1 = p)) with
  | none => rfl
  | some q =>
    simp only
    have hqm := List.mem_of_find?_eq_some hf
    have hqp : q.1 = p := of_decide_eq_true (List.find?_some (p := fun q : Str × List Str => decide (q.1 = p)) hf)
    by_cases hs : p = str "sew"
    · rw [if_pos hs]
      match ps, h1 with
      | [], _ => rfl
      | [a], _ => rfl
      | a :: b :: r, h1 => exact absurd ⟨hs, by simp⟩ h1
    · rw [if_neg hs, if_neg]
      intro hl
      rcases deed_kinds9 q hqm with z | ⟨e, he, ee⟩
      · exact hs (hqp.symm.trans z)
      · obtain ⟨hd, _⟩ := kinds9_split e he
        have hfe := deed_once _ hd
        rw [show (fun r : Str × List Str => decide (r.1 = (e.1, Txt.split e.2 (str " ")).1)) = fun q => decide (q.1 = p) by funext r; show decide (r.1 = e.1) = _; rw [ee, hqp], hf] at hfe
        have hq2 : q.2 = Txt.split e.2 (str " ") := by rw [Option.some.inj hfe]
        have hfk : kinds9.find? (fun e => decide (e.1 = p)) = some e := by
          have once : ∀ e ∈ kinds9, kinds9.find? (fun r => decide (r.1 = e.1)) = some e := by decide +kernel
          have := once e he
          rwa [ee, hqp] at this
        exact h2 e hfk (by rw [hl, hq2])
theorem law_sew {a b : Str} {r : List Str} : lawLine (str "sew") (a :: b :: r) = match nameM a, rowsM (Str.join (str " ") (b :: r)) with
    | some d, some e => some (.tup [.str (str "sew"), d, e])
    | _, _ => none := by
  unfold lawLine
  rw [show deedT.find? (fun q => decide (q.1 = str "sew")) = some (str "sew", [str "name", str "rows"]) from deed_once (str "sew", [str "name", str "rows"]) (by decide +kernel)]
  simp only
  rw [if_pos trivial]
  simp only [zipM, kindF_name, kindF_rows]
  cases nameM a with
  | none => rfl
  | some d => cases rowsM (Str.join (str " ") (b :: r)) <;> rfl
theorem rowsM_nv {K : PySem.W.Frag} {H : Hp} {x : Str} {d : D} {v : V} (h : rowsM x = some d) (dv : Dr K H d v) : NonV K H v ∧ isNon v = false := by
  unfold rowsM at h
  obtain ⟨ds, _, rfl⟩ := Option.map_eq_some_iff.mp h
  simp only [Dr] at dv
  obtain ⟨a, vs, rfl, hl, _⟩ := dv
  exact ⟨.inr ⟨a, vs, rfl, .inl hl⟩, rfl⟩
theorem ifG {c : TT} {a u : TS} {D : Ends} {σ : St} {H : Hp} (h : ∀ U : TS, U = u → tIfS c a U D σ H) : tIfS c a u D σ H := h u rfl
def kvA : List (Key × V) := (kinds9.take 4).map fun e => (Sum.inr e.1, V.str e.2)
def kvB : List (Key × V) := (kinds9.drop 4).map fun e => (Sum.inr e.1, V.str e.2)
theorem mergeA : mergeK [] kvA = kvA := by decide +kernel
theorem mergeB : mergeK [] kvB = kvB := by decide +kernel
theorem mergeAB : mergeK kvA kvB = kv9 := by decide +kernel
def Fnd (K : PySem.W.Frag) (H : Hp) (o : Option D) (vs : List V) : Prop := (∀ v ∈ vs, NonV K H v) ∧ ((∃ ds, o = some (.tup ds) ∧ DrL K H ds vs ∧ vs.any isNon = false) ∨ (o = none ∧ vs.any isNon = true))
/-! ### what a line means is not too great -/
theorem its_fewB {ns : List Int} (h : ns.length ≤ 1000000) : D.fewB (D.its ns) := by
  unfold D.its
  simp only [D.fewB]
  exact ⟨by rw [List.length_map]; exact h, D.fewBL_ints ns⟩
theorem fewBL_of : ∀ {ds : List D}, (∀ d ∈ ds, D.fewB d) → D.fewBL ds
  | [], _ => by simp only [D.fewBL]
  | d :: ds, h => by simp only [D.fewBL]; exact ⟨h d List.mem_cons_self, fewBL_of fun e he => h e (List.mem_cons_of_mem _ he)⟩
theorem ring_small8 {x : Str} {d : D} (hx : x.length ≤ 900000) (h : ringM x = some d) : D.dep d ≤ 1 ∧ D.fewB d := by
  unfold ringM at h
  split at h
  · cases h
    exact ⟨by have := its_dep (digs x); omega, its_fewB (by rw [digs_len]; omega)⟩
  · cases h
theorem go_small8 {x : Str} {d : D} (h : goM x = some d) : D.dep d ≤ 0 ∧ D.fewB d := by
  unfold goM at h
  split at h
  · cases h; simp only [D.dep, D.fewB]; exact ⟨Nat.le_refl _, trivial⟩
  · split at h
    · cases h; simp only [D.dep, D.fewB]; exact ⟨Nat.le_refl _, trivial⟩
    · cases h
theorem row_small8 {x : Str} {d : D} (hx : x.length ≤ 900000) (h : rowM x = some d) : D.dep d ≤ 2 ∧ D.fewB d := by
  obtain ⟨p, ps, hsp⟩ := split_cons x (str " ")
  have hcnt := split_most (x := x) (y := str " ") (by decide +kernel)
  have hmem : ∀ q ∈ p :: ps, q.length ≤ x.length := fun q hq => split_mem (y := str " ") (by rw [hsp]; exact hq)
  rw [hsp, List.length_cons] at hcnt
  rw [rowM_words hsp] at h
  cases h1 : ringM p with
  | none => rw [h1] at h; cases h
  | some e =>
    cases h2 : mapO goM ps with
    | none => rw [h1, h2] at h; cases h
    | some es =>
      rw [h1, h2] at h
      cases h
      obtain ⟨a1, a2⟩ := ring_small8 (Nat.le_trans (hmem p List.mem_cons_self) hx) h1
      have hl := mapO_len h2
      have each := mapO_all (P := fun d => D.dep d ≤ 0 ∧ D.fewB d) (fun _ _ h => go_small8 h) h2
      have b1 := D.depL_le fun d hd => (each d hd).1
      have b2 := fewBL_of fun d hd => (each d hd).2
      simp only [D.dep, D.depL, D.fewB, D.fewBL]
      exact ⟨by omega, by simp, a2, ⟨by omega, b2⟩, trivial⟩
theorem mapO_each {f : Str → Option D} : ∀ {xs : List Str} {ds : List D}, mapO f xs = some ds → ∀ d ∈ ds, ∃ x ∈ xs, f x = some d
  | [], _, h => by cases h; intro d hd; cases hd
  | y :: ys, ds, h => by
    simp only [mapO] at h
    cases hy : f y with
    | none => rw [hy] at h; cases h
    | some e =>
      cases hr : mapO f ys with
      | none => rw [hy, hr] at h; cases h
      | some es =>
        rw [hy, hr] at h
        cases h
        intro d hd
        rcases List.mem_cons.mp hd with z | z
        · rw [z]; exact ⟨y, List.mem_cons_self, hy⟩
        · obtain ⟨x, hx, e⟩ := mapO_each hr d z
          exact ⟨x, List.mem_cons_of_mem _ hx, e⟩
theorem rows_small8 {x : Str} {d : D} (hx : x.length ≤ 900000) (h : rowsM x = some d) : D.dep d ≤ 3 ∧ D.fewB d := by
  unfold rowsM at h
  obtain ⟨ds, hds, rfl⟩ := Option.map_eq_some_iff.mp h
  have hcnt := split_most (x := x) (y := str " / ") (by decide +kernel)
  have hl := mapO_len hds
  have each : ∀ d ∈ ds, D.dep d ≤ 2 ∧ D.fewB d := fun d hd => by
    obtain ⟨y, hy, e⟩ := mapO_each hds d hd
    exact row_small8 (Nat.le_trans (split_mem hy) hx) e
  have b1 := D.depL_le fun d hd => (each d hd).1
  have b2 := fewBL_of fun d hd => (each d hd).2
  simp only [D.dep, D.fewB]
  exact ⟨by omega, by omega, b2⟩
theorem kind_small8 {k x : Str} {d : D} (hx : x.length ≤ 900000) (h : kindF k x = some d) : D.dep d ≤ 3 ∧ D.fewB d := by
  unfold kindF at h
  split at h
  · unfold nameM at h
    split at h
    · cases h; simp only [D.dep, D.fewB]; exact ⟨by omega, trivial⟩
    · cases h
  split at h
  · unfold numM at h
    split at h
    · cases h; simp only [D.dep, D.fewB]; exact ⟨by omega, trivial⟩
    · cases h
  split at h
  · unfold wordM at h
    split at h
    · cases h
      exact ⟨by have := its_dep ([] : List Int); omega, its_fewB (by simp)⟩
    · obtain ⟨a, b⟩ := ring_small8 hx h
      exact ⟨by omega, b⟩
  split at h
  · obtain ⟨a, b⟩ := ring_small8 hx h
    exact ⟨by omega, b⟩
  · exact rows_small8 hx h
theorem zip_small8 {B : Nat} : ∀ {ks ps : List Str} {ds : List D}, (∀ p ∈ ps, p.length ≤ 900000) → zipM ks ps = some ds → ∀ d ∈ ds, D.dep d ≤ 3 ∧ D.fewB d
  | [], [], ds, _, h => by cases h; intro d hd; cases hd
  | [], _ :: _, _, _, h => by cases h
  | _ :: _, [], _, _, h => by cases h
  | k :: ks, p :: ps, ds, hp, h => by
    simp only [zipM] at h
    cases h1 : kindF k p with
    | none => rw [h1] at h; cases h
    | some e =>
      cases h2 : zipM ks ps with
      | none => rw [h1, h2] at h; cases h
      | some es =>
        rw [h1, h2] at h
        cases h
        intro d hd
        rcases List.mem_cons.mp hd with z | z
        · rw [z]; exact kind_small8 (hp p List.mem_cons_self) h1
        · exact zip_small8 (B := B) (fun q hq => hp q (List.mem_cons_of_mem _ hq)) h2 d z
theorem zipM_size : ∀ {ks ps : List Str} {ds : List D}, zipM ks ps = some ds → ds.length = ks.length
  | [], [], ds, h => by cases h; rfl
  | [], _ :: _, _, h => by cases h
  | _ :: _, [], _, h => by cases h
  | k :: ks, p :: ps, ds, h => by
    simp only [zipM] at h
    cases h1 : kindF k p with
    | none => rw [h1] at h; cases h
    | some e =>
      cases h2 : zipM ks ps with
      | none => rw [h1, h2] at h; cases h
      | some es => rw [h1, h2] at h; cases h; rw [List.length_cons, List.length_cons, zipM_size h2]
theorem line_small8 {x : Str} {d : D} (hx : x.length ≤ 900000) (h : lineM x = some d) : D.dep d < 6 ∧ D.fewB d := by
  unfold lineM at h
  split at h
  · cases h
  · rename_i p ps _
    split at h
    · rename_i q hq
      obtain ⟨k1, k2, k3⟩ := deed_kinds q (List.mem_of_find?_eq_some hq)
      unfold partsM at h
      obtain ⟨p', ps', hsp⟩ := splitMax_cons x (str " ") ((q.2.length : Nat) : Int)
      rw [hsp] at h
      simp only at h
      obtain ⟨ds, hds, rfl⟩ := Option.map_eq_some_iff.mp h
      have each := zip_small8 (B := 0) (fun p hp => Nat.le_trans (PyProof.Rows.partMax_short (x := x) (y := str " ") (k := ((q.2.length : Nat) : Int)) (by rw [hsp]; exact List.mem_cons_of_mem _ hp)) hx) hds
      have hl := zipM_size hds
      have b1 := D.depL_le fun d hd => (each d hd).1
      have b2 := fewBL_of fun d hd => (each d hd).2
      simp only [D.dep, D.depL, D.fewB, D.fewBL]
      exact ⟨by omega, by rw [List.length_cons]; omega, trivial, b2⟩
    · cases h
/-! ### the readers by their kinds -/
abbrev Rdr8 (P : Program) (w : World) (K : PySem.W.Frag) (mg : Str → Option Value) (base : Heap) (n : Nat) (aR Ct : Addr) (k : Str) (g : Str → Option D) : Prop := ∃ (f : Addr) (fd : FuncData), PySem.W.nsIn K aR k = some (some (.ref f)) ∧ FnOk P w K mg base (CXx P w) n f fd ["text"] (spRd8 K Ct g) ∧ Binds K fd ["text"] [] ∧ PySem.W.keepIn K (.ref f) = true
theorem rds_of {P : Program} {w : World} {K : PySem.W.Frag} {mg : Str → Option Value} {base : Heap} {n : Nat} {aR Ct : Addr} (h1 : Rdr8 P w K mg base n aR Ct (str "name") nameM) (h2 : Rdr8 P w K mg base n aR Ct (str "number") numM) (h3 : Rdr8 P w K mg base n aR Ct (str "word") wordM) (h4 : Rdr8 P w K mg base n aR Ct (str "ring") ringM) (h5 : Rdr8 P w K mg base n aR Ct (str "rows") rowsM) : Rds P w K mg base n aR Ct := by
  have e1 : kindF (str "name") = nameM := by unfold kindF; rw [if_pos rfl]
  have e2 : kindF (str "number") = numM := by unfold kindF; rw [if_neg (by decide +kernel), if_pos rfl]
  have e3 : kindF (str "word") = wordM := by unfold kindF; rw [if_neg (by decide +kernel), if_neg (by decide +kernel), if_pos rfl]
  have e4 : kindF (str "ring") = ringM := by unfold kindF; rw [if_neg (by decide +kernel), if_neg (by decide +kernel), if_neg (by decide +kernel), if_pos rfl]
  intro k hk
  unfold kindT at hk
  simp only [List.mem_cons, List.not_mem_nil, or_false] at hk
  rcases hk with rfl | rfl | rfl | rfl | rfl
  · rw [e1]; exact h1
  · rw [e2]; exact h2
  · rw [e3]; exact h3
  · rw [e4]; exact h4
  · rw [kindF_rows]; exact h5
end Gu

set_option Elab.async false
set_option linter.all false
set_option maxRecDepth 100000
set_option maxHeartbeats 4000000
namespace Gu
open PySem L2
section
variable {P : Program} {w : World} {K : PySem.W.Frag} {mg : Str → Option Value} {base : Heap} {f g : Addr} {fd gd : FuncData} {CX : CXT} [NoE CX]
abbrev nIN : List Str := ["text"]
theorem scIN : FnScope nIN ["text"] (defScope sIsName) := ⟨rfl, rfl, rfl, by decide +kernel, rfl, by decide +kernel, by decide +kernel⟩
theorem csIN : CompS nIN (defScope sIsName) ["sign"] [none] (csc [(".0", .local), ("sign", .local), ("SMALL_LETTERS", .globalImplicit)]) := ⟨rfl, by decide +kernel, by decide +kernel, by decide +kernel, rfl, by decide +kernel, by decide +kernel⟩
theorem ok_isname {t1 t2 : Tok} (ml : mg "len" = none) (mall : mg "all" = none) (m_MOST_LETTERS_OF_NAME : mg "MOST_LETTERS_OF_NAME" = some (.int 12 t1)) (m_SMALL_LETTERS : mg "SMALL_LETTERS" = some (.str "abcdefghijklmnopqrstuvwxyz" t2)) (F : Fun K "is_name" "is_name" sIsName f fd) : FnOk P w K mg base CX 1 f fd ["text"] spIsName := by
  refine F.okc scIN (fun vs H Q E h => ?_) (fun cdv A outer s H vs Q E hr h => ?_)
  · obtain ⟨x, rfl, _⟩ := h
    rfl
  obtain ⟨x, rfl, hx, gv⟩ := h
  refine ⟨_, pss_one (ps_ret (pe_and (pe_chain op_le op_le pe_int (pe_callB call_len_str rfl ml PySem.boot_len (pa_cons (pv 0) pa_nil)) (pe_glob (v := .int 12) rfl m_MOST_LETTERS_OF_NAME ⟨_, rfl⟩)) (pe_one (pe_callB (cAll K rfl rfl) rfl mall PyProof.Rows.boot_all (pa_cons (pe_comp rfl csIN (pi_str (pv 0)) (fun _ _ _ _ _ => pg_name (i := 0) csIN.nd rfl (Or.inl rfl)) (fun _ _ _ _ _ => pe_cmpR op_in_str (pv 0) (pe_glob (v := .str "abcdefghijklmnopqrstuvwxyz") rfl m_SMALL_LETTERS ⟨_, rfl⟩) rfl)) pa_nil))))), ?_⟩
  have hz : x.length ≤ sizeLine := Nat.le_trans hx (by decide)
  refine ⟨_, rfl, x, rfl, hz, _, _, rfl, rfl, _, rfl, ?_⟩
  unfold nameB at gv
  refine ite2 (fun c1 => ⟨_, _, rfl, rfl, _, rfl, ?_⟩) (fun c1 => ?_)
  · have c1' : (1 : Int) ≤ (x.length : Int) := of_decide_eq_true c1
    refine ite2 (fun c2 => ?_) (fun c2 => ?_)
    · have c2' : (x.length : Int) ≤ 12 := of_decide_eq_true c2
      refine ⟨_, rfl, x, rfl, fun l hl => comp_str (x := x) (fun i ys H2 => i ≤ x.length ∧ Same H H2 ∧ ys = (((sg x).take i).map fun c => decide (97 ≤ c ∧ c ≤ 122)).map V.bl) ⟨Nat.zero_le _, same_up (Same.refl H) hl, rfl⟩ hz (fun i ys H2 h => by rw [h.2.2, List.length_map, List.length_map, List.length_take, sg_len]; have := h.1; omega) (fun i c ys H2 hc h hy => ?_) (fun ys H2 h hy => ?_)⟩
      · obtain ⟨hi, s2, rfl⟩ := h
        refine ⟨_, rfl, _, _, rfl, rfl, hy, ?_, same_over s2 hl, ?_⟩
        · have := (List.getElem?_eq_some_iff.mp hc).1; rw [sg_len] at this; omega
        · rw [List.take_add_one, hc, Option.toList_some, List.map_append, List.map_append, List.map_singleton, List.map_singleton, in_small]
      · obtain ⟨_, s2, rfl⟩ := h
        rw [List.take_of_length_le (by rw [sg_len]; omega)] at hy
        refine ⟨l, _, rfl, SqL.of hy, ?_⟩
        have e := gv H2 s2
        rw [decide_eq_true (show 1 ≤ x.length ∧ x.length ≤ 12 by omega), Bool.true_and] at e
        rw [List.all_map]
        exact e
    · have c2' : ¬ (x.length : Int) ≤ 12 := fun z => c2 (decide_eq_true z)
      have e := gv H (Same.refl H)
      rw [decide_eq_false (show ¬ (1 ≤ x.length ∧ x.length ≤ 12) by omega), Bool.false_and] at e
      exact e
  · have c1' : ¬ (1 : Int) ≤ (x.length : Int) := fun z => c1 (decide_eq_true z)
    refine ⟨_, rfl, ?_⟩
    have e := gv H (Same.refl H)
    rw [decide_eq_false (show ¬ (1 ≤ x.length ∧ x.length ≤ 12) by omega), Bool.false_and] at e
    exact iteF e
abbrev nAF : List Str := ["text"]
theorem scAF : FnScope nAF ["text"] (defScope sAreFig) := ⟨rfl, rfl, rfl, by decide +kernel, rfl, by decide +kernel, by decide +kernel⟩
theorem csAF : CompS nAF (defScope sAreFig) ["sign"] [none] (csc [(".0", .local), ("sign", .local), ("FIGURES", .globalImplicit)]) := ⟨rfl, by decide +kernel, by decide +kernel, by decide +kernel, rfl, by decide +kernel, by decide +kernel⟩
theorem ok_arefig {t2 : Tok} (ml : mg "len" = none) (mall : mg "all" = none) (m_FIGURES : mg "FIGURES" = some (.str "0123456789" t2)) (F : Fun K "are_figures" "are_figures" sAreFig f fd) : FnOk P w K mg base CX 1 f fd ["text"] spAreF := by
  refine F.okc scAF (fun vs H Q E h => ?_) (fun cdv A outer s H vs Q E hr h => ?_)
  · obtain ⟨x, rfl, _⟩ := h
    rfl
  obtain ⟨x, rfl, hx, gv⟩ := h
  refine ⟨_, pss_one (ps_ret (pe_and (pe_cmpR op_gt (pe_callB call_len_str rfl ml PySem.boot_len (pa_cons (pv 0) pa_nil)) pe_int (nomark _)) (pe_one (pe_callB (cAll K rfl rfl) rfl mall PyProof.Rows.boot_all (pa_cons (pe_comp rfl csAF (pi_str (pv 0)) (fun _ _ _ _ _ => pg_name (i := 0) csAF.nd rfl (Or.inl rfl)) (fun _ _ _ _ _ => pe_cmpR op_in_str (pv 0) (pe_glob (v := .str "0123456789") rfl m_FIGURES ⟨_, rfl⟩) rfl)) pa_nil))))), ?_⟩
  have hz : x.length ≤ sizeLine := Nat.le_trans hx (by decide)
  unfold figsB at gv
  refine ⟨_, rfl, x, rfl, hz, _, _, rfl, rfl, _, rfl, ite2 (fun c1 => ?_) (fun c1 => ?_)⟩
  · have c1' : (x.length : Int) > 0 := of_decide_eq_true c1
    refine ⟨_, rfl, x, rfl, fun l hl => comp_str (x := x) (fun i ys H2 => i ≤ x.length ∧ Same H H2 ∧ ys = (((sg x).take i).map fun c => decide (48 ≤ c ∧ c ≤ 57)).map V.bl) ⟨Nat.zero_le _, same_up (Same.refl H) hl, rfl⟩ hz (fun i ys H2 h => by rw [h.2.2, List.length_map, List.length_map, List.length_take, sg_len]; have := h.1; omega) (fun i c ys H2 hc h hy => ?_) (fun ys H2 h hy => ?_)⟩
    · obtain ⟨hi, s2, rfl⟩ := h
      refine ⟨_, rfl, _, _, rfl, rfl, hy, ?_, same_over s2 hl, ?_⟩
      · have := (List.getElem?_eq_some_iff.mp hc).1; rw [sg_len] at this; omega
      · rw [List.take_add_one, hc, Option.toList_some, List.map_append, List.map_append, List.map_singleton, List.map_singleton, in_figs]
    · obtain ⟨_, s2, rfl⟩ := h
      rw [List.take_of_length_le (by rw [sg_len]; omega)] at hy
      refine ⟨l, _, rfl, SqL.of hy, ?_⟩
      have e := gv H2 s2
      rw [decide_eq_true (show 0 < x.length by omega), Bool.true_and] at e
      rw [List.all_map]
      exact e
  · have c1' : ¬ (x.length : Int) > 0 := fun z => c1 (decide_eq_true z)
    have e := gv H (Same.refl H)
    rw [decide_eq_false (show ¬ (0 < x.length) by omega), Bool.false_and] at e
    exact e
end
end Gu

set_option Elab.async false
set_option linter.all false
set_option maxRecDepth 100000
set_option maxHeartbeats 4000000
namespace Gu
open PySem L2
section
variable {P : Program} {w : World} {K : PySem.W.Frag} {mg : Str → Option Value} {base : Heap} {f g : Addr} {fd gd : FuncData} {CX : CXT} [NoE CX]
abbrev nSW : List Str := ["_law_word"]
theorem scSW : FnScope nSW ["_law_word"] (defScope sSaidW) := ⟨rfl, rfl, rfl, by decide +kernel, rfl, by decide +kernel, by decide +kernel⟩
theorem csSW : CompS nSW (defScope sSaidW) ["_law_letter"] [none] (csc [(".0", .local), ("_law_letter", .local), ("str", .globalImplicit)]) := ⟨rfl, by decide +kernel, by decide +kernel, by decide +kernel, rfl, by decide +kernel, by decide +kernel⟩
theorem ok_saidw (ml : mg "len" = none) (mstr : mg "str" = none) (F : Fun K "_law_said_word" "_law_said_word" sSaidW f fd) : FnOk P w K mg base CX 1 f fd ["_law_word"] (spWordW K) := by
  refine F.okc scSW (fun vs H Q E h => ?_) (fun cdv A outer s H vs Q E hr h => ?_)
  · obtain ⟨a, w, rfl, _⟩ := h
    rfl
  obtain ⟨a, w, rfl, ea, hf, gv⟩ := h
  refine ⟨_, pss_one (ps_ret (pe_ifExp (pt_cmpR op_gt (pe_callB call_len_seq rfl ml PySem.boot_len (pa_cons (pv 0) pa_nil)) pe_int (nomark _)) (pe_bm PySem.F.plainAttrs_str PySem.F.slot_str_join PySem.F.type_str_join (mt_join K rfl) pe_str (pa_cons (pe_comp rfl csSW (pi_tup (pv 0)) (fun _ _ _ _ _ => pg_name (i := 0) csSW.nd rfl (Or.inl rfl)) (fun _ _ _ _ _ => pe_callTy (call_str_int.or call_str_str) rfl mstr PyProof.Rows.boot_str (pa_cons (pv 0) pa_nil))) pa_nil)) pe_str)), ?_⟩
  refine ⟨_, rfl, a, _, rfl, .inr ea, _, _, rfl, rfl, _, rfl, ite2 (fun c => ?_) (fun c => ?_)⟩
  · have c' : ((w.map V.int).length : Int) > 0 := of_decide_eq_true c
    rw [List.length_map] at c'
    refine ⟨rfl, _, rfl, a, rfl, ⟨_, ea⟩, fun l hl => comp_tup (xs := w.map V.int) (fun i ys H2 => i ≤ w.length ∧ Same H H2 ∧ ys = ((w.take i).map numT).map V.str) ⟨Nat.zero_le _, same_up (Same.refl H) hl, rfl⟩ (fun i ys H2 _ h => h.2.1.tupl ea) (by rw [List.length_map]; exact line_le (by have := hf.1; omega)) (fun i ys H2 h => by rw [h.2.2, List.length_map, List.length_map, List.length_take]; have := h.1; omega) (fun i x ys H2 hx h hy => ?_) (fun ys H2 h hy => ?_)⟩
    · obtain ⟨hi, s2, rfl⟩ := h
      rw [List.getElem?_map] at hx
      obtain ⟨n, hn, rfl⟩ := Option.map_eq_some_iff.mp hx
      have hil := (List.getElem?_eq_some_iff.mp hn).1
      obtain ⟨n0, n9⟩ := hf.2 n (List.mem_of_getElem? hn)
      refine ⟨_, rfl, .inl ⟨n, rfl, log_small (by omega), hy, by omega, same_over s2 hl, ?_⟩⟩
      rw [List.take_add_one, hn, Option.toList_some, List.map_append, List.map_append, List.map_singleton, List.map_singleton]
      rfl
    · obtain ⟨_, s2, rfl⟩ := h
      rw [List.take_of_length_le (by rw [List.length_map]; omega)] at hy
      refine ⟨_, l, _, rfl, rfl, SqL.of hy, ?_, ?_⟩
      · rw [sum_ones fun x hx => ?_]
        · rw [List.length_map]
          have := hf.1
          show w.length + w.length * 0 ≤ _
          omega
        · obtain ⟨n, hn, rfl⟩ := List.mem_map.mp hx
          exact fig_len (hf.2 n hn).1 (hf.2 n hn).2
      · have e := gv H2 s2
        unfold wordS at e
        rw [if_neg (fun z => by rw [z] at c'; simp at c')] at e
        exact e
  · have c' : ¬ ((w.map V.int).length : Int) > 0 := fun z => c (decide_eq_true z)
    rw [List.length_map] at c'
    have e := gv H (Same.refl H)
    unfold wordS at e
    rw [if_pos (List.length_eq_zero_iff.mp (by omega))] at e
    exact e
abbrev nSR : List Str := ["_law_rows"]
theorem scSR : FnScope nSR ["_law_rows"] (defScope sSaidR) := ⟨rfl, rfl, rfl, by decide +kernel, rfl, by decide +kernel, by decide +kernel⟩
theorem csSR : CompS nSR (defScope sSaidR) ["_law_row"] [none] (csc [(".0", .local), ("_law_row", .local), ("_law_said_word", .globalImplicit)]) := ⟨rfl, by decide +kernel, by decide +kernel, by decide +kernel, rfl, by decide +kernel, by decide +kernel⟩
theorem csSR2 : CompS ["_law_row"] (csc [(".0", .local), ("_law_row", .local), ("_law_said_word", .globalImplicit)]) ["_law_to"] [none] (csc [(".0", .local), ("_law_to", .local), ("str", .globalImplicit)]) := ⟨rfl, by decide +kernel, by decide +kernel, by decide +kernel, rfl, by decide +kernel, by decide +kernel⟩
theorem ok_saidr (mstr : mg "str" = none) (F : Fun K "_law_said_rows" "_law_said_rows" sSaidR f fd)
    {aW : Addr} {dW : FuncData} (W : FnOk P w K mg base CX 1 aW dW ["_law_word"] (spWordW K)) (bW : Binds K dW ["_law_word"] []) (kW : PySem.W.keepIn K (.ref aW) = true) (mW : mg "_law_said_word" = some (.ref aW)) : FnOk P w K mg base CX 2 f fd ["_law_rows"] (spRowsW K) := by
  refine F.okc scSR (fun vs H Q E h => ?_) (fun cdv A outer s H vs Q E hr h => ?_)
  · obtain ⟨a, us, rs, rfl, _⟩ := h
    rfl
  obtain ⟨a, us, rs, rfl, ea, dus, G, hl, gv⟩ := h
  refine ⟨_, pss_one (ps_ret (pe_bm PySem.F.plainAttrs_str PySem.F.slot_str_join PySem.F.type_str_join (mt_join K rfl) pe_str (pa_cons (pe_comp rfl csSR (pi_list (pv 0)) (fun _ _ _ _ _ => pg_name (i := 0) csSR.nd rfl (Or.inl rfl)) (fun _ _ _ _ _ => peBm K rfl PySem.F.plainAttrs_str PySem.F.slot_str_join PySem.F.type_str_join (mt_join K rfl) pe_str (pa_cons (pe_op op_cat (pe_lst (pa_cons (pe_call W hr rfl mW kW bW .nil passN (pa_cons (pe_ix (ixT K rfl) (pv 0) pe_int (fun _ _ => rfl)) pa_nil)) pa_nil)) (pe_comp rfl csSR2 (piT K rfl (pe_ix (ixT K rfl) (pv 0) pe_int (fun _ _ => rfl))) (fun _ _ _ _ _ => pg_name (i := 0) csSR2.nd rfl (Or.inl rfl)) (fun _ _ _ _ _ => pe_callTy (call_str_int.or call_str_str) rfl mstr PyProof.Rows.boot_str (pa_cons (pv 0) pa_nil)))) pa_nil))) pa_nil))), ?_⟩
  have hul : us.length = rs.length := by have := dus.length; rw [List.length_map] at this; omega
  refine ⟨rfl, _, rfl, a, rfl, ⟨_, ea⟩, fun l3 hl3 => comp_list (xs := us) (fun i ys H3 => i ≤ us.length ∧ Same H H3 ∧ ys = ((rs.take i).map rowS).map V.str) ⟨Nat.zero_le _, same_up (Same.refl H) hl3, rfl⟩ (fun i ys H3 _ h => h.2.1.seq ea) (line_le (by omega)) (fun i ys H3 h => by rw [h.2.2, List.length_map, List.length_map, List.length_take]; have := h.1; omega) (fun i x ys H3 hx h hy => ?_) (fun ys H3 h hy => ?_)⟩
  · obtain ⟨hi, s3, rfl⟩ := h
    have hil := (List.getElem?_eq_some_iff.mp hx).1
    have eg : rs[i]? = some rs[i] := List.getElem?_eq_getElem (by omega)
    have hgm := List.getElem_mem (show i < rs.length by omega)
    have et : rs.take (i + 1) = rs.take i ++ [rs[i]] := by rw [List.take_add_one, eg]; rfl
    generalize rs[i] = r at eg hgm et
    obtain ⟨x', ex, dx⟩ := dus.get (show (rs.map rD)[i]? = some (rD r) by rw [List.getElem?_map, eg]; rfl)
    rw [hx] at ex
    cases ex
    have GR := G r hgm
    have hfew := GR.few
    obtain ⟨b, zs, rfl, eb, dzs⟩ : ∃ (a : Addr) (us : List V), x = .ref a ∧ H a = some (.tup us) ∧ DrL K H [D.its r.1, .tup r.2] us := by
      simp only [rD, Dr] at dx
      exact dx
    obtain ⟨y1, y2, rfl, dy1, dy2⟩ : ∃ y1 y2, zs = [y1, y2] ∧ Dr K H (D.its r.1) y1 ∧ Dr K H (.tup r.2) y2 := by
      simp only [DrL] at dzs
      obtain ⟨y1, _, rfl, q1, y2, _, rfl, q2, rfl⟩ := dzs
      exact ⟨y1, y2, rfl, q1, q2⟩
    obtain ⟨b1, w1, rfl, eb1, dw1⟩ : ∃ (a : Addr) (us : List V), y1 = .ref a ∧ H a = some (.tup us) ∧ DrL K H (r.1.map D.int) us := by
      simp only [D.its, Dr] at dy1
      exact dy1
    obtain ⟨b2, w2, rfl, eb2, dw2⟩ : ∃ (a : Addr) (us : List V), y2 = .ref a ∧ H a = some (.tup us) ∧ DrL K H r.2 us := by
      simp only [Dr] at dy2
      exact dy2
    have e1 := DrL.ints_inv dw1
    subst e1
    have hl2 := dw2.length
    refine ⟨rfl, _, rfl, b, _, _, .ref b1, rfl, rfl, SqT.of (s3 _ _ eb), atI_nat (j := 0) rfl, b1, r.1, rfl, SqT.of (s3 _ _ eb1), GR.figs, fun H4 s4 => ⟨show 1 ≤ sizeLine by decide, fun l5 hl5 => ?_⟩⟩
    have s5 : Same H4 (upd H4 l5 (.lst [.str (wordS r.1)])) := same_up (Same.refl H4) hl5
    have e5 : upd H4 l5 (.lst [.str (wordS r.1)]) l5 = some (.lst [.str (wordS r.1)]) := upd_same
    generalize upd H4 l5 (.lst [.str (wordS r.1)]) = H5 at s5 e5 ⊢
    have s05 := s3.trans (s4.trans s5)
    refine ⟨_, rfl, b, _, _, .ref b2, rfl, rfl, SqT.of (s05 _ _ eb), atI_nat (j := 1) rfl, b2, rfl, ⟨_, SqT.of (s05 _ _ eb2)⟩, fun l6 hl6 => comp_tup (xs := w2) (fun i ys H6 => i ≤ w2.length ∧ Same H5 H6 ∧ ys = ((r.2.take i).map textD).map V.str) ⟨Nat.zero_le _, same_up (Same.refl H5) hl6, rfl⟩ (fun i ys H6 _ h => SqT.of (h.2.1 _ _ (s05 _ _ eb2))) (line_le (by omega)) (fun i ys H6 h => by rw [h.2.2, List.length_map, List.length_map, List.length_take]; have := h.1; omega) (fun i x ys H6 hx h hy6 => ?_) (fun ys H6 h hy6 => ?_)⟩
    · obtain ⟨hi, s6, rfl⟩ := h
      have hil := (List.getElem?_eq_some_iff.mp hx).1
      have eg : r.2[i]? = some r.2[i] := List.getElem?_eq_getElem (by omega)
      have hgm := List.getElem_mem (show i < r.2.length by omega)
      have et : r.2.take (i + 1) = r.2.take i ++ [r.2[i]] := by rw [List.take_add_one, eg]; rfl
      generalize r.2[i] = g at eg hgm et
      obtain ⟨x', ex, dx⟩ := dw2.get eg
      rw [hx] at ex
      cases ex
      rcases GR.go g hgm with ⟨z, rfl, hz⟩ | ⟨n, rfl, hn⟩
      · simp only [Dr] at dx
        subst dx
        refine ⟨_, rfl, .inr ⟨z, rfl, hy6, by omega, same_over s6 hl6, ?_⟩⟩
        rw [et, List.map_append, List.map_append, List.map_singleton, List.map_singleton]; rfl
      · simp only [Dr] at dx
        subst dx
        refine ⟨_, rfl, .inl ⟨_, rfl, log_small (by omega), hy6, by omega, same_over s6 hl6, ?_⟩⟩
        rw [et, List.map_append, List.map_append, List.map_singleton, List.map_singleton]; rfl
    · obtain ⟨_, s6, rfl⟩ := h
      rw [List.take_of_length_le (by omega)] at hy6
      refine ⟨l5, l6, _, _, rfl, rfl, s6 _ _ e5, hy6, Nat.le_trans (show 1 + ((r.2.map textD).map V.str).length ≤ 11 by rw [List.length_map, List.length_map]; omega) (by decide), fun l7 hl7 => ?_⟩
      have s67 : Same H3 (upd H6 l7 (.lst ([.str (wordS r.1)] ++ (r.2.map textD).map V.str))) := (s4.trans s5).trans (same_up s6 hl7)
      refine ⟨_, l7, wordS r.1 :: r.2.map textD, rfl, rfl, SqL.of upd_same, ?_, s67 _ _ hy, by omega, same_over (s3.trans s67) hl3, ?_⟩
      · have h := (join_most (y := str " ") fun p hp => (row_parts GR p hp).1).2
        have h1 : (wordS r.1 :: r.2.map textD).length * (100 + (str " ").length) ≤ 11 * (100 + (str " ").length) := Nat.mul_le_mul_right _ (by rw [List.length_cons, List.length_map]; omega)
        have h2 : 11 * (100 + (str " ").length) ≤ 16777216 := by decide +kernel
        exact Nat.le_trans h (Nat.le_trans h1 h2)
      · rw [et, List.map_append, List.map_append, List.map_singleton, List.map_singleton]; rfl
  · obtain ⟨_, s3, rfl⟩ := h
    rw [List.take_of_length_le (by omega)] at hy
    refine ⟨_, l3, rs.map rowS, rfl, rfl, SqL.of hy, ?_, gv _ s3⟩
    have h := (join_most (y := str " / ") (xs := rs.map rowS) (B := 1200) fun p hp => by obtain ⟨r, hr, rfl⟩ := List.mem_map.mp hp; exact row_len (G r hr)).2
    have h1 : (rs.map rowS).length * (1200 + (str " / ").length) ≤ 100 * (1200 + (str " / ").length) := Nat.mul_le_mul_right _ (by rw [List.length_map]; omega)
    have h2 : 100 * (1200 + (str " / ").length) ≤ 16777216 := by decide +kernel
    exact Nat.le_trans h (Nat.le_trans h1 h2)
end
end Gu

set_option Elab.async false
set_option linter.all false
set_option maxRecDepth 100000
set_option maxHeartbeats 4000000
namespace Gu
open PySem L2
section
variable {P : Program} {w : World} {K : PySem.W.Frag} {mg : Str → Option Value} {base : Heap} {f g : Addr} {fd gd : FuncData} {CX : CXT} [NoE CX]
abbrev nRN8 : List Str := ["text"]
theorem scRN8 : FnScope nRN8 ["text"] (defScope sRdName) := ⟨rfl, rfl, rfl, by decide +kernel, rfl, by decide +kernel, by decide +kernel⟩
theorem ok_rdname8 {Ct : Addr} {bmB : List Value} {B newId initId : String} (mC : mg "BadLine" = some (.ref Ct)) (xC : PySem.W.excIn K Ct bmB newId = true) (hB : ExcBaseFacts B newId initId bmB) (F : Fun K "read_name" "read_name" sRdName f fd)
    {aN : Addr} {dN : FuncData} (N : FnOk P w K mg base (CXx P w) 1 aN dN ["text"] spIsName) (bN : Binds K dN ["text"] []) (kN : PySem.W.keepIn K (.ref aN) = true) (mN : mg "is_name" = some (.ref aN)) : FnOk P w K mg base (CXx P w) 2 f fd ["text"] (spRd8 K Ct nameM) := by
  refine F.okx scRN8 (fun vs H Q E h => ?_) (fun cdv A outer s H vs Q E hr h => ?_)
  · obtain ⟨x, rfl, _⟩ := h
    rfl
  obtain ⟨x, rfl, hl, gv, qx⟩ := h
  refine ⟨_, pss_cons (ps_if (pt_not (pt_val (pe_call N hr rfl mN kN bN .nil passN (pa_cons (pv 0) pa_nil)))) (pss_one (ps_raise mC rfl xC hB pe_str)) pss_nil)
    (pss_one (ps_ret (pv 0))), ?_⟩
  unfold nameM at gv qx
  refine ⟨_, rfl, x, rfl, by omega, fun H1 s1 => ?_⟩
  cases hx : nameB x with
  | true =>
    rw [if_pos hx] at gv
    exact ⟨_, rfl, iteF ⟨_, rfl, gv _ rfl _ H1 s1 (by simp only [Dr])⟩⟩
  | false =>
    rw [if_neg (by rw [hx]; decide)] at qx
    exact ⟨_, rfl, iteT fun e => qx rfl e H1 s1⟩
abbrev nRU8 : List Str := ["text", "figures"]
theorem scRU8 : FnScope nRU8 ["text"] (defScope sRdNum) := ⟨rfl, rfl, rfl, by decide +kernel, rfl, by decide +kernel, by decide +kernel⟩
theorem ok_rdnum8 {Ct : Addr} {t1 : Tok} {bmB : List Value} {B newId initId : String} (mC : mg "BadLine" = some (.ref Ct)) (xC : PySem.W.excIn K Ct bmB newId = true) (hB : ExcBaseFacts B newId initId bmB) (ml : mg "len" = none) (mint : mg "int" = none) (m_MOST_FIGURES : mg "MOST_FIGURES" = some (.int 60 t1)) (F : Fun K "read_number" "read_number" sRdNum f fd)
    {aN : Addr} {dN : FuncData} (N : FnOk P w K mg base (CXx P w) 1 aN dN ["text"] spAreF) (bN : Binds K dN ["text"] []) (kN : PySem.W.keepIn K (.ref aN) = true) (mN : mg "are_figures" = some (.ref aN)) : FnOk P w K mg base (CXx P w) 2 f fd ["text"] (spRd8 K Ct numM) := by
  refine F.okx scRU8 (fun vs H Q E h => ?_) (fun cdv A outer s H vs Q E hr h => ?_)
  · obtain ⟨x, rfl, _⟩ := h
    rfl
  obtain ⟨x, rfl, hl, gv, qx⟩ := h
  refine ⟨_, pss_cons (ps_set (i := 1) scRU8.nd rfl (Or.inl rfl) (pe_bm PySem.F.plainAttrs_str PySem.F.slot_str_removeprefix PySem.F.type_str_removeprefix mt_rmpre (pv 0) (pa_cons pe_str pa_nil)))
    (pss_cons (ps_if (PW.pt (pw_or (pt_not (pt_val (pe_call N hr rfl mN kN bN .nil passN (pa_cons (pv 1) pa_nil)))) (pw_or1 (pt_cmpR op_gt (pe_callB call_len_str rfl ml PySem.boot_len (pa_cons (pv 1) pa_nil)) (pe_glob (v := .int 60) rfl m_MOST_FIGURES ⟨_, rfl⟩) (nomark _))))) (pss_one (ps_raise mC rfl xC hB pe_str)) pss_nil)
    (pss_cons (ps_if (PW.pt (pw_and (pt_val (pe_bm PySem.F.plainAttrs_str PySem.F.slot_str_startswith PySem.F.type_str_startswith mt_starts (pv 1) (pa_cons pe_str pa_nil))) (pw_and1 (pt_cmpR op_ne (pv 0) pe_str (nomark _))))) (pss_one (ps_raise mC rfl xC hB pe_str)) pss_nil)
    (pss_one (ps_ret (pe_callTy call_int_text rfl mint PyProof.Rows.boot_int (pa_cons (pv 0) pa_nil)))))), ?_⟩
  unfold numM at gv qx
  have bad : numB x = false → TMx Ct E H := fun z => by rw [if_neg (by rw [z]; decide)] at qx; exact qx rfl
  have good : numB x = true → Gives K H Q (.int (numV x)) := fun z => by rw [if_pos z] at gv; exact gv _ rfl
  have hrl := rm_len x
  refine ⟨_, rfl, rfl, _, _, rfl, rfl, line_leB (by omega), ?_⟩
  refine ⟨_, rfl, _, rfl, Nat.le_trans hrl (by omega), fun H1 s1 => ?_⟩
  cases h1 : figsB (Txt.removeprefix x (str "-")) with
  | false => exact ⟨_, rfl, iteT fun e => bad (by unfold numB; rw [h1]; rfl) e H1 s1⟩
  | true =>
    refine ⟨_, rfl, iteF ⟨_, rfl, _, rfl, Nat.le_trans hrl (line_leB (by omega)), _, _, rfl, rfl, _, rfl, ite2 (fun c => ?_) (fun c => ?_)⟩⟩
    · have c' : ((Txt.removeprefix x (str "-")).length : Int) > 60 := of_decide_eq_true c
      exact fun e => bad (by unfold numB; rw [h1, decide_eq_false (by omega)]; rfl) e H1 s1
    · have c' : ¬ ((Txt.removeprefix x (str "-")).length : Int) > 60 := fun z => c (decide_eq_true z)
      refine ⟨_, rfl, rfl, _, _, rfl, rfl, ?_⟩
      have hb : numB x = !(Txt.startswith (Txt.removeprefix x (str "-")) (str "0") && decide (x ≠ str "0")) := by
        unfold numB; rw [h1, decide_eq_true (by omega), Bool.true_and, Bool.true_and]
      have fin : numB x = true → ∀ (Hx : Hp), Same H Hx → intText? x = some (numV x) ∧ x.length ≤ 640 ∧ Q (.int (numV x)) Hx := fun z Hx sx => ⟨(numB_int z).1, by have := (numB_int z).2; omega, good z _ Hx sx (by simp only [Dr])⟩
      cases h2 : Txt.startswith (Txt.removeprefix x (str "-")) (str "0") with
      | false =>
        rw [h2, Bool.false_and] at hb
        obtain ⟨f1, f2, f3⟩ := fin hb H1 s1
        exact ⟨_, rfl, iteF (iteF ⟨_, rfl, x, numV x, rfl, f1, f2, f3⟩)⟩
      | true =>
        rw [h2, Bool.true_and] at hb
        refine ⟨_, rfl, iteT ⟨_, rfl, rfl, _, rfl, ite2 (fun c => ?_) (fun c => ?_)⟩⟩
        · have c' : x ≠ str "0" := fun z => by rw [decide_eq_true (show V.str x = V.str (Str.ofString "0") by rw [z])] at c; cases c
          exact fun e => bad (by rw [hb, decide_eq_true c']; rfl) e H1 s1
        · have c' : x = str "0" := Decidable.byContradiction fun z => c (by rw [decide_eq_false (fun y => z (V.str.inj y))]; rfl)
          rw [decide_eq_false (fun z => z c')] at hb
          obtain ⟨f1, f2, f3⟩ := fin hb H1 s1
          exact ⟨_, rfl, x, numV x, rfl, f1, f2, f3⟩
abbrev nRF8 : List Str := ["text"]
theorem scRF8 : FnScope nRF8 ["text"] (defScope sRdFig) := ⟨rfl, rfl, rfl, by decide +kernel, rfl, by decide +kernel, by decide +kernel⟩
theorem csRF8 : CompS nRF8 (defScope sRdFig) ["sign"] [none] (csc [(".0", .local), ("sign", .local), ("int", .globalImplicit)]) := ⟨rfl, by decide +kernel, by decide +kernel, by decide +kernel, rfl, by decide +kernel, by decide +kernel⟩
theorem ok_rdfig8 {Ct : Addr} {bmB : List Value} {B newId initId : String} (mC : mg "BadLine" = some (.ref Ct)) (xC : PySem.W.excIn K Ct bmB newId = true) (hB : ExcBaseFacts B newId initId bmB) (mint : mg "int" = none) (mt : mg "tuple" = none) (F : Fun K "read_figures" "read_figures" sRdFig f fd)
    {aN : Addr} {dN : FuncData} (N : FnOk P w K mg base (CXx P w) 1 aN dN ["text"] spAreF) (bN : Binds K dN ["text"] []) (kN : PySem.W.keepIn K (.ref aN) = true) (mN : mg "are_figures" = some (.ref aN)) : FnOk P w K mg base (CXx P w) 2 f fd ["text"] (spRd8 K Ct ringM) := by
  refine F.okx scRF8 (fun vs H Q E h => ?_) (fun cdv A outer s H vs Q E hr h => ?_)
  · obtain ⟨x, rfl, _⟩ := h
    rfl
  obtain ⟨x, rfl, hl, gv, qx⟩ := h
  refine ⟨_, pss_cons (ps_if (pt_not (pt_val (pe_call N hr rfl mN kN bN .nil passN (pa_cons (pv 0) pa_nil)))) (pss_one (ps_raise mC rfl xC hB pe_str)) pss_nil)
    (pss_one (ps_ret (pe_callTy call_tuple_of rfl mt PyProof.Rows.boot_tuple (pa_cons (pe_comp rfl csRF8 (pi_str (pv 0)) (fun _ _ _ _ _ => pg_name (i := 0) csRF8.nd rfl (Or.inl rfl)) (fun _ _ _ _ _ => pe_callTy call_int_text rfl mint PyProof.Rows.boot_int (pa_cons (pv 0) pa_nil))) pa_nil)))), ?_⟩
  unfold ringM at gv qx
  refine ⟨_, rfl, x, rfl, by omega, fun H1 s1 => ?_⟩
  cases hx : figsB x with
  | false =>
    rw [if_neg (by rw [hx]; decide)] at qx
    exact ⟨_, rfl, iteT fun e => qx rfl e H1 s1⟩
  | true =>
    rw [if_pos hx] at gv
    obtain ⟨c0, r0, hs0, hd⟩ := figsB_signs hx
    have hdl := digs_len x
    refine ⟨_, rfl, iteF ?_⟩
    refine ⟨_, rfl, x, rfl, fun l hl1 => comp_str (x := x) (fun i ys H2 => i ≤ x.length ∧ Same H1 H2 ∧ ys = ((digs x).take i).map V.int) ⟨Nat.zero_le _, same_up (Same.refl H1) hl1, rfl⟩ (line_leB (by omega)) (fun i ys H2 h => by rw [h.2.2, List.length_map, List.length_take, hdl]; have := h.1; omega) (fun i c ys H2 hc h hy => ?_) (fun ys H2 h hy => ?_)⟩
    · obtain ⟨hi, s2, rfl⟩ := h
      have hil := (List.getElem?_eq_some_iff.mp hc).1
      rw [sg_len] at hil
      obtain ⟨n0, n9⟩ := hd c (List.mem_of_getElem? hc)
      have hn : (digs x)[i]? = some ((c : Int) - 48) := by unfold digs; rw [List.getElem?_map, hc]; rfl
      have hi1 := int_sign (i := (c : Int) - 48) (by omega) (by omega)
      have ec : 48 + ((c : Int) - 48).toNat = c := by omega
      rw [ec] at hi1
      refine ⟨_, rfl, _, (c : Int) - 48, rfl, hi1, (by show 1 ≤ 640; decide), hy, by omega, same_over s2 hl1, ?_⟩
      rw [List.take_add_one, hn, Option.toList_some, List.map_append, List.map_singleton]
    · obtain ⟨_, s2, rfl⟩ := h
      rw [← hdl, List.take_length] at hy
      refine ⟨l, _, rfl, .inl ⟨SqL.of hy, fun q hq => ?_⟩⟩
      exact gv _ rfl _ _ (s1.trans (same_up s2 hq)) (Dr.tup upd_same (DrL.ints _))
abbrev nRO8 : List Str := ["text"]
theorem scRO8 : FnScope nRO8 ["text"] (defScope sRdWord) := ⟨rfl, rfl, rfl, by decide +kernel, rfl, by decide +kernel, by decide +kernel⟩
theorem ok_rdword8 {Ct : Addr} {t1 : Tok} (m_EMPTY : mg "EMPTY" = some (.str "-" t1)) (F : Fun K "read_word" "read_word" sRdWord f fd)
    {aN : Addr} {dN : FuncData} (N : FnOk P w K mg base (CXx P w) 2 aN dN ["text"] (spRd8 K Ct ringM)) (bN : Binds K dN ["text"] []) (kN : PySem.W.keepIn K (.ref aN) = true) (mN : mg "read_figures" = some (.ref aN)) : FnOk P w K mg base (CXx P w) 3 f fd ["text"] (spRd8 K Ct wordM) := by
  refine F.okx scRO8 (fun vs H Q E h => ?_) (fun cdv A outer s H vs Q E hr h => ?_)
  · obtain ⟨x, rfl, _⟩ := h
    rfl
  obtain ⟨x, rfl, hl, gv, qx⟩ := h
  refine ⟨_, pss_one (ps_ret (pe_ifExp (pt_cmpR op_eq (pv 0) (pe_glob (v := .str "-") rfl m_EMPTY ⟨_, rfl⟩) (nomark _)) (pe_tup pa_nil) (pe_call N hr rfl mN kN bN .nil (passX fun _ _ _ z => z) (pa_cons (pv 0) pa_nil)))), ?_⟩
  unfold wordM at gv qx
  refine ⟨_, rfl, rfl, _, rfl, ite2 (fun c => ?_) (fun c => ?_)⟩
  · have e : x = str "-" := V.str.inj (of_decide_eq_true c)
    rw [if_pos e] at gv
    exact ⟨Nat.zero_le _, fun q hq => gv _ rfl _ _ (same_up (Same.refl H) hq) (Dr.tup upd_same DrL.nil)⟩
  · have e : x ≠ str "-" := fun z => c (decide_eq_true (by rw [z]))
    rw [if_neg e] at gv qx
    exact ⟨_, rfl, x, rfl, hl, gv, qx⟩
abbrev nRG8 : List Str := ["text", "going"]
theorem scRG8 : FnScope nRG8 ["text"] (defScope sRdGoing) := ⟨rfl, rfl, rfl, by decide +kernel, rfl, by decide +kernel, by decide +kernel⟩
theorem ok_rdgoing8 {Ct : Addr} {bmB : List Value} {B newId initId : String} (mC : mg "BadLine" = some (.ref Ct)) (xC : PySem.W.excIn K Ct bmB newId = true) (hB : ExcBaseFacts B newId initId bmB) (F : Fun K "read_going" "read_going" sRdGoing f fd)
    {aN : Addr} {dN : FuncData} (N : FnOk P w K mg base (CXx P w) 2 aN dN ["text"] spIsName) (bN : Binds K dN ["text"] []) (kN : PySem.W.keepIn K (.ref aN) = true) (mN : mg "is_name" = some (.ref aN))
    {aU : Addr} {dU : FuncData} (U : FnOk P w K mg base (CXx P w) 2 aU dU ["text"] (spRd8 K Ct numM)) (bU : Binds K dU ["text"] []) (kU : PySem.W.keepIn K (.ref aU) = true) (mU : mg "read_number" = some (.ref aU)) : FnOk P w K mg base (CXx P w) 3 f fd ["text"] (spRd8 K Ct goM) := by
  refine F.okx scRG8 (fun vs H Q E h => ?_) (fun cdv A outer s H vs Q E hr h => ?_)
  · obtain ⟨x, rfl, _⟩ := h
    rfl
  obtain ⟨x, rfl, hl, gv, qx⟩ := h
  refine ⟨_, pss_cons (ps_if (pt_val (pe_call N hr rfl mN kN bN .nil passN (pa_cons (pv 0) pa_nil))) (pss_one (ps_ret (pv 0))) pss_nil)
    (pss_cons (ps_set (i := 1) scRG8.nd rfl (Or.inl rfl) (pe_call U hr rfl mU kU bU .nil (passX fun _ _ _ z => z) (pa_cons (pv 0) pa_nil)))
    (pss_cons (ps_if (pt_cmpR op_lt (pv 1) pe_int (nomark _)) (pss_one (ps_raise mC rfl xC hB pe_str)) pss_nil)
    (pss_one (ps_ret (pv 1))))), ?_⟩
  unfold goM at gv qx
  refine ⟨_, rfl, x, rfl, by omega, fun H1 s1 => ?_⟩
  cases hx : nameB x with
  | true =>
    rw [if_pos hx] at gv
    exact ⟨_, rfl, iteT ⟨_, rfl, gv _ rfl _ H1 s1 (by simp only [Dr])⟩⟩
  | false =>
    rw [if_neg (by rw [hx]; decide)] at gv qx
    refine ⟨_, rfl, iteF ?_⟩
    refine ⟨_, rfl, x, rfl, hl, fun d hd v H2 s2 dv => ?_, fun z => ?_⟩
    · unfold numM at hd
      split at hd
      · rename_i hn
        cases hd
        simp only [Dr] at dv
        subst dv
        refine ⟨_, rfl, _, _, rfl, rfl, _, rfl, ite2 (fun c => ?_) (fun c => ?_)⟩
        · have c' : numV x < 0 := of_decide_eq_true c
          rw [if_neg (fun y => by have := y.2; omega)] at qx
          exact fun e => qx rfl e H2 (s1.trans s2)
        · have c' : ¬ numV x < 0 := fun z => c (decide_eq_true z)
          rw [if_pos ⟨hn, by omega⟩] at gv
          exact ⟨_, rfl, gv _ rfl _ H2 (s1.trans s2) (by simp only [Dr])⟩
      · cases hd
    · unfold numM at z
      split at z
      · cases z
      · rename_i hn
        rw [if_neg (fun y => hn y.1)] at qx
        exact fun e H2 s2 => qx rfl e H2 (s1.trans s2)
end
end Gu

set_option Elab.async false
set_option linter.all false
set_option maxRecDepth 100000
set_option maxHeartbeats 4000000
namespace Gu
open PySem L2
section
variable {P : Program} {w : World} {K : PySem.W.Frag} {mg : Str → Option Value} {base : Heap} {f g : Addr} {fd gd : FuncData} {CX : CXT} [NoE CX]
abbrev nRR8 : List Str := ["text", "rearranging", "goings"]
theorem scRR8 : FnScope nRR8 ["text"] (defScope sRdRow) := ⟨rfl, rfl, rfl, by decide +kernel, rfl, by decide +kernel, by decide +kernel⟩
theorem csRR8 : CompS nRR8 (defScope sRdRow) ["going"] [none] (csc [(".0", .local), ("going", .local), ("read_going", .globalImplicit)]) := ⟨rfl, by decide +kernel, by decide +kernel, by decide +kernel, rfl, by decide +kernel, by decide +kernel⟩
theorem ok_rdrow8 {Ct : Addr} (mt : mg "tuple" = none) (F : Fun K "read_row" "read_row" sRdRow f fd)
    {aN : Addr} {dN : FuncData} (N : FnOk P w K mg base (CXx P w) 3 aN dN ["text"] (spRd8 K Ct ringM)) (bN : Binds K dN ["text"] []) (kN : PySem.W.keepIn K (.ref aN) = true) (mN : mg "read_figures" = some (.ref aN))
    {aU : Addr} {dU : FuncData} (U : FnOk P w K mg base (CXx P w) 3 aU dU ["text"] (spRd8 K Ct goM)) (bU : Binds K dU ["text"] []) (kU : PySem.W.keepIn K (.ref aU) = true) (mU : mg "read_going" = some (.ref aU)) : FnOk P w K mg base (CXx P w) 4 f fd ["text"] (spRd8 K Ct rowM) := by
  refine F.okx scRR8 (fun vs H Q E h => ?_) (fun cdv A outer s H vs Q E hr h => ?_)
  · obtain ⟨x, rfl, _⟩ := h
    rfl
  obtain ⟨x, rfl, hl, gv, qx⟩ := h
  refine ⟨_, pss_cons (ps_asg (pe_bm PySem.F.plainAttrs_str PySem.F.slot_str_split PySem.F.type_str_split mt_split (pv 0) (pa_cons pe_str pa_nil)) (pg_star rfl (pgs_cons (pg_name (i := 1) scRR8.nd rfl (Or.inl rfl)) (pgs_star (pg_name (i := 2) scRR8.nd rfl (Or.inl rfl)) pgs_nil))))
    (pss_one (ps_ret (pe_tup (pa_cons (pe_call N hr rfl mN kN bN .nil (passX fun _ _ _ z => z) (pa_cons (pv 1) pa_nil)) (pa_cons (pe_callTy call_tuple_of rfl mt PyProof.Rows.boot_tuple (pa_cons (pe_compX (E0 := E) rfl csRR8 (pi_list (pv 2)) rfl rfl rfl passA (fun _ _ _ _ _ => pg_name (i := 0) csRR8.nd rfl (Or.inl rfl)) (fun _ _ _ _ _ => pe_call U hr rfl mU kU bU .nil passE (pa_cons (pv 0) pa_nil))) pa_nil)) pa_nil))))), ?_⟩
  obtain ⟨p, ps, hsp⟩ := split_cons x (str " ")
  have hcnt := split_most (x := x) (y := str " ") (by decide +kernel)
  have hmem : ∀ q ∈ p :: ps, q.length ≤ x.length := fun q hq => split_mem (y := str " ") (by rw [hsp]; exact hq)
  unfold rowM at gv qx
  rw [hsp] at hcnt gv qx
  rw [List.length_cons] at hcnt
  simp only at gv qx
  refine ⟨_, rfl, rfl, x, str " ", rfl, rfl, (by decide +kernel), line_leB (by omega), fun l1 hl1 => ?_⟩
  rw [hsp]
  have s1 : Same H (upd H l1 (.lst ((p :: ps).map V.str))) := same_up (Same.refl H) hl1
  have e1 : upd H l1 (.lst ((p :: ps).map V.str)) l1 = some (.lst ((p :: ps).map V.str)) := upd_same
  generalize upd H l1 (.lst ((p :: ps).map V.str)) = H1 at s1 e1 ⊢
  refine ⟨l1, _, _, rfl, SqL.of e1, fun l2 hl2 => ⟨_, _, rfl, _, _, rfl, rfl, ?_⟩⟩
  have s2 : Same H1 (upd H1 l2 (.lst (ps.map V.str))) := same_up (Same.refl H1) hl2
  have e2 : upd H1 l2 (.lst (ps.map V.str)) l2 = some (.lst (ps.map V.str)) := upd_same
  generalize upd H1 l2 (.lst (ps.map V.str)) = H2 at s2 e2 ⊢
  have s02 := s1.trans s2
  refine ⟨_, rfl, p, rfl, Nat.le_trans (hmem p List.mem_cons_self) hl, fun d hd v3 H3 s3 d3 => ?_, fun z e H' s' => qx (by rw [z]) e H' (s02.trans s')⟩
  rw [hd] at gv qx
  have e3 := s3 _ _ e2
  refine ⟨_, rfl, l2, rfl, ⟨_, SqL.of e3⟩, fun l4 hl4 => comp_list (xs := ps.map V.str) (fun i ys H4 => ys.length = i ∧ i ≤ ps.length ∧ Same H3 H4 ∧ ∃ ds, mapO goM (ps.take i) = some ds ∧ DrL K H4 ds ys) ⟨rfl, Nat.zero_le _, same_up (Same.refl H3) hl4, [], rfl, DrL.nil⟩ (fun i ys H4 _ h => SqL.of (h.2.2.1 _ _ e3)) (line_leB (by rw [List.length_map]; omega)) (fun i ys H4 h => h.1) (fun i y ys H4 hy0 h hy => ?_) (fun ys H4 h hy => ?_)⟩
  · obtain ⟨hyl, hi, s4, ds, hds, d4⟩ := h
    rw [List.getElem?_map] at hy0
    obtain ⟨g, hg, rfl⟩ := Option.map_eq_some_iff.mp hy0
    have hil := (List.getElem?_eq_some_iff.mp hg).1
    have hgm := List.mem_of_getElem? hg
    have et : ps.take (i + 1) = ps.take i ++ [g] := by rw [List.take_add_one, hg]; rfl
    refine ⟨_, rfl, g, rfl, Nat.le_trans (hmem g (List.mem_cons_of_mem _ hgm)) hl, fun dg hdg v5 H5 s5 d5 => ?_, fun z e H' s' => qx (by rw [mapO_none z hgm]) e H' (s02.trans (s3.trans (s4.trans s')))⟩
    have ey := s5 _ _ hy
    refine ⟨ey, by rw [List.length_append, hyl]; rfl, by omega, same_over (s4.trans s5) hl4, ds ++ [dg], by rw [et]; exact mapO_snoc hdg hds, ?_⟩
    exact DrL.append (DrL.flat (tup_over ey) (flatL_all.mpr fun d hd => mapO_all (fun _ _ h => goM_flat h) hds d hd) (d4.mono s5)) (DrL.one (Dr.flat (tup_over ey) (goM_flat hdg) d5))
  · obtain ⟨hyl, _, s4, ds, hds, d4⟩ := h
    rw [List.length_map, List.take_length] at hds
    rw [hds] at gv
    refine ⟨l4, _, rfl, .inl ⟨SqL.of hy, fun q5 hq5 => ?_⟩⟩
    have s5 : Same H4 (upd H4 q5 (.tup ys)) := same_up (Same.refl H4) hq5
    have e5 : upd H4 q5 (.tup ys) q5 = some (.tup ys) := upd_same
    generalize upd H4 q5 (.tup ys) = H5 at s5 e5 ⊢
    refine ⟨show 2 ≤ sizeLine by decide, fun q6 hq6 => ?_⟩
    have s6 : Same H5 (upd H5 q6 (.tup [v3, .ref q5])) := same_up (Same.refl H5) hq6
    have e6 : upd H5 q6 (.tup [v3, .ref q5]) q6 = some (.tup [v3, .ref q5]) := upd_same
    generalize upd H5 q6 (.tup [v3, .ref q5]) = H6 at s6 e6 ⊢
    exact gv _ rfl _ H6 (s02.trans (s3.trans (s4.trans (s5.trans s6)))) (Dr.tup e6 (DrL.cons (d3.mono (s4.trans (s5.trans s6))) (DrL.one (Dr.tup (s6 _ _ e5) (d4.mono (s5.trans s6))))))
abbrev nRX8 : List Str := ["text"]
theorem scRX8 : FnScope nRX8 ["text"] (defScope sRdRows) := ⟨rfl, rfl, rfl, by decide +kernel, rfl, by decide +kernel, by decide +kernel⟩
theorem csRX8 : CompS nRX8 (defScope sRdRows) ["row"] [none] (csc [(".0", .local), ("row", .local), ("read_row", .globalImplicit)]) := ⟨rfl, by decide +kernel, by decide +kernel, by decide +kernel, rfl, by decide +kernel, by decide +kernel⟩
theorem ok_rdrows8 {Ct : Addr} (F : Fun K "read_rows" "read_rows" sRdRows f fd)
    {aN : Addr} {dN : FuncData} (N : FnOk P w K mg base (CXx P w) 4 aN dN ["text"] (spRd8 K Ct rowM)) (bN : Binds K dN ["text"] []) (kN : PySem.W.keepIn K (.ref aN) = true) (mN : mg "read_row" = some (.ref aN)) : FnOk P w K mg base (CXx P w) 5 f fd ["text"] (spRd8 K Ct rowsM) := by
  refine F.okx scRX8 (fun vs H Q E h => ?_) (fun cdv A outer s H vs Q E hr h => ?_)
  · obtain ⟨x, rfl, _⟩ := h
    rfl
  obtain ⟨x, rfl, hl, gv, qx⟩ := h
  refine ⟨_, pss_one (ps_ret (pe_compX (E0 := E) rfl csRX8 (pi_list (pe_bm PySem.F.plainAttrs_str PySem.F.slot_str_split PySem.F.type_str_split mt_split (pv 0) (pa_cons pe_str pa_nil))) rfl rfl rfl passA (fun _ _ _ _ _ => pg_name (i := 0) csRX8.nd rfl (Or.inl rfl)) (fun _ _ _ _ _ => pe_call N hr rfl mN kN bN .nil passE (pa_cons (pv 0) pa_nil)))), ?_⟩
  have hcnt := split_most (x := x) (y := str " / ") (by decide +kernel)
  have hmem : ∀ q ∈ Txt.split x (str " / "), q.length ≤ x.length := fun q hq => split_mem (y := str " / ") hq
  unfold rowsM at gv qx
  refine ⟨_, rfl, rfl, x, str " / ", rfl, rfl, (by decide +kernel), line_leB (by omega), fun l1 hl1 => ?_⟩
  generalize Txt.split x (str " / ") = ps at hcnt hmem gv qx ⊢
  have s1 : Same H (upd H l1 (.lst (ps.map V.str))) := same_up (Same.refl H) hl1
  have e1 : upd H l1 (.lst (ps.map V.str)) l1 = some (.lst (ps.map V.str)) := upd_same
  generalize upd H l1 (.lst (ps.map V.str)) = H1 at s1 e1 ⊢
  refine ⟨l1, rfl, ⟨_, SqL.of e1⟩, fun l4 hl4 => comp_list (xs := ps.map V.str) (fun i ys H4 => ys.length = i ∧ i ≤ ps.length ∧ Same H1 H4 ∧ ∃ ds, mapO rowM (ps.take i) = some ds ∧ DrL K H4 ds ys) ⟨rfl, Nat.zero_le _, same_up (Same.refl H1) hl4, [], rfl, DrL.nil⟩ (fun i ys H4 _ h => SqL.of (h.2.2.1 _ _ e1)) (line_leB (by rw [List.length_map]; omega)) (fun i ys H4 h => h.1) (fun i y ys H4 hy0 h hy => ?_) (fun ys H4 h hy => ?_)⟩
  · obtain ⟨hyl, hi, s4, ds, hds, d4⟩ := h
    rw [List.getElem?_map] at hy0
    obtain ⟨g, hg, rfl⟩ := Option.map_eq_some_iff.mp hy0
    have hil := (List.getElem?_eq_some_iff.mp hg).1
    have hgm := List.mem_of_getElem? hg
    have et : ps.take (i + 1) = ps.take i ++ [g] := by rw [List.take_add_one, hg]; rfl
    refine ⟨_, rfl, g, rfl, Nat.le_trans (hmem g hgm) hl, fun dg hdg v5 H5 s5 d5 => ?_, fun z e H' s' => qx (by rw [mapO_none z hgm]; rfl) e H' (s1.trans (s4.trans s'))⟩
    have ey := s5 _ _ hy
    refine ⟨ey, by rw [List.length_append, hyl]; rfl, by omega, same_over (s4.trans s5) hl4, ds ++ [dg], by rw [et]; exact mapO_snoc hdg hds, ?_⟩
    exact DrL.append (DrL.flat (tup_over ey) (flatL_all.mpr fun d hd => mapO_all (fun _ _ h => rowM_flat h) hds d hd) (d4.mono s5)) (DrL.one (Dr.flat (tup_over ey) (rowM_flat hdg) d5))
  · obtain ⟨hyl, _, s4, ds, hds, d4⟩ := h
    rw [List.length_map, List.take_length] at hds
    rw [hds] at gv
    exact gv _ rfl _ H4 (s1.trans s4) (Dr.lst hy d4)
abbrev nHL8 : List Str := ["line"]
theorem scHL8 : FnScope nHL8 ["line"] (defScope sHeadL) := ⟨rfl, rfl, rfl, by decide +kernel, rfl, by decide +kernel, by decide +kernel⟩
theorem ok_headl8 (F : Fun K "head_of_line" "head_of_line" sHeadL f fd) : FnOk P w K mg base CX 1 f fd ["line"] spHead8 := by
  refine F.okc scHL8 (fun vs H Q E h => ?_) (fun cdv A outer s H vs Q E hr h => ?_)
  · obtain ⟨x, rfl, _⟩ := h
    rfl
  obtain ⟨x, rfl, hl, gv⟩ := h
  refine ⟨_, pss_one (ps_ret (pe_ix ix_list (pe_bm PySem.F.plainAttrs_str PySem.F.slot_str_split PySem.F.type_str_split mt_split (pv 0) (pa_cons pe_str pa_nil)) pe_int (fun _ _ => rfl))), ?_⟩
  obtain ⟨p, ps, hsp⟩ := split_cons x (str " ")
  refine ⟨_, rfl, rfl, x, str " ", rfl, rfl, (by decide +kernel), line_leB (by omega), fun l hl1 => ?_⟩
  rw [hsp]
  exact ⟨l, _, _, .str p, rfl, rfl, SqL.of upd_same, atI_nat (j := 0) rfl, gv p ps hsp _ (same_up (Same.refl H) hl1)⟩
end
end Gu

set_option Elab.async false
set_option linter.all false
set_option maxRecDepth 100000
set_option maxHeartbeats 4000000
namespace Gu
open PySem L2
section
variable {P : Program} {w : World} {K : PySem.W.Frag} {mg : Str → Option Value} {base : Heap} {f g : Addr} {fd gd : FuncData} {CX : CXT} [NoE CX]
abbrev nRP8 : List Str := ["line", "kinds", "head", "parts", "read", "kind", "part", "reader"]
theorem scRP8 : FnScope nRP8 ["line", "kinds"] (defScope sRdParts) := ⟨rfl, rfl, rfl, by decide +kernel, rfl, by decide +kernel, by decide +kernel⟩
theorem ok_rdparts8 {Ct : Addr} {bmB : List Value} {B newId initId : String} (mC : mg "BadLine" = some (.ref Ct)) (xC : PySem.W.excIn K Ct bmB newId = true) (hB : ExcBaseFacts B newId initId bmB) {a_READERS : Addr} (ml : mg "len" = none) (mmax : mg "max" = none) (mzip : mg "zip" = none) (mt : mg "tuple" = none) (m_READERS : mg "READERS" = some (.ref a_READERS)) (dR : dictM K a_READERS = true)
    (R : Rds P w K mg base 6 a_READERS Ct) (F : Fun K "read_parts" "read_parts" sRdParts f fd) : FnOk P w K mg base (CXx P w) 7 f fd ["line", "kinds"] (spParts8 K Ct) := by
  refine F.okx scRP8 (fun vs H Q E h => ?_) (fun cdv A outer s H vs Q E hr h => ?_)
  · obtain ⟨t, x, kinds, rfl, _⟩ := h
    rfl
  obtain ⟨t, x, kinds, rfl, et, hkn, hk3, hkt, hl, gv, qx⟩ := h
  refine ⟨_, pss_cons (ps_asg (pe_bm PySem.F.plainAttrs_str PySem.F.slot_str_split PySem.F.type_str_split mt_splitMax (pv 0) (pa_cons pe_str (pa_cons (pe_callB (call_max2 rfl) rfl mmax PyProof.Rows.boot_max (pa_cons pe_int (pa_cons (pe_callB call_len_seq rfl ml PySem.boot_len (pa_cons (pv 1) pa_nil)) pa_nil))) pa_nil))) (pg_star rfl (pgs_cons (pg_name (i := 2) scRP8.nd rfl (Or.inl rfl)) (pgs_star (pg_name (i := 3) scRP8.nd rfl (Or.inl rfl)) pgs_nil))))
    (pss_cons (ps_if (pt_cmp (pc_neI (pe_callB call_len_seq rfl ml PySem.boot_len (pa_cons (pv 3) pa_nil)) (pe_callB call_len_seq rfl ml PySem.boot_len (pa_cons (pv 1) pa_nil)))) (pss_one (ps_raise mC rfl xC hB pe_str)) pss_nil)
    (pss_cons (ps_set (i := 4) scRP8.nd rfl (Or.inl rfl) (pe_lst (pa_cons (pv 2) pa_nil)))
    (pss_cons (ps_for PassesOwn.leaving rfl (pi_zipM rfl mzip (pa_cons (pv 1) (pa_cons (pv 3) pa_nil))) (pg_tup rfl (pgs_cons (pg_name (i := 5) scRP8.nd rfl (Or.inl rfl)) (pgs_cons (pg_name (i := 6) scRP8.nd rfl (Or.inl rfl)) pgs_nil)))
      (pss_cons (ps_set (i := 7) scRP8.nd rfl (Or.inl rfl) (pe_dgetM (pe_glob (v := .ref a_READERS) rfl m_READERS rfl) (pv 5) (fun _ _ => rfl)))
      (pss_one (ps_expr (pe_bm PySem.F.plainAttrs_list PySem.F.slot_list_append PySem.F.type_list_append mt_append (pv 4) (pa_cons (pe_callH (CX := (CXx P w)) 7 hr (pa_cons (pv 6) pa_nil)) pa_nil))))))
    (pss_one (ps_ret (pe_callTy call_tuple_of rfl mt PyProof.Rows.boot_tuple (pa_cons (pv 4) pa_nil))))))), ?_⟩
  have hk1 : 1 ≤ kinds.length := List.length_pos_iff.mpr hkn
  have hmax : (if ((kinds.map V.str).length : Int) > 1 then ((kinds.map V.str).length : Int) else 1) = ((kinds.length : Nat) : Int) := by
    rw [List.length_map]
    split <;> omega
  obtain ⟨p, ps, hsp⟩ := splitMax_cons x (str " ") ((kinds.length : Nat) : Int)
  have hmem : ∀ q ∈ p :: ps, q.length ≤ x.length := fun q hq => PyProof.Rows.partMax_short (y := str " ") (k := ((kinds.length : Nat) : Int)) (by rw [hsp]; exact hq)
  unfold partsM at gv qx
  rw [hsp] at gv qx
  simp only at gv qx
  refine ⟨_, rfl, rfl, _, rfl, t, _, rfl, .inr et, _, _, rfl, _, str " ", ((kinds.length : Nat) : Int), rfl, (by rw [← hmax]), (by decide +kernel), line_leB (by omega), by omega, by omega, fun l1 hl1 => ?_⟩
  rw [hsp]
  have s1 : Same H (upd H l1 (.lst ((p :: ps).map V.str))) := same_up (Same.refl H) hl1
  have e1 : upd H l1 (.lst ((p :: ps).map V.str)) l1 = some (.lst ((p :: ps).map V.str)) := upd_same
  generalize upd H l1 (.lst ((p :: ps).map V.str)) = H1 at s1 e1 ⊢
  refine ⟨l1, _, _, rfl, SqL.of e1, fun l2 hl2 => ⟨_, _, rfl, _, _, rfl, rfl, ?_⟩⟩
  have s2 : Same H1 (upd H1 l2 (.lst (ps.map V.str))) := same_up (Same.refl H1) hl2
  have e2 : upd H1 l2 (.lst (ps.map V.str)) l2 = some (.lst (ps.map V.str)) := upd_same
  generalize upd H1 l2 (.lst (ps.map V.str)) = H2 at s2 e2 ⊢
  have s02 := s1.trans s2
  refine ⟨_, rfl, l2, _, rfl, .inl (SqL.of e2), _, rfl, t, _, rfl, .inr (s02.tupl et), _, _, rfl, rfl, _, rfl, ite2 (fun c => ?_) (fun c => ?_)⟩
  · have c' : ps.length ≠ kinds.length := fun z => by
      have c2 : (!decide (((ps.map V.str).length : Int) = ((kinds.map V.str).length : Int))) = true := c
      rw [List.length_map, List.length_map, z] at c2
      simp at c2
    exact fun e => qx (by rw [zipM_len (fun z => c' z.symm)]; rfl) e H2 s02
  have hpl : ps.length = kinds.length := Decidable.byContradiction fun z => c (show (!decide (((ps.map V.str).length : Int) = ((kinds.map V.str).length : Int))) = true by rw [List.length_map, List.length_map, decide_eq_false (by omega)]; rfl)
  refine ⟨_, rfl, show 1 ≤ sizeLine by decide, fun lr hlr => ?_⟩
  have s3 : Same H2 (upd H2 lr (.lst [.str p])) := same_up (Same.refl H2) hlr
  have e3 : upd H2 lr (.lst [.str p]) lr = some (.lst [.str p]) := upd_same
  have hlrH := s02.free hlr
  have hl2r : l2 ≠ lr := fun z => by rw [← z, e2] at hlr; cases hlr
  generalize upd H2 lr (.lst [.str p]) = H3 at s3 e3 ⊢
  have s03 := s02.trans s3
  refine ⟨_, rfl, _, rfl, t, l2, rfl, ⟨_, s03.tupl et⟩, ⟨_, SqL.of (s3 _ _ e2)⟩, zipMO (xs := kinds.map V.str) (ys := ps.map V.str) (by rw [List.length_map, List.length_map, hpl]) (fun i σ H4 => ∃ (us : List V) (ds : List D) (u5 u6 u7 : Option V), σ = [some (.str x), some (.ref t), some (.str p), some (.ref l2), some (.ref lr), u5, u6, u7] ∧ Same H H4 ∧ H4 l2 = some (.lst (ps.map V.str)) ∧ H4 lr = some (.lst (.str p :: us)) ∧ zipM (kinds.take i) (ps.take i) = some ds ∧ DrL K H4 ds us ∧ us.length ≤ i)
    ⟨[], [], _, _, _, rfl, s03, s3 _ _ e2, e3, rfl, DrL.nil, Nat.le_refl _⟩ (fun i σ H4 _ h => by obtain ⟨_, _, _, _, _, _, t4, t5, _⟩ := h; exact ⟨t4.tupl et, SqL.of t5⟩) (fun i x1 y1 p4 σ H4 hx hy h hp4 Ed nx => ?_) (fun σ H4 h => ?_)⟩
  · obtain ⟨us, ds, u5, u6, u7, rfl, s4, e4, e4r, hz4, d4, ul4⟩ := h
    rw [List.getElem?_map] at hx hy
    obtain ⟨k, hk, rfl⟩ := Option.map_eq_some_iff.mp hx
    obtain ⟨z, hz, rfl⟩ := Option.map_eq_some_iff.mp hy
    have hil := (List.getElem?_eq_some_iff.mp hk).1
    have hkm := List.mem_of_getElem? hk
    have hzm := List.mem_of_getElem? hz
    have ek : kinds.take (i + 1) = kinds.take i ++ [k] := by rw [List.take_add_one, hk]; rfl
    have ez : ps.take (i + 1) = ps.take i ++ [z] := by rw [List.take_add_one, hz]; rfl
    have s5 : Same H4 (upd H4 p4 (.tup [.str k, .str z])) := same_up (Same.refl H4) hp4
    have e5 : upd H4 p4 (.tup [.str k, .str z]) p4 = some (.tup [.str k, .str z]) := upd_same
    generalize upd H4 p4 (.tup [.str k, .str z]) = H5 at s5 e5 ⊢
    have s05 := s4.trans s5
    refine ⟨p4, _, rfl, SqT.of e5, rfl, _, _, rfl, _, _, rfl, rfl, ?_⟩
    obtain ⟨fa, fda, hns, FO, hbd, hkp⟩ := R k (hkt k hkm)
    refine ⟨_, rfl, a_READERS, _, .ref fa, _, rfl, dR, rfl, hns, rfl, ?_⟩
    refine ⟨_, rfl, .inl ⟨rfl, _, SqL.of (s5 _ _ e4r)⟩, fa, fda, _, _, _, rfl, FO, hbd, hkp, passX fun _ _ _ z => z, _, rfl, z, rfl, Nat.le_trans (hmem z (List.mem_cons_of_mem _ hzm)) hl, fun d hd v H6 s6 d6 => ?_, fun zn e H' s' => qx (by rw [zipM_none zn hk hz]; rfl) e H' (s05.trans s')⟩
    have e6 := s6 _ _ (s5 _ _ e4r)
    refine ⟨lr, _, _, rfl, rfl, e6, Nat.lt_of_lt_of_le (show (V.str p :: us).length < 100 by rw [List.length_cons]; omega) (by decide), ?_⟩
    have kp : ∀ b, b ≠ lr → upd H6 lr (.lst (.str p :: us ++ [v])) b = H6 b := fun b hb => upd_ne hb
    refine nx _ _ ⟨us ++ [v], ds ++ [d], _, _, _, rfl, same_over (s05.trans s6) hlrH, ?_, upd_same, by rw [ek, ez]; exact zipM_snoc hd hz4, ?_, by rw [List.length_append, List.length_singleton]; omega⟩
    · rw [upd_ne hl2r]; exact s6 _ _ (s5 _ _ e4)
    · exact DrL.append (parts_over e6 kp (zipM_from hz4) (d4.mono (s5.trans s6))) (DrL.one (kindF_other hd e6 kp d6))
  · obtain ⟨us, ds, u5, u6, u7, rfl, s4, e4, e4r, hz4, d4, ul4⟩ := h
    rw [List.length_map, List.take_length, ← hpl, List.take_length] at hz4
    rw [hz4] at gv
    refine ⟨_, rfl, lr, _, rfl, .inl ⟨SqL.of e4r, fun q5 hq5 => ?_⟩⟩
    exact gv _ rfl _ _ (same_up s4 hq5) (Dr.tup upd_same (DrL.cons (by simp only [Dr]) (d4.mono (same_up (Same.refl H4) hq5))))
end
end Gu

set_option Elab.async false
set_option linter.all false
set_option maxRecDepth 100000
set_option maxHeartbeats 4000000
namespace Gu
open PySem L2
section
variable {P : Program} {w : World} {K : PySem.W.Frag} {mg : Str → Option Value} {base : Heap} {f g : Addr} {fd gd : FuncData} {CX : CXT} [NoE CX]
abbrev nRL8 : List Str := ["line", "name"]
theorem scRL8 : FnScope nRL8 ["line"] (defScope sRdLine) := ⟨rfl, rfl, rfl, by decide +kernel, rfl, by decide +kernel, by decide +kernel⟩
theorem ok_rdline8 {Ct : Addr} {bmB : List Value} {B newId initId : String} (mC : mg "BadLine" = some (.ref Ct)) (xC : PySem.W.excIn K Ct bmB newId = true) (hB : ExcBaseFacts B newId initId bmB) {a_DEEDS : Addr} (m_DEEDS : mg "DEEDS" = some (.ref a_DEEDS)) (dD : dictM K a_DEEDS = true) (hD : ∀ p ∈ deedT, ∃ t, PySem.W.nsIn K a_DEEDS p.1 = some (some (.ref t)) ∧ tupM K t p.2 = true) (hO : deedsOnly K a_DEEDS = true) (F : Fun K "read_line" "read_line" sRdLine f fd)
    {aHd : Addr} {dHd : FuncData} (Hd : FnOk P w K mg base (CXx P w) 7 aHd dHd ["line"] spHead8) (bHd : Binds K dHd ["line"] []) (kHd : PySem.W.keepIn K (.ref aHd) = true) (mHd : mg "head_of_line" = some (.ref aHd))
    {aPt : Addr} {dPt : FuncData} (Pt : FnOk P w K mg base (CXx P w) 7 aPt dPt ["line", "kinds"] (spParts8 K Ct)) (bPt : Binds K dPt ["line", "kinds"] []) (kPt : PySem.W.keepIn K (.ref aPt) = true) (mPt : mg "read_parts" = some (.ref aPt)) : FnOk P w K mg base (CXx P w) 8 f fd ["line"] (spRd8 K Ct lineM) := by
  refine F.okx scRL8 (fun vs H Q E h => ?_) (fun cdv A outer s H vs Q E hr h => ?_)
  · obtain ⟨x, rfl, _⟩ := h
    rfl
  obtain ⟨x, rfl, hl, gv, qx⟩ := h
  refine ⟨_, pss_cons (ps_set (i := 1) scRL8.nd rfl (Or.inl rfl) (pe_call Hd hr rfl mHd kHd bHd .nil passN (pa_cons (pv 0) pa_nil)))
    (pss_cons (ps_if (pt_cmp (pc_dnotinM (pv 1) (pe_glob (v := .ref a_DEEDS) rfl m_DEEDS rfl))) (pss_one (ps_raise mC rfl xC hB pe_str)) pss_nil)
    (pss_one (ps_ret (pe_call Pt hr rfl mPt kPt bPt .nil (passX fun _ _ _ z => z) (pa_cons (pv 0) (pa_cons (pe_dgetM (pe_glob (v := .ref a_DEEDS) rfl m_DEEDS rfl) (pv 1) (fun _ _ => rfl)) pa_nil)))))), ?_⟩
  unfold lineM at gv qx
  refine ⟨_, rfl, x, rfl, hl, fun p ps hsp H1 s1 => ?_⟩
  rw [hsp] at gv qx
  simp only at gv qx
  cases hf : deedT.find? (fun q => decide (q.1 = p)) with
  | none =>
    rw [hf] at gv qx
    have hn := deedsOnly_at hO (p := p) fun q hq c => by
      have := List.find?_eq_none.mp hf q hq
      exact this (decide_eq_true c)
    exact ⟨_, rfl, a_DEEDS, p, _, rfl, dD, rfl, hn, _, rfl, iteT fun e => qx rfl e H1 s1⟩
  | some q =>
    rw [hf] at gv qx
    have hqm := List.mem_of_find?_eq_some hf
    have hqp : q.1 = p := by
      have hq := List.find?_some hf
      exact of_decide_eq_true hq
    obtain ⟨k1, k2, k3⟩ := deed_kinds q hqm
    obtain ⟨t, hn, ht⟩ := hD q hqm
    rw [hqp] at hn
    refine ⟨_, rfl, a_DEEDS, p, _, rfl, dD, rfl, hn, _, rfl, iteF ?_⟩
    refine ⟨_, rfl, _, rfl, a_DEEDS, p, .ref t, _, rfl, dD, rfl, hn, rfl, ?_⟩
    exact ⟨t, x, q.2, rfl, tupM_at (xs := q.2) ht (by omega) _, k1, k2, k3, hl, fun d hd v H' s' dv => gv d hd v H' (s1.trans s') dv, fun z e H' s' => qx z e H' (s1.trans s')⟩
end
end Gu

set_option Elab.async false
set_option linter.all false
set_option maxRecDepth 100000
set_option maxHeartbeats 4000000
namespace Gu
open PySem L2
section
variable {P : Program} {w : World} {K : PySem.W.Frag} {mg : Str → Option Value} {base : Heap} {f g : Addr} {fd gd : FuncData} {CX : CXT} [NoE CX]
abbrev nGN : List Str := ["_law_pick"]
theorem scGN : FnScope nGN ["_law_pick"] (defScope sGoodN) := ⟨rfl, rfl, rfl, by decide +kernel, rfl, by decide +kernel, by decide +kernel⟩
theorem ok_goodn (F : Fun K "_law_good_name" "_law_good_name" sGoodN f fd) : FnOk P w K mg base CX 1 f fd ["_law_pick"] spGoodN := by
  refine F.okc scGN (fun vs H Q E h => ?_) (fun cdv A outer s H vs Q E hr h => ?_)
  · obtain ⟨n, rfl, _⟩ := h
    rfl
  obtain ⟨n, rfl, gv⟩ := h
  refine ⟨_, pss_one (ps_ret (pe_ix ix_tup (pe_tup (pa_cons pe_str (pa_cons pe_str (pa_cons pe_str (pa_cons pe_str (pa_cons pe_str (pa_cons pe_str (pa_cons pe_str (pa_cons pe_str pa_nil))))))))) (pe_op op_mod (pv 0) pe_int) (fun _ _ => rfl))), ?_⟩
  have m0 := Int.emod_nonneg n (show (8 : Int) ≠ 0 by decide)
  have m1 := Int.emod_lt_of_pos n (show (0 : Int) < 8 by decide)
  obtain ⟨j, hj⟩ := nat_of m0
  have hjl : j < goodNames.length := by show j < 8; omega
  refine ⟨show 8 ≤ sizeLine by decide, fun q hq => ?_⟩
  have e1 : upd H q (.tup (goodNames.map V.str)) q = some (.tup (goodNames.map V.str)) := upd_same
  have s1 : Same H (upd H q (.tup (goodNames.map V.str))) := same_up (Same.refl H) hq
  change _ at e1
  refine ⟨_, rfl, _, _, rfl, rfl, pmod, q, goodNames.map V.str, _, .str goodNames[j], rfl, rfl, SqT.of e1, ?_, gv _ _ s1 (good_names _ (List.getElem_mem hjl))⟩
  rw [hj]
  exact atI_nat (by rw [List.getElem?_map, List.getElem?_eq_getElem hjl]; rfl)
abbrev nBL : List Str := ["_law_pick"]
theorem scBL : FnScope nBL ["_law_pick"] (defScope sBigL) := ⟨rfl, rfl, rfl, by decide +kernel, rfl, by decide +kernel, by decide +kernel⟩
theorem ok_bigl (F : Fun K "_law_big" "_law_big" sBigL f fd) : FnOk P w K mg base CX 1 f fd ["_law_pick"] spBigL := by
  refine F.okc scBL (fun vs H Q E h => ?_) (fun cdv A outer s H vs Q E hr h => ?_)
  · obtain ⟨n, rfl, _⟩ := h
    rfl
  obtain ⟨n, rfl, n0, n1, gv⟩ := h
  refine ⟨_, pss_one (ps_ret (pe_ix ix_tup (pe_tup (pa_cons (pe_op op_mod (pv 0) pe_int) (pa_cons (pv 0) (pa_cons (pe_op op_add (pe_op op_pow pe_int pe_int) (pv 0)) (pa_cons (pe_op op_sub (pe_op op_sub (pe_op op_pow pe_int pe_int) pe_int) (pv 0)) pa_nil))))) (pe_op op_mod (pv 0) pe_int) (fun _ _ => rfl))), ?_⟩
  have m0 := Int.emod_nonneg n (show (4 : Int) ≠ 0 by decide)
  have m1 := Int.emod_lt_of_pos n (show (0 : Int) < 4 by decide)
  have k0 := Int.emod_nonneg n (show (10 : Int) ≠ 0 by decide)
  have k1 := Int.emod_lt_of_pos n (show (0 : Int) < 10 by decide)
  obtain ⟨j, hj⟩ := nat_of m0
  refine ⟨_, rfl, _, _, rfl, rfl, pmod, _, rfl, _, _, rfl, rfl, ⟨by decide, by decide, by decide⟩, _, rfl, _, _, rfl, rfl, _, _, rfl, rfl, ⟨by decide, by decide, by decide⟩, _, _, rfl, rfl, _, rfl, _, _, rfl, rfl, ?_⟩
  refine ⟨show 4 ≤ sizeLine by decide, fun q hq => ?_⟩
  have s1 : Same H (upd H q (.tup [.int (n % 10), .int n, .int (10 ^ 20 + n), .int (10 ^ 60 - 1 - n)])) := same_up (Same.refl H) hq
  have e1 : upd H q (.tup [.int (n % 10), .int n, .int (10 ^ 20 + n), .int (10 ^ 60 - 1 - n)]) q = some (.tup [.int (n % 10), .int n, .int (10 ^ 20 + n), .int (10 ^ 60 - 1 - n)]) := upd_same
  obtain ⟨m, hm, em⟩ : ∃ m : Nat, m < 10 ^ 60 ∧ [V.int (n % 10), .int n, .int (10 ^ 20 + n), .int (10 ^ 60 - 1 - n)][j]? = some (.int (m : Int)) := by
    have hj4 : j = 0 ∨ j = 1 ∨ j = 2 ∨ j = 3 := by omega
    rcases hj4 with rfl | rfl | rfl | rfl
    · exact ⟨(n % 10).toNat, by omega, by rw [Int.toNat_of_nonneg k0]; rfl⟩
    · exact ⟨n.toNat, by omega, by rw [Int.toNat_of_nonneg n0]; rfl⟩
    · exact ⟨(10 ^ 20 + n).toNat, by omega, by rw [Int.toNat_of_nonneg (by omega)]; rfl⟩
    · exact ⟨(10 ^ 60 - 1 - n).toNat, by omega, by rw [Int.toNat_of_nonneg (by omega)]; rfl⟩
  refine ⟨_, rfl, _, _, rfl, rfl, pmod, q, _, _, _, rfl, rfl, SqT.of e1, ?_, gv m _ s1 hm⟩
  rw [hj]
  exact atI_nat em
end
end Gu

set_option Elab.async false
set_option linter.all false
set_option maxRecDepth 100000
set_option maxHeartbeats 4000000
namespace Gu
open PySem L2
section
variable {P : Program} {w : World} {K : PySem.W.Frag} {mg : Str → Option Value} {base : Heap} {f g : Addr} {fd gd : FuncData} {CX : CXT} [NoE CX]
abbrev nGR : List Str := ["_law_nums", "_law_rows", "_law_at", "_law_pick", "_law_first", "_law_goings"]
theorem scGR : FnScope nGR ["_law_nums"] (defScope sGoodR) := ⟨rfl, rfl, rfl, by decide +kernel, rfl, by decide +kernel, by decide +kernel⟩
theorem csGR : CompS nGR (defScope sGoodR) ["_law_to"] [none] (csc [(".0", .local), ("_law_to", .local), ("_law_good_name", .globalImplicit), ("_law_big", .globalImplicit)]) := ⟨rfl, by decide +kernel, by decide +kernel, by decide +kernel, rfl, by decide +kernel, by decide +kernel⟩
theorem csGR2 : CompS nGR (defScope sGoodR) ["_law_one"] [none] (csc [(".0", .local), ("_law_one", .local)]) := ⟨rfl, by decide +kernel, by decide +kernel, by decide +kernel, rfl, by decide +kernel, by decide +kernel⟩
theorem ok_goodrw (mr : mg "range" = none) (mt : mg "tuple" = none) (F : Fun K "_law_good_rows" "_law_good_rows" sGoodR f fd)
    {aN : Addr} {dN : FuncData} (N : FnOk P w K mg base CX 1 aN dN ["_law_pick"] spGoodN) (bN : Binds K dN ["_law_pick"] []) (kN : PySem.W.keepIn K (.ref aN) = true) (mN : mg "_law_good_name" = some (.ref aN))
    {aB : Addr} {dB : FuncData} (B : FnOk P w K mg base CX 1 aB dB ["_law_pick"] spBigL) (bB : Binds K dB ["_law_pick"] []) (kB : PySem.W.keepIn K (.ref aB) = true) (mB : mg "_law_big" = some (.ref aB)) : FnOk P w K mg base CX 2 f fd ["_law_nums"] (spGoodRw K) := by
  refine F.okc scGR (fun vs H Q E h => ?_) (fun cdv A outer s H vs Q E hr h => ?_)
  · obtain ⟨a, ns, rfl, _⟩ := h
    rfl
  obtain ⟨a, ns, rfl, ea, hns, h33, gv⟩ := h
  refine ⟨_, pss_cons (ps_set (i := 1) scGR.nd rfl (Or.inl rfl) (pe_lst pa_nil))
    (pss_cons (ps_for PassesOwn.never rfl (pi_range1 rfl mr (pa_cons (pe_op op_add pe_int (pe_op op_mod (pe_ix ix_list (pv 0) pe_int (fun _ _ => rfl)) pe_int)) pa_nil)) (pg_name (i := 2) scGR.nd rfl (Or.inl rfl))
      (pss_cons (ps_set (i := 3) scGR.nd rfl (Or.inl rfl) (pe_slice sl_list (pv 0) (po_some (pe_op op_add pe_int (pe_op op_mul pe_int (pv 2)))) (po_some (pe_op op_add pe_int (pe_op op_mul pe_int (pv 2))))))
      (pss_cons (ps_set (i := 4) scGR.nd rfl (Or.inl rfl) (pe_callTy call_tuple_of rfl mt PyProof.Rows.boot_tuple (pa_cons (pe_comp rfl csGR2 (pi_list (pe_slice sl_list (pv 3) po_none (po_some (pe_op op_add pe_int (pe_op op_mod (pe_ix ix_list (pv 3) pe_int (fun _ _ => rfl)) pe_int))))) (fun _ _ _ _ _ => pg_name (i := 0) csGR2.nd rfl (Or.inl rfl)) (fun _ _ _ _ _ => pe_op op_mod (pv 0) pe_int)) pa_nil)))
      (pss_cons (ps_comp (i := 5) rfl csGR (pi_list (pe_slice sl_list (pv 3) (po_some pe_int) (po_some (pe_op op_add pe_int (pe_op op_mod (pe_ix ix_list (pv 3) pe_int (fun _ _ => rfl)) pe_int))))) (fun _ _ _ _ _ => pg_name (i := 0) csGR.nd rfl (Or.inl rfl)) (fun _ _ _ _ _ => pe_ifExp (pt_cmp (pc_eqI (pe_op op_mod (pv 0) pe_int) pe_int)) (pe_call N hr rfl mN kN bN .nil passN (pa_cons (pe_op op_fdiv (pv 0) pe_int) pa_nil)) (pe_call B hr rfl mB kB bB .nil passN (pa_cons (pe_op op_fdiv (pv 0) pe_int) pa_nil))) scGR.nd rfl rfl)
      (pss_one (ps_expr (pe_bm PySem.F.plainAttrs_list PySem.F.slot_list_append PySem.F.type_list_append mt_append (pv 1) (pa_cons (pe_tup (pa_cons (pv 4) (pa_cons (pe_callTy call_tuple_of rfl mt PyProof.Rows.boot_tuple (pa_cons (pv 5) pa_nil)) pa_nil))) pa_nil))))))))
    (pss_one (ps_ret (pv 1)))), ?_⟩
  obtain ⟨n0, en0⟩ : ∃ n0, ns[0]? = some n0 := ⟨_, List.getElem?_eq_getElem (by omega)⟩
  have m0 := Int.emod_nonneg n0 (show (4 : Int) ≠ 0 by decide)
  have m1 := Int.emod_lt_of_pos n0 (show (0 : Int) < 4 by decide)
  obtain ⟨k4, hk4⟩ := nat_of m0
  refine ⟨Nat.zero_le _, fun lr hlr => ?_⟩
  have s1 : Same H (upd H lr (.lst [])) := same_up (Same.refl H) hlr
  have e1 : upd H lr (.lst []) lr = some (.lst []) := upd_same
  generalize upd H lr (.lst []) = H1 at s1 e1 ⊢
  refine ⟨_, rfl, a, _, _, .int n0, rfl, rfl, s1.seq ea, atI_nat (j := 0) (by rw [List.getElem?_map, en0]; rfl), _, _, rfl, rfl, pmod, _, _, rfl, rfl, ?_⟩
  refine ⟨1 + n0 % 4, rfl, by omega, by omega, rangeO (n := (1 + n0 % 4).toNat) (fun i σ H3 => ∃ (u2 u3 u4 u5 : Option V) (us : List V) (rs : List Row7), σ = [some (.ref a), some (.ref lr), u2, u3, u4, u5] ∧ Same H H3 ∧ H3 lr = some (.lst us) ∧ DrL K H3 (rs.map rD) us ∧ rs.length = i ∧ ∀ r ∈ rs, GoodR r)
    ⟨_, _, _, _, [], [], rfl, s1, e1, DrL.nil, rfl, fun _ z => by cases z⟩ (fun i σ H3 hi h Ed nx => ?_) (fun σ H3 h => ?_)⟩
  · obtain ⟨u2, u3, u4, u5, us, rs, rfl, s3, e3, d3, hl3, G3⟩ := h
    have hi4 : i < 4 := by omega
    obtain ⟨ps, hcut, hpl, hps⟩ := cut_mid (ns := ns) (i := 1 + 8 * i) (j := 9 + 8 * i) (by omega) (by omega) hns
    have hpl8 : ps.length = 8 := by omega
    obtain ⟨p7, ep7⟩ : ∃ p, ps[7]? = some p := ⟨_, List.getElem?_eq_getElem (by omega)⟩
    obtain ⟨p6, ep6⟩ : ∃ p, ps[6]? = some p := ⟨_, List.getElem?_eq_getElem (by omega)⟩
    have a0 := Int.emod_nonneg p7 (show (5 : Int) ≠ 0 by decide)
    have a1 := Int.emod_lt_of_pos p7 (show (0 : Int) < 5 by decide)
    have b0 := Int.emod_nonneg p6 (show (7 : Int) ≠ 0 by decide)
    have b1 := Int.emod_lt_of_pos p6 (show (0 : Int) < 7 by decide)
    have e0 : (0 : Int) + (i : Int) = (i : Int) := by omega
    rw [e0]
    have c1 : (1 : Int) + 8 * (i : Int) = ((1 + 8 * i : Nat) : Int) := by omega
    have c2 : (9 : Int) + 8 * (i : Int) = ((9 + 8 * i : Nat) : Int) := by omega
    refine ⟨_, rfl, _, rfl, _, _, rfl, rfl, .inl ⟨by decide, by decide⟩, _, _, rfl, rfl, _, rfl, _, rfl, _, _, rfl, rfl, .inl ⟨by decide, by decide⟩, _, _, rfl, rfl, _, rfl, a, _, rfl, s3.seq ea, fun lp hlp => ?_⟩
    rw [c1, c2, hcut]
    have s4 : Same H3 (upd H3 lp (.lst (ps.map V.int))) := same_up (Same.refl H3) hlp
    have e4 : upd H3 lp (.lst (ps.map V.int)) lp = some (.lst (ps.map V.int)) := upd_same
    generalize upd H3 lp (.lst (ps.map V.int)) = H4 at s4 e4 ⊢
    -- the figures
    obtain ⟨j7, hj7⟩ : ∃ j7 : Nat, 1 + p7 % 5 = (j7 : Int) := nat_of (by omega)
    obtain ⟨fs, hfc, hfl, hfs⟩ := cut_to (j := j7) hps
    refine ⟨_, rfl, _, rfl, lp, _, _, .int p7, rfl, rfl, SqL.of e4, atI_nat (j := 7) (by rw [List.getElem?_map, ep7]; rfl), _, _, rfl, rfl, pmod, _, _, rfl, rfl, _, rfl, lp, _, rfl, SqL.of e4, fun lf hlf => ?_⟩
    rw [hj7, hfc]
    have s5 : Same H4 (upd H4 lf (.lst (fs.map V.int))) := same_up (Same.refl H4) hlf
    have e5 : upd H4 lf (.lst (fs.map V.int)) lf = some (.lst (fs.map V.int)) := upd_same
    generalize upd H4 lf (.lst (fs.map V.int)) = H5 at s5 e5 ⊢
    have hfl5 : 1 ≤ fs.length ∧ fs.length ≤ 5 := by omega
    refine ⟨lf, rfl, ⟨_, SqL.of e5⟩, fun l6 hl6 => comp_ints (fun x => x % 10) hl6 (SqL.of e5) (line_le (by omega)) (fun x hx H6 Q' s6 q6 => ⟨_, rfl, _, _, rfl, rfl, pmod, q6⟩) (fun H6 s6 e6 => ?_)⟩
    refine ⟨l6, _, rfl, .inl ⟨SqL.of e6, fun q7 hq7 => ?_⟩⟩
    have s7 : Same H6 (upd H6 q7 (.tup ((fs.map fun x => x % 10).map V.int))) := same_up (Same.refl H6) hq7
    have e7 : upd H6 q7 (.tup ((fs.map fun x => x % 10).map V.int)) q7 = some (.tup ((fs.map fun x => x % 10).map V.int)) := upd_same
    generalize upd H6 q7 (.tup ((fs.map fun x => x % 10).map V.int)) = H7 at s7 e7 ⊢
    have s47 := s5.trans (s6.trans s7)
    have hfig : Figs (fs.map fun x => x % 10) := ⟨by rw [List.length_map]; omega, fun x hx => by
      obtain ⟨y, _, rfl⟩ := List.mem_map.mp hx
      have z0 := Int.emod_nonneg y (show (10 : Int) ≠ 0 by decide)
      have z1 := Int.emod_lt_of_pos y (show (0 : Int) < 10 by decide)
      exact ⟨z0, by omega⟩⟩
    have hfne : (fs.map fun x => x % 10) ≠ [] := fun z => by rw [List.map_eq_nil_iff] at z; rw [z] at hfl5; simp at hfl5
    generalize (fs.map fun x => x % 10) = w at e7 hfig hfne
    -- the goings
    obtain ⟨j6, hj6⟩ : ∃ j6 : Nat, 1 + p6 % 7 = (j6 : Int) := nat_of (by omega)
    obtain ⟨ts, htc, htl, hts⟩ := cut_mid (ns := ps) (i := 1) (j := j6) (by omega) (by omega) hps
    have e47 := s47 _ _ e4
    refine ⟨_, rfl, 1, rfl, _, rfl, lp, _, _, .int p6, rfl, rfl, SqL.of e47, atI_nat (j := 6) (by rw [List.getElem?_map, ep6]; rfl), _, _, rfl, rfl, pmod, _, _, rfl, rfl, _, rfl, lp, _, rfl, SqL.of e47, fun lt hlt => ?_⟩
    rw [hj6, show cutV (ps.map V.int) (some 1) (some (j6 : Int)) = ts.map V.int from htc]
    have s8 : Same H7 (upd H7 lt (.lst (ts.map V.int))) := same_up (Same.refl H7) hlt
    have e8 : upd H7 lt (.lst (ts.map V.int)) lt = some (.lst (ts.map V.int)) := upd_same
    generalize upd H7 lt (.lst (ts.map V.int)) = H8 at s8 e8 ⊢
    refine ⟨lt, rfl, ⟨_, SqL.of e8⟩, fun l9 hl9 => comp_list (xs := ts.map V.int) (fun k ys H9 => ys.length = k ∧ k ≤ ts.length ∧ Same H8 H9 ∧ ∃ gs : List D, gs.length = k ∧ DrL K H9 gs ys ∧ ∀ g ∈ gs, GoodG g) ⟨rfl, Nat.zero_le _, same_up (Same.refl H8) hl9, [], rfl, DrL.nil, fun _ z => by cases z⟩ (fun k ys H9 _ h => SqL.of (h.2.2.1 _ _ e8)) (line_le (by rw [List.length_map]; omega)) (fun k ys H9 h => h.1) (fun k x ys H9 hx h hy => ?_) (fun ys H9 h hy => ?_)⟩
    · obtain ⟨hyl, hkl, s9, gs, hgl, dg, hg⟩ := h
      rw [List.getElem?_map] at hx
      obtain ⟨n, hn, rfl⟩ := Option.map_eq_some_iff.mp hx
      have hkl := (List.getElem?_eq_some_iff.mp hn).1
      obtain ⟨n0, n1⟩ := hts n (List.mem_of_getElem? hn)
      have fin : ∀ (g : D) (v : V) (H10 : Hp), GoodG g → Same H9 H10 → Dr K H10 g v → H10 l9 = some (.lst ys) ∧ ((ys ++ [v]).length = k + 1 ∧ k + 1 ≤ ts.length ∧ Same H8 (upd H10 l9 (.lst (ys ++ [v]))) ∧ ∃ gs : List D, gs.length = k + 1 ∧ DrL K (upd H10 l9 (.lst (ys ++ [v]))) gs (ys ++ [v]) ∧ ∀ g ∈ gs, GoodG g) := fun g v H10 hgg s10 dv => by
        have ey := s10 _ _ hy
        refine ⟨ey, by rw [List.length_append, hyl]; rfl, by omega, same_over (s9.trans s10) hl9, gs ++ [g], by rw [List.length_append, hgl]; rfl, DrL.append (DrL.flat (tup_over ey) (flatL_all.mpr fun d hd => go_flat (hg d hd)) (dg.mono s10)) (DrL.one (Dr.flat (tup_over ey) (go_flat hgg) dv)), fun d hd => ?_⟩
        rcases List.mem_append.mp hd with q | q
        · exact hg d q
        · rw [List.mem_singleton.mp q]; exact hgg
      have d0 : 0 ≤ n / 3 := Int.ediv_nonneg n0 (by decide)
      have d1 : n / 3 < 1009 := by omega
      refine ⟨_, rfl, _, _, rfl, rfl, pmod, _, _, rfl, rfl, _, rfl, ite2 (fun _ => ?_) (fun _ => ?_)⟩
      · exact ⟨_, rfl, _, _, rfl, rfl, ⟨by decide, by decide⟩, _, rfl, fun z H10 s10 hz => fin (.str z) _ H10 (.inl ⟨z, rfl, hz⟩) s10 (by simp only [Dr])⟩
      · exact ⟨_, rfl, _, _, rfl, rfl, ⟨by decide, by decide⟩, _, rfl, d0, d1, fun m H10 s10 hm => fin (.int m) _ H10 (.inr ⟨m, rfl, hm⟩) s10 (by simp only [Dr])⟩
    obtain ⟨hyl, _, s9, gs, hgl, dg, hg⟩ := h
    rw [List.length_map] at hgl
    have s39 := s4.trans (s47.trans (s8.trans s9))
    refine ⟨_, rfl, .inl ⟨rfl, _, SqL.of (s39 _ _ e3)⟩, _, rfl, _, rfl, l9, _, rfl, .inl ⟨SqL.of hy, fun q10 hq10 => ?_⟩⟩
    have s10 : Same H9 (upd H9 q10 (.tup ys)) := same_up (Same.refl H9) hq10
    have e10 : upd H9 q10 (.tup ys) q10 = some (.tup ys) := upd_same
    generalize upd H9 q10 (.tup ys) = H10 at s10 e10 ⊢
    refine ⟨show 2 ≤ sizeLine by decide, fun q11 hq11 => ?_⟩
    have s11 : Same H10 (upd H10 q11 (.tup [.ref q7, .ref q10])) := same_up (Same.refl H10) hq11
    have e11 : upd H10 q11 (.tup [.ref q7, .ref q10]) q11 = some (.tup [.ref q7, .ref q10]) := upd_same
    generalize upd H10 q11 (.tup [.ref q7, .ref q10]) = H11 at s11 e11 ⊢
    have s311 := s39.trans (s10.trans s11)
    have e311 := s311 _ _ e3
    have hul : us.length ≤ 4 := by have := d3.length; rw [List.length_map] at this; omega
    refine ⟨lr, us, _, rfl, rfl, e311, small1000 (by omega), ?_⟩
    have GRr : GoodR (w, gs) := ⟨hfne, hfig, by show gs.length ≤ 10; omega, hg⟩
    have dr : Dr K H11 (rD (w, gs)) (.ref q11) := Dr.tup e11 (DrL.cons (Dr.tup ((s8.trans (s9.trans (s10.trans s11))) _ _ e7) (DrL.ints _)) (DrL.one (Dr.tup (s11 _ _ e10) (dg.mono (s10.trans s11)))))
    refine nx _ _ ⟨_, _, _, _, us ++ [.ref q11], rs ++ [(w, gs)], rfl, same_over (s3.trans s311) hlr, upd_same, ?_, by rw [List.length_append, hl3]; rfl, fun r hr => ?_⟩
    · rw [List.map_append, List.map_singleton]
      refine DrL.append (DrL.flat (tup_over e311) (flatL_all.mpr fun d hd => ?_) (d3.mono s311)) (DrL.one (Dr.flat (tup_over e311) (row_flat GRr) dr))
      obtain ⟨r, hr, rfl⟩ := List.mem_map.mp hd
      exact row_flat (G3 r hr)
    · rcases List.mem_append.mp hr with q | q
      · exact G3 r q
      · rw [List.mem_singleton.mp q]; exact GRr
  · obtain ⟨u2, u3, u4, u5, us, rs, rfl, s3, e3, d3, hl3, G3⟩ := h
    exact ⟨_, rfl, gv lr us rs H3 s3 hlr e3 d3 (fun z => by rw [z] at hl3; simp at hl3; omega) G3 (by omega)⟩
end
end Gu

set_option Elab.async false
set_option linter.all false
set_option maxRecDepth 100000
set_option maxHeartbeats 4000000
namespace Gu
open PySem L2
section
variable {P : Program} {w : World} {K : PySem.W.Frag} {mg : Str → Option Value} {base : Heap} {f g : Addr} {fd gd : FuncData} {CX : CXT} [NoE CX]
abbrev nLL : List Str := ["_law_deed"]
theorem scLL : FnScope nLL ["_law_deed"] (defScope sLineL) := ⟨rfl, rfl, rfl, by decide +kernel, rfl, by decide +kernel, by decide +kernel⟩
theorem csLL : CompS nLL (defScope sLineL) ["_law_part"] [none] (csc [(".0", .local), ("_law_part", .local), ("isinstance", .globalImplicit), ("tuple", .globalImplicit), ("_law_said_word", .globalImplicit), ("str", .globalImplicit)]) := ⟨rfl, by decide +kernel, by decide +kernel, by decide +kernel, rfl, by decide +kernel, by decide +kernel⟩
theorem ok_linel (mstr : mg "str" = none) (B : Blt mg) (F : Fun K "_law_line" "_law_line" sLineL f fd)
    {aR : Addr} {dR : FuncData} (R : FnOk P w K mg base CX 2 aR dR ["_law_rows"] (spRowsW K)) (bR : Binds K dR ["_law_rows"] []) (kR : PySem.W.keepIn K (.ref aR) = true) (mR : mg "_law_said_rows" = some (.ref aR))
    {aW : Addr} {dW : FuncData} (W : FnOk P w K mg base CX 2 aW dW ["_law_word"] (spWordW K)) (bW : Binds K dW ["_law_word"] []) (kW : PySem.W.keepIn K (.ref aW) = true) (mW : mg "_law_said_word" = some (.ref aW)) : FnOk P w K mg base CX 3 f fd ["_law_deed"] (spLineL K) := by
  refine F.okc scLL (fun vs H Q E h => ?_) (fun cdv A outer s H vs Q E hr h => ?_)
  · obtain ⟨v, name, kinds, xs, ds, rfl, _⟩ := h
    rfl
  obtain ⟨v, name, kinds, xs, ds, rfl, dv, hm, hp, gv⟩ := h
  refine ⟨_, pss_cons (ps_if (pt_cmpR op_eq (pe_ix ix_tup (pv 0) pe_int (fun _ _ => rfl)) pe_str (nomark _)) (pss_one (ps_ret (pe_op op_add_str (pe_op op_add_str (pe_op op_add_str pe_str (pe_ix ix_tup (pv 0) pe_int (fun _ _ => rfl))) pe_str) (pe_call R hr rfl mR kR bR .nil passN (pa_cons (pe_ix ix_tup (pv 0) pe_int (fun _ _ => rfl)) pa_nil))))) pss_nil)
    (pss_one (ps_ret (pe_bm PySem.F.plainAttrs_str PySem.F.slot_str_join PySem.F.type_str_join (mt_join K rfl) pe_str (pa_cons (pe_comp rfl csLL (pi_tup (pv 0)) (fun _ _ _ _ _ => pg_name (i := 0) csLL.nd rfl (Or.inl rfl)) (fun _ _ _ _ _ => pe_ifExp (pt_val (pIsi K rfl (pv 0) B.isi B.tup PyProof.Rows.boot_tuple)) (pe_call W hr rfl mW kW bW .nil passN (pa_cons (pv 0) pa_nil)) (pe_callTy (call_str_int.or call_str_str) rfl mstr PyProof.Rows.boot_str (pa_cons (pv 0) pa_nil)))) pa_nil)))), ?_⟩
  obtain ⟨a, us, rfl, ea, dus⟩ : ∃ (a : Addr) (us : List V), v = .ref a ∧ H a = some (.tup us) ∧ DrL K H (.str name :: ds) us := by
    simp only [Dr] at dv
    exact dv
  obtain ⟨h1, h2, h3, h4, h5⟩ := deed_facts hm hp
  have hxl := hp.len
  have hul := dus.length
  rw [List.length_cons] at hul
  obtain ⟨y0, ey0, dy0⟩ := dus.get (i := 0) rfl
  simp only [Dr] at dy0
  subst dy0
  refine ⟨_, rfl, a, _, _, .str name, rfl, rfl, SqT.of ea, atI_nat (j := 0) ey0, rfl, _, rfl, ite2 (fun c => ?_) (fun c => ?_)⟩
  · have c' := of_decide_eq_true c
    injection c' with c'
    subst c'
    have hk := sew_kinds hm
    obtain ⟨x1, x2, d1, d2, rfl, rfl, p1, p2⟩ := hp.two hk
    obtain ⟨rfl, hn⟩ := kind_name p1
    obtain ⟨rs, rfl, rfl, hne, G, hl⟩ := kind_rows p2
    obtain ⟨y1, ey1, dy1⟩ := dus.get (i := 1) rfl
    obtain ⟨y2, ey2, dy2⟩ := dus.get (i := 2) rfl
    simp only [Dr] at dy1
    subst dy1
    obtain ⟨b, ws, rfl, eb, dws⟩ : ∃ (a : Addr) (vs : List V), y2 = .ref a ∧ SqL K H a vs ∧ DrL K H (rs.map rD) vs := by
      simp only [Dr] at dy2
      exact dy2
    have hn12 := name_len hn
    have hrl := rows_len G hl
    have l4 : (str "sew ").length = 4 := by decide +kernel
    have l1 : (str " ").length = 1 := by decide +kernel
    refine ⟨_, rfl, a, _, _, .str x1, rfl, rfl, SqT.of ea, atI_nat (j := 1) ey1, _, _, rfl, rfl, ?_, _, _, rfl, rfl, ?_, _, rfl, a, _, _, .ref b, rfl, rfl, SqT.of ea, atI_nat (j := 2) ey2, b, ws, rs, rfl, eb, dws, G, hl, fun H1 s1 => ⟨_, _, rfl, rfl, ?_, ?_⟩⟩
    · exact line_le (by show (str "sew ").length + x1.length ≤ 5000; omega)
    · exact line_le (by show (str "sew " ++ x1).length + (str " ").length ≤ 5000; rw [PySem.Str.length_append]; omega)
    · refine Nat.le_trans (show (str "sew " ++ x1 ++ str " ").length + (rowsS rs).length ≤ 200000 by rw [PySem.Str.length_append, PySem.Str.length_append]; omega) (by decide)
    · have e := gv H1 s1
      rw [← sew_join] at e
      exact e
  · have c' : name ≠ str "sew" := fun z => c (by rw [z]; decide)
    have hk := other_kinds hm c'
    refine ⟨rfl, _, rfl, a, rfl, ⟨_, SqT.of ea⟩, fun l hl => comp_tup (xs := us) (fun i ys H2 => i ≤ us.length ∧ Same H H2 ∧ ys = (((name :: xs).take i)).map V.str) ⟨Nat.zero_le _, same_up (Same.refl H) hl, rfl⟩ (fun i ys H2 _ h => SqT.of (h.2.1 _ _ ea)) (line_le (by omega)) (fun i ys H2 h => by rw [h.2.2, List.length_map, List.length_take, List.length_cons]; have := h.1; omega) (fun i x ys H2 hx h hy => ?_) (fun ys H2 h hy => ?_)⟩
    · obtain ⟨hi, s2, rfl⟩ := h
      have hil := (List.getElem?_eq_some_iff.mp hx).1
      cases i with
      | zero =>
        rw [hx] at ey0
        cases ey0
        refine ⟨_, rfl, _, _, _, rfl, .of (.str name), rfl, _, rfl, iteF ⟨_, rfl, .inr ⟨name, rfl, hy, by omega, same_over s2 hl, rfl⟩⟩⟩
      | succ i =>
        have ed : ds[i]? = some ds[i] := List.getElem?_eq_getElem (by omega)
        obtain ⟨k, z, ek, ez, pk⟩ := hp.mem ed
        obtain ⟨x', ex, dx⟩ := dus.get (i := i + 1) (d := ds[i]) (by simpa using ed)
        rw [hx] at ex
        cases ex
        have et : (name :: xs).take (i + 1 + 1) = (name :: xs).take (i + 1) ++ [z] := by rw [List.take_add_one (i := i + 1), List.getElem?_cons_succ, ez]; rfl
        have hkk : k ∈ kinds := List.mem_of_getElem? ek
        generalize ds[i] = d at pk dx
        rw [et, List.map_append, List.map_singleton]
        cases pk with
        | name hx0 =>
          simp only [Dr] at dx
          subst dx
          exact ⟨_, rfl, _, _, _, rfl, .of (.str z), rfl, _, rfl, iteF ⟨_, rfl, .inr ⟨z, rfl, hy, by omega, same_over s2 hl, rfl⟩⟩⟩
        | @num n hn =>
          simp only [Dr] at dx
          subst dx
          exact ⟨_, rfl, _, _, _, rfl, .of (.int n), rfl, _, rfl, iteF ⟨_, rfl, .inl ⟨n, rfl, log_small (by omega), hy, by omega, same_over s2 hl, rfl⟩⟩⟩
        | @word w hf =>
          obtain ⟨b, zs, rfl, eb, dzs⟩ : ∃ (a : Addr) (us : List V), x = .ref a ∧ H a = some (.tup us) ∧ DrL K H (w.map D.int) us := by
            simp only [D.its, Dr] at dx
            exact dx
          have e1 := DrL.ints_inv dzs
          subst e1
          exact ⟨_, rfl, _, _, _, rfl, .tup (SqT.of (s2 _ _ eb)), rfl, _, rfl, iteT ⟨_, rfl, b, w, rfl, SqT.of (s2 _ _ eb), hf, fun H3 s3 => ⟨s3 _ _ hy, by omega, same_over (s2.trans s3) hl, rfl⟩⟩⟩
        | @ring w hne hf =>
          obtain ⟨b, zs, rfl, eb, dzs⟩ : ∃ (a : Addr) (us : List V), x = .ref a ∧ H a = some (.tup us) ∧ DrL K H (w.map D.int) us := by
            simp only [D.its, Dr] at dx
            exact dx
          have e1 := DrL.ints_inv dzs
          subst e1
          exact ⟨_, rfl, _, _, _, rfl, .tup (SqT.of (s2 _ _ eb)), rfl, _, rfl, iteT ⟨_, rfl, b, w, rfl, SqT.of (s2 _ _ eb), hf, fun H3 s3 => ⟨s3 _ _ hy, by omega, same_over (s2.trans s3) hl, rfl⟩⟩⟩
        | rows _ _ _ => exact absurd hkk hk
    · obtain ⟨_, s2, rfl⟩ := h
      rw [List.take_of_length_le (by rw [List.length_cons]; omega)] at hy
      refine ⟨_, l, name :: xs, rfl, rfl, SqL.of hy, ?_, gv _ s2⟩
      have h1 := (join_most (y := str " ") (xs := name :: xs) (B := 130000) fun p hpm => by
        rcases List.mem_cons.mp hpm with rfl | hpm
        · omega
        · obtain ⟨i, hi⟩ := List.getElem?_of_mem hpm
          have hil := (List.getElem?_eq_some_iff.mp hi).1
          obtain ⟨x, d, ex, _, pk⟩ := hp.get (i := i) (List.getElem?_eq_getElem (show i < kinds.length by omega))
          rw [hi] at ex
          cases ex
          exact part_len pk).2
      have h2 : (name :: xs).length * (130000 + (str " ").length) ≤ 4 * (130000 + (str " ").length) := Nat.mul_le_mul_right _ (by rw [List.length_cons]; omega)
      have h3 : 4 * (130000 + (str " ").length) ≤ 16777216 := by decide +kernel
      exact Nat.le_trans h1 (Nat.le_trans h2 h3)
end
end Gu

set_option Elab.async false
set_option linter.all false
set_option maxRecDepth 100000
set_option maxHeartbeats 4000000
namespace Gu
open PySem L2
section
variable {P : Program} {w : World} {K : PySem.W.Frag} {mg : Str → Option Value} {base : Heap} {f g : Addr} {fd gd : FuncData} {CX : CXT} [NoE CX]
abbrev nAD : List Str := ["_law_cell_here", "_law_nums", "_law_some", "_law_kind", "_law_name", "_law_one", "_law_other", "_law_word", "_law_parts"]
theorem scAD : FnScope nAD ["_law_cell_here"] (defScope sAnyD) := ⟨rfl, rfl, rfl, by decide +kernel, rfl, by decide +kernel, by decide +kernel⟩
theorem csAD : CompS nAD (defScope sAnyD) ["_law_pick"] [none] (csc [(".0", .local), ("_law_pick", .local)]) := ⟨rfl, by decide +kernel, by decide +kernel, by decide +kernel, rfl, by decide +kernel, by decide +kernel⟩
theorem csAD2 : CompS nAD (defScope sAnyD) ["_law_pick"] [none] (csc [(".0", .local), ("_law_pick", .local), ("_law_good_name", .globalImplicit)]) := ⟨rfl, by decide +kernel, by decide +kernel, by decide +kernel, rfl, by decide +kernel, by decide +kernel⟩
theorem ok_anyd (mt : mg "tuple" = none) (F : Fun K "_law_any_deed" "_law_any_deed" sAnyD f fd)
    {aNu : Addr} {dNu : FuncData} (Nu : FnOk P w K mg base CX 2 aNu dNu ["_law_cell_here", "_law_many"] (spNumbers K)) (bNu : Binds K dNu ["_law_cell_here", "_law_many"] []) (kNu : PySem.W.keepIn K (.ref aNu) = true) (mNu : mg "_law_numbers" = some (.ref aNu))
    {aGn : Addr} {dGn : FuncData} (Gn : FnOk P w K mg base CX 2 aGn dGn ["_law_pick"] spGoodN) (bGn : Binds K dGn ["_law_pick"] []) (kGn : PySem.W.keepIn K (.ref aGn) = true) (mGn : mg "_law_good_name" = some (.ref aGn))
    {aBg : Addr} {dBg : FuncData} (Bg : FnOk P w K mg base CX 2 aBg dBg ["_law_pick"] spBigL) (bBg : Binds K dBg ["_law_pick"] []) (kBg : PySem.W.keepIn K (.ref aBg) = true) (mBg : mg "_law_big" = some (.ref aBg))
    {aGr : Addr} {dGr : FuncData} (Gr : FnOk P w K mg base CX 2 aGr dGr ["_law_nums"] (spGoodRw K)) (bGr : Binds K dGr ["_law_nums"] []) (kGr : PySem.W.keepIn K (.ref aGr) = true) (mGr : mg "_law_good_rows" = some (.ref aGr)) : FnOk P w K mg base CX 3 f fd ["_law_cell_here"] (spAnyD K) := by
  refine F.okc scAD (fun vs H Q E h => ?_) (fun cdv A outer s H vs Q E hr h => ?_)
  · obtain ⟨c, rfl, _⟩ := h
    rfl
  obtain ⟨c, rfl, gv⟩ := h
  have hu := hu_of hr
  refine ⟨_, @pss_cons _ _ _ _ _ (@ps_set _ _ 1 _ _ _ _ scAD.nd rfl (Or.inl rfl) (pe_call Nu hr rfl mNu kNu bNu .nil passN (pa_cons (pv 0) (pa_cons pe_int pa_nil))) rfl (Or.inl rfl))
    (@pss_cons _ _ _ _ _ (@ps_set _ _ 2 _ _ _ _ scAD.nd rfl (Or.inl rfl) (pe_lstT (xs := someT) rfl rfl) rfl (Or.inl rfl))
    (@pss_cons _ _ _ _ _ (@ps_set _ _ 3 _ _ _ _ scAD.nd rfl (Or.inl rfl) (pe_ix ix_list (pv 2) (pe_op op_mod (pe_ix ix_list (pv 1) pe_int (fun _ _ => rfl)) pe_int) (fun _ _ => rfl)) rfl (Or.inl rfl))
    (@pss_cons _ _ _ _ _ (ps_asg (pe_comp rfl csAD2 (pi_list (pe_slice sl_list (pv 1) (po_some pe_int) (po_some pe_int))) (fun _ _ _ _ _ => pg_name (i := 0) csAD2.nd rfl (Or.inl rfl)) (fun _ _ _ _ _ => pe_call Gn hr rfl mGn kGn bGn .nil passN (pa_cons (pv 0) pa_nil))) (pg_lst rfl (pgs_cons (pg_name (i := 4) scAD.nd rfl (Or.inl rfl)) (pgs_cons (pg_name (i := 5) scAD.nd rfl (Or.inl rfl)) (pgs_cons (pg_name (i := 6) scAD.nd rfl (Or.inl rfl)) pgs_nil)))))
    (@pss_cons _ _ _ _ _ (@ps_set _ _ 7 _ _ _ _ scAD.nd rfl (Or.inl rfl) (pe_callTy call_tuple_of rfl mt PyProof.Rows.boot_tuple (pa_cons (pe_comp rfl csAD (pi_list (pe_slice sl_list (pv 1) (po_some pe_int) (po_some (pe_op op_add pe_int (pe_op op_mod (pe_ix ix_list (pv 1) pe_int (fun _ _ => rfl)) pe_int))))) (fun _ _ _ _ _ => pg_name (i := 0) csAD.nd rfl (Or.inl rfl)) (fun _ _ _ _ _ => pe_op op_mod (pv 0) pe_int)) pa_nil)) rfl (Or.inl rfl))
    (@pss_cons _ _ _ _ _ (@ps_set _ _ 8 _ _ _ _ scAD.nd rfl (Or.inl rfl) (pe_disp (pps_cons pe_str (pe_tup (pa_cons (pv 5) (pa_cons (pv 6) pa_nil))) (pps_cons pe_str (pe_tup (pa_cons (pv 5) pa_nil)) (pps_cons pe_str (pe_tup (pa_cons (pv 5) pa_nil)) (pps_cons pe_str (pe_tup (pa_cons (pv 5) (pa_cons (pv 7) pa_nil))) pps_nil)))) rfl rfl (by simp) (by decide)) rfl (Or.inl rfl))
    (@pss_cons _ _ _ _ _ (ps_dput hu (pv 8) pe_str (pe_tup (pa_cons (pe_call Gr hr rfl mGr kGr bGr .nil passN (pa_cons (pe_slice sl_list (pv 1) (po_some pe_int) (po_some pe_int)) pa_nil)) pa_nil)) rfl)
    (@pss_cons _ _ _ _ _ (ps_dput hu (pv 8) pe_str (pe_tup (pa_cons (pv 5) (pa_cons (pe_op op_mul (pe_op op_sub pe_int (pe_op op_mul pe_int (pe_op op_mod (pe_ix ix_list (pv 1) pe_int (fun _ _ => rfl)) pe_int))) (pe_call Bg hr rfl mBg kBg bBg .nil passN (pa_cons (pe_ix ix_list (pv 1) pe_int (fun _ _ => rfl)) pa_nil))) pa_nil))) rfl)
    (@pss_cons _ _ _ _ _ (ps_dput hu (pv 8) pe_str (pe_tup (pa_cons (pv 7) (pa_cons (pe_callTy call_tuple_of rfl mt PyProof.Rows.boot_tuple (pa_cons (pe_comp rfl csAD (pi_list (pe_slice sl_list (pv 1) (po_some pe_int) (po_some (pe_op op_add pe_int (pe_op op_mod (pe_ix ix_list (pv 1) pe_int (fun _ _ => rfl)) pe_int))))) (fun _ _ _ _ _ => pg_name (i := 0) csAD.nd rfl (Or.inl rfl)) (fun _ _ _ _ _ => pe_op op_mod (pv 0) pe_int)) pa_nil)) pa_nil))) rfl)
    (pss_one (ps_ret (pe_op op_catU (pe_tup (pa_cons (pv 3) (pa_cons (pv 4) pa_nil))) (pe_dget2 hu (pv 8) (pv 3) (pe_tup pa_nil) ⟨rfl, rfl, rfl, rfl⟩)))))))))))), ?_⟩
  refine ⟨_, rfl, c, 70, rfl, by decide, fun ln H1 ns s1 e1 ⟨hl, hns⟩ => ?_⟩
  refine ⟨show 11 ≤ sizeLine by decide, fun l2 hl2 => ?_⟩
  have s2 : Same H1 (upd H1 l2 (HO.lst (someT.map V.str))) := same_up (Same.refl H1) hl2
  have e2 : upd H1 l2 (HO.lst (someT.map V.str)) l2 = some (.lst (someT.map V.str)) := upd_same
  generalize upd H1 l2 (HO.lst (someT.map V.str)) = H2 at s2 e2 ⊢
  have e12 := s2 _ _ e1
  obtain ⟨n0, en0⟩ : ∃ n0, ns[0]? = some n0 := ⟨_, List.getElem?_eq_getElem (by omega)⟩
  have m0 := Int.emod_nonneg n0 (show (11 : Int) ≠ 0 by decide)
  have m1 := Int.emod_lt_of_pos n0 (show (0 : Int) < 11 by decide)
  obtain ⟨j, hj⟩ := nat_of m0
  have hjl : j < someT.length := by show j < 11; omega
  have hkind : someT[j] ∈ someT := List.getElem_mem hjl
  have hks : (someT.map V.str)[j]? = some (.str someT[j]) := by rw [List.getElem?_map, List.getElem?_eq_getElem hjl]; rfl
  generalize someT[j] = kind at hkind hks
  refine ⟨_, rfl, _, rfl, ln, _, _, .int n0, rfl, rfl, SqL.of e12, atI_nat (j := 0) (by rw [List.getElem?_map, en0]; rfl), _, _, rfl, rfl, pmod, l2, _, _, .str kind, rfl, rfl, SqL.of e2, by rw [hj]; exact atI_nat hks, ?_⟩
  obtain ⟨ps, hcut, hpl, hps⟩ := cut_mid (ns := ns) (i := 1) (j := 4) (by omega) (by omega) hns
  refine ⟨_, rfl, 1, rfl, 4, rfl, ln, _, rfl, SqL.of e12, fun lp hlp => ?_⟩
  rw [show cutV (ns.map V.int) (some 1) (some 4) = ps.map V.int from hcut]
  have s3 : Same H2 (upd H2 lp (.lst (ps.map V.int))) := same_up (Same.refl H2) hlp
  have e3 : upd H2 lp (.lst (ps.map V.int)) lp = some (.lst (ps.map V.int)) := upd_same
  generalize upd H2 lp (.lst (ps.map V.int)) = H3 at s3 e3 ⊢
  refine ⟨lp, rfl, ⟨_, SqL.of e3⟩, fun l4 hl4 => comp_list (xs := ps.map V.int) (fun k ys H9 => ys.length = k ∧ Same H3 H9 ∧ ∃ zs : List Str, ys = zs.map V.str ∧ ∀ z ∈ zs, nameB z = true) ⟨rfl, same_up (Same.refl H3) hl4, [], rfl, fun _ z => by cases z⟩ (fun k ys H9 _ h => SqL.of (h.2.1 _ _ e3)) (line_le (by rw [List.length_map]; omega)) (fun k ys H9 h => h.1) (fun k x ys H9 hx h hy => ?_) (fun ys H4 h e4 => ?_)⟩
  · obtain ⟨hyl, s9, zs, rfl, hz⟩ := h
    rw [List.getElem?_map] at hx
    obtain ⟨n, hn, rfl⟩ := Option.map_eq_some_iff.mp hx
    refine ⟨_, rfl, n, rfl, fun z H10 s10 hzz => ⟨s10 _ _ hy, by rw [List.length_append, hyl]; rfl, same_over (s9.trans s10) hl4, zs ++ [z], by rw [List.map_append]; rfl, fun y hy' => ?_⟩⟩
    rcases List.mem_append.mp hy' with q | q
    · exact hz y q
    · rw [List.mem_singleton.mp q]; exact hzz
  obtain ⟨hyl, s4, zs, rfl, hz⟩ := h
  rw [List.length_map, List.length_map, hpl] at hyl
  obtain ⟨x0, x1, x2, rfl⟩ : ∃ x0 x1 x2, zs = [x0, x1, x2] := by
    match zs, hyl with
    | [a, b, c], _ => exact ⟨a, b, c, rfl⟩
  have h0 := hz x0 (by simp)
  have h1 := hz x1 (by simp)
  have h2 := hz x2 (by simp)
  refine ⟨l4, _, rfl, SqL.of e4, rfl, _, _, rfl, _, _, rfl, _, _, rfl, rfl, ?_⟩
  have s14 := s2.trans (s3.trans s4)
  have e14 := s14 _ _ e1
  obtain ⟨n4, en4⟩ : ∃ n, ns[4]? = some n := ⟨_, List.getElem?_eq_getElem (by omega)⟩
  have a0 := Int.emod_nonneg n4 (show (9 : Int) ≠ 0 by decide)
  have a1 := Int.emod_lt_of_pos n4 (show (0 : Int) < 9 by decide)
  obtain ⟨j4, hj4⟩ : ∃ j4 : Nat, 40 + n4 % 9 = (j4 : Int) := nat_of (by omega)
  obtain ⟨fs, hfc, hfl, hfs⟩ := cut_mid (ns := ns) (i := 40) (j := j4) (by omega) (by omega) hns
  refine ⟨_, rfl, 40, rfl, _, rfl, ln, _, _, .int n4, rfl, rfl, SqL.of e14, atI_nat (j := 4) (by rw [List.getElem?_map, en4]; rfl), _, _, rfl, rfl, pmod, _, _, rfl, rfl, _, rfl, ln, _, rfl, SqL.of e14, fun lf hlf => ?_⟩
  rw [hj4, show cutV (ns.map V.int) (some 40) (some (j4 : Int)) = fs.map V.int from hfc]
  have s5 : Same H4 (upd H4 lf (.lst (fs.map V.int))) := same_up (Same.refl H4) hlf
  have e5 : upd H4 lf (.lst (fs.map V.int)) lf = some (.lst (fs.map V.int)) := upd_same
  generalize upd H4 lf (.lst (fs.map V.int)) = H5 at s5 e5 ⊢
  refine ⟨lf, rfl, ⟨_, SqL.of e5⟩, fun l6 hl6 => comp_ints (fun x => x % 10) hl6 (SqL.of e5) (line_le (by omega)) (fun x hx H6 Q' s6 q6 => ⟨_, rfl, _, _, rfl, rfl, pmod, q6⟩) (fun H6 s6 e6 => ?_)⟩
  refine ⟨l6, _, rfl, .inl ⟨SqL.of e6, fun tw htw => ?_⟩⟩
  have s7 : Same H6 (upd H6 tw (.tup ((fs.map fun x => x % 10).map V.int))) := same_up (Same.refl H6) htw
  have e7 : upd H6 tw (.tup ((fs.map fun x => x % 10).map V.int)) tw = some (.tup ((fs.map fun x => x % 10).map V.int)) := upd_same
  generalize upd H6 tw (.tup ((fs.map fun x => x % 10).map V.int)) = H7 at s7 e7 ⊢
  have hw : Figs (fs.map fun x => x % 10) := figs_mod (by omega)
  generalize (fs.map fun x => x % 10) = wd at e7 hw
  have s17 := s14.trans (s5.trans (s6.trans s7))
  -- the dict
  refine fun p hp => ?_
  have s8 : Same H7 (upd H7 p (.dK [])) := same_up (Same.refl H7) hp
  have e8 : upd H7 p (.dK []) p = some (.dK []) := upd_same
  generalize upd H7 p (.dK []) = H8 at s8 e8 ⊢
  refine ⟨_, rfl, _, rfl, show 2 ≤ sizeLine by decide, fun t1 ht1 => ?_⟩
  have s9 : Same H8 (upd H8 t1 (.tup [.str x1, .str x2])) := same_up (Same.refl H8) ht1
  have e9 : upd H8 t1 (.tup [.str x1, .str x2]) t1 = some (.tup [.str x1, .str x2]) := upd_same
  generalize upd H8 t1 (.tup [.str x1, .str x2]) = H9 at s9 e9 ⊢
  refine ⟨_, rfl, show 1 ≤ sizeLine by decide, fun t2 ht2 => ?_⟩
  have s10 : Same H9 (upd H9 t2 (.tup [.str x1])) := same_up (Same.refl H9) ht2
  have e10 : upd H9 t2 (.tup [.str x1]) t2 = some (.tup [.str x1]) := upd_same
  generalize upd H9 t2 (.tup [.str x1]) = H10 at s10 e10 ⊢
  refine ⟨_, rfl, show 1 ≤ sizeLine by decide, fun t3 ht3 => ?_⟩
  have s11 : Same H10 (upd H10 t3 (.tup [.str x1])) := same_up (Same.refl H10) ht3
  have e11 : upd H10 t3 (.tup [.str x1]) t3 = some (.tup [.str x1]) := upd_same
  generalize upd H10 t3 (.tup [.str x1]) = H11 at s11 e11 ⊢
  refine ⟨_, rfl, _, rfl, show 2 ≤ sizeLine by decide, fun t4 ht4 => ?_⟩
  have s12 : Same H11 (upd H11 t4 (.tup [.str x1, .ref tw])) := same_up (Same.refl H11) ht4
  have e12' : upd H11 t4 (.tup [.str x1, .ref tw]) t4 = some (.tup [.str x1, .ref tw]) := upd_same
  generalize upd H11 t4 (.tup [.str x1, .ref tw]) = H12 at s12 e12' ⊢
  have s812 := s9.trans (s10.trans (s11.trans s12))
  have ep12 := s812 _ _ e8
  refine ⟨ep12, [(Sum.inr (str "join"), .ref t1), (Sum.inr (str "turn"), .ref t2), (Sum.inr (str "wear"), .ref t3), (Sum.inr (str "look"), .ref t4)], rfl, show 4 ≤ 15 by decide, ?_⟩
  rw [merge4]
  have k13 := Kp.over (o := .dK [(Sum.inr (str "join"), .ref t1), (Sum.inr (str "turn"), .ref t2), (Sum.inr (str "wear"), .ref t3), (Sum.inr (str "look"), .ref t4)]) ep12
  have e13 : upd H12 p (.dK [(Sum.inr (str "join"), .ref t1), (Sum.inr (str "turn"), .ref t2), (Sum.inr (str "wear"), .ref t3), (Sum.inr (str "look"), .ref t4)]) p = _ := upd_same
  have s13 : Same H7 (upd H12 p (.dK [(Sum.inr (str "join"), .ref t1), (Sum.inr (str "turn"), .ref t2), (Sum.inr (str "wear"), .ref t3), (Sum.inr (str "look"), .ref t4)])) := same_over (s8.trans s812) hp
  generalize upd H12 p (.dK [(Sum.inr (str "join"), .ref t1), (Sum.inr (str "turn"), .ref t2), (Sum.inr (str "wear"), .ref t3), (Sum.inr (str "look"), .ref t4)]) = H13 at k13 e13 s13 ⊢
  -- the rows
  have e113 := s13 _ _ (s17 _ _ e1)
  obtain ⟨gs, hgc, hgl, hgs⟩ := cut_mid (ns := ns) (i := 5) (j := 38) (by omega) (by omega) hns
  refine ⟨_, rfl, 5, rfl, 38, rfl, ln, _, rfl, SqL.of e113, fun lg hlg => ?_⟩
  rw [show cutV (ns.map V.int) (some 5) (some 38) = gs.map V.int from hgc]
  have s14' : Same H13 (upd H13 lg (.lst (gs.map V.int))) := same_up (Same.refl H13) hlg
  have e14' : upd H13 lg (.lst (gs.map V.int)) lg = some (.lst (gs.map V.int)) := upd_same
  generalize upd H13 lg (.lst (gs.map V.int)) = H14 at s14' e14' ⊢
  refine ⟨lg, gs, rfl, SqL.of e14', hgs, by omega, fun ll us rs H15 s15 _ ell dr hrne G hrl => ?_⟩
  refine ⟨show 1 ≤ sizeLine by decide, fun t5 ht5 => ?_⟩
  have s16 : Same H15 (upd H15 t5 (.tup [.ref ll])) := same_up (Same.refl H15) ht5
  have e16 : upd H15 t5 (.tup [.ref ll]) t5 = some (.tup [.ref ll]) := upd_same
  generalize upd H15 t5 (.tup [.ref ll]) = H16 at s16 e16 ⊢
  have s1316 := s14'.trans (s15.trans s16)
  have ep16 := s1316 _ _ e13
  refine ⟨_, rfl, p, _, rfl, DPut.k (k := Sum.inr (str "sew")) ep16 (show 4 < sizeLine by decide), ?_⟩
  rw [put5]
  have k17 := Kp.over (o := .dK [(Sum.inr (str "join"), .ref t1), (Sum.inr (str "turn"), .ref t2), (Sum.inr (str "wear"), .ref t3), (Sum.inr (str "look"), .ref t4), (Sum.inr (str "sew"), .ref t5)]) ep16
  have e17 : upd H16 p (.dK [(Sum.inr (str "join"), .ref t1), (Sum.inr (str "turn"), .ref t2), (Sum.inr (str "wear"), .ref t3), (Sum.inr (str "look"), .ref t4), (Sum.inr (str "sew"), .ref t5)]) p = some (.dK [(Sum.inr (str "join"), .ref t1), (Sum.inr (str "turn"), .ref t2), (Sum.inr (str "wear"), .ref t3), (Sum.inr (str "look"), .ref t4), (Sum.inr (str "sew"), .ref t5)]) := upd_same
  have s717 : Same H7 (upd H16 p (.dK [(Sum.inr (str "join"), .ref t1), (Sum.inr (str "turn"), .ref t2), (Sum.inr (str "wear"), .ref t3), (Sum.inr (str "look"), .ref t4), (Sum.inr (str "sew"), .ref t5)])) := same_over (s13.trans s1316) hp
  generalize upd H16 p (.dK [(Sum.inr (str "join"), .ref t1), (Sum.inr (str "turn"), .ref t2), (Sum.inr (str "wear"), .ref t3), (Sum.inr (str "look"), .ref t4), (Sum.inr (str "sew"), .ref t5)]) = H17 at k17 e17 s717 ⊢
  -- the power
  have e117 := s717 _ _ (s17 _ _ e1)
  obtain ⟨n5, en5⟩ : ∃ n, ns[5]? = some n := ⟨_, List.getElem?_eq_getElem (by omega)⟩
  obtain ⟨n6, en6⟩ : ∃ n, ns[6]? = some n := ⟨_, List.getElem?_eq_getElem (by omega)⟩
  have b0 := Int.emod_nonneg n5 (show (2 : Int) ≠ 0 by decide)
  have b1 := Int.emod_lt_of_pos n5 (show (0 : Int) < 2 by decide)
  obtain ⟨n60, n61⟩ := hns n6 (List.mem_of_getElem? en6)
  refine ⟨_, rfl, _, rfl, ln, _, _, .int n5, rfl, rfl, SqL.of e117, atI_nat (j := 5) (by rw [List.getElem?_map, en5]; rfl), _, _, rfl, rfl, pmod, _, _, rfl, rfl, .inl ⟨by decide, by decide⟩, _, _, rfl, rfl, _, rfl, ln, _, _, .int n6, rfl, rfl, SqL.of e117, atI_nat (j := 6) (by rw [List.getElem?_map, en6]; rfl), n6, rfl, n60, n61, fun m H18 s18 hm => ?_⟩
  refine ⟨_, _, rfl, rfl, .inl ⟨by omega, by omega⟩, ?_⟩
  have hn : ((1 - 2 * (n5 % 2)) * (m : Int)).natAbs < 10 ^ 60 := by
    rw [Int.natAbs_mul, Int.natAbs_natCast]
    have : (1 - 2 * (n5 % 2)).natAbs = 1 := by omega
    rw [this, Nat.one_mul]
    exact hm
  obtain ⟨pw, epw⟩ : ∃ pw, (1 - 2 * (n5 % 2)) * (m : Int) = pw := ⟨_, rfl⟩
  rw [epw] at hn
  simp only [epw]
  refine ⟨show 2 ≤ sizeLine by decide, fun t6 ht6 => ?_⟩
  have s19 : Same H18 (upd H18 t6 (.tup [.str x1, .int pw])) := same_up (Same.refl H18) ht6
  have e19 : upd H18 t6 (.tup [.str x1, .int pw]) t6 = some (.tup [.str x1, .int pw]) := upd_same
  generalize upd H18 t6 (.tup [.str x1, .int pw]) = H19 at s19 e19 ⊢
  have s1719 := s18.trans s19
  have ep19 := s1719 _ _ e17
  refine ⟨_, rfl, p, _, rfl, DPut.k (k := Sum.inr (str "power")) ep19 (show 5 < sizeLine by decide), ?_⟩
  rw [put6]
  have k20 := Kp.over (o := .dK [(Sum.inr (str "join"), .ref t1), (Sum.inr (str "turn"), .ref t2), (Sum.inr (str "wear"), .ref t3), (Sum.inr (str "look"), .ref t4), (Sum.inr (str "sew"), .ref t5), (Sum.inr (str "power"), .ref t6)]) ep19
  have e20 : upd H19 p (.dK [(Sum.inr (str "join"), .ref t1), (Sum.inr (str "turn"), .ref t2), (Sum.inr (str "wear"), .ref t3), (Sum.inr (str "look"), .ref t4), (Sum.inr (str "sew"), .ref t5), (Sum.inr (str "power"), .ref t6)]) p = some (.dK [(Sum.inr (str "join"), .ref t1), (Sum.inr (str "turn"), .ref t2), (Sum.inr (str "wear"), .ref t3), (Sum.inr (str "look"), .ref t4), (Sum.inr (str "sew"), .ref t5), (Sum.inr (str "power"), .ref t6)]) := upd_same
  have s20 : Same H7 (upd H19 p (.dK [(Sum.inr (str "join"), .ref t1), (Sum.inr (str "turn"), .ref t2), (Sum.inr (str "wear"), .ref t3), (Sum.inr (str "look"), .ref t4), (Sum.inr (str "sew"), .ref t5), (Sum.inr (str "power"), .ref t6)])) := same_over (s717.trans s1719) hp
  generalize upd H19 p (.dK [(Sum.inr (str "join"), .ref t1), (Sum.inr (str "turn"), .ref t2), (Sum.inr (str "wear"), .ref t3), (Sum.inr (str "look"), .ref t4), (Sum.inr (str "sew"), .ref t5), (Sum.inr (str "power"), .ref t6)]) = H20 at k20 e20 s20 ⊢
  -- the ring
  have e120 := s20 _ _ (s17 _ _ e1)
  have c0 := Int.emod_nonneg n5 (show (9 : Int) ≠ 0 by decide)
  have c1 := Int.emod_lt_of_pos n5 (show (0 : Int) < 9 by decide)
  obtain ⟨j5, hj5⟩ : ∃ j5 : Nat, 51 + n5 % 9 = (j5 : Int) := nat_of (by omega)
  obtain ⟨rg, hrc, hrl', hrs⟩ := cut_mid (ns := ns) (i := 50) (j := j5) (by omega) (by omega) hns
  refine ⟨_, rfl, _, rfl, 50, rfl, _, rfl, ln, _, _, .int n5, rfl, rfl, SqL.of e120, atI_nat (j := 5) (by rw [List.getElem?_map, en5]; rfl), _, _, rfl, rfl, pmod, _, _, rfl, rfl, _, rfl, ln, _, rfl, SqL.of e120, fun lr hlr => ?_⟩
  rw [hj5, show cutV (ns.map V.int) (some 50) (some (j5 : Int)) = rg.map V.int from hrc]
  have s21 : Same H20 (upd H20 lr (.lst (rg.map V.int))) := same_up (Same.refl H20) hlr
  have e21 : upd H20 lr (.lst (rg.map V.int)) lr = some (.lst (rg.map V.int)) := upd_same
  generalize upd H20 lr (.lst (rg.map V.int)) = H21 at s21 e21 ⊢
  refine ⟨lr, rfl, ⟨_, SqL.of e21⟩, fun l22 hl22 => comp_ints (fun x => x % 10) hl22 (SqL.of e21) (line_le (by omega)) (fun x hx H6 Q' s6 q6 => ⟨_, rfl, _, _, rfl, rfl, pmod, q6⟩) (fun H22 s22 e22 => ?_)⟩
  refine ⟨l22, _, rfl, .inl ⟨SqL.of e22, fun tr htr => ?_⟩⟩
  have s23 : Same H22 (upd H22 tr (.tup ((rg.map fun x => x % 10).map V.int))) := same_up (Same.refl H22) htr
  have e23 : upd H22 tr (.tup ((rg.map fun x => x % 10).map V.int)) tr = some (.tup ((rg.map fun x => x % 10).map V.int)) := upd_same
  generalize upd H22 tr (.tup ((rg.map fun x => x % 10).map V.int)) = H23 at s23 e23 ⊢
  have hwr : Figs (rg.map fun x => x % 10) := figs_mod (by omega)
  have hwn : (rg.map fun x => x % 10) ≠ [] := fun z => by rw [List.map_eq_nil_iff] at z; rw [z] at hrl'; simp at hrl'; omega
  generalize (rg.map fun x => x % 10) = wr at e23 hwr hwn
  refine ⟨show 2 ≤ sizeLine by decide, fun t7 ht7 => ?_⟩
  have s24 : Same H23 (upd H23 t7 (.tup [.ref tw, .ref tr])) := same_up (Same.refl H23) ht7
  have e24 : upd H23 t7 (.tup [.ref tw, .ref tr]) t7 = some (.tup [.ref tw, .ref tr]) := upd_same
  generalize upd H23 t7 (.tup [.ref tw, .ref tr]) = H24 at s24 e24 ⊢
  have s2024 := s21.trans (s22.trans (s23.trans s24))
  have ep24 := s2024 _ _ e20
  refine ⟨_, rfl, p, _, rfl, DPut.k (k := Sum.inr (str "hang")) ep24 (show 6 < sizeLine by decide), ?_⟩
  rw [put7]
  have k25 := Kp.over (o := .dK (kvs7 (.ref t1) (.ref t2) (.ref t3) (.ref t4) (.ref t5) (.ref t6) (.ref t7))) ep24
  have e25 : upd H24 p (.dK (kvs7 (.ref t1) (.ref t2) (.ref t3) (.ref t4) (.ref t5) (.ref t6) (.ref t7))) p = some (.dK (kvs7 (.ref t1) (.ref t2) (.ref t3) (.ref t4) (.ref t5) (.ref t6) (.ref t7))) := upd_same
  have s25 : Same H7 (upd H24 p (.dK (kvs7 (.ref t1) (.ref t2) (.ref t3) (.ref t4) (.ref t5) (.ref t6) (.ref t7)))) := same_over (s20.trans s2024) hp
  generalize upd H24 p (.dK (kvs7 (.ref t1) (.ref t2) (.ref t3) (.ref t4) (.ref t5) (.ref t6) (.ref t7))) = H25 at k25 e25 s25 ⊢
  -- what is given
  refine ⟨_, rfl, _, rfl, show 2 ≤ sizeLine by decide, fun t8 ht8 => ?_⟩
  have s26 : Same H25 (upd H25 t8 (.tup [.str kind, .str x0])) := same_up (Same.refl H25) ht8
  have e26 : upd H25 t8 (.tup [.str kind, .str x0]) t8 = some (.tup [.str kind, .str x0]) := upd_same
  generalize upd H25 t8 (.tup [.str kind, .str x0]) = H26 at s26 e26 ⊢
  have ep26 := s26 _ _ e25
  refine ⟨_, rfl, p, rfl, .inl ⟨_, .inl ep26⟩, _, rfl, Nat.zero_le _, fun z hz' => ?_⟩
  have s27 : Same H26 (upd H26 z (.tup [])) := same_up (Same.refl H26) hz'
  have e27 : upd H26 z (.tup []) z = some (.tup []) := upd_same
  generalize upd H26 z (.tup []) = H27 at s27 e27 ⊢
  have k2427 := k25.trans (Kp.same (s26.trans s27))
  have k1927 := k20.trans ((Kp.same s2024).trans k2427)
  have k1627 := k17.trans ((Kp.same s1719).trans k1927)
  have k1227 := k13.trans ((Kp.same s1316).trans k1627)
  have s727 := (s25.trans (s26.trans s27))
  obtain ⟨t, ys, kinds, xs, ds, hv, ht, hyl', dds, hm, hpp⟩ := get7 (K := K) h0 h1 h2 hw hwr hwn hrne G (by omega) hn (k1227.1 _ _ ((s10.trans (s11.trans s12)) _ _ e9)) (k1227.1 _ _ ((s11.trans s12) _ _ e10)) (k1227.1 _ _ (s12 _ _ e11)) (k1227.1 _ _ e12') (k1627.1 _ _ e16) (k1927.1 _ _ e19) (k2427.1 _ _ e24)
    (Dr.tup (s727 _ _ e7) (DrL.ints wd)) (Dr.tup (k2427.1 _ _ (s24 _ _ e23)) (DrL.ints wr)) (Dr.lst ((Kp.same s16).trans k1627 |>.2 _ _ ell) (DrL.flat ((Kp.same s16).trans k1627).1 (flatL_all.mpr fun d hd => by
      obtain ⟨r, hr', rfl⟩ := List.mem_map.mp hd
      exact row_flat (G r hr')) dr)) e27 hkind
  refine ⟨_, DGet.k (k := Sum.inr kind) (s27 _ _ ep26), ?_⟩
  rw [hv]
  refine ⟨t8, t, _, _, rfl, rfl, s27 _ _ e26, ht, show 2 + ys.length ≤ sizeLine from line_le (by omega), fun q H28 s28 e28 => ?_⟩
  refine gv _ _ kind kinds (x0 :: xs) (.str x0 :: ds) (s1.trans (s17.trans (s727.trans s28))) (Dr.tup e28 ?_) hm hpp
  exact DrL.cons (by simp only [Dr]) (DrL.cons (by simp only [Dr]) (dds.mono s28))
end
end Gu

set_option Elab.async false
set_option linter.all false
set_option maxRecDepth 100000
set_option maxHeartbeats 4000000
namespace Gu
open PySem L2
section
variable {P : Program} {w : World} {K : PySem.W.Frag} {mg : Str → Option Value} {base : Heap} {f g : Addr} {fd gd : FuncData} {CX : CXT} [NoE CX]
abbrev nAO8 : List Str := ["_law_text", "_law_signs_here"]
theorem scAO8 : FnScope nAO8 ["_law_text", "_law_signs_here"] (defScope sAllOf) := ⟨rfl, rfl, rfl, by decide +kernel, rfl, by decide +kernel, by decide +kernel⟩
theorem csAO8 : CompS nAO8 (defScope sAllOf) ["_law_sign", "_law_signs_here"] [none, some 1] (csc [(".0", .local), ("_law_sign", .local), ("_law_signs_here", .free)]) := ⟨rfl, by decide +kernel, by decide +kernel, by decide +kernel, rfl, by decide +kernel, by decide +kernel⟩
theorem ok_allof8 (ml : mg "len" = none) (mall : mg "all" = none) (F : Fun K "_law_all_of" "_law_all_of" sAllOf f fd) : FnOk P w K mg base CX 1 f fd ["_law_text", "_law_signs_here"] spAllOf := by
  refine F.okc scAO8 (fun vs H Q E h => ?_) (fun cdv A outer s H vs Q E hr h => ?_)
  · obtain ⟨x, z, f, rfl, _⟩ := h
    rfl
  obtain ⟨x, z, f, rfl, hx, hzf, gv⟩ := h
  refine ⟨_, pss_one (ps_ret (pe_and (pe_cmpR op_gt (pe_callB call_len_str rfl ml PySem.boot_len (pa_cons (pv 0) pa_nil)) pe_int (nomark _)) (pe_one (pe_callB (cAll K rfl rfl) rfl mall PyProof.Rows.boot_all (pa_cons (pe_comp rfl csAO8 (pi_str (pv 0)) (fun _ _ _ _ _ => pg_name (i := 0) csAO8.nd rfl (Or.inl rfl)) (fun _ _ _ _ _ => pe_cmpR op_in_str (pv 0) (pv 1) rfl)) pa_nil))))), ?_⟩
  have hz : x.length ≤ sizeLine := Nat.le_trans hx (by decide)
  refine ⟨_, rfl, x, rfl, hz, _, _, rfl, rfl, _, rfl, ite2 (fun c1 => ?_) (fun c1 => ?_)⟩
  · have c1' : (x.length : Int) > 0 := of_decide_eq_true c1
    refine ⟨_, rfl, x, rfl, fun l hl => comp_str (x := x) (fun i ys H2 => i ≤ x.length ∧ Same H H2 ∧ ys = (((sg x).take i).map f).map V.bl) ⟨Nat.zero_le _, same_up (Same.refl H) hl, rfl⟩ hz (fun i ys H2 h => by rw [h.2.2, List.length_map, List.length_map, List.length_take, sg_len]; have := h.1; omega) (fun i c ys H2 hc h hy => ?_) (fun ys H2 h hy => ?_)⟩
    · obtain ⟨hi, s2, rfl⟩ := h
      have hlt : i + 1 ≤ x.length := by have := (List.getElem?_eq_some_iff.mp hc).1; rw [sg_len] at this; omega
      refine ⟨_, rfl, _, rfl, _, _, rfl, rfl, hy, hlt, same_over s2 hl, ?_⟩
      rw [List.take_add_one, hc, Option.toList_some, List.map_append, List.map_append, List.map_singleton, List.map_singleton]
      rcases hzf with ⟨rfl, rfl⟩ | ⟨rfl, rfl⟩
      · rw [in_small]; rfl
      · rw [in_figs]; rfl
    · obtain ⟨_, s2, rfl⟩ := h
      rw [List.take_of_length_le (by rw [sg_len]; omega)] at hy
      refine ⟨l, _, rfl, SqL.of hy, ?_⟩
      have e := gv H2 s2
      rw [decide_eq_true (show 0 < x.length by omega), Bool.true_and] at e
      rw [List.all_map]
      exact e
  · have c1' : ¬ (x.length : Int) > 0 := fun z => c1 (decide_eq_true z)
    have e := gv H (Same.refl H)
    rw [decide_eq_false (show ¬ (0 < x.length) by omega), Bool.false_and] at e
    exact e
abbrev nSG8 : List Str := ["_law_some"]
theorem scSG8 : FnScope nSG8 [] (defScope sSigns) := ⟨rfl, rfl, rfl, by decide +kernel, rfl, by decide +kernel, by decide +kernel⟩
theorem ok_signs8 (F : Fun K "_law_signs" "_law_signs" sSigns f fd) : FnOk P w K mg base CX 1 f fd [] spSigns8 := by
  refine F.okc scSG8 (fun vs H Q E h => ?_) (fun cdv A outer s H vs Q E hr h => ?_)
  · obtain ⟨rfl, _⟩ := h
    rfl
  obtain ⟨rfl, gv⟩ := h
  refine ⟨_, pss_cons (ps_set (i := 0) scSG8.nd rfl (Or.inl rfl) pe_str)
    (pss_one (ps_ret (pe_op op_add_str (pv 0) pe_str))), ?_⟩
  refine ⟨_, rfl, _, _, rfl, rfl, ?_, gv _ ?_ ?_⟩
  · exact Nat.le_trans (show _ ≤ 200 by decide +kernel) (by decide)
  · decide +kernel
  · decide +kernel
end
end Gu

set_option Elab.async false
set_option linter.all false
set_option maxRecDepth 100000
set_option maxHeartbeats 4000000
namespace Gu
open PySem L2
section
variable {P : Program} {w : World} {K : PySem.W.Frag} {mg : Str → Option Value} {base : Heap} {f g : Addr} {fd gd : FuncData} {CX : CXT} [NoE CX]
abbrev nSP8 : List Str := ["_law_line_here", "_law_cell_here", "_law_nums", "_law_way", "_law_at", "_law_signs_here", "_law_sign", "_law_parts", "_law_k"]
theorem scSP8 : FnScope nSP8 ["_law_line_here", "_law_cell_here"] (defScope sSpoilt) := ⟨rfl, rfl, rfl, by decide +kernel, rfl, by decide +kernel, by decide +kernel⟩
theorem ok_spoilt8 (ml : mg "len" = none) (F : Fun K "_law_spoilt" "_law_spoilt" sSpoilt f fd)
    {aNu : Addr} {dNu : FuncData} (Nu : FnOk P w K mg base CX 2 aNu dNu ["_law_cell_here", "_law_many"] (spNumbers K)) (bNu : Binds K dNu ["_law_cell_here", "_law_many"] []) (kNu : PySem.W.keepIn K (.ref aNu) = true) (mNu : mg "_law_numbers" = some (.ref aNu))
    {aSg : Addr} {dSg : FuncData} (Sg : FnOk P w K mg base CX 2 aSg dSg [] spSigns8) (bSg : Binds K dSg [] []) (kSg : PySem.W.keepIn K (.ref aSg) = true) (mSg : mg "_law_signs" = some (.ref aSg)) : FnOk P w K mg base CX 3 f fd ["_law_line_here", "_law_cell_here"] spSpoilt48 := by
  refine F.okc scSP8 (fun vs H Q E h => ?_) (fun cdv A outer s H vs Q E hr h => ?_)
  · obtain ⟨x, c, rfl, _⟩ := h
    rfl
  obtain ⟨x, c, rfl, hx, gv⟩ := h
  refine ⟨_, @pss_cons _ _ _ _ _ (@ps_set _ _ 2 _ _ _ _ scSP8.nd rfl (Or.inl rfl) (pe_call Nu hr rfl mNu kNu bNu .nil passN (pa_cons (pv 1) (pa_cons pe_int pa_nil))) rfl (Or.inl rfl))
    (@pss_cons _ _ _ _ _ (@ps_set _ _ 3 _ _ _ _ scSP8.nd rfl (Or.inl rfl) (pe_op op_mod (pe_ix ix_list (pv 2) pe_int (fun _ _ => rfl)) pe_int) rfl (Or.inl rfl))
    (@pss_cons _ _ _ _ _ (@ps_set _ _ 4 _ _ _ _ scSP8.nd rfl (Or.inl rfl) (pe_op op_mod (pe_ix ix_list (pv 2) pe_int (fun _ _ => rfl)) (pe_op op_add (pe_callB call_len_str rfl ml PySem.boot_len (pa_cons (pv 0) pa_nil)) pe_int)) rfl (Or.inl rfl))
    (@pss_cons _ _ _ _ _ (@ps_set _ _ 5 _ _ _ _ scSP8.nd rfl (Or.inl rfl) (pe_call0 Sg hr rfl mSg kSg bSg .nil passN) rfl (Or.inl rfl))
    (@pss_cons _ _ _ _ _ (@ps_set _ _ 6 _ _ _ _ scSP8.nd rfl (Or.inl rfl) (pe_ix ix_tup (pe_tup (pa_cons (pe_ix ix_str (pv 5) (pe_op op_mod (pe_ix ix_list (pv 2) pe_int (fun _ _ => rfl)) (pe_callB call_len_str rfl ml PySem.boot_len (pa_cons (pv 5) pa_nil))) (fun _ _ => rfl)) (pa_cons (pe_ix ix_str pe_str (pe_op op_mod (pe_ix ix_list (pv 2) pe_int (fun _ _ => rfl)) pe_int) (fun _ _ => rfl)) pa_nil))) (pe_op op_mod (pe_ix ix_list (pv 2) pe_int (fun _ _ => rfl)) pe_int) (fun _ _ => rfl)) rfl (Or.inl rfl))
    (@pss_cons _ _ _ _ _ (@ps_set _ _ 7 _ _ _ _ scSP8.nd rfl (Or.inl rfl) (pe_bm PySem.F.plainAttrs_str PySem.F.slot_str_split PySem.F.type_str_split mt_split (pv 0) (pa_cons pe_str pa_nil)) rfl (Or.inl rfl))
    (@pss_cons _ _ _ _ _ (@ps_set _ _ 8 _ _ _ _ scSP8.nd rfl (Or.inl rfl) (pe_op op_mod (pe_ix ix_list (pv 2) pe_int (fun _ _ => rfl)) (pe_callB call_len_seq rfl ml PySem.boot_len (pa_cons (pv 7) pa_nil))) rfl (Or.inl rfl))
    (@pss_cons _ _ _ _ _ (ps_if (pt_cmp (pc_eqI (pv 3) pe_int)) (pss_one (ps_ret (pe_op op_add_str (pe_op op_add_str (pe_slice sl_str (pv 0) po_none (po_some (pv 4))) (pv 6)) (pe_slice sl_str (pv 0) (po_some (pv 4)) po_none)))) pss_nil)
    (@pss_cons _ _ _ _ _ (ps_if (pt_cmp (pc_eqI (pv 3) pe_int)) (pss_one (ps_ret (pe_op op_add_str (pe_op op_add_str (pe_slice sl_str (pv 0) po_none (po_some (pv 4))) (pv 6)) (pe_slice sl_str (pv 0) (po_some (pe_op op_add (pv 4) pe_int)) po_none)))) pss_nil)
    (@pss_cons _ _ _ _ _ (ps_if (pt_cmp (pc_eqI (pv 3) pe_int)) (pss_one (ps_ret (pe_op op_add_str (pe_slice sl_str (pv 0) po_none (po_some (pv 4))) (pe_slice sl_str (pv 0) (po_some (pe_op op_add (pv 4) pe_int)) po_none)))) pss_nil)
    (@pss_cons _ _ _ _ _ (ps_if (pt_cmp (pc_eqI (pv 3) pe_int)) (pss_one (ps_asg (pe_tup (pa_cons (pe_ix ix_list (pv 7) (pe_un un_neg pe_int) (fun _ _ => rfl)) (pa_cons (pe_ix ix_list (pv 7) (pv 8) (fun _ _ => rfl)) pa_nil))) (pg_tup rfl (pgs_cons (pg_sub (pv 7) (pv 8) set_list) (pgs_cons (pg_sub (pv 7) (pe_un un_neg pe_int) set_list) pgs_nil))))) pss_nil)
    (@pss_cons _ _ _ _ _ (ps_if (pt_cmp (pc_eqI (pv 3) pe_int)) (pss_one (ps_expr (pe_bm PySem.F.plainAttrs_list PySem.F.slot_list_insert PySem.F.type_list_insert mt_insert (pv 7) (pa_cons (pv 8) (pa_cons (pe_ix ix_list (pv 7) (pv 8) (fun _ _ => rfl)) pa_nil))))) pss_nil)
    (@pss_cons _ _ _ _ _ (ps_if (pt_cmp (pc_eqI (pv 3) pe_int)) (pss_one (ps_expr (pe_bm PySem.F.plainAttrs_list PySem.F.slot_list_pop PySem.F.type_list_pop mt_popAt (pv 7) (pa_cons (pv 8) pa_nil)))) pss_nil)
    (@pss_cons _ _ _ _ _ (ps_if (pt_cmp (pc_eqI (pv 3) pe_int)) (pss_one (ps_asg (pe_ix ix_tup (pe_tupT (xs := ways6) rfl rfl) (pe_op op_mod (pe_ix ix_list (pv 2) pe_int (fun _ _ => rfl)) pe_int) (fun _ _ => rfl)) (pg_sub (pv 7) pe_int set_list))) pss_nil)
    (@pss_cons _ _ _ _ _ (ps_if (pt_cmp (pc_eqI (pv 3) pe_int)) (pss_one (ps_asg (pe_op op_add_str pe_str (pe_ix ix_list (pv 7) (pv 8) (fun _ _ => rfl))) (pg_sub (pv 7) (pv 8) set_list))) pss_nil)
    (@pss_cons _ _ _ _ _ (ps_if (pt_cmp (pc_eqI (pv 3) pe_int)) (pss_one (ps_asg (pe_ix ix_tup (pe_tup (pa_cons (pe_op op_mul_str pe_str pe_int) (pa_cons (pe_op op_mul_str pe_str pe_int) (pa_cons (pe_op op_add_str pe_str (pe_op op_mul_str pe_str pe_int)) (pa_cons (pe_op op_add_str pe_str (pe_op op_mul_str pe_str pe_int)) (pa_cons pe_str (pa_cons pe_str (pa_cons pe_str (pa_cons pe_str pa_nil))))))))) (pe_op op_mod (pe_ix ix_list (pv 2) pe_int (fun _ _ => rfl)) pe_int) (fun _ _ => rfl)) (pg_sub (pv 7) (pv 8) set_list))) pss_nil)
    (@pss_cons _ _ _ _ _ (ps_if (pt_cmp (pc_eqI (pv 3) pe_int)) (pss_one (ps_asg (pe_ix ix_tup (pe_tupT (xs := ways9) rfl rfl) (pe_op op_mod (pe_ix ix_list (pv 2) pe_int (fun _ _ => rfl)) pe_int) (fun _ _ => rfl)) (pg_sub (pv 7) (pv 8) set_list))) pss_nil)
    (pss_one (ps_ret (pe_ifExp (pt_cmp (pc_eqI (pv 3) pe_int)) (pe_ix ix_tup (pe_tupT (xs := ways10) rfl rfl) (pe_op op_mod (pe_ix ix_list (pv 2) pe_int (fun _ _ => rfl)) pe_int) (fun _ _ => rfl)) (pe_bm PySem.F.plainAttrs_str PySem.F.slot_str_join PySem.F.type_str_join (mt_join K rfl) pe_str (pa_cons (pv 7) pa_nil))))))))))))))))))))), ?_⟩
  refine seqG fun R1 hR1 => ?_
  refine ⟨_, rfl, c, 8, rfl, by decide, fun ln H1 ns s1 e1 ⟨hl, hns⟩ => ?_⟩
  refine atR (R := R1) hR1 ?_
  clear hR1
  have nth : ∀ i, i < 8 → ∃ n : Int, (ns.map V.int)[i]? = some (.int n) ∧ 0 ≤ n := fun i hi => by
    have hi' : i < ns.length := by omega
    exact ⟨ns[i], by rw [List.getElem?_map, List.getElem?_eq_getElem hi']; rfl, (hns _ (List.getElem_mem hi')).1⟩
  obtain ⟨n0, en0, p0⟩ := nth 0 (by decide)
  obtain ⟨n1, en1, p1⟩ := nth 1 (by decide)
  obtain ⟨n2, en2, p2⟩ := nth 2 (by decide)
  obtain ⟨n3, en3, p3⟩ := nth 3 (by decide)
  obtain ⟨n4, en4, p4⟩ := nth 4 (by decide)
  obtain ⟨n5, en5, p5⟩ := nth 5 (by decide)
  refine seqG fun R1 hR1 => ?_
  refine ⟨_, rfl, ln, _, _, .int n0, rfl, rfl, SqL.of e1, atI_nat (j := 0) en0, _, _, rfl, rfl, pmod, ?_⟩
  refine atR (R := R1) hR1 ?_
  clear hR1
  refine seqG fun R1 hR1 => ?_
  refine ⟨_, rfl, ln, _, _, .int n1, rfl, rfl, SqL.of e1, atI_nat (j := 1) en1, _, rfl, x, rfl, Nat.le_trans hx (by decide), _, _, rfl, rfl, _, _, rfl, rfl, by omega, ?_⟩
  refine atR (R := R1) hR1 ?_
  clear hR1
  refine seqG fun R1 hR1 => ?_
  refine ⟨rfl, fun sgs hs1 hs2 => ?_⟩
  refine atR (R := R1) hR1 ?_
  clear hR1
  refine seqG fun R1 hR1 => ?_
  have zz : (0 : Int) ≤ n1 % ((x.length : Int) + 1) := Int.emod_nonneg _ (by omega)
  generalize n1 % ((x.length : Int) + 1) = at1 at zz
  have hsl : sgs.cps.toList.length = sgs.length := by simp [Str.length]
  obtain ⟨c1, _, ec1⟩ := atI_mod (xs := sgs.cps.toList) (by omega) n2 (m := (sgs.length : Int)) (by rw [hsl])
  obtain ⟨c2, _, ec2⟩ := atI_mod (xs := (str " -0/a1 ").cps.toList) (by decide +kernel) n2 (m := 7) (by decide +kernel)
  obtain ⟨v6, hv6, ev6⟩ := atI_mod (xs := [V.str ⟨#[c1]⟩, V.str ⟨#[c2]⟩]) (by simp) n3 (m := 2) rfl
  obtain ⟨y6, rfl, hy6⟩ : ∃ y6 : Str, v6 = .str y6 ∧ y6.length = 1 := by
    rcases List.mem_cons.mp hv6 with rfl | hv6
    · exact ⟨_, rfl, rfl⟩
    · exact ⟨_, List.mem_singleton.mp hv6, rfl⟩
  refine ⟨_, rfl, _, rfl, ln, _, _, .int n2, rfl, rfl, SqL.of e1, atI_nat (j := 2) en2, _, rfl, sgs, rfl, Nat.le_trans hs2 (by decide), _, _, rfl, rfl, by omega, sgs, _, c1, rfl, rfl, Nat.le_trans hs2 (by decide), ec1, ?_⟩
  refine ⟨_, rfl, ln, _, _, .int n2, rfl, rfl, SqL.of e1, atI_nat (j := 2) en2, _, _, rfl, rfl, pmod, str " -0/a1 ", _, c2, rfl, rfl, by decide +kernel, ec2, show 2 ≤ sizeLine by decide, fun t2 ht2 => ?_⟩
  have s2 : Same H1 (upd H1 t2 (.tup [V.str ⟨#[c1]⟩, V.str ⟨#[c2]⟩])) := same_up (Same.refl H1) ht2
  have e2 : upd H1 t2 (.tup [V.str ⟨#[c1]⟩, V.str ⟨#[c2]⟩]) t2 = some (.tup [V.str ⟨#[c1]⟩, V.str ⟨#[c2]⟩]) := upd_same
  generalize upd H1 t2 (.tup [V.str ⟨#[c1]⟩, V.str ⟨#[c2]⟩]) = H2 at s2 e2 ⊢
  have e12 := s2 _ _ e1
  refine ⟨_, rfl, ln, _, _, .int n3, rfl, rfl, SqL.of e12, atI_nat (j := 3) en3, _, _, rfl, rfl, pmod, t2, _, _, .str y6, rfl, rfl, SqT.of e2, ev6, ?_⟩
  refine atR (R := R1) hR1 ?_
  clear hR1
  refine seqG fun R1 hR1 => ?_
  refine ⟨_, rfl, rfl, x, str " ", rfl, rfl, (by decide +kernel), line_leB (by omega), fun l3 hl3 => ?_⟩
  have hps : wt (Txt.split x (str " ")) = x.length + 1 := wt_split x
  have hne := split_ne x (str " ")
  generalize Txt.split x (str " ") = ps at hps hne hl3 ⊢
  have s3 : Same H2 (upd H2 l3 (.lst (ps.map V.str))) := same_up (Same.refl H2) hl3
  have e3 : upd H2 l3 (.lst (ps.map V.str)) l3 = some (.lst (ps.map V.str)) := upd_same
  have n3' : H l3 = none := (s1.trans s2).free hl3
  generalize upd H2 l3 (.lst (ps.map V.str)) = H3 at s3 e3 ⊢
  have e13 := s3 _ _ e12
  have s03 := s1.trans (s2.trans s3)
  have hpl : 0 < ps.length := List.length_pos_iff.mpr hne
  have hpw : ps.length ≤ x.length + 1 := by unfold wt at hps; omega
  refine atR (R := R1) hR1 ?_
  clear hR1
  refine seqG fun R1 hR1 => ?_
  refine ⟨_, rfl, ln, _, _, .int n4, rfl, rfl, SqL.of e13, atI_nat (j := 4) en4, _, rfl, l3, _, rfl, .inl (SqL.of e3), _, _, rfl, rfl, by rw [List.length_map]; omega, ?_⟩
  rw [List.length_map]
  have k0 := Int.emod_nonneg n4 (show (ps.length : Int) ≠ 0 by omega)
  have k1 := Int.emod_lt_of_pos n4 (show (0 : Int) < (ps.length : Int) by omega)
  obtain ⟨k, hk⟩ := nat_of k0
  rw [hk] at k1
  have hkl : k < ps.length := by omega
  refine atR (R := R1) hR1 ?_
  clear hR1
  have hxs : x.length ≤ sizeLine := line_leB (by omega)
  have sl := fun lo hi => Txt.slice_le x lo hi
  have le2 : ∀ n, n ≤ 900000 → n ≤ sizeLine := fun n h => line_leB (by omega)
  have fin2 : ∀ (z z' : Str), z.length ≤ 400000 → z'.length ≤ 400000 → z.length + z'.length ≤ sizeLine ∧ Q (.str (z ++ z')) H3 := fun z z' h h' => ⟨le2 _ (by omega), gv _ H3 s03 (by rw [PySem.Str.length_append]; omega)⟩
  have fin3 : ∀ (z y z' : Str), z.length ≤ 400000 → y.length = 1 → z'.length ≤ 400000 → (z ++ y).length + z'.length ≤ sizeLine ∧ Q (.str (z ++ y ++ z')) H3 := fun z y z' h hy h' => ⟨le2 _ (by rw [PySem.Str.length_append]; omega), gv _ H3 s03 (by rw [PySem.Str.length_append, PySem.Str.length_append]; omega)⟩
  refine seqG fun R1 hR1 => ?_
  refine ⟨_, rfl, _, _, rfl, rfl, _, rfl, ite2 (fun w0 => ?_) (fun w0 => ?_)⟩
  · exact ⟨_, rfl, _, rfl, _, rfl, x, rfl, hxs, _, rfl, _, _, rfl, rfl, le2 _ (by have := sl none (some (n1 % ((x.length : Int) + 1))); omega), _, rfl, _, rfl, _, rfl, x, rfl, hxs, _, _, rfl, rfl, fin3 _ _ _ (Nat.le_trans (sl _ _) hx) hy6 (Nat.le_trans (sl _ _) hx)⟩
  refine atR (R := R1) hR1 ?_
  clear hR1
  refine seqG fun R1 hR1 => ?_
  refine ⟨_, rfl, _, _, rfl, rfl, _, rfl, ite2 (fun w1 => ?_) (fun w1 => ?_)⟩
  · exact ⟨_, rfl, _, rfl, _, rfl, x, rfl, hxs, _, rfl, _, _, rfl, rfl, le2 _ (by have := sl none (some (n1 % ((x.length : Int) + 1))); omega), _, rfl, _, rfl, _, _, rfl, rfl, _, rfl, x, rfl, hxs, _, _, rfl, rfl, fin3 _ _ _ (Nat.le_trans (sl _ _) hx) hy6 (Nat.le_trans (sl _ _) hx)⟩
  refine atR (R := R1) hR1 ?_
  clear hR1
  refine seqG fun R1 hR1 => ?_
  refine ⟨_, rfl, _, _, rfl, rfl, _, rfl, ite2 (fun w2 => ?_) (fun w2 => ?_)⟩
  · exact ⟨_, rfl, _, rfl, _, rfl, x, rfl, hxs, _, rfl, _, rfl, _, _, rfl, rfl, _, rfl, x, rfl, hxs, _, _, rfl, rfl, fin2 _ _ (Nat.le_trans (sl _ _) hx) (Nat.le_trans (sl _ _) hx)⟩
  refine atR (R := R1) hR1 ?_
  clear hR1 w0 w1 w2 fin2 fin3
  have hln : ln ≠ l3 := fun z => by rw [z] at e12; rw [hl3] at e12; cases e12
  have hkp : ps[k]? = some (ps[k]'hkl) := List.getElem?_eq_getElem hkl
  have hpk : (ps[k]'hkl).length ≤ 400000 := by
    have := wt_set (y := str "") hkp
    have h0 : (str "").length = 0 := by decide +kernel
    unfold wt at this hps
    rw [List.length_set] at this
    omega
  generalize ps[k]'hkl = pk at hkp hpk
  have hway : ∀ j : Int, (decide (n0 % 12 = j) = true) → n0 % 12 = j := fun j h => of_decide_eq_true h
  have P2 : Spt K H H3 l3 ln ns (n0 % 12) 2 ps ps := ⟨s03, e13, e3, .inr rfl⟩
  have ak : ∀ (xs : List V) (v : V), xs[k]? = some v → atI xs (n4 % (ps.length : Int)) = some v := fun xs v h => by rw [hk]; exact atI_nat h
  have ik : ∀ n : Nat, k < n → ixN n (n4 % (ps.length : Int)) = some k := fun n h => by rw [hk]; exact ixN_nat h
  have P := P2
  clear P2
  refine cutQ (fun σ H' => ∃ qs, σ = [some (V.str x), some (.int c), some (.ref ln), some (.int (n0 % 12)), some (.int (n1 % ((x.length : Int) + 1))), some (.str sgs), some (.str y6), some (.ref l3), some (.int (n4 % (ps.length : Int)))] ∧ Spt K H H' l3 ln ns (n0 % 12) 3 ps qs) (fun Ed nxE => ?_) (fun σ H' h => ?_)
  · refine ⟨_, rfl, _, _, rfl, rfl, _, rfl, ite2 (fun w0 => ?_) (fun w0 => nxE _ _ ⟨_, rfl, P.go⟩)⟩
    have hw := hway 3 w0
    have hq := P.here hw
    have hlst : ps[ps.length - 1]? = some (ps[ps.length - 1]'(by omega)) := List.getElem?_eq_getElem (by omega)
    generalize ps[ps.length - 1]'(by omega) = pl at hlst
    refine ⟨_, rfl, _, rfl, l3, _, _, .str pl, rfl, rfl, SqL.of P.at_, atI_end (by rw [List.length_map]; exact hpl) (by rw [List.length_map]; exact str_get hlst), _, rfl, _, rfl, l3, _, _, .str pk, rfl, rfl, SqL.of P.at_, ak _ _ (str_get hkp), show 2 ≤ sizeLine by decide, fun t4 ht4 => ?_⟩
    have s4 : Same H3 (upd H3 t4 (.tup [V.str pl, V.str pk])) := same_up (Same.refl H3) ht4
    have e4 : upd H3 t4 (.tup [V.str pl, V.str pk]) t4 = some (.tup [V.str pl, V.str pk]) := upd_same
    have P4 : Spt K H (upd H3 t4 (.tup [V.str pl, V.str pk])) l3 ln ns (n0 % 12) 2 ps ps := ⟨P.same.trans s4, s4 _ _ P.num, s4 _ _ P.at_, .inr rfl⟩
    generalize upd H3 t4 (.tup [V.str pl, V.str pk]) = H4 at s4 e4 P4 ⊢
    have w1 := wt_set (y := pl) hkp
    have hl2 : (ps.set k pl)[ps.length - 1]? = some pl := by
      rw [List.getElem?_set]
      split
      · rename_i hke
        first | rfl | rw [if_pos hkl]
      · exact hlst
    have w2 := wt_set (y := pk) hl2
    refine ⟨t4, _, rfl, SqT.of e4, rfl, _, _, rfl, _, rfl, _, rfl, l3, _, _, k, rfl, rfl, P4.at_, ik _ (by rw [List.length_map]; exact hkl), _, _, rfl, _, rfl, _, rfl, l3, _, _, ps.length - 1, rfl, rfl, upd_same, ?_, rfl, ?_⟩
    · rw [List.length_set, List.length_map]; exact ixN_last hpl
    · refine nxE _ _ ⟨(ps.set k pl).set (ps.length - 1) pk, rfl, ?_⟩
      rw [upd_upd, str_set, str_set]
      exact P4.put hw n3' hln (by omega)
  obtain ⟨qs, rfl, P⟩ := h
  refine cutQ (fun σ H' => ∃ qs, σ = [some (V.str x), some (.int c), some (.ref ln), some (.int (n0 % 12)), some (.int (n1 % ((x.length : Int) + 1))), some (.str sgs), some (.str y6), some (.ref l3), some (.int (n4 % (ps.length : Int)))] ∧ Spt K H H' l3 ln ns (n0 % 12) 4 ps qs) (fun Ed nxE => ?_) (fun σ H' h => ?_)
  · refine ⟨_, rfl, _, _, rfl, rfl, _, rfl, ite2 (fun w0 => ?_) (fun w0 => nxE _ _ ⟨_, rfl, P.go⟩)⟩
    have hw := hway 4 w0
    have hq := P.here hw
    subst hq
    refine ⟨_, rfl, .inl ⟨rfl, _, SqL.of P.at_⟩, _, rfl, _, rfl, _, rfl, l3, _, _, .str pk, rfl, rfl, SqL.of P.at_, ak _ _ (str_get hkp), l3, _, .str pk, k, rfl, by rw [hk], P.at_, by rw [List.length_map]; omega, line_leB (by rw [List.length_map]; omega), ?_⟩
    refine nxE _ _ ⟨qs.take k ++ pk :: qs.drop k, rfl, ?_⟩
    have e := P.put (rs := qs.take k ++ pk :: qs.drop k) hw n3' hln (by rw [wt_ins]; omega)
    rw [List.map_append, List.map_cons, List.map_take, List.map_drop] at e
    exact e
  obtain ⟨qs, rfl, P⟩ := h
  refine cutQ (fun σ H' => ∃ qs, σ = [some (V.str x), some (.int c), some (.ref ln), some (.int (n0 % 12)), some (.int (n1 % ((x.length : Int) + 1))), some (.str sgs), some (.str y6), some (.ref l3), some (.int (n4 % (ps.length : Int)))] ∧ Spt K H H' l3 ln ns (n0 % 12) 5 ps qs) (fun Ed nxE => ?_) (fun σ H' h => ?_)
  · refine ⟨_, rfl, _, _, rfl, rfl, _, rfl, ite2 (fun w0 => ?_) (fun w0 => nxE _ _ ⟨_, rfl, P.go⟩)⟩
    have hw := hway 5 w0
    have hq := P.here hw
    subst hq
    refine ⟨_, rfl, .inl ⟨rfl, _, SqL.of P.at_⟩, _, rfl, l3, _, _, k, .str pk, rfl, rfl, P.at_, by omega, by omega, ?_, str_get hkp, ?_⟩
    · rw [List.length_map, hk]; exact seqIndex_nat hkl
    · refine nxE _ _ ⟨qs.eraseIdx k, rfl, ?_⟩
      rw [map_erase]
      exact P.put hw n3' hln (Nat.le_trans (wt_erase qs k) (by omega))
  obtain ⟨qs, rfl, P⟩ := h
  refine cutQ (fun σ H' => ∃ qs, σ = [some (V.str x), some (.int c), some (.ref ln), some (.int (n0 % 12)), some (.int (n1 % ((x.length : Int) + 1))), some (.str sgs), some (.str y6), some (.ref l3), some (.int (n4 % (ps.length : Int)))] ∧ Spt K H H' l3 ln ns (n0 % 12) 6 ps qs) (fun Ed nxE => ?_) (fun σ H' h => ?_)
  · refine ⟨_, rfl, _, _, rfl, rfl, _, rfl, ite2 (fun w0 => ?_) (fun w0 => nxE _ _ ⟨_, rfl, P.go⟩)⟩
    have hw := hway 6 w0
    have hq := P.here hw
    subst hq
    obtain ⟨v, hv, ev⟩ := atI_mod (xs := ways6.map V.str) (by decide) n5 (m := 7) rfl
    obtain ⟨y, hy, rfl⟩ := List.mem_map.mp hv
    have hyl := ways_short y (by simp [hy])
    have h0p : qs[0]? = some (qs[0]'hpl) := List.getElem?_eq_getElem hpl
    have w1 := wt_set (y := y) h0p
    refine ⟨show 7 ≤ sizeLine by decide, fun t4 ht4 => ?_⟩
    have s4 : Same H' (upd H' t4 (.tup (ways6.map V.str))) := same_up (Same.refl H') ht4
    have e4 : upd H' t4 (.tup (ways6.map V.str)) t4 = some (.tup (ways6.map V.str)) := upd_same
    have P4 : Spt K H (upd H' t4 (.tup (ways6.map V.str))) l3 ln ns (n0 % 12) 5 qs qs := ⟨P.same.trans s4, s4 _ _ P.num, s4 _ _ P.at_, .inr rfl⟩
    generalize upd H' t4 (.tup (ways6.map V.str)) = H4 at s4 e4 P4 ⊢
    refine ⟨_, rfl, ln, _, _, .int n5, rfl, rfl, SqL.of P4.num, atI_nat (j := 5) en5, _, _, rfl, rfl, pmod, t4, _, _, .str y, rfl, rfl, SqT.of e4, ev, _, rfl, l3, _, _, 0, rfl, rfl, P4.at_, ixN_nat (j := 0) (by rw [List.length_map]; exact hpl), ?_⟩
    refine nxE _ _ ⟨qs.set 0 y, rfl, ?_⟩
    rw [str_set]
    exact P4.put hw n3' hln (by omega)
  obtain ⟨qs, rfl, P⟩ := h
  refine cutQ (fun σ H' => ∃ qs, σ = [some (V.str x), some (.int c), some (.ref ln), some (.int (n0 % 12)), some (.int (n1 % ((x.length : Int) + 1))), some (.str sgs), some (.str y6), some (.ref l3), some (.int (n4 % (ps.length : Int)))] ∧ Spt K H H' l3 ln ns (n0 % 12) 7 ps qs) (fun Ed nxE => ?_) (fun σ H' h => ?_)
  · refine ⟨_, rfl, _, _, rfl, rfl, _, rfl, ite2 (fun w0 => ?_) (fun w0 => nxE _ _ ⟨_, rfl, P.go⟩)⟩
    have hw := hway 7 w0
    have hq := P.here hw
    subst hq
    have l1 : (str "0").length = 1 := by decide +kernel
    have w1 := wt_set (y := str "0" ++ pk) hkp
    rw [PySem.Str.length_append] at w1
    refine ⟨_, rfl, _, rfl, l3, _, _, .str pk, rfl, rfl, SqL.of P.at_, ak _ _ (str_get hkp), _, _, rfl, rfl, le2 _ (by show (str "0").length + _ ≤ _; omega), _, rfl, _, rfl, l3, _, _, k, rfl, rfl, P.at_, ik _ (by rw [List.length_map]; exact hkl), ?_⟩
    refine nxE _ _ ⟨qs.set k (str "0" ++ pk), rfl, ?_⟩
    rw [str_set]
    exact P.put (rs := qs.set k (str "0" ++ pk)) hw n3' hln (by omega)
  obtain ⟨qs, rfl, P⟩ := h
  refine cutQ (fun σ H' => ∃ qs, σ = [some (V.str x), some (.int c), some (.ref ln), some (.int (n0 % 12)), some (.int (n1 % ((x.length : Int) + 1))), some (.str sgs), some (.str y6), some (.ref l3), some (.int (n4 % (ps.length : Int)))] ∧ Spt K H H' l3 ln ns (n0 % 12) 8 ps qs) (fun Ed nxE => ?_) (fun σ H' h => ?_)
  · refine ⟨_, rfl, _, _, rfl, rfl, _, rfl, ite2 (fun w0 => ?_) (fun w0 => nxE _ _ ⟨_, rfl, P.go⟩)⟩
    have hw := hway 8 w0
    have hq := P.here hw
    subst hq
    have l1 : (str "1").length = 1 := by decide +kernel
    have l9 : (str "9").length = 1 := by decide +kernel
    have lm : (str "-").length = 1 := by decide +kernel
    refine ⟨_, _, rfl, rfl, by decide, by decide, by decide +kernel, by decide +kernel, fun z1 hz1 => ⟨_, _, rfl, rfl, by decide, by decide, by decide +kernel, by decide +kernel, fun z2 hz2 => ⟨_, _, rfl, rfl, by decide, by decide, by decide +kernel, by decide +kernel, fun z3 hz3 => ?_⟩⟩⟩
    have hz1' : z1.length = 60 := by rw [hz1, show (Str.ofString "1").length = 1 from l1]; rfl
    have hz2' : z2.length = 61 := by rw [hz2, show (Str.ofString "1").length = 1 from l1]; rfl
    have hz3' : z3.length = 60 := by rw [hz3, show (Str.ofString "1").length = 1 from l1]; rfl
    refine ⟨_, _, rfl, rfl, le2 _ (by show (str "-").length + _ ≤ _; omega), _, _, rfl, rfl, by decide, by decide, by decide +kernel, by decide +kernel, fun z4 hz4 => ?_⟩
    have hz4' : z4.length = 61 := by rw [hz4, show (Str.ofString "9").length = 1 from l9]; rfl
    refine ⟨_, _, rfl, rfl, le2 _ (by show (str "-").length + _ ≤ _; omega), show 8 ≤ sizeLine by decide, fun t4 ht4 => ?_⟩
    have hall : ∀ y ∈ [z1, z2, str "-" ++ z3, str "-" ++ z4, str "-0", str "0", str "--1", str "-"], y.length ≤ 70 := by
      have e5 : ∀ y ∈ [str "-0", str "0", str "--1", str "-"], y.length ≤ 70 := by decide +kernel
      intro y hy
      rcases List.mem_cons.mp hy with rfl | hy
      · omega
      rcases List.mem_cons.mp hy with rfl | hy
      · omega
      rcases List.mem_cons.mp hy with rfl | hy
      · rw [PySem.Str.length_append]; omega
      rcases List.mem_cons.mp hy with rfl | hy
      · rw [PySem.Str.length_append]; omega
      exact e5 y hy
    obtain ⟨v, hv, ev⟩ := atI_mod (xs := [z1, z2, str "-" ++ z3, str "-" ++ z4, str "-0", str "0", str "--1", str "-"].map V.str) (by simp) n5 (m := 8) rfl
    obtain ⟨y, hy, rfl⟩ := List.mem_map.mp hv
    have hyl := hall y hy
    have w1 := wt_set (y := y) hkp
    generalize hT : [z1, z2, str "-" ++ z3, str "-" ++ z4, str "-0", str "0", str "--1", str "-"] = T at ev
    have s4 : Same H' (upd H' t4 (.tup (T.map V.str))) := same_up (Same.refl H') ht4
    have e4 : upd H' t4 (.tup (T.map V.str)) t4 = some (.tup (T.map V.str)) := upd_same
    have P4 : Spt K H (upd H' t4 (.tup (T.map V.str))) l3 ln ns (n0 % 12) 7 qs qs := ⟨P.same.trans s4, s4 _ _ P.num, s4 _ _ P.at_, .inr rfl⟩
    have eh : upd H' t4 (.tup (T.map V.str)) = upd H' t4 (.tup [V.str z1, V.str z2, V.str (str "-" ++ z3), V.str (str "-" ++ z4), V.str (str "-0"), V.str (str "0"), V.str (str "--1"), V.str (str "-")]) := by rw [← hT]; rfl
    rw [eh] at s4 e4 P4
    generalize upd H' t4 (.tup [V.str z1, V.str z2, V.str (str "-" ++ z3), V.str (str "-" ++ z4), V.str (str "-0"), V.str (str "0"), V.str (str "--1"), V.str (str "-")]) = H4 at s4 e4 P4 ⊢
    refine ⟨_, rfl, ln, _, _, .int n5, rfl, rfl, SqL.of P4.num, atI_nat (j := 5) en5, _, _, rfl, rfl, pmod, t4, _, _, .str y, rfl, rfl, SqT.of e4, ev, _, rfl, _, rfl, l3, _, _, k, rfl, rfl, P4.at_, ik _ (by rw [List.length_map]; exact hkl), ?_⟩
    refine nxE _ _ ⟨qs.set k y, rfl, ?_⟩
    rw [str_set]
    exact P4.put hw n3' hln (by omega)
  obtain ⟨qs, rfl, P⟩ := h
  refine cutQ (fun σ H' => ∃ qs, σ = [some (V.str x), some (.int c), some (.ref ln), some (.int (n0 % 12)), some (.int (n1 % ((x.length : Int) + 1))), some (.str sgs), some (.str y6), some (.ref l3), some (.int (n4 % (ps.length : Int)))] ∧ Spt K H H' l3 ln ns (n0 % 12) 9 ps qs) (fun Ed nxE => ?_) (fun σ H' h => ?_)
  · refine ⟨_, rfl, _, _, rfl, rfl, _, rfl, ite2 (fun w0 => ?_) (fun w0 => nxE _ _ ⟨_, rfl, P.go⟩)⟩
    have hw := hway 9 w0
    have hq := P.here hw
    subst hq
    obtain ⟨v, hv, ev⟩ := atI_mod (xs := ways9.map V.str) (by decide) n5 (m := 6) rfl
    obtain ⟨y, hy, rfl⟩ := List.mem_map.mp hv
    have hyl := ways_short y (by simp [hy])
    have w1 := wt_set (y := y) hkp
    refine ⟨show 6 ≤ sizeLine by decide, fun t4 ht4 => ?_⟩
    have s4 : Same H' (upd H' t4 (.tup (ways9.map V.str))) := same_up (Same.refl H') ht4
    have e4 : upd H' t4 (.tup (ways9.map V.str)) t4 = some (.tup (ways9.map V.str)) := upd_same
    have P4 : Spt K H (upd H' t4 (.tup (ways9.map V.str))) l3 ln ns (n0 % 12) 8 qs qs := ⟨P.same.trans s4, s4 _ _ P.num, s4 _ _ P.at_, .inr rfl⟩
    generalize upd H' t4 (.tup (ways9.map V.str)) = H4 at s4 e4 P4 ⊢
    refine ⟨_, rfl, ln, _, _, .int n5, rfl, rfl, SqL.of P4.num, atI_nat (j := 5) en5, _, _, rfl, rfl, pmod, t4, _, _, .str y, rfl, rfl, SqT.of e4, ev, _, rfl, _, rfl, l3, _, _, k, rfl, rfl, P4.at_, ik _ (by rw [List.length_map]; exact hkl), ?_⟩
    refine nxE _ _ ⟨qs.set k y, rfl, ?_⟩
    rw [str_set]
    exact P4.put hw n3' hln (by omega)
  obtain ⟨qs, rfl, P⟩ := h
  refine ⟨_, rfl, _, _, rfl, rfl, _, rfl, ite2 (fun w0 => ?_) (fun w0 => ?_)⟩
  · obtain ⟨v, hv, ev⟩ := atI_mod (xs := ways10.map V.str) (by decide) n5 (m := 4) rfl
    obtain ⟨y, hy, rfl⟩ := List.mem_map.mp hv
    have hyl := ways_short y (by simp [hy])
    refine ⟨show 4 ≤ sizeLine by decide, fun t4 ht4 => ?_⟩
    have s4 : Same H' (upd H' t4 (.tup (ways10.map V.str))) := same_up (Same.refl H') ht4
    have e4 : upd H' t4 (.tup (ways10.map V.str)) t4 = some (.tup (ways10.map V.str)) := upd_same
    generalize upd H' t4 (.tup (ways10.map V.str)) = H4 at s4 e4 ⊢
    exact ⟨_, rfl, ln, _, _, .int n5, rfl, rfl, SqL.of (s4 _ _ P.num), atI_nat (j := 5) en5, _, _, rfl, rfl, pmod, t4, _, _, .str y, rfl, rfl, SqT.of e4, ev, gv _ _ (P.same.trans s4) (by omega)⟩
  · have hwq : wt qs ≤ 850000 := P.or_.elim (fun z => z.2) (fun z => by rw [z]; omega)
    obtain ⟨j1, j2⟩ := join_wt hwq
    exact ⟨rfl, _, rfl, str " ", l3, qs, rfl, rfl, SqL.of P.at_, Nat.le_trans j2 (by decide), gv _ _ P.same (by omega)⟩
end
end Gu

set_option Elab.async false
set_option linter.all false
set_option maxRecDepth 100000
set_option maxHeartbeats 4000000
namespace Gu
open PySem L2
section
variable {P : Program} {w : World} {K : PySem.W.Frag} {mg : Str → Option Value} {base : Heap} {f g : Addr} {fd gd : FuncData} {CX : CXT} [NoE CX]
theorem scNumbers : FnScope ["_law_cell_here", "_law_many", "_law_row", "_law_rest", "_law_seed"] ["_law_cell_here", "_law_many"] (defScope sNumbers) := ⟨rfl, rfl, rfl, by decide +kernel, rfl, by decide +kernel, by decide +kernel⟩
theorem ok_numbers (F : Fun K "_law_numbers" "_law_numbers" sNumbers f fd) (ml : mg "len" = none) : FnOk P w K mg base CX 1 f fd ["_law_cell_here", "_law_many"] (spNumbers K) := by
  refine F.okc scNumbers (fun vs H Q E h => ?_) (fun cdv A outer s H vs Q E hr h => ?_)
  · obtain ⟨c, m, rfl, _⟩ := h
    rfl
  obtain ⟨c, m, rfl, hm, q⟩ := h
  refine ⟨_, pss_cons (ps_set (i := 2) scNumbers.nd rfl (Or.inl rfl) (pe_lst pa_nil))
    (pss_cons (ps_set (i := 3) scNumbers.nd rfl (Or.inl rfl) (pe_op op_sub (pv 0) (pe_op op_pow pe_int pe_int)))
    (pss_cons (ps_while PassesOwn.never (PW.pt (pw_and (pt_cmpR op_gt (pv 3) pe_int (nomark _)) (pw_and1 (pt_cmpR op_lt (pe_callB call_len_seq rfl ml PySem.boot_len (pa_cons (pv 2) pa_nil)) (pv 1) (nomark _)))))
      (pss_cons (ps_expr (pe_bm PySem.F.plainAttrs_list PySem.F.slot_list_append PySem.F.type_list_append mt_append (pv 2) (pa_cons (pe_op op_mod (pv 3) pe_int) pa_nil)))
      (pss_one (ps_set (i := 3) scNumbers.nd rfl (Or.inl rfl) (pe_op op_fdiv (pv 3) pe_int)))))
    (pss_cons (ps_set (i := 4) scNumbers.nd rfl (Or.inl rfl) (pe_op op_mod (pv 0) pe_int))
    (pss_cons (ps_while PassesOwn.never (pt_cmpR op_lt (pe_callB call_len_seq rfl ml PySem.boot_len (pa_cons (pv 2) pa_nil)) (pv 1) (nomark _))
      (pss_cons (ps_set (i := 4) scNumbers.nd rfl (Or.inl rfl) (pe_op op_mod (pe_op op_add (pe_op op_add (pe_op op_mul (pv 4) pe_int) pe_int) (pe_callB call_len_seq rfl ml PySem.boot_len (pa_cons (pv 2) pa_nil))) pe_int))
      (pss_one (ps_expr (pe_bm PySem.F.plainAttrs_list PySem.F.slot_list_append PySem.F.type_list_append mt_append (pv 2) (pa_cons (pe_op op_mod (pe_op op_fdiv (pe_op op_mod (pe_op op_mul (pv 4) pe_int) pe_int) pe_int) pe_int) pa_nil))))))
    (pss_one (ps_ret (pv 2))))))), ?_⟩
  refine ⟨by show 0 ≤ sizeLine; decide, fun l hl => ⟨_, rfl, _, _, rfl, rfl, ⟨by decide, by decide, by decide⟩, _, _, rfl, rfl, ?_⟩⟩
  show tWhile _ _ _ _ _
  refine cutW (fun σ' H' => ∃ (k : Nat) (r : Int) (ns : List Int), σ' = [some (.int c), some (.int m), some (.ref l), some (.int r), none] ∧ Same H H' ∧ H' l = some (.lst (ns.map V.int)) ∧ k + ns.length = m ∧ ∀ x ∈ ns, 0 ≤ x ∧ x < 1009) (fun Ed nx => ?_) (fun σ' H' p => ?_)
  rotate_left
  · obtain ⟨k, r, ns, rfl, s2, e2, hk, hns⟩ := p
    refine ⟨_, rfl, _, _, rfl, rfl, pmod, ?_⟩
    refine ⟨fun k σ H2 => ∃ (v : Int) (ns : List Int), σ = [some (.int c), some (.int m), some (.ref l), some (.int r), some (.int v)] ∧ Same H H2 ∧ H2 l = some (.lst (ns.map V.int)) ∧ k + ns.length = m ∧ ∀ x ∈ ns, 0 ≤ x ∧ x < 1009,
      ⟨k, _, ns, rfl, s2, e2, hk, hns⟩, ?_⟩
    rintro k σ H2 ⟨v, ns, rfl, s2, e2, hk, hns⟩
    have hnl : (ns.map V.int).length = ns.length := List.length_map _
    refine ⟨_, rfl, l, _, rfl, .inl (SqL.of e2), _, rfl, _, _, rfl, rfl, _, rfl, ite2 (fun c2 => ?_) (fun c2 => ?_)⟩
    · have c2' := of_decide_eq_true c2
      rw [hnl] at c2'
      have hkp : ns.length < m := by omega
      refine cutN fun N nx2 => ?_
      refine ⟨_, rfl, _, _, rfl, rfl, .inr ⟨by decide, by decide⟩, _, _, rfl, rfl, _, rfl, l, _, rfl, .inl (SqL.of e2), _, _, rfl, rfl, _, _, rfl, rfl, pmod, ?_⟩
      refine ⟨_, rfl, .inl ⟨rfl, _, SqL.of e2⟩, _, rfl, _, _, rfl, rfl, .inr ⟨by decide, by decide⟩, _, _, rfl, rfl, pmod, _, _, rfl, rfl, ⟨by decide, by decide⟩, _, _, rfl, rfl, pmod, l, _, _, rfl, rfl, e2, by rw [hnl]; exact small1000 (by omega), ?_⟩
      refine nx2 (k - 1) _ _ (by omega) ⟨_, ns ++ [(v * 48271 + 9973 + ((ns.map V.int).length : Nat)) % 2147483647 * 39373 % 2147483629 / 11 % 1009], rfl, same_over s2 hl, ?_, ?_, nums_snoc hns (mod1009 _)⟩
      · rw [upd_same, List.map_append]; rfl
      · rw [List.length_append]; show k - 1 + (ns.length + 1) = m; omega
    · have c2' := of_decide_eq_false (Bool.eq_false_iff.mpr c2)
      rw [hnl] at c2'
      exact ⟨_, rfl, q l H2 ns s2 e2 ⟨by omega, hns⟩⟩
  refine ⟨fun k σ H2 => ∃ (r : Int) (ns : List Int), σ = [some (.int c), some (.int m), some (.ref l), some (.int r), none] ∧ Same H H2 ∧ H2 l = some (.lst (ns.map V.int)) ∧ k + ns.length = m ∧ ∀ x ∈ ns, 0 ≤ x ∧ x < 1009,
    ⟨m, _, [], rfl, same_up (Same.refl H) hl, upd_same, rfl, fun x hx => by simp at hx⟩, ?_⟩
  rintro k σ H2 ⟨r, ns, rfl, s2, e2, hk, hns⟩
  have hnl : (ns.map V.int).length = ns.length := List.length_map _
  refine ⟨_, rfl, _, _, rfl, rfl, _, rfl, ite2 (fun c1 => ⟨_, rfl, l, _, rfl, .inl (SqL.of e2), _, rfl, _, _, rfl, rfl, _, rfl, ite2 (fun c2 => ?_) (fun c2 => ?_)⟩) (fun c1 => iteF ?_)⟩
  · have c2' := of_decide_eq_true c2
    rw [hnl] at c2'
    have hkp : ns.length < m := by omega
    refine cutN fun N nx2 => ?_
    refine ⟨_, rfl, .inl ⟨rfl, _, SqL.of e2⟩, _, rfl, _, _, rfl, rfl, pmod, l, _, _, rfl, rfl, e2, by rw [hnl]; exact small1000 (by omega), ?_⟩
    refine ⟨_, rfl, _, _, rfl, rfl, ⟨by decide, by decide⟩, nx2 (k - 1) _ _ (by omega) ⟨_, ns ++ [r % 1009], rfl, same_over s2 hl, ?_, ?_, nums_snoc hns (mod1009 r)⟩⟩
    · rw [upd_same, List.map_append]; rfl
    · rw [List.length_append]; show k - 1 + (ns.length + 1) = m; omega
  all_goals exact nx _ _ ⟨k, r, ns, rfl, s2, e2, hk, hns⟩
theorem scCell : FnScope ["_law_script", "_law_at"] ["_law_script", "_law_at"] (defScope sCell) := ⟨rfl, rfl, rfl, by decide +kernel, rfl, by decide +kernel, by decide +kernel⟩
theorem ok_cell (F : Fun K "_law_cell" "_law_cell" sCell f fd) (ml : mg "len" = none) : FnOk P w K mg base CX 1 f fd ["_law_script", "_law_at"] (spCell K) := by
  refine F.okc scCell (fun vs H Q E h => ?_) (fun cdv A outer s H vs Q E hr h => ?_)
  · obtain ⟨a, ns, i, rfl, _⟩ := h
    rfl
  obtain ⟨a, ns, i, rfl, hS, h63, hi, q⟩ := h
  refine ⟨_, pss_cons (ps_if (pt_cmpR op_lt (pv 1) (pe_callB call_len_seq rfl ml PySem.boot_len (pa_cons (pv 0) pa_nil)) (nomark _)) (pss_one (ps_ret (pe_ix ix_list (pv 0) (pv 1) (fun _ _ => rfl)))) pss_nil)
    (pss_cons (ps_if (pt_cmpR op_eq (pe_callB call_len_seq rfl ml PySem.boot_len (pa_cons (pv 0) pa_nil)) pe_int (nomark _)) (pss_one (ps_ret (pe_op op_add (pe_op op_mul pe_int (pv 1)) pe_int))) pss_nil)
    (pss_one (ps_ret (pe_op op_add (pe_op op_mod (pe_ix ix_list (pv 0) (pe_op op_mod (pv 1) (pe_callB call_len_seq rfl ml PySem.boot_len (pa_cons (pv 0) pa_nil))) (fun _ _ => rfl)) pe_int) (pe_op op_mul pe_int (pv 1)))))), ?_⟩
  have hl : (ns.map V.int).length = ns.length := List.length_map _
  refine ⟨_, rfl, _, rfl, a, _, rfl, .inl hS, _, _, rfl, rfl, _, rfl, ?_⟩
  refine ite2 (fun c => ?_) (fun c => ?_)
  · have c' : (i : Int) < (((ns.map V.int).length : Nat) : Int) := of_decide_eq_true c
    rw [hl] at c'
    have hin : i < ns.length := by omega
    refine ⟨_, rfl, _, rfl, a, _, _, V.int (ns.getD i 0), rfl, rfl, hS, atI_nat (by simp [hin]), ?_⟩
    have e : cell ns i = ns.getD i 0 := by unfold cell; rw [if_pos hin]
    rw [e] at q
    exact q
  · have c' : ¬ (i : Int) < (((ns.map V.int).length : Nat) : Int) := of_decide_eq_false (Bool.eq_false_iff.mpr c)
    rw [hl] at c'
    have hin : ¬ i < ns.length := by omega
    refine ⟨_, rfl, a, _, rfl, .inl hS, rfl, _, rfl, ?_⟩
    refine ite2 (fun c => ?_) (fun c => ?_)
    · have c2 := of_decide_eq_true c
      rw [hl] at c2
      have hz : ns.length = 0 := by injection c2 with c2; omega
      refine ⟨_, rfl, _, _, rfl, rfl, .inl ⟨by decide, by decide⟩, _, _, rfl, rfl, ?_⟩
      have e : cell ns i = 29 * i + 5 := by unfold cell; rw [if_neg hin, if_pos hz]
      rw [e] at q
      exact q
    · have c2 := of_decide_eq_false (Bool.eq_false_iff.mpr c)
      rw [hl] at c2
      have hz : ¬ ns.length = 0 := fun z => c2 (congrArg V.int (by omega))
      have hpos : (0 : Int) < ns.length := by omega
      have hm : i % ns.length < ns.length := Nat.mod_lt _ (by omega)
      have em : (i : Int) % (((ns.map V.int).length : Nat) : Int) = ((i % ns.length : Nat) : Int) := by rw [hl]; exact (Int.natCast_emod i ns.length).symm
      refine ⟨_, rfl, _, rfl, _, rfl, a, _, rfl, .inl hS, _, _, rfl, rfl, by rw [hl]; exact hpos, a, _, _, V.int (ns.getD (i % ns.length) 0), rfl, rfl, hS, (by rw [em]; exact atI_nat (by simp [hm])), _, _, rfl, rfl, (by show (0 : Int) < 1000003; decide), _, rfl, _, _, rfl, rfl, .inl ⟨by decide, by decide⟩, _, _, rfl, rfl, ?_⟩
      have e : cell ns i = ns.getD (i % ns.length) 0 % 1000003 + 103 * i := by unfold cell; rw [if_neg hin, if_neg hz]
      rw [e] at q
      exact q
end
end Gu

set_option Elab.async false
set_option linter.all false
set_option maxRecDepth 100000
set_option maxHeartbeats 4000000
namespace Gu
open PySem L2
section
variable {P : Program} {w : World} {K : PySem.W.Frag} {mg : Str → Option Value} {base : Heap} {f g : Addr} {fd gd : FuncData} {CX : CXT} [NoE CX]
theorem scWhole : FnScope ["_law_found"] ["_law_found"] (defScope sWhole) := ⟨rfl, rfl, rfl, by decide +kernel, rfl, by decide +kernel, by decide +kernel⟩
theorem ok_whole (F : Fun K "_law_whole" "_law_whole" sWhole f fd) (B : Blt mg) : FnOk P w K mg base CX 1 f fd ["_law_found"] (spWhole K) := by
  refine F.okc scWhole (fun vs H Q E h => ?_) (fun cdv A outer s H vs Q E hr h => ?_)
  · obtain ⟨i, rfl, _⟩ := h
    rfl
  obtain ⟨i, rfl, q⟩ := h
  refine ⟨_, pss_one (ps_ret (pe_and (pIsi K rfl (pv 0) B.isi B.int PyProof.Rows.boot_int)
    (pe_one (pe_not (pIsi K rfl (pv 0) B.isi B.bl PyProof.Rows.boot_bool))))), ?_⟩
  exact ⟨_, rfl, _, _, _, rfl, .of (.int i), rfl, _, rfl, iteT ⟨_, rfl, _, _, _, rfl, .of (.int i), rfl, _, rfl, q⟩⟩
theorem scLike : FnScope ["_law_found", "_law_due"] ["_law_found", "_law_due"] (defScope sLike) := ⟨rfl, rfl, rfl, by decide +kernel, rfl, by decide +kernel, by decide +kernel⟩
theorem csLike : CompS ["_law_found", "_law_due"] (defScope sLike) ["_law_k", "_law_due", "_law_found"] [none, some 1, some 0] (csc [(".0", .local), ("_law_k", .local), ("_law_like", .globalImplicit), ("_law_due", .free), ("_law_found", .free)]) := ⟨rfl, by decide +kernel, by decide +kernel, by decide +kernel, rfl, by decide +kernel, by decide +kernel⟩
theorem ok_like {n : Nat} (F : Fun K "_law_like" "_law_like" sLike f fd) (B : Blt mg) (G : FnOk P w K mg base CX 1 g gd ["_law_found"] (spWhole K)) (bG : Binds K gd ["_law_found"] []) (kG : PySem.W.keepIn K (.ref g) = true) (mG : mg "_law_whole" = some (.ref g))
    (L : FnOk P w K mg base CX (n + 1) f fd ["_law_found", "_law_due"] (spLikeB K n)) (bL : Binds K fd ["_law_found", "_law_due"] []) (kL : PySem.W.keepIn K (.ref f) = true) (mL : mg "_law_like" = some (.ref f)) : FnOk P w K mg base CX (n + 2) f fd ["_law_found", "_law_due"] (spLikeB K (n + 1)) := by
  refine F.okc scLike (fun vs H Q E h => ?_) (fun cdv A outer s H vs Q E hr h => ?_)
  · obtain ⟨a, b, d, rfl, _⟩ := h
    rfl
  obtain ⟨a, b, d, rfl, da, db, hd, hfew, q⟩ := h
  have hr1 : Room 1 _ := hr.mono (by omega)
  refine ⟨_, pss_cons (ps_if (pt_cmpR op_isN (pv 1) pe_non (nomark _)) (pss_one (ps_ret (pe_cmpR op_isN (pv 0) pe_non (nomark _)))) pss_nil)
    (pss_cons (ps_if (pt_val (pIsi K rfl (pv 1) B.isi B.bl PyProof.Rows.boot_bool))
      (pss_one (ps_ret (pe_and (pIsi K rfl (pv 0) B.isi B.bl PyProof.Rows.boot_bool) (pe_one (pe_cmpR op_eq (pv 0) (pv 1) (nomark _)))))) pss_nil)
    (pss_cons (ps_if (pt_val (pIsi K rfl (pv 1) B.isi B.int PyProof.Rows.boot_int))
      (pss_one (ps_ret (pe_and (pe_call G hr1 rfl mG kG bG .nil passN (pa_cons (pv 0) pa_nil)) (pe_one (pe_cmpR op_eq (pv 0) (pv 1) (nomark _)))))) pss_nil)
    (pss_cons (ps_if (pt_val (pIsi K rfl (pv 1) B.isi B.str PyProof.Rows.boot_str))
      (pss_one (ps_ret (pe_and (pIsi K rfl (pv 0) B.isi B.str PyProof.Rows.boot_str) (pe_one (pe_cmpR op_eq (pv 0) (pv 1) (nomark _)))))) pss_nil)
    (pss_cons (ps_if (PW.pt (pw_or (pt_cmpR op_ne (pIsi K rfl (pv 1) B.isi B.lst PyProof.Rows.boot_list)
          (pIsi K rfl (pv 0) B.isi B.lst PyProof.Rows.boot_list) (nomark _))
        (pw_or1 (pt_cmpR op_ne (pIsi K rfl (pv 1) B.isi B.tup PyProof.Rows.boot_tuple)
          (pIsi K rfl (pv 0) B.isi B.tup PyProof.Rows.boot_tuple) (nomark _)))))
      (pss_one (ps_ret pe_bl)) pss_nil)
    (pss_one (ps_ret (pe_and (pe_cmpR op_eq (pe_callB call_len_seq rfl B.len PySem.boot_len (pa_cons (pv 0) pa_nil)) (pe_callB call_len_seq rfl B.len PySem.boot_len (pa_cons (pv 1) pa_nil)) (nomark _))
      (pe_one (pe_callB (cAll K rfl rfl) rfl B.all PyProof.Rows.boot_all (pa_cons (pe_comp rfl csLike (pi_range1 rfl B.rng (pa_cons (pe_callB call_len_seq rfl B.len PySem.boot_len (pa_cons (pv 1) pa_nil)) pa_nil)) (fun _ _ _ _ _ => pg_name (i := 0) csLike.nd rfl (Or.inl rfl))
        (fun _ _ _ _ _ => pe_call L hr rfl mL kL bL .nil passN (pa_cons (pe_ix ((ixL K rfl).or (ixT K rfl)) (pv 2) (pv 0) (fun _ _ => rfl)) (pa_cons (pe_ix ((ixL K rfl).or (ixT K rfl)) (pv 1) (pv 0) (fun _ _ => rfl)) pa_nil)))) pa_nil)))))))))), ?_⟩
  have kit : ∀ t c b, PySem.W.kitOne K (.type t) (.type c) = some b → PySem.W.kitOne K (.type t) (.type c) = some b := fun _ _ _ h => h
  cases d with
  | non =>
    simp only [Dr] at da db
    subst da db
    exact ⟨_, rfl, rfl, _, rfl, iteT ⟨_, rfl, rfl, q _ (Same.refl H)⟩⟩
  | bl x =>
    simp only [Dr] at da db
    subst da db
    refine cutS (fun Ed nx => ⟨_, rfl, rfl, _, rfl, iteF nx⟩) ?_
    refine ⟨_, rfl, _, _, _, rfl, .of (.bl x), rfl, _, rfl, iteT ⟨_, rfl, _, _, _, rfl, .of (.bl x), rfl, _, rfl, iteT ⟨_, rfl, _, rfl, rfl, ?_⟩⟩⟩
    rw [decide_eq_true rfl]
    exact q _ (Same.refl H)
  | int x =>
    simp only [Dr] at da db
    subst da db
    refine cutS (fun Ed nx => ⟨_, rfl, rfl, _, rfl, iteF nx⟩) (cutS (fun Ed nx => ⟨_, rfl, _, _, _, rfl, .of (.int x), rfl, _, rfl, iteF nx⟩) ?_)
    refine ⟨_, rfl, _, _, _, rfl, .of (.int x), rfl, _, rfl, iteT ⟨_, rfl, x, rfl, _, rfl, iteT ⟨_, rfl, _, rfl, rfl, ?_⟩⟩⟩
    rw [decide_eq_true rfl]
    exact q _ (Same.refl H)
  | str x =>
    simp only [Dr] at da db
    subst da db
    refine cutS (fun Ed nx => ⟨_, rfl, rfl, _, rfl, iteF nx⟩) (cutS (fun Ed nx => ⟨_, rfl, _, _, _, rfl, .of (.str x), rfl, _, rfl, iteF nx⟩) (cutS (fun Ed nx => ⟨_, rfl, _, _, _, rfl, .of (.str x), rfl, _, rfl, iteF nx⟩) ?_))
    refine ⟨_, rfl, _, _, _, rfl, .of (.str x), rfl, _, rfl, iteT ⟨_, rfl, _, _, _, rfl, .of (.str x), rfl, _, rfl, iteT ⟨_, rfl, _, rfl, rfl, ?_⟩⟩⟩
    rw [decide_eq_true rfl]
    exact q _ (Same.refl H)
  | tup ds =>
    simp only [Dr] at da db
    obtain ⟨a, vs, rfl, sa, ra⟩ := da
    obtain ⟨b, us, rfl, sb, rb⟩ := db
    replace sa := SqT.of (K := K) sa
    replace sb := SqT.of (K := K) sb
    simp only [D.fewB] at hfew
    simp only [D.dep] at hd
    refine cutS (fun Ed nx => ⟨_, rfl, rfl, _, rfl, iteF nx⟩) (cutS (fun Ed nx => ⟨_, rfl, _, _, _, rfl, .tup sb, rfl, _, rfl, iteF nx⟩) (cutS (fun Ed nx => ⟨_, rfl, _, _, _, rfl, .tup sb, rfl, _, rfl, iteF nx⟩) (cutS (fun Ed nx => ⟨_, rfl, _, _, _, rfl, .tup sb, rfl, _, rfl, iteF nx⟩) (cutS (fun Ed nx => ⟨_, rfl, _, _, _, rfl, .tup sb, rfl, _, rfl, _, _, _, rfl, .tup sa, rfl, rfl, _, rfl, iteF ⟨_, rfl, _, _, _, rfl, .tup sb, rfl, _, rfl, _, _, _, rfl, .tup sa, rfl, rfl, _, rfl, iteF nx⟩⟩) ?_))))
    have lav : ds.length = vs.length := ra.length
    have lbu : ds.length = us.length := rb.length
    refine ⟨_, rfl, a, _, rfl, .inr sa, _, rfl, b, _, rfl, .inr sb, rfl, true, congrArg V.bl (decide_eq_true (congrArg V.int (by omega))), iteT ?_⟩
    refine ⟨_, rfl, b, _, rfl, .inr sb, (us.length : Int), rfl, by omega, by omega, fun l hl0 => comp_range (n := (us.length : Int).toNat) (fun i ys H2 => i ≤ us.length ∧ ys = List.replicate i (V.bl true) ∧ Same H H2) ⟨Nat.zero_le _, rfl, same_up (Same.refl H) hl0⟩ (line_leB (by omega)) (fun i ys H2 h => by obtain ⟨_, rfl, _⟩ := h; exact List.length_replicate)
      (fun i ys H2 hi h hy => ?_) (fun ys H2 h hy => ?_)⟩
    · obtain ⟨_, rfl, s2⟩ := h
      have hiu : i < us.length := by omega
      have e0 : (0 : Int) + (i : Int) = (i : Int) := by omega
      have ed : ds[i]? = some ds[i] := List.getElem?_eq_getElem (by omega)
      obtain ⟨x, ex, dx⟩ := ra.get ed
      obtain ⟨y, ey, dy⟩ := rb.get ed
      have dl := D.depL_get ed
      refine ⟨_, rfl, _, rfl, .inr ⟨a, _, _, x, rfl, rfl, s2.tupl sa, (by rw [e0]; exact atI_nat ex), ?_⟩⟩
      refine ⟨_, rfl, _, rfl, .inr ⟨b, _, _, y, rfl, rfl, s2.tupl sb, (by rw [e0]; exact atI_nat ey), ?_⟩⟩
      refine ⟨x, y, ds[i], rfl, dx.mono s2, dy.mono s2, by omega, D.fewBL_get hfew.2 ed, fun H3 s3 => ⟨s3 _ _ hy, hiu, ?_, same_over (s2.trans s3) hl0⟩⟩
      rw [List.replicate_succ']
    · obtain ⟨_, rfl, s2⟩ := h
      refine ⟨l, List.replicate ((us.length : Int).toNat) true, rfl, ?_, ?_⟩
      · rw [List.map_replicate]; exact SqL.of hy
      · have e : (List.replicate ((us.length : Int).toNat) true).all id = true := by simp
        rw [e]
        exact q _ s2
  | lst ds =>
    simp only [Dr] at da db
    obtain ⟨a, vs, rfl, sa, ra⟩ := da
    obtain ⟨b, us, rfl, sb, rb⟩ := db
    simp only [D.fewB] at hfew
    simp only [D.dep] at hd
    refine cutS (fun Ed nx => ⟨_, rfl, rfl, _, rfl, iteF nx⟩) (cutS (fun Ed nx => ⟨_, rfl, _, _, _, rfl, .lst sb, rfl, _, rfl, iteF nx⟩) (cutS (fun Ed nx => ⟨_, rfl, _, _, _, rfl, .lst sb, rfl, _, rfl, iteF nx⟩) (cutS (fun Ed nx => ⟨_, rfl, _, _, _, rfl, .lst sb, rfl, _, rfl, iteF nx⟩) (cutS (fun Ed nx => ⟨_, rfl, _, _, _, rfl, .lst sb, rfl, _, rfl, _, _, _, rfl, .lst sa, rfl, rfl, _, rfl, iteF ⟨_, rfl, _, _, _, rfl, .lst sb, rfl, _, rfl, _, _, _, rfl, .lst sa, rfl, rfl, _, rfl, iteF nx⟩⟩) ?_))))
    have lav : ds.length = vs.length := ra.length
    have lbu : ds.length = us.length := rb.length
    refine ⟨_, rfl, a, _, rfl, .inl sa, _, rfl, b, _, rfl, .inl sb, rfl, true, congrArg V.bl (decide_eq_true (congrArg V.int (by omega))), iteT ?_⟩
    refine ⟨_, rfl, b, _, rfl, .inl sb, (us.length : Int), rfl, by omega, by omega, fun l hl0 => comp_range (n := (us.length : Int).toNat) (fun i ys H2 => i ≤ us.length ∧ ys = List.replicate i (V.bl true) ∧ Same H H2) ⟨Nat.zero_le _, rfl, same_up (Same.refl H) hl0⟩ (line_leB (by omega)) (fun i ys H2 h => by obtain ⟨_, rfl, _⟩ := h; exact List.length_replicate)
      (fun i ys H2 hi h hy => ?_) (fun ys H2 h hy => ?_)⟩
    · obtain ⟨_, rfl, s2⟩ := h
      have hiu : i < us.length := by omega
      have e0 : (0 : Int) + (i : Int) = (i : Int) := by omega
      have ed : ds[i]? = some ds[i] := List.getElem?_eq_getElem (by omega)
      obtain ⟨x, ex, dx⟩ := ra.get ed
      obtain ⟨y, ey, dy⟩ := rb.get ed
      have dl := D.depL_get ed
      refine ⟨_, rfl, _, rfl, .inl ⟨a, _, _, x, rfl, rfl, s2.seq sa, (by rw [e0]; exact atI_nat ex), ?_⟩⟩
      refine ⟨_, rfl, _, rfl, .inl ⟨b, _, _, y, rfl, rfl, s2.seq sb, (by rw [e0]; exact atI_nat ey), ?_⟩⟩
      refine ⟨x, y, ds[i], rfl, dx.mono s2, dy.mono s2, by omega, D.fewBL_get hfew.2 ed, fun H3 s3 => ⟨s3 _ _ hy, hiu, ?_, same_over (s2.trans s3) hl0⟩⟩
      rw [List.replicate_succ']
    · obtain ⟨_, rfl, s2⟩ := h
      refine ⟨l, List.replicate ((us.length : Int).toNat) true, rfl, ?_, ?_⟩
      · rw [List.map_replicate]; exact SqL.of hy
      · have e : (List.replicate ((us.length : Int).toNat) true).all id = true := by simp
        rw [e]
        exact q _ s2
theorem like_none : FnOk P w K mg base CX 1 f fd ["_law_found", "_law_due"] (spLikeB K 0) := by
  have no : ∀ vs H Q E, ¬ spLikeB K 0 vs H Q E := fun vs H Q E h => by
    obtain ⟨a, b, d, _, _, _, hd, _⟩ := h
    omega
  exact ⟨fun vs H Q E h => absurd h (no vs H Q E), fun A outer s H args us vs Q E _ _ _ _ h => absurd h (no vs H Q E)⟩
theorem all_like (F : Fun K "_law_like" "_law_like" sLike f fd) (B : Blt mg) (G : FnOk P w K mg base CX 1 g gd ["_law_found"] (spWhole K)) (bG : Binds K gd ["_law_found"] []) (kG : PySem.W.keepIn K (.ref g) = true) (mG : mg "_law_whole" = some (.ref g))
    (bL : Binds K fd ["_law_found", "_law_due"] []) (kL : PySem.W.keepIn K (.ref f) = true) (mL : mg "_law_like" = some (.ref f)) : ∀ n : Nat, FnOk P w K mg base CX (n + 1) f fd ["_law_found", "_law_due"] (spLikeB K n)
  | 0 => like_none
  | n + 1 => ok_like F B G bG kG mG (all_like F B G bG kG mG bL kL mL n) bL kL mL
end
end Gu

set_option Elab.async false
set_option linter.all false
set_option maxRecDepth 100000
set_option maxHeartbeats 4000000
namespace Gu
open PySem L2
section
variable {P : Program} {w : World} {K : PySem.W.Frag} {mg : Str → Option Value} {base : Heap} {f g : Addr} {fd gd : FuncData} {CX : CXT} [NoE CX]
abbrev nMP8 : List Str := ["_law_kind", "_law_text", "_law_small", "_law_figures"]
theorem scMP8 : FnScope nMP8 ["_law_kind", "_law_text"] (defScope sMeantP) := ⟨rfl, rfl, rfl, by decide +kernel, rfl, by decide +kernel, by decide +kernel⟩
theorem csMP8 : CompS nMP8 (defScope sMeantP) ["_law_sign"] [none] (csc [(".0", .local), ("_law_sign", .local), ("int", .globalImplicit)]) := ⟨rfl, by decide +kernel, by decide +kernel, by decide +kernel, rfl, by decide +kernel, by decide +kernel⟩
theorem ok_meantp8 {n : Nat} (ml : mg "len" = none) (mt : mg "tuple" = none) (mint : mg "int" = none) (F : Fun K "_law_meant_part" "_law_meant_part" sMeantP f fd)
    {aAl : Addr} {dAl : FuncData} (A1 : FnOk P w K mg base CX 1 aAl dAl ["_law_text", "_law_signs_here"] spAllOf) (bAl : Binds K dAl ["_law_text", "_law_signs_here"] []) (kAl : PySem.W.keepIn K (.ref aAl) = true) (mAl : mg "_law_all_of" = some (.ref aAl))
    (L : FnOk P w K mg base CX (n + 1) f fd ["_law_kind", "_law_text"] (spMeantP K n)) (bL : Binds K fd ["_law_kind", "_law_text"] []) (kL : PySem.W.keepIn K (.ref f) = true) (mL : mg "_law_meant_part" = some (.ref f)) : FnOk P w K mg base CX (n + 2) f fd ["_law_kind", "_law_text"] (spMeantP K (n + 1)) := by
  have Al := A1.mono (show 1 ≤ n + 1 by omega)
  refine F.okc scMP8 (fun vs H Q E h => ?_) (fun cdv A outer s H vs Q E hr h => ?_)
  · obtain ⟨k, x, g, r, rfl, _⟩ := h
    rfl
  obtain ⟨k, x, g, r, rfl, hx, hm, hrn, gv, qn⟩ := h
  refine ⟨_, pss_cons (ps_set (i := 2) scMP8.nd rfl (Or.inl rfl) pe_str)
    (pss_cons (ps_if (pt_cmpR op_eq (pv 0) pe_str (nomark _)) (pss_one (ps_ret (pe_ifExp (PW.pt (pw_and (pt_val (pe_call Al hr rfl mAl kAl bAl .nil passN (pa_cons (pv 1) (pa_cons (pv 2) pa_nil)))) (pw_and1 (pt_cmpR op_le (pe_callB call_len_str rfl ml PySem.boot_len (pa_cons (pv 1) pa_nil)) pe_int (nomark _))))) (pv 1) pe_non))) pss_nil)
    (pss_cons (ps_if (PW.pt (pw_and (pt_cmpR op_eq (pv 0) pe_str (nomark _)) (pw_and1 (pt_cmpR op_eq (pv 1) pe_str (nomark _))))) (pss_one (ps_ret (pe_tup pa_nil))) pss_nil)
    (pss_cons (ps_if (pt_cmpR op_in_seq (pv 0) (pe_tup (pa_cons pe_str (pa_cons pe_str pa_nil))) rfl) (pss_one (ps_ret (pe_ifExp (pt_val (pe_call Al hr rfl mAl kAl bAl .nil passN (pa_cons (pv 1) (pa_cons pe_str pa_nil)))) (pe_callTy call_tuple_of rfl mt PyProof.Rows.boot_tuple (pa_cons (pe_comp rfl csMP8 (pi_str (pv 1)) (fun _ _ _ _ _ => pg_name (i := 0) csMP8.nd rfl (Or.inl rfl)) (fun _ _ _ _ _ => pe_callTy call_int_text rfl mint PyProof.Rows.boot_int (pa_cons (pv 0) pa_nil))) pa_nil)) pe_non))) pss_nil)
    (pss_cons (ps_if (PW.pt (pw_and (pt_cmpR op_eq (pv 0) pe_str (nomark _)) (pw_and1 (pt_val (pe_call Al hr rfl mAl kAl bAl .nil passN (pa_cons (pe_slice sl_str (pv 1) po_none (po_some pe_int)) (pa_cons (pv 2) pa_nil))))))) (pss_one (ps_ret (pe_call L hr rfl mL kL bL .nil passN (pa_cons pe_str (pa_cons (pv 1) pa_nil))))) pss_nil)
    (pss_cons (ps_set (i := 3) scMP8.nd rfl (Or.inl rfl) (pe_ifExp (PW.pt (pw_and (pt_cmpR op_eq (pv 0) pe_str (nomark _)) (pw_and (pt_cmpR op_eq (pe_slice sl_str (pv 1) po_none (po_some pe_int)) pe_str (nomark _)) (pw_and1 (pt_cmpR op_ne (pv 1) pe_str (nomark _)))))) (pe_slice sl_str (pv 1) (po_some pe_int) po_none) (pv 1)))
    (pss_cons (ps_if (PW.pt (pw_or (pt_not (pt_val (pe_call Al hr rfl mAl kAl bAl .nil passN (pa_cons (pv 3) (pa_cons pe_str pa_nil))))) (pw_or (pt_cmpR op_gt (pe_callB call_len_str rfl ml PySem.boot_len (pa_cons (pv 3) pa_nil)) pe_int (nomark _)) (pw_or1 (PW.pt (pw_and (pt_cmpR op_eq (pe_ix ix_str (pv 3) pe_int (fun _ _ => rfl)) pe_str (nomark _)) (pw_and1 (pt_cmpR op_ne (pv 3) pe_str (nomark _))))))))) (pss_one (ps_ret pe_non)) pss_nil)
    (pss_one (ps_ret (pe_callTy call_int_text rfl mint PyProof.Rows.boot_int (pa_cons (pv 1) pa_nil)))))))))), ?_⟩
  have hxs : x.length ≤ sizeLine := line_leB (by omega)
  cases hm with
  | name =>
    unfold nameM at gv qn
    rw [nameB_eq] at gv qn
    refine ⟨_, rfl, rfl, _, rfl, ite2 (fun _ => ?_) (fun c => absurd (by decide +kernel) c)⟩
    refine ⟨_, rfl, _, rfl, x, _, smallF, rfl, hx, .inl ⟨rfl, rfl⟩, fun H1 s1 => ?_⟩
    cases hb : (decide (0 < x.length) && (sg x).all smallF) with
    | false =>
      rw [hb, Bool.false_and, if_neg Bool.false_ne_true] at qn
      exact ⟨_, rfl, iteF (iteF (qn rfl H1 s1))⟩
    | true =>
      rw [hb, Bool.true_and] at gv qn
      refine ⟨_, rfl, iteT ⟨_, rfl, x, rfl, hxs, _, _, rfl, rfl, _, rfl, ?_⟩⟩
      by_cases h12 : x.length ≤ 12
      · rw [if_pos (decide_eq_true h12)] at gv
        refine ite2 (fun _ => ⟨_, rfl, gv _ rfl _ H1 s1 (by simp only [Dr])⟩) (fun c => absurd (decide_eq_true (show (x.length : Int) ≤ 12 by omega)) c)
      · rw [if_neg (by rw [decide_eq_false h12]; exact Bool.false_ne_true)] at qn
        refine ite2 (fun c => absurd (of_decide_eq_true c) (show ¬ (x.length : Int) ≤ 12 by omega)) (fun _ => qn rfl H1 s1)
  | number =>
    unfold numM at gv qn
    rw [num_law] at gv qn
    have bad : plainFig (lawFig x) = false → ∀ Hx, Same H Hx → Q .non Hx := fun z => by rw [if_neg (by rw [z]; exact Bool.false_ne_true)] at qn; exact qn rfl
    have good : plainFig (lawFig x) = true → ∀ Hx, Same H Hx → intText? x = some (numV x) ∧ x.length ≤ 640 ∧ Q (.int (numV x)) Hx := fun z Hx sx => by
      have hb : numB x = true := by rw [num_law]; exact z
      rw [if_pos z] at gv
      exact ⟨(numB_int hb).1, by have := (numB_int hb).2; omega, gv _ rfl _ Hx sx (by simp only [Dr])⟩

    refine seqG fun R1 hR1 => ?_
    refine atR (R := R1) hR1 ?_
    clear hR1
    refine seqG fun R1 hR1 => ?_
    refine ⟨_, rfl, rfl, _, rfl, ite2 (fun c => absurd c (by decide +kernel)) (fun _ => ?_)⟩
    refine atR (R := R1) hR1 ?_
    clear hR1
    refine seqG fun R1 hR1 => ?_
    refine ⟨_, rfl, rfl, _, rfl, ite2 (fun c => absurd c (by decide +kernel)) (fun _ => ?_)⟩
    refine iteF ?_
    refine atR (R := R1) hR1 ?_
    clear hR1
    refine seqG fun R1 hR1 => ?_
    refine ⟨_, rfl, show 2 ≤ sizeLine by decide, fun t4 ht4 => ?_⟩
    have s4 : Same H (upd H t4 (.tup [V.str (Str.ofString "word"), V.str (Str.ofString "ring")])) := same_up (Same.refl H) ht4
    have e4 : upd H t4 (.tup [V.str (Str.ofString "word"), V.str (Str.ofString "ring")]) t4 = some (.tup [V.str (Str.ofString "word"), V.str (Str.ofString "ring")]) := upd_same
    generalize upd H t4 (.tup [V.str (Str.ofString "word"), V.str (Str.ofString "ring")]) = H4 at s4 e4 ⊢

    refine ⟨t4, _, rfl, .inr (SqT.of e4), rfl, rfl, _, rfl, ite2 (fun c => absurd c (by decide +kernel)) (fun _ => ?_)⟩
    refine atR (R := R1) hR1 ?_
    clear hR1
    refine seqG fun R1 hR1 => ?_
    refine ⟨_, rfl, rfl, _, rfl, ite2 (fun c => absurd c (by decide +kernel)) (fun _ => ?_)⟩
    refine iteF ?_
    refine atR (R := R1) hR1 ?_
    clear hR1
    refine cutQ (fun σ H' => σ = [some (V.str (str "number")), some (.str x), some (.str (Str.ofString "abcdefghijklmnopqrstuvwxyz")), some (.str (lawFig x))] ∧ H' = H4) (fun Ed nxE => ?_) (fun σ H' h => ?_)
    · refine ⟨_, rfl, rfl, _, rfl, ite2 (fun _ => ?_) (fun c => absurd (by decide +kernel) c)⟩
      refine ⟨_, rfl, 1, rfl, x, rfl, hxs, rfl, _, rfl, ite2 (fun c => ?_) (fun c => ?_)⟩
      · have hm1 : (sg x).head? = some 45 := by
          have z := V.str.inj (of_decide_eq_true c)
          have z2 := sg_to1 x
          rw [z, show sg (Str.ofString "-") = [45] by decide +kernel] at z2
          cases hs : sg x with
          | nil => rw [hs] at z2; cases z2
          | cons a b => rw [hs, List.take_succ_cons, List.take_zero] at z2; rw [List.head?_cons, ← List.head_eq_of_cons_eq z2]
        refine ⟨_, rfl, rfl, _, rfl, ite2 (fun c2 => ?_) (fun c2 => ?_)⟩
        · have c2' : x ≠ str "-0" := fun z => by rw [decide_eq_true (show V.str x = V.str (Str.ofString "-0") by rw [z])] at c2; cases c2
          refine ⟨_, rfl, 1, rfl, x, rfl, hxs, ?_⟩
          cases hs : sg x with
          | nil => rw [hs] at hm1; cases hm1
          | cons a b =>
            have e : lawFig x = Txt.slice x (some 1) none := by unfold lawFig; rw [if_pos ⟨hm1, c2'⟩, from1 hs, hs, List.tail_cons]
            rw [← e]
            exact nxE _ _ ⟨rfl, rfl⟩
        · have c2' : x = str "-0" := Decidable.byContradiction fun z => c2 (by rw [decide_eq_false (fun y => z (V.str.inj y))]; rfl)
          have e : lawFig x = x := by unfold lawFig; rw [if_neg (fun z => z.2 c2')]
          exact ⟨_, rfl, nxE _ _ ⟨by rw [e]; rfl, rfl⟩⟩
      · have hm1 : (sg x).head? ≠ some 45 := fun z => c (decide_eq_true (congrArg V.str (sg_inj (by
          rw [sg_to1, show sg (Str.ofString "-") = [45] by decide +kernel]
          cases hs : sg x with
          | nil => rw [hs] at z; cases z
          | cons a b => rw [hs, List.head?_cons] at z; rw [List.take_succ_cons, List.take_zero, Option.some.inj z]))))
        have e : lawFig x = x := by unfold lawFig; rw [if_neg (fun z => hm1 z.1)]
        exact iteF ⟨_, rfl, nxE _ _ ⟨by rw [e]; rfl, rfl⟩⟩
    · obtain ⟨rfl, rfl⟩ := h
      have hF : (lawFig x).length ≤ 900000 := by
        unfold lawFig
        split
        · show ((sg x).tail.toArray).size ≤ _
          rw [List.size_toArray, List.length_tail, sg_len]; omega
        · exact hx
      refine ⟨_, rfl, lawFig x, _, figF, rfl, hF, .inr ⟨rfl, rfl⟩, fun H5 s5 => ?_⟩
      have s05 := s4.trans s5
      have hFs : (lawFig x).length ≤ sizeLine := line_leB (by omega)
      cases hf : (decide (0 < (lawFig x).length) && (sg (lawFig x)).all figF) with
      | false =>
        have hp : plainFig (lawFig x) = false := by unfold plainFig; rw [figsB_eq, hf]; rfl
        exact ⟨_, rfl, iteT (bad hp H5 s05)⟩
      | true =>
        obtain ⟨c0, r0, hs0, hd0⟩ := figsB_signs (x := lawFig x) (by rw [figsB_eq]; exact hf)
        have hpf : plainFig (lawFig x) = (decide ((lawFig x).length ≤ 60) && !(decide (c0 = 48) && decide (lawFig x ≠ str "0"))) := by
          unfold plainFig
          rw [figsB_eq, hf, Bool.true_and, hs0, List.head?_cons]
          congr 3
          exact decide_eq_decide.mpr ⟨fun z => Option.some.inj z, fun z => by rw [z]⟩
        refine ⟨_, rfl, iteF ⟨_, rfl, lawFig x, rfl, hFs, _, _, rfl, rfl, _, rfl, ite2 (fun c => ?_) (fun c => ?_)⟩⟩
        · have c' : ((lawFig x).length : Int) > 60 := of_decide_eq_true c
          exact bad (by rw [hpf, decide_eq_false (by omega)]; rfl) H5 s05
        · have c' : ¬ ((lawFig x).length : Int) > 60 := fun z => c (decide_eq_true z)
          rw [decide_eq_true (show (lawFig x).length ≤ 60 by omega), Bool.true_and] at hpf
          have fin : plainFig (lawFig x) = true → intText? x = some (numV x) ∧ x.length ≤ 640 ∧ Q (.int (numV x)) H5 := fun z => good z H5 s05
          refine ⟨_, rfl, lawFig x, _, c0, rfl, rfl, hFs, atI_nat (j := 0) (show (sg (lawFig x))[0]? = some c0 by rw [hs0]; rfl), rfl, _, rfl, ite2 (fun c2 => ?_) (fun c2 => ?_)⟩
          · have h48 : c0 = 48 := by
              have z := V.str.inj (of_decide_eq_true c2)
              have z2 : [c0] = sg (str "0") := by rw [← show (⟨#[c0]⟩ : Str) = str "0" from z]
              rw [show sg (str "0") = [48] by decide +kernel] at z2
              exact List.head_eq_of_cons_eq z2
            rw [decide_eq_true h48, Bool.true_and] at hpf
            refine ⟨_, rfl, rfl, _, rfl, ite2 (fun c3 => ?_) (fun c3 => ?_)⟩
            · have c3' : (lawFig x) ≠ str "0" := fun z => by rw [decide_eq_true (show V.str (lawFig x) = V.str (Str.ofString "0") by rw [z])] at c3; cases c3
              exact bad (by rw [hpf, decide_eq_true c3']; rfl) H5 s05
            · have c3' : (lawFig x) = str "0" := Decidable.byContradiction fun z => c3 (by rw [decide_eq_false (fun y => z (V.str.inj y))]; rfl)
              rw [decide_eq_false (fun z => z c3')] at hpf
              obtain ⟨f1, f2, f3⟩ := fin hpf
              exact ⟨_, rfl, x, numV x, rfl, f1, f2, f3⟩
          · have h48 : c0 ≠ 48 := fun z => c2 (by rw [z]; decide +kernel)
            rw [decide_eq_false h48, Bool.false_and] at hpf
            obtain ⟨f1, f2, f3⟩ := fin hpf
            exact iteF ⟨_, rfl, x, numV x, rfl, f1, f2, f3⟩

  | word =>
    refine seqG fun R1 hR1 => ?_
    refine atR (R := R1) hR1 ?_
    clear hR1
    refine seqG fun R1 hR1 => ?_
    refine ⟨_, rfl, rfl, _, rfl, ite2 (fun c => absurd c (by decide +kernel)) (fun _ => ?_)⟩
    refine atR (R := R1) hR1 ?_
    clear hR1
    refine seqG fun R1 hR1 => ?_
    refine ⟨_, rfl, rfl, _, rfl, ite2 (fun _ => ?_) (fun c => absurd (by decide +kernel) c)⟩
    refine ⟨_, rfl, rfl, _, rfl, ite2 (fun c => ?_) (fun c => ?_)⟩
    · have c' : x = str "-" := V.str.inj (of_decide_eq_true c)
      refine ⟨Nat.zero_le _, fun q hq => gv (D.its []) (by unfold wordM; rw [if_pos c']) _ _ (same_up (Same.refl H) hq) (Dr.tup upd_same DrL.nil)⟩
    have c' : x ≠ str "-" := fun z => c (decide_eq_true (by rw [z]))
    unfold wordM at gv qn
    rw [if_neg c'] at gv qn
    refine atR (R := R1) hR1 ?_
    clear hR1
    refine ⟨_, rfl, show 2 ≤ sizeLine by decide, fun t4 ht4 => ?_⟩
    have s4 : Same H (upd H t4 (.tup [V.str (Str.ofString "word"), V.str (Str.ofString "ring")])) := same_up (Same.refl H) ht4
    have e4 : upd H t4 (.tup [V.str (Str.ofString "word"), V.str (Str.ofString "ring")]) t4 = some (.tup [V.str (Str.ofString "word"), V.str (Str.ofString "ring")]) := upd_same
    generalize upd H t4 (.tup [V.str (Str.ofString "word"), V.str (Str.ofString "ring")]) = H4 at s4 e4 ⊢
    refine ⟨t4, _, rfl, .inr (SqT.of e4), rfl, rfl, _, rfl, ite2 (fun _ => ?_) (fun c => absurd (by decide +kernel) c)⟩
    unfold ringM at gv qn
    refine ⟨_, rfl, x, _, figF, rfl, hx, .inr ⟨rfl, rfl⟩, fun H1 s1' => ?_⟩
    have s1 := s4.trans s1'
    cases hf : (decide (0 < x.length) && (sg x).all figF) with
    | false =>
      rw [if_neg (by rw [figsB_eq, hf]; exact Bool.false_ne_true)] at qn
      exact ⟨_, rfl, iteF (qn rfl H1 s1)⟩
    | true =>
      have hfb : figsB x = true := by rw [figsB_eq]; exact hf
      rw [if_pos hfb] at gv
      obtain ⟨c0, r0, hs0, hd⟩ := figsB_signs hfb
      have hdl := digs_len x
      refine ⟨_, rfl, iteT ?_⟩
      refine ⟨_, rfl, x, rfl, fun l hl1 => comp_str (x := x) (fun i ys H2 => i ≤ x.length ∧ Same H1 H2 ∧ ys = ((digs x).take i).map V.int) ⟨Nat.zero_le _, same_up (Same.refl H1) hl1, rfl⟩ (line_leB (by omega)) (fun i ys H2 h => by rw [h.2.2, List.length_map, List.length_take, hdl]; have := h.1; omega) (fun i c ys H2 hc h hy => ?_) (fun ys H2 h hy => ?_)⟩
      · obtain ⟨hi, s2, rfl⟩ := h
        have hil := (List.getElem?_eq_some_iff.mp hc).1
        rw [sg_len] at hil
        obtain ⟨n0, n9⟩ := hd c (List.mem_of_getElem? hc)
        have hn : (digs x)[i]? = some ((c : Int) - 48) := by unfold digs; rw [List.getElem?_map, hc]; rfl
        have hi1 := int_sign (i := (c : Int) - 48) (by omega) (by omega)
        have ec : 48 + ((c : Int) - 48).toNat = c := by omega
        rw [ec] at hi1
        refine ⟨_, rfl, _, (c : Int) - 48, rfl, hi1, (by show 1 ≤ 640; decide), hy, by omega, same_over s2 hl1, ?_⟩
        rw [List.take_add_one, hn, Option.toList_some, List.map_append, List.map_singleton]
      · obtain ⟨_, s2, rfl⟩ := h
        rw [← hdl, List.take_length] at hy
        refine ⟨l, _, rfl, .inl ⟨SqL.of hy, fun q hq => ?_⟩⟩
        exact gv _ rfl _ _ (s1.trans (same_up s2 hq)) (Dr.tup upd_same (DrL.ints _))

  | ring =>
    refine seqG fun R1 hR1 => ?_
    refine atR (R := R1) hR1 ?_
    clear hR1
    refine seqG fun R1 hR1 => ?_
    refine ⟨_, rfl, rfl, _, rfl, ite2 (fun c => absurd c (by decide +kernel)) (fun _ => ?_)⟩
    refine atR (R := R1) hR1 ?_
    clear hR1
    refine seqG fun R1 hR1 => ?_
    refine ⟨_, rfl, rfl, _, rfl, ite2 (fun c => absurd c (by decide +kernel)) (fun _ => ?_)⟩
    refine iteF ?_
    refine atR (R := R1) hR1 ?_
    clear hR1
    refine ⟨_, rfl, show 2 ≤ sizeLine by decide, fun t4 ht4 => ?_⟩
    have s4 : Same H (upd H t4 (.tup [V.str (Str.ofString "word"), V.str (Str.ofString "ring")])) := same_up (Same.refl H) ht4
    have e4 : upd H t4 (.tup [V.str (Str.ofString "word"), V.str (Str.ofString "ring")]) t4 = some (.tup [V.str (Str.ofString "word"), V.str (Str.ofString "ring")]) := upd_same
    generalize upd H t4 (.tup [V.str (Str.ofString "word"), V.str (Str.ofString "ring")]) = H4 at s4 e4 ⊢
    refine ⟨t4, _, rfl, .inr (SqT.of e4), rfl, rfl, _, rfl, ite2 (fun _ => ?_) (fun c => absurd (by decide +kernel) c)⟩
    unfold ringM at gv qn
    refine ⟨_, rfl, x, _, figF, rfl, hx, .inr ⟨rfl, rfl⟩, fun H1 s1' => ?_⟩
    have s1 := s4.trans s1'
    cases hf : (decide (0 < x.length) && (sg x).all figF) with
    | false =>
      rw [if_neg (by rw [figsB_eq, hf]; exact Bool.false_ne_true)] at qn
      exact ⟨_, rfl, iteF (qn rfl H1 s1)⟩
    | true =>
      have hfb : figsB x = true := by rw [figsB_eq]; exact hf
      rw [if_pos hfb] at gv
      obtain ⟨c0, r0, hs0, hd⟩ := figsB_signs hfb
      have hdl := digs_len x
      refine ⟨_, rfl, iteT ?_⟩
      refine ⟨_, rfl, x, rfl, fun l hl1 => comp_str (x := x) (fun i ys H2 => i ≤ x.length ∧ Same H1 H2 ∧ ys = ((digs x).take i).map V.int) ⟨Nat.zero_le _, same_up (Same.refl H1) hl1, rfl⟩ (line_leB (by omega)) (fun i ys H2 h => by rw [h.2.2, List.length_map, List.length_take, hdl]; have := h.1; omega) (fun i c ys H2 hc h hy => ?_) (fun ys H2 h hy => ?_)⟩
      · obtain ⟨hi, s2, rfl⟩ := h
        have hil := (List.getElem?_eq_some_iff.mp hc).1
        rw [sg_len] at hil
        obtain ⟨n0, n9⟩ := hd c (List.mem_of_getElem? hc)
        have hn : (digs x)[i]? = some ((c : Int) - 48) := by unfold digs; rw [List.getElem?_map, hc]; rfl
        have hi1 := int_sign (i := (c : Int) - 48) (by omega) (by omega)
        have ec : 48 + ((c : Int) - 48).toNat = c := by omega
        rw [ec] at hi1
        refine ⟨_, rfl, _, (c : Int) - 48, rfl, hi1, (by show 1 ≤ 640; decide), hy, by omega, same_over s2 hl1, ?_⟩
        rw [List.take_add_one, hn, Option.toList_some, List.map_append, List.map_singleton]
      · obtain ⟨_, s2, rfl⟩ := h
        rw [← hdl, List.take_length] at hy
        refine ⟨l, _, rfl, .inl ⟨SqL.of hy, fun q hq => ?_⟩⟩
        exact gv _ rfl _ _ (s1.trans (same_up s2 hq)) (Dr.tup upd_same (DrL.ints _))

  | going =>
    refine seqG fun R1 hR1 => ?_
    refine atR (R := R1) hR1 ?_
    clear hR1
    refine seqG fun R1 hR1 => ?_
    refine ⟨_, rfl, rfl, _, rfl, ite2 (fun c => absurd c (by decide +kernel)) (fun _ => ?_)⟩
    refine atR (R := R1) hR1 ?_
    clear hR1
    refine seqG fun R1 hR1 => ?_
    refine ⟨_, rfl, rfl, _, rfl, ite2 (fun c => absurd c (by decide +kernel)) (fun _ => ?_)⟩
    refine iteF ?_
    refine atR (R := R1) hR1 ?_
    clear hR1
    refine seqG fun R1 hR1 => ?_
    refine ⟨_, rfl, show 2 ≤ sizeLine by decide, fun t4 ht4 => ?_⟩
    have s4 : Same H (upd H t4 (.tup [V.str (Str.ofString "word"), V.str (Str.ofString "ring")])) := same_up (Same.refl H) ht4
    have e4 : upd H t4 (.tup [V.str (Str.ofString "word"), V.str (Str.ofString "ring")]) t4 = some (.tup [V.str (Str.ofString "word"), V.str (Str.ofString "ring")]) := upd_same
    generalize upd H t4 (.tup [V.str (Str.ofString "word"), V.str (Str.ofString "ring")]) = H4 at s4 e4 ⊢
    refine ⟨t4, _, rfl, .inr (SqT.of e4), rfl, rfl, _, rfl, ite2 (fun c => absurd c (by decide +kernel)) (fun _ => ?_)⟩
    refine atR (R := R1) hR1 ?_
    clear hR1
    refine seqG fun R1 hR1 => ?_
    refine ⟨_, rfl, rfl, _, rfl, ite2 (fun _ => ?_) (fun c => absurd (by decide +kernel) c)⟩
    have s1l := Txt.slice_le x none (some 1)
    refine ⟨_, rfl, 1, rfl, x, rfl, hxs, _, rfl, Txt.slice x none (some 1), _, smallF, rfl, by omega, .inl ⟨rfl, rfl⟩, fun H1 s1' => ?_⟩
    have s1 := s4.trans s1'
    cases hf : (decide (0 < (Txt.slice x none (some 1)).length) && (sg (Txt.slice x none (some 1))).all smallF) with
    | true =>
      rw [Bool.and_eq_true] at hf
      obtain ⟨hf1, hf2⟩ := hf
      rw [sg_to1] at hf2
      have hf1' := of_decide_eq_true hf1
      rw [← sg_len, sg_to1] at hf1'
      cases hs : sg x with
      | nil => rw [hs] at hf1'; simp at hf1'
      | cons a b =>
        rw [hs, List.take_succ_cons, List.take_zero, List.all_cons, List.all_nil, Bool.and_true] at hf2
        rw [go_name (c := a) (by rw [hs]; rfl) hf2] at gv qn
        exact ⟨_, rfl, iteT ⟨_, rfl, str "name", x, nameM, 0, rfl, hx, .name, by omega, fun d hd v H2 s2 dv => gv d hd v H2 (s1.trans s2) dv, fun z H2 s2 => qn z H2 (s1.trans s2)⟩⟩
    | false =>
      have hno : ∀ a, (sg x).head? = some a → smallF a = false := fun a ha => by
        cases hs : sg x with
        | nil => rw [hs] at ha; cases ha
        | cons a' b =>
          rw [hs, List.head?_cons] at ha
          have := Option.some.inj ha
          subst this
          rw [← sg_len, sg_to1, hs, List.take_succ_cons, List.take_zero, List.all_cons, List.all_nil, Bool.and_true] at hf
          exact hf
      rw [go_num hno] at gv qn
      have bad : plainFig (x) = false → ∀ Hx, Same H Hx → Q .non Hx := fun z => by rw [if_neg (by rw [z]; exact Bool.false_ne_true)] at qn; exact qn rfl
      have good : plainFig (x) = true → ∀ Hx, Same H Hx → intText? x = some (numV x) ∧ x.length ≤ 640 ∧ Q (.int (numV x)) Hx := fun z Hx sx => by
        have hb : numB x = true := go_numB hno z
        rw [if_pos z] at gv
        exact ⟨(numB_int hb).1, by have := (numB_int hb).2; omega, gv _ rfl _ Hx sx (by simp only [Dr])⟩


      refine ⟨_, rfl, iteF ?_⟩
      refine atR (R := R1) hR1 ?_
      clear hR1
      refine seqG fun R1 hR1 => ?_
      refine ⟨_, rfl, rfl, _, rfl, ite2 (fun c => absurd c (by decide +kernel)) (fun _ => ?_)⟩
      refine iteF ⟨_, rfl, ?_⟩
      refine atR (R := R1) hR1 ?_
      clear hR1
      have hF := hx
      refine ⟨_, rfl, x, _, figF, rfl, hF, .inr ⟨rfl, rfl⟩, fun H5 s5 => ?_⟩
      have s05 := s1.trans s5
      have hFs : (x).length ≤ sizeLine := line_leB (by omega)
      cases hf : (decide (0 < (x).length) && (sg (x)).all figF) with
      | false =>
        have hp : plainFig (x) = false := by unfold plainFig; rw [figsB_eq, hf]; rfl
        exact ⟨_, rfl, iteT (bad hp H5 s05)⟩
      | true =>
        obtain ⟨c0, r0, hs0, hd0⟩ := figsB_signs (x := x) (by rw [figsB_eq]; exact hf)
        have hpf : plainFig (x) = (decide ((x).length ≤ 60) && !(decide (c0 = 48) && decide (x ≠ str "0"))) := by
          unfold plainFig
          rw [figsB_eq, hf, Bool.true_and, hs0, List.head?_cons]
          congr 3
          exact decide_eq_decide.mpr ⟨fun z => Option.some.inj z, fun z => by rw [z]⟩
        refine ⟨_, rfl, iteF ⟨_, rfl, x, rfl, hFs, _, _, rfl, rfl, _, rfl, ite2 (fun c => ?_) (fun c => ?_)⟩⟩
        · have c' : ((x).length : Int) > 60 := of_decide_eq_true c
          exact bad (by rw [hpf, decide_eq_false (by omega)]; rfl) H5 s05
        · have c' : ¬ ((x).length : Int) > 60 := fun z => c (decide_eq_true z)
          rw [decide_eq_true (show (x).length ≤ 60 by omega), Bool.true_and] at hpf
          have fin : plainFig (x) = true → intText? x = some (numV x) ∧ x.length ≤ 640 ∧ Q (.int (numV x)) H5 := fun z => good z H5 s05
          refine ⟨_, rfl, x, _, c0, rfl, rfl, hFs, atI_nat (j := 0) (show (sg (x))[0]? = some c0 by rw [hs0]; rfl), rfl, _, rfl, ite2 (fun c2 => ?_) (fun c2 => ?_)⟩
          · have h48 : c0 = 48 := by
              have z := V.str.inj (of_decide_eq_true c2)
              have z2 : [c0] = sg (str "0") := by rw [← show (⟨#[c0]⟩ : Str) = str "0" from z]
              rw [show sg (str "0") = [48] by decide +kernel] at z2
              exact List.head_eq_of_cons_eq z2
            rw [decide_eq_true h48, Bool.true_and] at hpf
            refine ⟨_, rfl, rfl, _, rfl, ite2 (fun c3 => ?_) (fun c3 => ?_)⟩
            · have c3' : (x) ≠ str "0" := fun z => by rw [decide_eq_true (show V.str (x) = V.str (Str.ofString "0") by rw [z])] at c3; cases c3
              exact bad (by rw [hpf, decide_eq_true c3']; rfl) H5 s05
            · have c3' : (x) = str "0" := Decidable.byContradiction fun z => c3 (by rw [decide_eq_false (fun y => z (V.str.inj y))]; rfl)
              rw [decide_eq_false (fun z => z c3')] at hpf
              obtain ⟨f1, f2, f3⟩ := fin hpf
              exact ⟨_, rfl, x, numV x, rfl, f1, f2, f3⟩
          · have h48 : c0 ≠ 48 := fun z => c2 (by rw [z]; decide +kernel)
            rw [decide_eq_false h48, Bool.false_and] at hpf
            obtain ⟨f1, f2, f3⟩ := fin hpf
            exact iteF ⟨_, rfl, x, numV x, rfl, f1, f2, f3⟩

theorem meantp_none : FnOk P w K mg base CX 1 f fd ["_law_kind", "_law_text"] (spMeantP K 0) := by
  have no : ∀ vs H Q E, ¬ spMeantP K 0 vs H Q E := fun vs H Q E h => by
    obtain ⟨_, _, _, r, _, _, _, hd, _⟩ := h
    omega
  exact ⟨fun vs H Q E h => absurd h (no vs H Q E), fun A outer s H args us vs Q E _ _ _ _ h => absurd h (no vs H Q E)⟩
theorem all_meantp8 (ml : mg "len" = none) (mt : mg "tuple" = none) (mint : mg "int" = none) (F : Fun K "_law_meant_part" "_law_meant_part" sMeantP f fd)
    {aAl : Addr} {dAl : FuncData} (A1 : FnOk P w K mg base CX 1 aAl dAl ["_law_text", "_law_signs_here"] spAllOf) (bAl : Binds K dAl ["_law_text", "_law_signs_here"] []) (kAl : PySem.W.keepIn K (.ref aAl) = true) (mAl : mg "_law_all_of" = some (.ref aAl))
    (bL : Binds K fd ["_law_kind", "_law_text"] []) (kL : PySem.W.keepIn K (.ref f) = true) (mL : mg "_law_meant_part" = some (.ref f)) : ∀ n : Nat, FnOk P w K mg base CX (n + 1) f fd ["_law_kind", "_law_text"] (spMeantP K n)
  | 0 => meantp_none
  | n + 1 => ok_meantp8 ml mt mint F A1 bAl kAl mAl (all_meantp8 ml mt mint F A1 bAl kAl mAl bL kL mL n) bL kL mL
end
end Gu

set_option Elab.async false
set_option linter.all false
set_option maxRecDepth 100000
set_option maxHeartbeats 4000000
namespace Gu
open PySem L2
section
variable {P : Program} {w : World} {K : PySem.W.Frag} {mg : Str → Option Value} {base : Heap} {f g : Addr} {fd gd : FuncData} {CX : CXT} [NoE CX]
abbrev nMR8 : List Str := ["_law_parts", "_law_rows", "_law_row", "_law_words", "_law_goings"]
theorem scMR8 : FnScope nMR8 ["_law_parts"] (defScope sMeantR) := ⟨rfl, rfl, rfl, by decide +kernel, rfl, by decide +kernel, by decide +kernel⟩
theorem csMR8 : CompS nMR8 (defScope sMeantR) ["_law_word"] [none] (csc [(".0", .local), ("_law_word", .local), ("_law_meant_part", .globalImplicit)]) := ⟨rfl, by decide +kernel, by decide +kernel, by decide +kernel, rfl, by decide +kernel, by decide +kernel⟩
theorem ok_meantr8 (mt : mg "tuple" = none) (F : Fun K "_law_meant_rows" "_law_meant_rows" sMeantR f fd)
    {aM : Addr} {dM : FuncData} (M : FnOk P w K mg base CX 3 aM dM ["_law_kind", "_law_text"] (spMeantP K 2)) (bM : Binds K dM ["_law_kind", "_law_text"] []) (kM : PySem.W.keepIn K (.ref aM) = true) (mM : mg "_law_meant_part" = some (.ref aM)) : FnOk P w K mg base CX 4 f fd ["_law_parts"] (spMeantR K) := by
  refine F.okc scMR8 (fun vs H Q E h => ?_) (fun cdv A outer s H vs Q E hr h => ?_)
  · obtain ⟨a, ps, rfl, _⟩ := h
    rfl
  obtain ⟨a, ps, rfl, ea, hne, hwt, gv, qn⟩ := h
  have hu := hu_of hr
  refine ⟨_, pss_cons (ps_set (i := 1) scMR8.nd rfl (Or.inl rfl) (pe_lst pa_nil))
    (pss_cons (ps_for PassesOwn.never rfl (pi_list (pe_bm PySem.F.plainAttrs_str PySem.F.slot_str_split PySem.F.type_str_split mt_split (pe_bm PySem.F.plainAttrs_str PySem.F.slot_str_join PySem.F.type_str_join (mt_join K rfl) pe_str (pa_cons (pv 0) pa_nil)) (pa_cons pe_str pa_nil))) (pg_name (i := 2) scMR8.nd rfl (Or.inl rfl))
      (pss_cons (ps_set (i := 3) scMR8.nd rfl (Or.inl rfl) (pe_bm PySem.F.plainAttrs_str PySem.F.slot_str_split PySem.F.type_str_split mt_split (pv 2) (pa_cons pe_str pa_nil)))
      (pss_cons (ps_set (i := 4) scMR8.nd rfl (Or.inl rfl) (pe_callTy call_tuple_of rfl mt PyProof.Rows.boot_tuple (pa_cons (pe_comp rfl csMR8 (pi_list (pe_slice sl_list (pv 3) (po_some pe_int) po_none)) (fun _ _ _ _ _ => pg_name (i := 0) csMR8.nd rfl (Or.inl rfl)) (fun _ _ _ _ _ => pe_call M hr rfl mM kM bM .nil passN (pa_cons pe_str (pa_cons (pv 0) pa_nil)))) pa_nil)))
      (pss_cons (ps_expr (pe_bm PySem.F.plainAttrs_list PySem.F.slot_list_append PySem.F.type_list_append mt_append (pv 1) (pa_cons (pe_tup (pa_cons (pe_call M hr rfl mM kM bM .nil passN (pa_cons pe_str (pa_cons (pe_ix ix_list (pv 3) pe_int (fun _ _ => rfl)) pa_nil))) (pa_cons (pv 4) pa_nil))) pa_nil)))
      (pss_one (ps_if (PW.pt (pw_or (pt_cmpR op_isN (pe_ix ix_tup (pe_ix ix_list (pv 1) (pe_un un_neg pe_int) (fun _ _ => rfl)) pe_int (fun _ _ => rfl)) pe_non (nomark _)) (pw_or1 (pt_cmpR (op_inNone K rfl hu) pe_non (pv 4) rfl)))) (pss_one (ps_ret pe_non)) pss_nil))))))
    (pss_one (ps_ret (pv 1)))), ?_⟩
  obtain ⟨j1, j2⟩ := join_wt hwt
  have hj : (Str.join (str " ") ps).length ≤ 900000 := by have := wt_join ps hne; omega
  refine ⟨Nat.zero_le _, fun lr hlr => ?_⟩
  have s1 : Same H (upd H lr (.lst [])) := same_up (Same.refl H) hlr
  have e1 : upd H lr (.lst []) lr = some (.lst []) := upd_same
  generalize upd H lr (.lst []) = H1 at s1 e1 ⊢
  refine ⟨rfl, _, rfl, str " ", a, ps, rfl, rfl, s1.seq ea, Nat.le_trans j2 (by decide), rfl, _, str " / ", rfl, rfl, (by decide +kernel), line_leB (by omega), fun l2 hl2 => ?_⟩
  unfold rowsM at gv qn
  have hmem : ∀ q ∈ Txt.split (Str.join (str " ") ps) (str " / "), q.length ≤ 900000 := fun q hq => Nat.le_trans (split_mem hq) hj
  have hcnt := split_most (x := Str.join (str " ") ps) (y := str " / ") (by decide +kernel)
  generalize Txt.split (Str.join (str " ") ps) (str " / ") = rs at gv qn hmem hcnt hl2 ⊢
  have hl2' : l2 ≠ lr := fun z => by rw [z, e1] at hl2; cases hl2
  have s2 : Same H1 (upd H1 l2 (.lst (rs.map V.str))) := same_up (Same.refl H1) hl2
  have e2 : upd H1 l2 (.lst (rs.map V.str)) l2 = some (.lst (rs.map V.str)) := upd_same
  generalize upd H1 l2 (.lst (rs.map V.str)) = H2 at s2 e2 ⊢
  have s02 := s1.trans s2
  refine ⟨l2, rfl, ⟨_, SqL.of e2⟩, listR (xs := rs.map V.str) (fun i σ H3 => ∃ (u2 u3 u4 : Option V) (us : List V) (ds : List D), σ = [some (.ref a), some (.ref lr), u2, u3, u4] ∧ Same H H3 ∧ H3 l2 = some (.lst (rs.map V.str)) ∧ H3 lr = some (.lst us) ∧ mapO rowM (rs.take i) = some ds ∧ DrL K H3 ds us ∧ us.length = i ∧ i ≤ rs.length)
    ⟨_, _, _, [], [], rfl, s02, e2, s2 _ _ e1, rfl, DrL.nil, rfl, Nat.zero_le _⟩ (fun i σ H3 _ h => by obtain ⟨_, _, _, _, _, _, _, e3, _⟩ := h; exact SqL.of e3) (fun i x σ H3 hx h Ed nx rtE => ?_) (fun σ H3 h => ?_)⟩
  · obtain ⟨u2, u3, u4, us, ds, rfl, s3, e3, er3, hds, d3, hul, hi⟩ := h
    rw [List.getElem?_map] at hx
    obtain ⟨row, hrow, rfl⟩ := Option.map_eq_some_iff.mp hx
    have hil := (List.getElem?_eq_some_iff.mp hrow).1
    have hrm := List.mem_of_getElem? hrow
    have hrl := hmem row hrm
    have et : rs.take (i + 1) = rs.take i ++ [row] := by rw [List.take_add_one, hrow]; rfl
    obtain ⟨p, qs, hsp⟩ := split_cons row (str " ")
    have hcq := split_most (x := row) (y := str " ") (by decide +kernel)
    have hmq : ∀ q ∈ p :: qs, q.length ≤ row.length := fun q hq => split_mem (y := str " ") (by rw [hsp]; exact hq)
    have hrw := rowM_words hsp
    have bad : rowM row = none → ∀ Hx, Same H Hx → Q .non Hx := fun z Hx sx => qn (by rw [mapO_none z hrm]; rfl) Hx sx
    refine ⟨_, rfl, rfl, row, str " ", rfl, rfl, (by decide +kernel), line_leB (by omega), fun l5 hl5 => ?_⟩
    rw [hsp] at hcq ⊢
    rw [List.length_cons] at hcq
    have s5 : Same H3 (upd H3 l5 (.lst ((p :: qs).map V.str))) := same_up (Same.refl H3) hl5
    have e5 : upd H3 l5 (.lst ((p :: qs).map V.str)) l5 = some (.lst ((p :: qs).map V.str)) := upd_same
    generalize upd H3 l5 (.lst ((p :: qs).map V.str)) = H5 at s5 e5 ⊢
    refine ⟨_, rfl, 1, rfl, l5, _, rfl, SqL.of e5, fun l6 hl6 => ?_⟩
    rw [List.map_cons, cutV_1]
    have s6 : Same H5 (upd H5 l6 (.lst (qs.map V.str))) := same_up (Same.refl H5) hl6
    have e6 : upd H5 l6 (.lst (qs.map V.str)) l6 = some (.lst (qs.map V.str)) := upd_same
    generalize upd H5 l6 (.lst (qs.map V.str)) = H6 at s6 e6 ⊢
    refine ⟨l6, rfl, ⟨_, SqL.of e6⟩, fun l7 hl7 => comp_list (xs := qs.map V.str) (fun k ys H7 => k ≤ qs.length ∧ Same H6 H7 ∧ ys = (qs.take k).map goV) ⟨Nat.zero_le _, same_up (Same.refl H6) hl7, rfl⟩ (fun k ys H7 _ h => SqL.of (h.2.1 _ _ e6)) (line_leB (by rw [List.length_map]; omega)) (fun k ys H7 h => by rw [h.2.2, List.length_map, List.length_take]; have := h.1; omega) (fun k y ys H7 hy0 h hy => ?_) (fun ys H7 h hy => ?_)⟩
    · obtain ⟨hk, s7, rfl⟩ := h
      rw [List.getElem?_map] at hy0
      obtain ⟨g, hg, rfl⟩ := Option.map_eq_some_iff.mp hy0
      have hkl := (List.getElem?_eq_some_iff.mp hg).1
      have hgm := List.mem_of_getElem? hg
      have ek : qs.take (k + 1) = qs.take k ++ [g] := by rw [List.take_add_one, hg]; rfl
      refine ⟨_, rfl, str "going", g, goM, 1, rfl, Nat.le_trans (hmq g (List.mem_cons_of_mem _ hgm)) hrl, .going, by decide, meant_both fun v H8 s8 hv => ?_⟩
      have ev : v = goV g := by
        rcases hv with ⟨d, hd, dv⟩ | ⟨hd, rfl⟩
        · exact (goV_some hd).mp dv
        · exact (goV_none hd).symm
      subst ev
      exact ⟨s8 _ _ hy, by omega, same_over (s7.trans s8) hl7, by rw [ek, List.map_append, List.map_singleton]⟩
    obtain ⟨_, s7, rfl⟩ := h
    rw [List.length_map, List.take_length] at hy
    refine ⟨l7, _, rfl, .inl ⟨SqL.of hy, fun q8 hq8 => ?_⟩⟩
    have s8 : Same H7 (upd H7 q8 (.tup (qs.map goV))) := same_up (Same.refl H7) hq8
    have e8 : upd H7 q8 (.tup (qs.map goV)) q8 = some (.tup (qs.map goV)) := upd_same
    generalize upd H7 q8 (.tup (qs.map goV)) = H8 at s8 e8 ⊢
    have s38 := s5.trans (s6.trans (s7.trans s8))
    have s58 := s6.trans (s7.trans s8)
    refine ⟨_, rfl, .inl ⟨rfl, _, SqL.of (s38 _ _ er3)⟩, _, rfl, l5, _, _, .str p, rfl, rfl, SqL.of (s58 _ _ e5), atI_nat (j := 0) rfl, str "ring", p, ringM, 0, rfl, Nat.le_trans (hmq p List.mem_cons_self) hrl, .ring, by decide, meant_both fun v H9 s9 hv => ?_⟩
    refine ⟨_, rfl, show 2 ≤ sizeLine by decide, fun t ht => ?_⟩
    have s10 : Same H9 (upd H9 t (.tup [v, .ref q8])) := same_up (Same.refl H9) ht
    have e10 : upd H9 t (.tup [v, .ref q8]) t = some (.tup [v, .ref q8]) := upd_same
    generalize upd H9 t (.tup [v, .ref q8]) = H10 at s10 e10 ⊢
    have s310 := s38.trans (s9.trans s10)
    have er10 := s310 _ _ er3
    refine ⟨lr, us, .ref t, rfl, rfl, er10, line_leB (by omega), ?_⟩
    have htl : t ≠ lr := fun z => by rw [z, er10] at e10; cases e10
    have hql : q8 ≠ lr := fun z => by have := s310 _ _ er3; rw [z] at e8; rw [(s9.trans s10) _ _ e8] at this; cases this
    have e11 : upd H10 lr (.lst (us ++ [.ref t])) t = some (.tup [v, .ref q8]) := by rw [upd_ne htl]; exact e10
    have eq11 : upd H10 lr (.lst (us ++ [.ref t])) q8 = some (.tup (qs.map goV)) := by rw [upd_ne hql]; exact (s9.trans s10) _ _ e8
    have er11 : upd H10 lr (.lst (us ++ [.ref t])) lr = some (.lst (us ++ [.ref t])) := upd_same
    have el11 : upd H10 lr (.lst (us ++ [.ref t])) l2 = some (.lst (rs.map V.str)) := by rw [upd_ne hl2']; exact s310 _ _ e3
    have s11 : Same H (upd H10 lr (.lst (us ++ [.ref t]))) := same_over (s3.trans s310) hlr
    have keep := tup_over (o := .lst (us ++ [.ref t])) er10
    generalize upd H10 lr (.lst (us ++ [.ref t])) = H11 at e11 eq11 er11 el11 s11 keep ⊢
    refine ⟨_, rfl, _, rfl, lr, _, _, .ref t, rfl, rfl, SqL.of er11, atI_last us (.ref t), t, _, _, v, rfl, rfl, SqT.of e11, atI_nat (j := 0) rfl, rfl, _, rfl, ?_⟩
    rcases hv with ⟨d, hd, dv⟩ | ⟨hd, rfl⟩
    · obtain ⟨w, rfl⟩ := ringM_thing hd
      have dv' := dv
      obtain ⟨b, zs, rfl, eb, dz⟩ : ∃ (a : Addr) (us : List V), v = .ref a ∧ H9 a = some (.tup us) ∧ DrL K H9 (w.map D.int) us := by
        simp only [D.its, Dr] at dv
        exact dv
      refine ite2 (fun c => absurd (of_decide_eq_true c) (fun z => by cases z)) (fun _ => ?_)
      refine ⟨_, rfl, q8, _, rfl, rfl, .inr (SqT.of eq11), fun z hz => ?_, _, rfl, ?_⟩
      · obtain ⟨w', _, rfl⟩ := List.mem_map.mp hz
        exact .inl (goV_flat w')
      · rw [go_any]
        cases hg : mapO goM qs with
        | none => exact iteT (rtE _ _ (bad (by rw [hrw, hg, hd]) H11 s11))
        | some es =>
          refine iteF (nx _ _ ⟨_, _, _, us ++ [.ref t], ds ++ [.tup [D.its w, .tup es]], rfl, s11, el11, er11, ?_, ?_, by rw [List.length_append, hul]; rfl, by omega⟩)
          · rw [et]; exact mapO_snoc (by rw [hrw, hd, hg]) hds
          · refine DrL.append (DrL.flat keep (flatL_all.mpr fun d hd => mapO_all (fun _ _ h => rowM_flat h) hds d hd) (d3.mono s310)) (DrL.one (Dr.tup e11 (DrL.cons (Dr.flat keep (ringM_flat hd) (dv'.mono s10)) (DrL.one (Dr.tup eq11 (go_vals hg))))))
    · exact ite2 (fun _ => rtE _ _ (bad (by rw [hrw, hd]) H11 s11)) (fun c => absurd (decide_eq_true rfl) c)
  · obtain ⟨u2, u3, u4, us, ds, rfl, s3, e3, er3, hds, d3, hul, hi⟩ := h
    rw [List.length_map, List.take_length] at hds
    rw [hds] at gv
    exact ⟨_, rfl, gv _ rfl _ H3 s3 (Dr.lst er3 d3)⟩
end
end Gu

set_option Elab.async false
set_option linter.all false
set_option maxRecDepth 100000
set_option maxHeartbeats 4000000
namespace Gu
open PySem L2
section
variable {P : Program} {w : World} {K : PySem.W.Frag} {mg : Str → Option Value} {base : Heap} {f g : Addr} {fd gd : FuncData} {CX : CXT} [NoE CX]
abbrev nML8 : List Str := ["_law_line_here", "_law_parts", "_law_kinds", "_law_found", "_law_some"]
theorem scML8 : FnScope nML8 ["_law_line_here"] (defScope sMeant) := ⟨rfl, rfl, rfl, by decide +kernel, rfl, by decide +kernel, by decide +kernel⟩
theorem csML8 : CompS nML8 (defScope sMeant) ["_law_k", "_law_parts", "_law_some"] [none, some 1, some 4] (csc [(".0", .local), ("_law_k", .local), ("_law_meant_part", .globalImplicit), ("_law_parts", .free), ("_law_some", .free)]) := ⟨rfl, by decide +kernel, by decide +kernel, by decide +kernel, rfl, by decide +kernel, by decide +kernel⟩
theorem ok_meantl8 (ml : mg "len" = none) (mr : mg "range" = none) (mt : mg "tuple" = none) (F : Fun K "_law_meant" "_law_meant" sMeant f fd)
    {aM : Addr} {dM : FuncData} (M : FnOk P w K mg base CX 4 aM dM ["_law_kind", "_law_text"] (spMeantP K 2)) (bM : Binds K dM ["_law_kind", "_law_text"] []) (kM : PySem.W.keepIn K (.ref aM) = true) (mM : mg "_law_meant_part" = some (.ref aM))
    {aR : Addr} {dR : FuncData} (R : FnOk P w K mg base CX 4 aR dR ["_law_parts"] (spMeantR K)) (bR : Binds K dR ["_law_parts"] []) (kR : PySem.W.keepIn K (.ref aR) = true) (mR : mg "_law_meant_rows" = some (.ref aR)) : FnOk P w K mg base CX 5 f fd ["_law_line_here"] (spMeantL K) := by
  refine F.okc scML8 (fun vs H Q E h => ?_) (fun cdv A outer s H vs Q E hr h => ?_)
  · obtain ⟨x, rfl, _⟩ := h
    rfl
  obtain ⟨x, rfl, hx, gv, qn⟩ := h
  have hu := hu_of hr
  refine ⟨_, pss_cons (ps_set (i := 1) scML8.nd rfl (Or.inr rfl) (pe_bm PySem.F.plainAttrs_str PySem.F.slot_str_split PySem.F.type_str_split mt_split (pv 0) (pa_cons pe_str pa_nil)))
    (pss_cons (ps_set (i := 2) scML8.nd rfl (Or.inl rfl) (pe_disp (pps_cons pe_str pe_str (pps_cons pe_str pe_str (pps_cons pe_str pe_str (pps_cons pe_str pe_str pps_nil)))) rfl rfl (by simp) (by decide)))
    (pss_cons (ps_expr (pe_dupd (pv 2) (pe_disp (pps_cons pe_str pe_str (pps_cons pe_str pe_str (pps_cons pe_str pe_str (pps_cons pe_str pe_str (pps_cons pe_str pe_str pps_nil))))) rfl rfl (by simp) (by decide)) ⟨rfl, rfl, rfl, rfl⟩))
    (pss_cons (ps_if (PW.pt (pw_and (pt_cmpR op_eq (pe_ix ix_list (pv 1) pe_int (fun _ _ => rfl)) pe_str (nomark _)) (pw_and1 (pt_cmpR op_gt (pe_callB call_len_seq rfl ml PySem.boot_len (pa_cons (pv 1) pa_nil)) pe_int (nomark _))))) (pss_one (ps_set (i := 3) scML8.nd rfl (Or.inl rfl) (pe_lst (pa_cons pe_str (pa_cons (pe_call M hr rfl mM kM bM .nil passN (pa_cons pe_str (pa_cons (pe_ix ix_list (pv 1) pe_int (fun _ _ => rfl)) pa_nil))) (pa_cons (pe_call R hr rfl mR kR bR .nil passN (pa_cons (pe_slice sl_list (pv 1) (po_some pe_int) po_none) pa_nil)) pa_nil)))))) (pss_one (ps_if (PW.pt (pw_and (pt_cmp (pc_din hu (pe_ix ix_list (pv 1) pe_int (fun _ _ => rfl)) (pv 2))) (pw_and1 (pt_cmp (pc_eqI (pe_callB call_len_seq rfl ml PySem.boot_len (pa_cons (pe_bm PySem.F.plainAttrs_str PySem.F.slot_str_split PySem.F.type_str_split mt_split (pe_dget hu (pv 2) (pe_ix ix_list (pv 1) pe_int (fun _ _ => rfl)) (fun _ _ => rfl)) (pa_cons pe_str pa_nil)) pa_nil)) (pe_op op_sub (pe_callB call_len_seq rfl ml PySem.boot_len (pa_cons (pv 1) pa_nil)) pe_int)))))) (pss_cons (ps_set (i := 4) scML8.nd rfl (Or.inr rfl) (pe_bm PySem.F.plainAttrs_str PySem.F.slot_str_split PySem.F.type_str_split mt_split (pe_dget hu (pv 2) (pe_ix ix_list (pv 1) pe_int (fun _ _ => rfl)) (fun _ _ => rfl)) (pa_cons pe_str pa_nil)))
        (pss_one (ps_set (i := 3) scML8.nd rfl (Or.inl rfl) (pe_op op_cat (pe_lst (pa_cons (pe_ix ix_list (pv 1) pe_int (fun _ _ => rfl)) pa_nil)) (pe_comp rfl csML8 (pi_range1 rfl mr (pa_cons (pe_callB call_len_seq rfl ml PySem.boot_len (pa_cons (pv 4) pa_nil)) pa_nil)) (fun _ _ _ _ _ => pg_name (i := 0) csML8.nd rfl (Or.inl rfl)) (fun _ _ _ _ _ => pe_call M hr rfl mM kM bM .nil passN (pa_cons (pe_ix (ixL K rfl) (pv 2) (pv 0) (fun _ _ => rfl)) (pa_cons (pe_ix (ixL K rfl) (pv 1) (pe_op op_add pe_int (pv 0)) (fun _ _ => rfl)) pa_nil)))))))) (pss_one (ps_set (i := 3) scML8.nd rfl (Or.inl rfl) (pe_lst (pa_cons pe_non pa_nil)))))))
    (pss_one (ps_ret (pe_ifExp (pt_cmpR (op_inNone K rfl hu) pe_non (pv 3) rfl) pe_non (pe_callTy call_tuple_of rfl mt PyProof.Rows.boot_tuple (pa_cons (pv 3) pa_nil)))))))), ?_⟩
  obtain ⟨p, ps, hsp⟩ := split_cons x (str " ")
  have hcnt := split_most (x := x) (y := str " ") (by decide +kernel)
  have hwt := wt_split x
  have hmem : ∀ q ∈ p :: ps, q.length ≤ 900000 := fun q hq => Nat.le_trans (split_mem (y := str " ") (by rw [hsp]; exact hq)) hx
  rw [lineM_words hsp] at gv qn
  refine seqG fun R1 hR1 => ?_
  refine ⟨_, rfl, rfl, x, str " ", rfl, rfl, (by decide +kernel), line_leB (by omega), fun l1 hl1 => ?_⟩
  rw [hsp] at hcnt hwt ⊢
  rw [List.length_cons] at hcnt
  rw [wt_cons] at hwt
  have s1 : Same H (upd H l1 (.lst ((p :: ps).map V.str))) := same_up (Same.refl H) hl1
  have e1 : upd H l1 (.lst ((p :: ps).map V.str)) l1 = some (.lst ((p :: ps).map V.str)) := upd_same
  generalize upd H l1 (.lst ((p :: ps).map V.str)) = H1 at s1 e1 ⊢
  refine atR (R := R1) hR1 ?_
  clear hR1
  refine seqG fun R1 hR1 => ?_
  refine fun q2 hq2 => ⟨upd_same, kvA, rfl, by decide, ?_⟩
  rw [upd_upd, mergeA]
  have s2 : Same H1 (upd H1 q2 (.dK kvA)) := same_up (Same.refl H1) hq2
  have e2 : upd H1 q2 (.dK kvA) q2 = some (.dK kvA) := upd_same
  generalize upd H1 q2 (.dK kvA) = H2 at s2 e2 ⊢
  refine atR (R := R1) hR1 ?_
  clear hR1
  refine cutQ (fun σ H' => σ = [some (.str x), some (.ref l1), some (.ref q2), none, none] ∧ Same H1 H' ∧ H' q2 = some (.dK kv9)) (fun Ed nxE => ?_) (fun σ H4 h => ?_)
  · refine ⟨_, rfl, q2, rfl, .inl ⟨_, Rd.of e2⟩, fun q3 hq3 => ⟨upd_same, kvB, rfl, by decide, ?_⟩⟩
    rw [upd_upd, mergeB]
    have hne : q2 ≠ q3 := fun z => by rw [z] at e2; rw [e2] at hq3; cases hq3
    refine ⟨q3, kvA, kvB, rfl, hne, by rw [upd_ne hne]; exact e2, upd_same, by decide, ?_⟩
    rw [mergeAB]
    refine nxE _ _ ⟨rfl, ?_, upd_same⟩
    exact same_over (s2.trans (same_up (Same.refl H2) hq3)) hq2
  obtain ⟨rfl, s4, e4⟩ := h
  have e14 := s4 _ _ e1
  have s04 := s1.trans s4
  have a0 : atI ((p :: ps).map V.str) 0 = some (.str p) := atI_nat (j := 0) rfl
  refine cutQ (fun σ H' => ∃ (lf : Addr) (vs : List V) (u4 : Option V), σ = [some (.str x), some (.ref l1), some (.ref q2), some (.ref lf), u4] ∧ Same H H' ∧ H' lf = some (.lst vs) ∧ vs.length ≤ 100 ∧ Fnd K H' (lawLine p ps) vs) (fun Ed nxE => ?_) (fun σ H5 h => ?_)
  · -- nothing
    have none_ : lawLine p ps = none → ∀ Hx, Fnd K Hx (lawLine p ps) [V.non] := fun z Hx => ⟨fun v hv => by rw [List.mem_singleton.mp hv]; exact .inl rfl, .inr ⟨z, rfl⟩⟩
    refine ifG fun U hU => ?_
    have key : ¬ (p = str "sew" ∧ 2 ≤ ps.length) → U Ed [some (.str x), some (.ref l1), some (.ref q2), none, none] H4 := fun hA => by
      rw [hU]
      clear hU U
      refine ifG fun U hU => ?_
      have key2 : lawLine p ps = none → ∀ Hx, Same H4 Hx → U Ed [some (.str x), some (.ref l1), some (.ref q2), none, none] Hx := fun hz Hx sx => by
        rw [hU]
        exact ⟨show 1 ≤ sizeLine by decide, fun l6 hl6 => nxE _ _ ⟨l6, _, _, rfl, s04.trans (same_up sx hl6), upd_same, by simp, none_ hz _⟩⟩
      clear hU
      refine ⟨_, rfl, l1, _, _, .str p, rfl, rfl, SqL.of e14, a0, _, rfl, q2, _, rfl, .inl ⟨kv9, Sum.inr p, Rd.of e4, rfl, rfl⟩, _, rfl, ?_⟩
      rw [kv9_val]
      cases hk : kinds9.find? (fun e => decide (e.1 = p)) with
      | none => exact iteF (key2 (law_none hA fun e he => by rw [hk] at he; cases he) H4 (Same.refl H4))
      | some e =>
        have hem := List.mem_of_find?_eq_some hk
        obtain ⟨hdt, he100⟩ := kinds9_split e hem
        have hep : e.1 = p := of_decide_eq_true (List.find?_some (p := fun e : Str × Str => decide (e.1 = p)) hk)
        have hns : e.1 ≠ str "sew" := by
          have : ∀ e ∈ kinds9, e.1 ≠ str "sew" := by decide +kernel
          exact this e hem
        have hv9 : valV kv9 (Sum.inr p) = some (.str e.2) := by rw [kv9_val, hk]; rfl
        have hlaw := fun hl => law_kinds (ps := ps) hk hl
        have hno := fun hl : ps.length ≠ (Txt.split e.2 (str " ")).length => law_none (ps := ps) hA fun e' he' => by rw [hk] at he'; cases he'; exact hl
        have hkd := kinds9_meant _ hdt hns
        have hk3 := (deed_kinds _ hdt).2.1
        refine iteT ?_
        refine ⟨_, rfl, _, rfl, l1, _, _, .str p, rfl, rfl, SqL.of e14, a0, q2, .str e.2, rfl, .inl ⟨kv9, Sum.inr p, Rd.of e4, rfl, hv9.symm⟩, rfl, e.2, str " ", rfl, rfl, (by decide +kernel), line_leB (by omega), fun l6 hl6 => ?_⟩
        generalize hks : Txt.split e.2 (str " ") = ks at hdt hlaw hno hkd hk3 hl6 ⊢
        have s6 : Same H4 (upd H4 l6 (.lst (ks.map V.str))) := same_up (Same.refl H4) hl6
        have e6 : upd H4 l6 (.lst (ks.map V.str)) l6 = some (.lst (ks.map V.str)) := upd_same
        generalize upd H4 l6 (.lst (ks.map V.str)) = H6 at s6 e6 ⊢
        have e16 := s6 _ _ e14
        have e46 := s6 _ _ e4
        refine ⟨l6, _, rfl, .inl (SqL.of e6), _, rfl, l1, _, rfl, .inl (SqL.of e16), _, _, rfl, rfl, _, _, rfl, rfl, _, rfl, ite2 (fun c => ?_) (fun c => ?_)⟩
        · have hl : ps.length = ks.length := by
            have c' : (((ks.map V.str).length : Nat) : Int) = ((((p :: ps).map V.str).length : Nat) : Int) - 1 := of_decide_eq_true c
            rw [List.length_map, List.length_map, List.length_cons] at c'
            omega
          have hlw := hlaw hl
          refine ⟨_, rfl, _, rfl, l1, _, _, .str p, rfl, rfl, SqL.of e16, a0, q2, .str e.2, rfl, .inl ⟨kv9, Sum.inr p, Rd.of e46, rfl, hv9.symm⟩, rfl, e.2, str " ", rfl, rfl, (by decide +kernel), line_leB (by omega), fun l7 hl7 => ?_⟩
          rw [hks]
          have s7 : Same H6 (upd H6 l7 (.lst (ks.map V.str))) := same_up (Same.refl H6) hl7
          have e7 : upd H6 l7 (.lst (ks.map V.str)) l7 = some (.lst (ks.map V.str)) := upd_same
          generalize upd H6 l7 (.lst (ks.map V.str)) = H7 at s7 e7 ⊢
          have e17 := s7 _ _ e16
          refine ⟨_, rfl, l1, _, _, .str p, rfl, rfl, SqL.of e17, a0, show 1 ≤ sizeLine by decide, fun l8 hl8 => ?_⟩
          have s8 : Same H7 (upd H7 l8 (.lst [.str p])) := same_up (Same.refl H7) hl8
          have e8 : upd H7 l8 (.lst [.str p]) l8 = some (.lst [.str p]) := upd_same
          generalize upd H7 l8 (.lst [.str p]) = H8 at s8 e8 ⊢
          have e18 := s8 _ _ e17
          have e78 := s8 _ _ e7
          have s08 := s04.trans (s6.trans (s7.trans s8))
          refine ⟨_, rfl, l7, _, rfl, .inl (SqL.of e78), (ks.length : Int), by rw [List.length_map], by omega, by omega, fun l9 hl9 => comp_range (n := (ks.length : Int).toNat) (fun i ys H2 => i ≤ ks.length ∧ ys.length = i ∧ Same H8 H2 ∧ (∀ y ∈ ys, NV H2 y) ∧ ((∃ ds, zipM (ks.take i) (ps.take i) = some ds ∧ DrL K H2 ds ys ∧ D.flatL ds ∧ ys.any isNon = false) ∨ (zipM ks ps = none ∧ ys.any isNon = true)))
            ⟨Nat.zero_le _, rfl, same_up (Same.refl H8) hl9, (fun y hy => by cases hy), .inl ⟨[], rfl, DrL.nil, by simp only [D.flatL], rfl⟩⟩ (line_leB (by omega)) (fun i ys H2 h => h.2.1) (fun i ys H2 hi h hy => ?_) (fun ys H2 h hy => ?_)⟩
          · obtain ⟨hik, hyl, s9, hnv, hor⟩ := h
            have hik' : i < ks.length := by omega
            have e0 : (0 : Int) + (i : Int) = (i : Int) := by omega
            have ek : ks[i]? = some (ks[i]'hik') := List.getElem?_eq_getElem hik'
            have ep : ps[i]? = some (ps[i]'(by omega)) := List.getElem?_eq_getElem (by omega)
            have hkm := List.mem_of_getElem? ek
            have hpm := List.mem_of_getElem? ep
            generalize ks[i]'hik' = k at ek hkm
            generalize ps[i]'(by omega) = pt at ep hpm
            have m := kind_meant (hkd k hkm)
            have et1 : ks.take (i + 1) = ks.take i ++ [k] := by rw [List.take_add_one, ek]; rfl
            have et2 : ps.take (i + 1) = ps.take i ++ [pt] := by rw [List.take_add_one, ep]; rfl
            rw [e0]
            refine ⟨_, rfl, _, rfl, l7, _, _, .str k, rfl, rfl, SqL.of (s9 _ _ e78), atI_nat (str_get ek), _, rfl, _, rfl, _, _, rfl, rfl, l1, _, _, .str pt, rfl, rfl, SqL.of (s9 _ _ e18), ?_, k, pt, kindF k, 0, rfl, hmem pt (List.mem_cons_of_mem _ hpm), m, by decide, meant_both fun v H10 s10 hv => ?_⟩
            · rw [show (1 : Int) + (i : Int) = ((i + 1 : Nat) : Int) by omega]
              exact atI_nat (by rw [List.map_cons, List.getElem?_cons_succ]; exact str_get ep)
            have ey := s10 _ _ hy
            have kp := tup_over (o := .lst (ys ++ [v])) ey
            have kp2 : ∀ b xs, H2 b = some (.tup xs) → upd H10 l9 (.lst (ys ++ [v])) b = some (.tup xs) := fun b xs h => kp b xs (s10 _ _ h)
            have hold : ∀ y ∈ ys, NV (upd H10 l9 (.lst (ys ++ [v]))) y := fun y hy' => (hnv y hy').mono kp2
            refine ⟨ey, by omega, by rw [List.length_append, hyl]; rfl, same_over (s9.trans s10) hl9, ?_, ?_⟩
            · intro y hy'
              rcases List.mem_append.mp hy' with z | z
              · exact hold y z
              · rw [List.mem_singleton.mp z]
                rcases hv with ⟨d, hd, dv⟩ | ⟨_, rfl⟩
                · obtain ⟨f1, f2⟩ := m.flat hd
                  exact (thing_nv f2 f1 (Dr.flat kp f1 dv)).1
                · exact .inl rfl
            · rw [List.any_append, List.any_cons, List.any_nil, Bool.or_false]
              rcases hv with ⟨d, hd, dv⟩ | ⟨hd, rfl⟩
              · obtain ⟨f1, f2⟩ := m.flat hd
                have nn := (thing_nv f2 f1 (Dr.flat kp f1 dv)).2
                rw [nn, Bool.or_false]
                rcases hor with ⟨ds, z1, z2, z3, z4⟩ | ⟨z1, z2⟩
                · refine .inl ⟨ds ++ [d], by rw [et1, et2]; exact zipM_snoc hd z1, DrL.append (DrL.flat kp2 z3 z2) (DrL.one (Dr.flat kp f1 dv)), flatL_all.mpr fun d' hd' => ?_, z4⟩
                  rcases List.mem_append.mp hd' with z | z
                  · exact flatL_all.mp z3 d' z
                  · rw [List.mem_singleton.mp z]; exact f1
                · exact .inr ⟨z1, z2⟩
              · exact .inr ⟨zipM_none hd ek ep, by rw [show isNon V.non = true from rfl, Bool.or_true]⟩
          · obtain ⟨_, hyl, s9, hnv, hor⟩ := h
            have hyl' : ys.length = ks.length := by omega
            have hk3' : ks.length ≤ 3 := hk3
            refine ⟨l8, l9, [.str p], ys, rfl, rfl, s9 _ _ e8, hy, line_leB (by rw [hyl', List.length_singleton]; omega), fun l10 hl10 => nxE _ _ ⟨l10, _, _, rfl, s08.trans (same_up s9 hl10), upd_same, by rw [List.length_append, List.length_singleton]; omega, ?_⟩⟩
            have s10 : Same H2 (upd H2 l10 (.lst ([.str p] ++ ys))) := same_up (Same.refl H2) hl10
            refine ⟨fun v hv => ?_, ?_⟩
            · rcases List.mem_append.mp hv with z | z
              · rw [List.mem_singleton.mp z]; exact .inl rfl
              · exact NV.nonV ((hnv v z).mono fun b xs h => s10 _ _ h)
            · rw [hlw]
              have en : ([V.str p] ++ ys).any isNon = ys.any isNon := rfl
              rw [en]
              rcases hor with ⟨ds, z1, z2, z3, z4⟩ | ⟨z1, z2⟩
              · rw [Int.toNat_natCast, List.take_length, ← hl, List.take_length] at z1
                refine .inl ⟨.str p :: ds, by rw [z1]; rfl, DrL.cons (by simp only [Dr]) (z2.mono s10), z4⟩
              · exact .inr ⟨by rw [z1]; rfl, z2⟩
        · refine key2 (hno fun hl => c (decide_eq_true ?_)) H6 s6
          rw [List.length_map, List.length_map, List.length_cons]
          omega
    clear hU
    refine ⟨_, rfl, l1, _, _, .str p, rfl, rfl, SqL.of e14, a0, rfl, _, rfl, ite2 (fun c => ?_) (fun c => ?_)⟩
    · have hp : p = str "sew" := V.str.inj (of_decide_eq_true c)
      refine ⟨_, rfl, l1, _, rfl, .inl (SqL.of e14), _, _, rfl, rfl, _, rfl, ite2 (fun c2 => ?_) (fun c2 => ?_)⟩
      · have hl2 : 2 ≤ ps.length := by
          have c' : ((((p :: ps).map V.str).length : Nat) : Int) > 2 := of_decide_eq_true c2
          rw [List.length_map, List.length_cons] at c'
          omega
        subst hp
        match ps, hl2, none_, gv, qn, hmem, hwt, hcnt, nxE, e14, e1 with
        | a :: b :: r, _, _, gv, qn, hmem, hwt, hcnt, nxE, e14, e1 =>
        rw [law_sew] at nxE
        refine ⟨_, rfl, l1, _, _, .str a, rfl, rfl, SqL.of e14, atI_nat (j := 1) rfl, str "name", a, nameM, 0, rfl, hmem a (by simp), .name, by decide, meant_both fun v H6 s6 hv => ?_⟩
        have e16 := s6 _ _ e14
        refine ⟨_, rfl, 2, rfl, l1, _, rfl, SqL.of e16, fun l7 hl7 => ?_⟩
        rw [List.map_cons, List.map_cons, cutV_2]
        have s7 : Same H6 (upd H6 l7 (.lst ((b :: r).map V.str))) := same_up (Same.refl H6) hl7
        have e7 : upd H6 l7 (.lst ((b :: r).map V.str)) l7 = some (.lst ((b :: r).map V.str)) := upd_same
        generalize upd H6 l7 (.lst ((b :: r).map V.str)) = H7 at s7 e7 ⊢
        rw [wt_cons] at hwt
        refine ⟨l7, b :: r, rfl, SqL.of e7, by simp, by omega, meant_both fun u H8 s8 hu8 => ?_⟩
        refine ⟨show 3 ≤ sizeLine by decide, fun l9 hl9 => nxE _ _ ⟨l9, _, _, rfl, s04.trans (s6.trans (s7.trans (same_up s8 hl9))), upd_same, by simp, ?_⟩⟩
        have s9 : Same H8 (upd H8 l9 (.lst [V.str (str "sew"), v, u])) := same_up (Same.refl H8) hl9
        have s69 := s7.trans (s8.trans s9)
        show Fnd K (upd H8 l9 (.lst [V.str (str "sew"), v, u])) _ [V.str (str "sew"), v, u]
        generalize upd H8 l9 (.lst [V.str (str "sew"), v, u]) = H9 at s9 s69
        have hv1 : NonV K H9 v ∧ ((∃ d, nameM a = some d ∧ Dr K H9 d v ∧ isNon v = false) ∨ (nameM a = none ∧ isNon v = true)) := by
          rcases hv with ⟨d, hd, dv⟩ | ⟨hd, rfl⟩
          · obtain ⟨f1, f2⟩ := Meant.name.flat hd
            obtain ⟨z1, z2⟩ := thing_nv f2 f1 (dv.mono s69)
            exact ⟨z1.nonV, .inl ⟨d, hd, dv.mono s69, z2⟩⟩
          · exact ⟨.inl rfl, .inr ⟨hd, rfl⟩⟩
        have hu1 : NonV K H9 u ∧ ((∃ d, rowsM (Str.join (str " ") (b :: r)) = some d ∧ Dr K H9 d u ∧ isNon u = false) ∨ (rowsM (Str.join (str " ") (b :: r)) = none ∧ isNon u = true)) := by
          rcases hu8 with ⟨d, hd, dv⟩ | ⟨hd, rfl⟩
          · obtain ⟨z1, z2⟩ := rowsM_nv hd (dv.mono s9)
            exact ⟨z1, .inl ⟨d, hd, dv.mono s9, z2⟩⟩
          · exact ⟨.inl rfl, .inr ⟨hd, rfl⟩⟩
        have ea : [V.str (str "sew"), v, u].any isNon = (isNon v || isNon u) := by
          rw [List.any_cons, List.any_cons, List.any_cons, List.any_nil, Bool.or_false]
          rfl
        refine ⟨fun w hw => ?_, ?_⟩
        · rcases List.mem_cons.mp hw with z | hw
          · rw [z]; exact .inl rfl
          rcases List.mem_cons.mp hw with z | hw
          · rw [z]; exact hv1.1
          rw [List.mem_singleton.mp hw]; exact hu1.1
        · rw [ea]
          rcases hv1.2 with ⟨d, hd, dv, nv⟩ | ⟨hd, nv⟩
          · rcases hu1.2 with ⟨d', hd', dv', nv'⟩ | ⟨hd', nv'⟩
            · exact .inl ⟨[.str (str "sew"), d, d'], by rw [hd, hd'], DrL.cons (by simp only [Dr]) (DrL.cons dv (DrL.one dv')), by rw [nv, nv']; rfl⟩
            · exact .inr ⟨by rw [hd, hd'], by rw [nv, nv']; rfl⟩
          · exact .inr ⟨by rw [hd], by rw [nv]; rfl⟩
      · refine key fun z => c2 (decide_eq_true ?_)
        have := z.2
        show ((((p :: ps).map V.str).length : Nat) : Int) > 2
        rw [List.length_map, List.length_cons]
        omega
    · exact iteF (key fun z => c (decide_eq_true (congrArg V.str z.1)))
  obtain ⟨lf, vs, u4, rfl, s5, e5, hl5, hnv, hfd⟩ := h
  refine ⟨_, rfl, lf, vs, rfl, rfl, .inl (SqL.of e5), hnv, _, rfl, ?_⟩
  rcases hfd with ⟨ds, hd, dv, hn⟩ | ⟨hz, hn⟩
  · rw [hn]
    refine iteF ⟨_, rfl, lf, _, rfl, .inl ⟨SqL.of e5, fun t ht => ?_⟩⟩
    exact gv _ hd _ _ (s5.trans (same_up (Same.refl H5) ht)) (Dr.tup upd_same (dv.mono (same_up (Same.refl H5) ht)))
  · rw [hn]
    exact iteT (qn hz H5 s5)
end
end Gu

set_option Elab.async false
set_option linter.all false
set_option maxRecDepth 100000
set_option maxHeartbeats 4000000
namespace Gu
open PySem L2
section
variable {P : Program} {w : World} {K : PySem.W.Frag} {mg : Str → Option Value} {base : Heap} {f g : Addr} {fd gd : FuncData} {CX : CXT} [NoE CX]
abbrev nL48 : List Str := ["_law_script", "_law_line_here", "_law_due", "_law_told"]
theorem scL48 : FnScope nL48 ["_law_script"] (defScope sLaw) := ⟨rfl, rfl, rfl, by decide +kernel, rfl, by decide +kernel, by decide +kernel⟩
theorem ok_law {Ct : Addr} {bmB : List Value} {newId : String} (mC : mg "BadLine" = some (.ref Ct)) (xC : PySem.W.excIn K Ct bmB newId = true) (hB : bmB.contains (.type "BaseException") = true) (F : Fun K "law" "law" sLaw f fd)
    {aLn : Addr} {dLn : FuncData} (Ln : FnOk P w K mg base (CXx P w) 9 aLn dLn ["_law_deed"] (spLineL K)) (bLn : Binds K dLn ["_law_deed"] []) (kLn : PySem.W.keepIn K (.ref aLn) = true) (mLn : mg "_law_line" = some (.ref aLn))
    {aAd : Addr} {dAd : FuncData} (Ad : FnOk P w K mg base (CXx P w) 9 aAd dAd ["_law_cell_here"] (spAnyD K)) (bAd : Binds K dAd ["_law_cell_here"] []) (kAd : PySem.W.keepIn K (.ref aAd) = true) (mAd : mg "_law_any_deed" = some (.ref aAd))
    {aCe : Addr} {dCe : FuncData} (Ce : FnOk P w K mg base (CXx P w) 9 aCe dCe ["_law_script", "_law_at"] (spCell K)) (bCe : Binds K dCe ["_law_script", "_law_at"] []) (kCe : PySem.W.keepIn K (.ref aCe) = true) (mCe : mg "_law_cell" = some (.ref aCe))
    {aSp : Addr} {dSp : FuncData} (Sp : FnOk P w K mg base (CXx P w) 9 aSp dSp ["_law_line_here", "_law_cell_here"] spSpoilt48) (bSp : Binds K dSp ["_law_line_here", "_law_cell_here"] []) (kSp : PySem.W.keepIn K (.ref aSp) = true) (mSp : mg "_law_spoilt" = some (.ref aSp))
    {aMe : Addr} {dMe : FuncData} (Me : FnOk P w K mg base (CXx P w) 9 aMe dMe ["_law_line_here"] (spMeantL K)) (bMe : Binds K dMe ["_law_line_here"] []) (kMe : PySem.W.keepIn K (.ref aMe) = true) (mMe : mg "_law_meant" = some (.ref aMe))
    {aRl : Addr} {dRl : FuncData} (Rl : FnOk P w K mg base (CXx P w) 9 aRl dRl ["line"] (spRd8 K Ct lineM)) (bRl : Binds K dRl ["line"] []) (kRl : PySem.W.keepIn K (.ref aRl) = true) (mRl : mg "read_line" = some (.ref aRl))
    {aLi : Addr} {dLi : FuncData} (Li : FnOk P w K mg base (CXx P w) 9 aLi dLi ["_law_found", "_law_due"] (spLikeB K 6)) (bLi : Binds K dLi ["_law_found", "_law_due"] []) (kLi : PySem.W.keepIn K (.ref aLi) = true) (mLi : mg "_law_like" = some (.ref aLi)) : FnOk P w K mg base (CXx P w) 10 f fd ["_law_script"] (spLaw K) := by
  refine F.okc scL48 (fun vs H Q E h => ?_) (fun cdv A outer s H vs Q E hr h => ?_)
  · obtain ⟨a, ns, rfl, _⟩ := h
    rfl
  obtain ⟨a, ns, rfl, hS, h63, q⟩ := h
  refine ⟨_, pss_cons (ps_set (i := 1) scL48.nd rfl (Or.inl rfl) (pe_call Ln hr rfl mLn kLn bLn .nil passN (pa_cons (pe_call Ad hr rfl mAd kAd bAd .nil passN (pa_cons (pe_call Ce hr rfl mCe kCe bCe .nil passN (pa_cons (pv 0) (pa_cons pe_int pa_nil))) pa_nil)) pa_nil)))
    (pss_cons (ps_set (i := 1) scL48.nd rfl (Or.inl rfl) (pe_call Sp hr rfl mSp kSp bSp .nil passN (pa_cons (pv 1) (pa_cons (pe_call Ce hr rfl mCe kCe bCe .nil passN (pa_cons (pv 0) (pa_cons pe_int pa_nil))) pa_nil))))
    (pss_cons (ps_set (i := 2) scL48.nd rfl (Or.inl rfl) (pe_call Me hr rfl mMe kMe bMe .nil passN (pa_cons (pv 1) pa_nil)))
    (pss_cons (ps_set (i := 3) scL48.nd rfl (Or.inl rfl) pe_non)
    (pss_cons (psS_try rfl rfl mC rfl xC hB (fun pn E1 D σ0 pass => (pss_one (ps_set (i := 3) scL48.nd rfl (Or.inl rfl) (peS_callN Rl hr rfl mRl kRl bRl .nil pass (pa_cons (pv 1) pa_nil))))) (fun e => (pss_one (ps_set (i := 3) scL48.nd rfl (Or.inl rfl) pe_non))))
    (pss_one (ps_ret (pe_call Li hr rfl mLi kLi bLi .nil passN (pa_cons (pv 3) (pa_cons (pv 2) pa_nil))))))))), ?_⟩
  refine ⟨_, rfl, a, ns, 0, rfl, hS, h63, by omega, _, rfl, fun v1 H1 name1 kinds1 xs1 ds1 s1 d1 m1 p1 => ?_⟩
  refine ⟨v1, name1, kinds1, xs1, ds1, rfl, d1, m1, p1, fun H2 s2 => ?_⟩
  obtain ⟨_, h2, _, h4, _⟩ := deed_facts m1 p1
  have hx := line_len9 h2 h4 p1
  generalize Str.join (str " ") (name1 :: xs1) = x at hx ⊢
  have s02 := s1.trans s2
  refine ⟨_, rfl, _, rfl, a, ns, 1, rfl, s02.seq hS, h63, by omega, x, _, rfl, hx, fun z H3 s3 hz => ?_⟩
  refine ⟨_, rfl, z, rfl, hz, meant_both fun v H4 s4 hv => ?_⟩
  refine ⟨rfl, _, rfl, z, rfl, hz, fun d hd u H5 s5 du => ?_, fun hd ea H5 s5 => ?_⟩
  · rcases hv with ⟨d', hd', dv⟩ | ⟨hd', _⟩
    · rw [hd] at hd'
      cases hd'
      obtain ⟨k1, k2⟩ := line_small8 hz hd
      exact ⟨_, rfl, _, rfl, u, v, d, rfl, du, dv.mono s5, k1, k2, fun H6 _ => q _⟩
    · rw [hd] at hd'; cases hd'
  · rcases hv with ⟨d', hd', dv⟩ | ⟨_, rfl⟩
    · rw [hd] at hd'; cases hd'
    · exact ⟨rfl, ⟨_, rfl, _, rfl, .non, .non, .non, rfl, by simp only [Dr], by simp only [Dr], by simp only [D.dep]; omega, by simp only [D.fewB], fun H6 _ => q _⟩⟩
end
end Gu

set_option Elab.async false
set_option linter.all false
set_option maxRecDepth 100000
namespace Gu
open PySem L2
def kE (P : Params) (x : Str) (t : Tok) (v : Value) : DictEntry := { hash := PyData.keyHash P x, key := Value.str x t, val := v }
def kF (s : Stmt) (x : Str) (kV dc pm : Value) (an : Option Addr) (cd ct : Value) : Obj := ⟨.type "function", none, .func (PySem.W.fnOf x x (defArgs s) (defBody s) (defScope s) .none kV dc pm an cd ct), #[]⟩
abbrev vN : Value := .none
abbrev vR (a : Addr) : Value := .ref a
def kR (P : Params) (x : Str) (t : Tok) (a : Addr) : DictEntry := kE P x t (.ref a)
def kG (s : Stmt) (x m : Str) (t : Tok) (c : Addr) : Obj := kF s x .none .none (.str m t) none (.ref c) .none
def kC (x : Str) (a b c d : Tok) (vs : Array Value) : Obj := { cls := .type "code", data := .fields (#[Value.str x a, Value.str x b, Value.str "/claim/cut.py" c] ++ vs ++ #[Value.str "/claim/cut.py" d]) }
def kD (x : Str) (a b c d : Tok) (ln ar : Int) (A : Addr) (fl : Int) (B : Addr) (X Y Z : Value) (u : Int) : Obj := kC x a b c d #[.int ln 0, .int ar 0, .int 0 0, .int 0 0, .int 3 0, .ref A, .bool true, .int fl 0, .ref B, .none, X, Y, Z, .int u 0, .int ln 0]
def KH (P : Params) : PySem.W.Frag := (nat_lit 2, { cls := Value.none, data := Data.dict #[] }) ::
  (nat_lit 3, { cls := Value.type "dict", data := Data.dict #[kE P "__name__" 165 (Value.str "law_guisery_k48_lines_refused" 377), kE P "__doc__" 166 (Value.none), kE P "__package__" 167 (Value.none), kE P "__loader__" 168 (Value.builtin "__main__.__loader__#opaque"), kE P "__spec__" 169 (Value.none), kR P "__annotations__" 170 6, kR P "__builtins__" 171 4, kE P "__file__" 173 (Value.str "/claim/cut.py" 172), kE P "__cached__" 174 (Value.none), kR P "GuiseError" 206 24, kR P "BadLine" 222 37, kE P "SMALL_LETTERS" 226 (Value.str "abcdefghijklmnopqrstuvwxyz" 225), kE P "FIGURES" 228 (Value.str "0123456789" 227), kE P "MOST_LETTERS_OF_NAME" 230 (Value.int 12 229), kE P "MOST_FIGURES" 232 (Value.int 60 231), kE P "EMPTY" 234 (Value.str "-" 233), kR P "DEEDS" 276 40, kR P "is_name" 282 55, kR P "are_figures" 288 60, kR P "read_name" 295 67, kR P "read_number" 303 74, kR P "read_figures" 309 79, kR P "read_word" 316 86, kR P "read_going" 324 93, kR P "read_row" 330 98, kR P "read_rows" 336 103, kR P "READERS" 347 104, kR P "head_of_line" 354 111, kR P "read_parts" 368 118, kR P "read_line" 376 125, kR P "_law_numbers" 389 132, kR P "_law_said_word" 395 137, kR P "_law_said_rows" 401 142, kR P "_law_line" 407 147, kR P "_law_good_name" 414 154, kR P "_law_big" 421 161, kR P "_law_good_rows" 427 166, kR P "_law_any_deed" 433 171, kR P "_law_cell" 441 178, kR P "_law_whole" 448 185, kR P "_law_like" 454 190, kR P "_law_signs" 461 197, kR P "_law_spoilt" 476 204, kR P "_law_all_of" 482 209, kR P "_law_meant_part" 488 214, kR P "_law_meant_rows" 494 219, kR P "_law_meant" 500 224, kR P "law" 510 231] 48 }) ::
  (nat_lit 23, { cls := Value.type "dict", data := Data.dict #[kE P "__module__" 196 (Value.str "guisery.errors" 187), kE P "__firstlineno__" 200 (Value.int 2 199), kR P "__static_attributes__" 201 22, kR P "__weakref__" 203 25, kE P "__doc__" 204 (Value.none)] 3 }) ::
  (nat_lit 24, { cls := Value.type "type", data := Data.cls { name := "GuiseError", bases := [Value.type "ValueError"], mro := [Value.ref 24, Value.type "ValueError", Value.type "Exception", Value.type "BaseException", Value.type "object"], ns := 23, qualname := "GuiseError", subclasses := [Value.ref 37] }, slots := #[some (Value.ref 15), none, some (Value.str "GuiseError" 189), some (Value.str "GuiseError" 197), some (Value.builtin "ValueError.__new__"), some (Value.bool true)] }) ::
  (nat_lit 25, { cls := Value.type "getset_descriptor", data := Data.fields #[Value.str "__weakref__" 202, Value.ref 24, Value.builtin "ExceptionGroup.__weakref__", Value.none] }) ::
  (nat_lit 36, { cls := Value.type "dict", data := Data.dict #[kE P "__module__" 214 (Value.str "guisery.errors" 187), kE P "__firstlineno__" 218 (Value.int 4 217), kR P "__static_attributes__" 219 35, kE P "__doc__" 220 (Value.none)] 2 }) ::
  (nat_lit 37, { cls := Value.type "type", data := Data.cls { name := "BadLine", bases := [Value.ref 24], mro := [Value.ref 37, Value.ref 24, Value.type "ValueError", Value.type "Exception", Value.type "BaseException", Value.type "object"], ns := 36, qualname := "BadLine" }, slots := #[some (Value.ref 28), none, some (Value.str "BadLine" 207), some (Value.str "BadLine" 215), some (Value.builtin "ValueError.__new__"), some (Value.bool true)] }) ::
  (nat_lit 40, { cls := Value.type "dict", data := Data.dict #[kR P "sew" 235 41, kR P "join" 238 42, kR P "turn" 242 43, kR P "look" 245 44, kR P "power" 249 45, kR P "drop" 253 46, kR P "hang" 255 47, kR P "wear" 259 48, kR P "doff" 262 49, kR P "unhang" 264 50] 10 }) ::
  (nat_lit 41, { cls := Value.type "tuple", data := Data.seq #[Value.str "name" 236, Value.str "rows" 237] }) ::
  (nat_lit 42, { cls := Value.type "tuple", data := Data.seq #[Value.str "name" 239, Value.str "name" 240, Value.str "name" 241] }) ::
  (nat_lit 43, { cls := Value.type "tuple", data := Data.seq #[Value.str "name" 243, Value.str "name" 244] }) ::
  (nat_lit 44, { cls := Value.type "tuple", data := Data.seq #[Value.str "name" 246, Value.str "name" 247, Value.str "word" 248] }) ::
  (nat_lit 45, { cls := Value.type "tuple", data := Data.seq #[Value.str "name" 250, Value.str "name" 251, Value.str "number" 252] }) ::
  (nat_lit 46, { cls := Value.type "tuple", data := Data.seq #[Value.str "name" 254] }) ::
  (nat_lit 47, { cls := Value.type "tuple", data := Data.seq #[Value.str "name" 256, Value.str "word" 257, Value.str "ring" 258] }) ::
  (nat_lit 48, { cls := Value.type "tuple", data := Data.seq #[Value.str "name" 260, Value.str "name" 261] }) ::
  (nat_lit 49, { cls := Value.type "tuple", data := Data.seq #[Value.str "name" 263] }) ::
  (nat_lit 50, { cls := Value.type "tuple", data := Data.seq #[Value.str "name" 265] }) ::
  (nat_lit 54, kD "is_name" 277 278 279 281 13 1 51 181 52 vN vN (vR 53) 280) ::
  (nat_lit 55, kG sIsName "is_name" "guisery.lines" 223 54) ::
  (nat_lit 59, kD "are_figures" 283 284 285 287 15 1 56 181 57 vN vN (vR 58) 286) ::
  (nat_lit 60, kG sAreFig "are_figures" "guisery.lines" 223 59) ::
  (nat_lit 66, kD "read_name" 289 290 291 294 17 1 61 181 62 (vR 63) (vR 64) (vR 65) 293) ::
  (nat_lit 67, kG sRdName "read_name" "guisery.lines" 223 66) ::
  (nat_lit 73, kD "read_number" 296 297 298 302 21 1 68 181 69 (vR 70) (vR 71) (vR 72) 301) ::
  (nat_lit 74, kG sRdNum "read_number" "guisery.lines" 223 73) ::
  (nat_lit 78, kD "read_figures" 304 305 306 308 28 1 75 181 76 vN vN (vR 77) 307) ::
  (nat_lit 79, kG sRdFig "read_figures" "guisery.lines" 223 78) ::
  (nat_lit 85, kD "read_word" 310 311 312 315 32 1 80 181 81 (vR 82) (vR 83) (vR 84) 314) ::
  (nat_lit 86, kG sRdWord "read_word" "guisery.lines" 223 85) ::
  (nat_lit 92, kD "read_going" 317 318 319 323 34 1 87 181 88 (vR 89) (vR 90) (vR 91) 322) ::
  (nat_lit 93, kG sRdGoing "read_going" "guisery.lines" 223 92) ::
  (nat_lit 97, kD "read_row" 325 326 327 329 41 1 94 181 95 vN vN (vR 96) 328) ::
  (nat_lit 98, kG sRdRow "read_row" "guisery.lines" 223 97) ::
  (nat_lit 102, kD "read_rows" 331 332 333 335 44 1 99 181 100 vN vN (vR 101) 334) ::
  (nat_lit 103, kG sRdRows "read_rows" "guisery.lines" 223 102) ::
  (nat_lit 104, { cls := Value.type "dict", data := Data.dict #[kR P "name" 337 67, kR P "number" 338 74, kR P "word" 339 86, kR P "ring" 340 79, kR P "rows" 341 103] 5 }) ::
  (nat_lit 110, kD "head_of_line" 348 349 350 353 47 1 105 181 106 (vR 107) (vR 108) (vR 109) 352) ::
  (nat_lit 111, kG sHeadL "head_of_line" "guisery.lines" 223 110) ::
  (nat_lit 117, kD "read_parts" 355 356 357 367 49 2 112 181 113 (vR 114) (vR 115) (vR 116) 366) ::
  (nat_lit 118, kG sRdParts "read_parts" "guisery.lines" 223 117) ::
  (nat_lit 124, kD "read_line" 369 370 371 375 58 1 119 181 120 (vR 121) (vR 122) (vR 123) 374) ::
  (nat_lit 125, kG sRdLine "read_line" "guisery.lines" 223 124) ::
  (nat_lit 131, kD "_law_numbers" 379 380 381 388 64 2 126 181 127 (vR 128) (vR 129) (vR 130) 387) ::
  (nat_lit 132, kG sNumbers "_law_numbers" "law_guisery_k48_lines_refused" 377 131) ::
  (nat_lit 136, kD "_law_said_word" 390 391 392 394 75 1 133 181 134 vN vN (vR 135) 393) ::
  (nat_lit 137, kG sSaidW "_law_said_word" "law_guisery_k48_lines_refused" 377 136) ::
  (nat_lit 141, kD "_law_said_rows" 396 397 398 400 77 1 138 181 139 vN vN (vR 140) 399) ::
  (nat_lit 142, kG sSaidR "_law_said_rows" "law_guisery_k48_lines_refused" 377 141) ::
  (nat_lit 146, kD "_law_line" 402 403 404 406 79 1 143 181 144 vN vN (vR 145) 405) ::
  (nat_lit 147, kG sLineL "_law_line" "law_guisery_k48_lines_refused" 377 146) ::
  (nat_lit 153, kD "_law_good_name" 408 409 410 413 83 1 148 181 149 (vR 150) (vR 151) (vR 152) 412) ::
  (nat_lit 154, kG sGoodN "_law_good_name" "law_guisery_k48_lines_refused" 377 153) ::
  (nat_lit 160, kD "_law_big" 415 416 417 420 85 1 155 181 156 (vR 157) (vR 158) (vR 159) 419) ::
  (nat_lit 161, kG sBigL "_law_big" "law_guisery_k48_lines_refused" 377 160) ::
  (nat_lit 165, kD "_law_good_rows" 422 423 424 426 87 1 162 181 163 vN vN (vR 164) 425) ::
  (nat_lit 166, kG sGoodR "_law_good_rows" "law_guisery_k48_lines_refused" 377 165) ::
  (nat_lit 170, kD "_law_any_deed" 428 429 430 432 95 1 167 181 168 vN vN (vR 169) 431) ::
  (nat_lit 171, kG sAnyD "_law_any_deed" "law_guisery_k48_lines_refused" 377 170) ::
  (nat_lit 177, kD "_law_cell" 434 435 436 440 106 2 172 181 173 (vR 174) (vR 175) (vR 176) 439) ::
  (nat_lit 178, kG sCell "_law_cell" "law_guisery_k48_lines_refused" 377 177) ::
  (nat_lit 184, kD "_law_whole" 442 443 444 447 112 1 179 181 180 (vR 181) (vR 182) (vR 183) 446) ::
  (nat_lit 185, kG sWhole "_law_whole" "law_guisery_k48_lines_refused" 377 184) ::
  (nat_lit 189, kD "_law_like" 449 450 451 453 114 2 186 181 187 vN vN (vR 188) 452) ::
  (nat_lit 190, kG sLike "_law_like" "law_guisery_k48_lines_refused" 377 189) ::
  (nat_lit 196, kD "_law_signs" 455 456 457 460 126 0 191 181 192 (vR 193) (vR 194) (vR 195) 459) ::
  (nat_lit 197, kG sSigns "_law_signs" "law_guisery_k48_lines_refused" 377 196) ::
  (nat_lit 203, kD "_law_spoilt" 462 463 464 475 129 2 198 181 199 (vR 200) (vR 201) (vR 202) 474) ::
  (nat_lit 204, kG sSpoilt "_law_spoilt" "law_guisery_k48_lines_refused" 377 203) ::
  (nat_lit 208, kD "_law_all_of" 477 478 479 481 158 2 205 181 206 vN vN (vR 207) 480) ::
  (nat_lit 209, kG sAllOf "_law_all_of" "law_guisery_k48_lines_refused" 377 208) ::
  (nat_lit 213, kD "_law_meant_part" 483 484 485 487 160 2 210 181 211 vN vN (vR 212) 486) ::
  (nat_lit 214, kG sMeantP "_law_meant_part" "law_guisery_k48_lines_refused" 377 213) ::
  (nat_lit 218, kD "_law_meant_rows" 489 490 491 493 174 1 215 181 216 vN vN (vR 217) 492) ::
  (nat_lit 219, kG sMeantR "_law_meant_rows" "law_guisery_k48_lines_refused" 377 218) ::
  (nat_lit 223, kD "_law_meant" 495 496 497 499 183 1 220 181 221 vN vN (vR 222) 498) ::
  (nat_lit 224, kG sMeant "_law_meant" "law_guisery_k48_lines_refused" 377 223) ::
  (nat_lit 230, kD "law" 501 502 503 509 195 1 225 181 226 (vR 227) (vR 228) (vR 229) 508) ::
  (nat_lit 231, kG sLaw "law" "law_guisery_k48_lines_refused" 377 230) :: []
def KA : List Addr := nat_lit 2 :: nat_lit 3 :: nat_lit 23 :: nat_lit 24 :: nat_lit 25 :: nat_lit 36 :: nat_lit 37 :: nat_lit 40 :: nat_lit 41 :: nat_lit 42 :: nat_lit 43 :: nat_lit 44 :: nat_lit 45 :: nat_lit 46 :: nat_lit 47 :: nat_lit 48 :: nat_lit 49 :: nat_lit 50 :: nat_lit 54 :: nat_lit 55 :: nat_lit 59 :: nat_lit 60 :: nat_lit 66 :: nat_lit 67 :: nat_lit 73 :: nat_lit 74 :: nat_lit 78 :: nat_lit 79 :: nat_lit 85 :: nat_lit 86 :: nat_lit 92 :: nat_lit 93 :: nat_lit 97 :: nat_lit 98 :: nat_lit 102 :: nat_lit 103 :: nat_lit 104 :: nat_lit 110 :: nat_lit 111 :: nat_lit 117 :: nat_lit 118 :: nat_lit 124 :: nat_lit 125 :: nat_lit 131 :: nat_lit 132 :: nat_lit 136 :: nat_lit 137 :: nat_lit 141 :: nat_lit 142 :: nat_lit 146 :: nat_lit 147 :: nat_lit 153 :: nat_lit 154 :: nat_lit 160 :: nat_lit 161 :: nat_lit 165 :: nat_lit 166 :: nat_lit 170 :: nat_lit 171 :: nat_lit 177 :: nat_lit 178 :: nat_lit 184 :: nat_lit 185 :: nat_lit 189 :: nat_lit 190 :: nat_lit 196 :: nat_lit 197 :: nat_lit 203 :: nat_lit 204 :: nat_lit 208 :: nat_lit 209 :: nat_lit 213 :: nat_lit 214 :: nat_lit 218 :: nat_lit 219 :: nat_lit 223 :: nat_lit 224 :: nat_lit 230 :: nat_lit 231 :: []
end Gu

set_option Elab.async false
set_option linter.all false
set_option maxRecDepth 100000
set_option maxHeartbeats 4000000
namespace Gu
open PySem L2
structure FA (K : PySem.W.Frag) (f : Addr) (x : Str) (st : Stmt) : Prop where
  a : PySem.W.nsIn K mainGlobals x = some (some (.ref f))
  l : ∃ oc od kV dc pm an cd ct sl, K.lookup f = some ⟨oc, od, .func (PySem.W.fnOf x x (defArgs st) (defBody st) (defScope st) .none kV dc pm an cd ct), sl⟩ ∧ PySem.W.codeIn K cd x = true
  k : PySem.W.keepIn K (.ref f) = true
theorem FA.of {K : PySem.W.Frag} {f : Addr} {x : Str} {st : Stmt} {oc kV dc pm cd ct : Value} {od an : Option Addr} {sl : Array (Option Value)} (a : PySem.W.nsIn K mainGlobals x = some (some (.ref f))) (l : K.lookup f = some ⟨oc, od, .func (PySem.W.fnOf x x (defArgs st) (defBody st) (defScope st) .none kV dc pm an cd ct), sl⟩) (c : PySem.W.codeIn K cd x = true) (k : PySem.W.keepIn K (.ref f) = true) : FA K f x st := ⟨a, ⟨_, _, _, _, _, _, _, _, _, l, c⟩, k⟩
theorem FA.go {K : PySem.W.Frag} {f : Addr} {x : Str} {st : Stmt} {h : Heap} {mg : Str → Option Value} (A : FA K f x st) (X : K.In h) (G : h.Ns mainGlobals mg) : ∃ fd, Fun K x x st f fd ∧ mg x = some (.ref f) ∧ PySem.W.keepIn K (.ref f) = true := by
  obtain ⟨a, ⟨_, _, _, _, _, _, _, _, _, l, c⟩, k⟩ := A
  exact ⟨_, fun_mk l c k, PySem.W.mg_of X G a, k⟩

abbrev fnY (x : Str) (st : Stmt) (kV dc pm : Value) (an : Option Addr) (cd ct : Value) := PySem.W.fnOf x x (defArgs st) (defBody st) (defScope st) .none kV dc pm an cd ct
section
variable {K : PySem.W.Frag} {x : Str} {st : Stmt} {f : Addr} {fd : FuncData}
theorem bnd1 {a : Str} (F : Fun K x x st f fd) (h : ∀ (kV dc pm : Value) (an : Option Addr) (cd ct u : Value), bindArgs (fnY x st kV dc pm an cd ct) ⟨[u], []⟩ = pure [(a, u)]) : Binds K fd [a] [] := F.binds fun _ _ _ _ _ _ us hl => by obtain ⟨_, rfl⟩ := len1 hl; exact h _ _ _ _ _ _ _
theorem bnd2 {a b : Str} (F : Fun K x x st f fd) (h : ∀ (kV dc pm : Value) (an : Option Addr) (cd ct u v : Value), bindArgs (fnY x st kV dc pm an cd ct) ⟨[u, v], []⟩ = pure [(a, u), (b, v)]) : Binds K fd [a, b] [] := F.binds fun _ _ _ _ _ _ us hl => by obtain ⟨_, _, rfl⟩ := len2 hl; exact h _ _ _ _ _ _ _ _
end
theorem all_mk {l : PySem.W.OpenLaw} {w : World} {K : PySem.W.Frag} {h : Heap} {mg : Str → Option Value} {fa f1 f2 f3 f4 f5 f6 f7 f8 f9 f10 f11 f12 f13 f14 f15 f16 f17 f18 f19 f20 f21 f22 f23 f24 f25 f26 f27 f28 f29 f30 : Addr} (X : K.In h) (G : h.Ns mainGlobals mg) (hfa : mg "law" = some (.ref fa))
    {od30 an30 : Option Addr} {sl30 : Array (Option Value)} {tk1 tk2 tk3 tk4 tk5 : Tok}
    {oc30 kV30 dc30 pm30 cd30 ct30 : Value}
    (h1 : FA K f1 "is_name" sIsName)
    (h2 : FA K f2 "are_figures" sAreFig)
    (h3 : FA K f3 "read_name" sRdName)
    (h4 : FA K f4 "read_number" sRdNum)
    (h5 : FA K f5 "read_figures" sRdFig)
    (h6 : FA K f6 "read_word" sRdWord)
    (h7 : FA K f7 "read_going" sRdGoing)
    (h8 : FA K f8 "read_row" sRdRow)
    (h9 : FA K f9 "read_rows" sRdRows)
    (h10 : FA K f10 "head_of_line" sHeadL)
    (h11 : FA K f11 "read_parts" sRdParts)
    (h12 : FA K f12 "read_line" sRdLine)
    (h13 : FA K f13 "_law_numbers" sNumbers)
    (h14 : FA K f14 "_law_said_word" sSaidW)
    (h15 : FA K f15 "_law_said_rows" sSaidR)
    (h16 : FA K f16 "_law_line" sLineL)
    (h17 : FA K f17 "_law_good_name" sGoodN)
    (h18 : FA K f18 "_law_big" sBigL)
    (h19 : FA K f19 "_law_good_rows" sGoodR)
    (h20 : FA K f20 "_law_any_deed" sAnyD)
    (h21 : FA K f21 "_law_cell" sCell)
    (h22 : FA K f22 "_law_whole" sWhole)
    (h23 : FA K f23 "_law_like" sLike)
    (h24 : FA K f24 "_law_signs" sSigns)
    (h25 : FA K f25 "_law_spoilt" sSpoilt)
    (h26 : FA K f26 "_law_all_of" sAllOf)
    (h27 : FA K f27 "_law_meant_part" sMeantP)
    (h28 : FA K f28 "_law_meant_rows" sMeantR)
    (h29 : FA K f29 "_law_meant" sMeant)
    (a30 : PySem.W.nsIn K mainGlobals "law" = some (some (.ref f30))) (l30 : K.lookup f30 = some ⟨oc30, od30, .func (PySem.W.fnOf "law" "law" (defArgs sLaw) (defBody sLaw) (defScope sLaw) .none kV30 dc30 pm30 an30 cd30 ct30), sl30⟩) (c30 : PySem.W.codeIn K cd30 "law" = true) (k30 : PySem.W.keepIn K (.ref f30) = true)
    (i1 : PySem.W.nsIn K mainGlobals "SMALL_LETTERS" = some (some (.str "abcdefghijklmnopqrstuvwxyz" tk1)))
    (i2 : PySem.W.nsIn K mainGlobals "FIGURES" = some (some (.str "0123456789" tk2)))
    (i3 : PySem.W.nsIn K mainGlobals "MOST_LETTERS_OF_NAME" = some (some (.int 12 tk3)))
    (i4 : PySem.W.nsIn K mainGlobals "MOST_FIGURES" = some (some (.int 60 tk4)))
    (i5 : PySem.W.nsIn K mainGlobals "EMPTY" = some (some (.str "-" tk5)))
    {a_DEEDS : Addr} (gDEEDS : PySem.W.nsIn K mainGlobals "DEEDS" = some (some (.ref a_DEEDS))) (wDEEDS : dictM K a_DEEDS = true)
    (qDEEDS : deedsIn K a_DEEDS = true) (oDEEDS : deedsOnly K a_DEEDS = true)
    {a_READERS : Addr} (gREADERS : PySem.W.nsIn K mainGlobals "READERS" = some (some (.ref a_READERS))) (wREADERS : dictM K a_READERS = true)
    (qREADERS_name : PySem.W.nsIn K a_READERS (str "name") = some (some (.ref f3)))
    (qREADERS_number : PySem.W.nsIn K a_READERS (str "number") = some (some (.ref f4)))
    (qREADERS_word : PySem.W.nsIn K a_READERS (str "word") = some (some (.ref f6)))
    (qREADERS_ring : PySem.W.nsIn K a_READERS (str "ring") = some (some (.ref f5)))
    (qREADERS_rows : PySem.W.nsIn K a_READERS (str "rows") = some (some (.ref f9)))
    (z1 : PySem.W.nsIn K mainGlobals "len" = some none)
    (z2 : PySem.W.nsIn K mainGlobals "tuple" = some none)
    (z3 : PySem.W.nsIn K mainGlobals "list" = some none)
    (z4 : PySem.W.nsIn K mainGlobals "range" = some none)
    (z5 : PySem.W.nsIn K mainGlobals "isinstance" = some none)
    (z6 : PySem.W.nsIn K mainGlobals "int" = some none)
    (z7 : PySem.W.nsIn K mainGlobals "bool" = some none)
    (z8 : PySem.W.nsIn K mainGlobals "str" = some none)
    (z9 : PySem.W.nsIn K mainGlobals "all" = some none)
    (z10 : PySem.W.nsIn K mainGlobals "any" = some none)
    (z11 : PySem.W.nsIn K mainGlobals "sorted" = some none)
    (z12 : PySem.W.nsIn K mainGlobals "zip" = some none)
    (z13 : PySem.W.nsIn K mainGlobals "max" = some none)
    (z14 : PySem.W.nsIn K mainGlobals "min" = some none)
    (z15 : PySem.W.nsIn K mainGlobals "enumerate" = some none)
    (z16 : PySem.W.nsIn K mainGlobals "abs" = some none)
    {CtBadLine : Addr} (yBadLine : PySem.W.nsIn K mainGlobals "BadLine" = some (some (.ref CtBadLine))) (xBadLine : PySem.W.excIn K CtBadLine [.type "ValueError", .type "Exception", .type "BaseException", .type "object"] "ValueError.__new__" = true)
    : ∃ fd : FuncData, (∀ (s : Shared) (v : Value), BindsTo s fd ⟨[v], []⟩ [("_law_script", v)]) ∧ ∀ base : Heap, K.In base → base.Ns mainGlobals mg → FnOk l.prog w K mg base (CXx l.prog w) 10 fa fd ["_law_script"] (spLaw K) := by
  have e := hfa.symm.trans (PySem.W.mg_of X G a30)
  cases e
  obtain ⟨d1, F1, m1, k1⟩ := h1.go X G
  have b1 : Binds K d1 ["text"] [] := bnd1 F1 fun _ _ _ _ _ _ _ => rfl
  obtain ⟨d2, F2, m2, k2⟩ := h2.go X G
  have b2 : Binds K d2 ["text"] [] := bnd1 F2 fun _ _ _ _ _ _ _ => rfl
  obtain ⟨d3, F3, m3, k3⟩ := h3.go X G
  have b3 : Binds K d3 ["text"] [] := bnd1 F3 fun _ _ _ _ _ _ _ => rfl
  obtain ⟨d4, F4, m4, k4⟩ := h4.go X G
  have b4 : Binds K d4 ["text"] [] := bnd1 F4 fun _ _ _ _ _ _ _ => rfl
  obtain ⟨d5, F5, m5, k5⟩ := h5.go X G
  have b5 : Binds K d5 ["text"] [] := bnd1 F5 fun _ _ _ _ _ _ _ => rfl
  obtain ⟨d6, F6, m6, k6⟩ := h6.go X G
  have b6 : Binds K d6 ["text"] [] := bnd1 F6 fun _ _ _ _ _ _ _ => rfl
  obtain ⟨d7, F7, m7, k7⟩ := h7.go X G
  have b7 : Binds K d7 ["text"] [] := bnd1 F7 fun _ _ _ _ _ _ _ => rfl
  obtain ⟨d8, F8, m8, k8⟩ := h8.go X G
  have b8 : Binds K d8 ["text"] [] := bnd1 F8 fun _ _ _ _ _ _ _ => rfl
  obtain ⟨d9, F9, m9, k9⟩ := h9.go X G
  have b9 : Binds K d9 ["text"] [] := bnd1 F9 fun _ _ _ _ _ _ _ => rfl
  obtain ⟨d10, F10, m10, k10⟩ := h10.go X G
  have b10 : Binds K d10 ["line"] [] := bnd1 F10 fun _ _ _ _ _ _ _ => rfl
  obtain ⟨d11, F11, m11, k11⟩ := h11.go X G
  have b11 : Binds K d11 ["line", "kinds"] [] := bnd2 F11 fun _ _ _ _ _ _ _ _ => rfl
  obtain ⟨d12, F12, m12, k12⟩ := h12.go X G
  have b12 : Binds K d12 ["line"] [] := bnd1 F12 fun _ _ _ _ _ _ _ => rfl
  obtain ⟨d13, F13, m13, k13⟩ := h13.go X G
  have b13 : Binds K d13 ["_law_cell_here", "_law_many"] [] := bnd2 F13 fun _ _ _ _ _ _ _ _ => rfl
  obtain ⟨d14, F14, m14, k14⟩ := h14.go X G
  have b14 : Binds K d14 ["_law_word"] [] := bnd1 F14 fun _ _ _ _ _ _ _ => rfl
  obtain ⟨d15, F15, m15, k15⟩ := h15.go X G
  have b15 : Binds K d15 ["_law_rows"] [] := bnd1 F15 fun _ _ _ _ _ _ _ => rfl
  obtain ⟨d16, F16, m16, k16⟩ := h16.go X G
  have b16 : Binds K d16 ["_law_deed"] [] := bnd1 F16 fun _ _ _ _ _ _ _ => rfl
  obtain ⟨d17, F17, m17, k17⟩ := h17.go X G
  have b17 : Binds K d17 ["_law_pick"] [] := bnd1 F17 fun _ _ _ _ _ _ _ => rfl
  obtain ⟨d18, F18, m18, k18⟩ := h18.go X G
  have b18 : Binds K d18 ["_law_pick"] [] := bnd1 F18 fun _ _ _ _ _ _ _ => rfl
  obtain ⟨d19, F19, m19, k19⟩ := h19.go X G
  have b19 : Binds K d19 ["_law_nums"] [] := bnd1 F19 fun _ _ _ _ _ _ _ => rfl
  obtain ⟨d20, F20, m20, k20⟩ := h20.go X G
  have b20 : Binds K d20 ["_law_cell_here"] [] := bnd1 F20 fun _ _ _ _ _ _ _ => rfl
  obtain ⟨d21, F21, m21, k21⟩ := h21.go X G
  have b21 : Binds K d21 ["_law_script", "_law_at"] [] := bnd2 F21 fun _ _ _ _ _ _ _ _ => rfl
  obtain ⟨d22, F22, m22, k22⟩ := h22.go X G
  have b22 : Binds K d22 ["_law_found"] [] := bnd1 F22 fun _ _ _ _ _ _ _ => rfl
  obtain ⟨d23, F23, m23, k23⟩ := h23.go X G
  have b23 : Binds K d23 ["_law_found", "_law_due"] [] := bnd2 F23 fun _ _ _ _ _ _ _ _ => rfl
  obtain ⟨d24, F24, m24, k24⟩ := h24.go X G
  have b24 := F24.binds (ps := []) fun _ _ _ _ _ _ us hl => by obtain rfl := List.length_eq_zero_iff.mp hl; rfl
  obtain ⟨d25, F25, m25, k25⟩ := h25.go X G
  have b25 : Binds K d25 ["_law_line_here", "_law_cell_here"] [] := bnd2 F25 fun _ _ _ _ _ _ _ _ => rfl
  obtain ⟨d26, F26, m26, k26⟩ := h26.go X G
  have b26 : Binds K d26 ["_law_text", "_law_signs_here"] [] := bnd2 F26 fun _ _ _ _ _ _ _ _ => rfl
  obtain ⟨d27, F27, m27, k27⟩ := h27.go X G
  have b27 : Binds K d27 ["_law_kind", "_law_text"] [] := bnd2 F27 fun _ _ _ _ _ _ _ _ => rfl
  obtain ⟨d28, F28, m28, k28⟩ := h28.go X G
  have b28 : Binds K d28 ["_law_parts"] [] := bnd1 F28 fun _ _ _ _ _ _ _ => rfl
  obtain ⟨d29, F29, m29, k29⟩ := h29.go X G
  have b29 : Binds K d29 ["_law_line_here"] [] := bnd1 F29 fun _ _ _ _ _ _ _ => rfl
  have F30 := fun_mk (st := sLaw) l30 c30 k30
  have m30 := PySem.W.mg_of X G a30
  have mBadLine := PySem.W.mg_of X G yBadLine
  have j1 := PySem.W.mg_of X G i1
  have j2 := PySem.W.mg_of X G i2
  have j3 := PySem.W.mg_of X G i3
  have j4 := PySem.W.mg_of X G i4
  have j5 := PySem.W.mg_of X G i5
  have m_DEEDS := PySem.W.mg_of X G gDEEDS
  have m_READERS := PySem.W.mg_of X G gREADERS
  have n_len := PySem.W.mg_none_of X G z1
  have n_tuple := PySem.W.mg_none_of X G z2
  have n_list := PySem.W.mg_none_of X G z3
  have n_range := PySem.W.mg_none_of X G z4
  have n_isinstance := PySem.W.mg_none_of X G z5
  have n_int := PySem.W.mg_none_of X G z6
  have n_bool := PySem.W.mg_none_of X G z7
  have n_str := PySem.W.mg_none_of X G z8
  have n_all := PySem.W.mg_none_of X G z9
  have n_any := PySem.W.mg_none_of X G z10
  have n_sorted := PySem.W.mg_none_of X G z11
  have n_zip := PySem.W.mg_none_of X G z12
  have n_max := PySem.W.mg_none_of X G z13
  have n_min := PySem.W.mg_none_of X G z14
  have n_enumerate := PySem.W.mg_none_of X G z15
  have n_abs := PySem.W.mg_none_of X G z16
  have B : Blt mg := ⟨n_len, n_tuple, n_list, n_range, n_isinstance, n_int, n_bool, n_str, n_all⟩
  refine ⟨PySem.W.fnOf "law" "law" (defArgs sLaw) (defBody sLaw) (defScope sLaw) .none kV30 dc30 pm30 an30 cd30 ct30, fun s v => .of_eq rfl, fun base _ _ => ?_⟩
  have O1 : FnOk l.prog w K mg base (CXx l.prog w) 1 f1 _ ["text"] spIsName := ok_isname B.len B.all j3 j1 F1
  have O2 : FnOk l.prog w K mg base (CXx l.prog w) 1 f2 _ ["text"] spAreF := ok_arefig B.len B.all j2 F2
  have O3 : FnOk l.prog w K mg base (CXx l.prog w) 2 f3 _ ["text"] (spRd8 K CtBadLine nameM) := ok_rdname8 mBadLine xBadLine PySem.F.excBase_ValueError F3 O1 b1 k1 m1
  have O4 : FnOk l.prog w K mg base (CXx l.prog w) 2 f4 _ ["text"] (spRd8 K CtBadLine numM) := ok_rdnum8 mBadLine xBadLine PySem.F.excBase_ValueError B.len B.int j4 F4 O2 b2 k2 m2
  have O5 : FnOk l.prog w K mg base (CXx l.prog w) 2 f5 _ ["text"] (spRd8 K CtBadLine ringM) := ok_rdfig8 mBadLine xBadLine PySem.F.excBase_ValueError B.int B.tup F5 O2 b2 k2 m2
  have O6 : FnOk l.prog w K mg base (CXx l.prog w) 3 f6 _ ["text"] (spRd8 K CtBadLine wordM) := ok_rdword8 j5 F6 O5 b5 k5 m5
  have O7 : FnOk l.prog w K mg base (CXx l.prog w) 3 f7 _ ["text"] (spRd8 K CtBadLine goM) := ok_rdgoing8 mBadLine xBadLine PySem.F.excBase_ValueError F7 (O1.mono (by decide)) b1 k1 m1 O4 b4 k4 m4
  have O8 : FnOk l.prog w K mg base (CXx l.prog w) 4 f8 _ ["text"] (spRd8 K CtBadLine rowM) := ok_rdrow8 B.tup F8 (O5.mono (by decide)) b5 k5 m5 O7 b7 k7 m7
  have O9 : FnOk l.prog w K mg base (CXx l.prog w) 5 f9 _ ["text"] (spRd8 K CtBadLine rowsM) := ok_rdrows8 F9 O8 b8 k8 m8
  have O10 : FnOk l.prog w K mg base (CXx l.prog w) 1 f10 _ ["line"] spHead8 := ok_headl8 F10
  have O11 : FnOk l.prog w K mg base (CXx l.prog w) 7 f11 _ ["line", "kinds"] (spParts8 K CtBadLine) := ok_rdparts8 mBadLine xBadLine PySem.F.excBase_ValueError B.len n_max n_zip B.tup m_READERS wREADERS (rds_of ⟨_, _, qREADERS_name, O3.mono (by decide), b3, k3⟩ ⟨_, _, qREADERS_number, O4.mono (by decide), b4, k4⟩ ⟨_, _, qREADERS_word, O6.mono (by decide), b6, k6⟩ ⟨_, _, qREADERS_ring, O5.mono (by decide), b5, k5⟩ ⟨_, _, qREADERS_rows, O9.mono (by decide), b9, k9⟩) F11
  have O12 : FnOk l.prog w K mg base (CXx l.prog w) 8 f12 _ ["line"] (spRd8 K CtBadLine lineM) := ok_rdline8 mBadLine xBadLine PySem.F.excBase_ValueError m_DEEDS wDEEDS (deedsIn_at qDEEDS) oDEEDS F12 (O10.mono (by decide)) b10 k10 m10 O11 b11 k11 m11
  have O14 : FnOk l.prog w K mg base (CXx l.prog w) 1 f14 _ ["_law_word"] (spWordW K) := ok_saidw B.len B.str F14
  have O15 : FnOk l.prog w K mg base (CXx l.prog w) 2 f15 _ ["_law_rows"] (spRowsW K) := ok_saidr B.str F15 O14 b14 k14 m14
  have O16 : FnOk l.prog w K mg base (CXx l.prog w) 3 f16 _ ["_law_deed"] (spLineL K) := ok_linel B.str B F16 O15 b15 k15 m15 (O14.mono (by decide)) b14 k14 m14
  have O21 : FnOk l.prog w K mg base (CXx l.prog w) 1 f21 _ ["_law_script", "_law_at"] (spCell K) := ok_cell F21 B.len
  have O13 : FnOk l.prog w K mg base (CXx l.prog w) 1 f13 _ ["_law_cell_here", "_law_many"] (spNumbers K) := ok_numbers F13 B.len
  have O22 : FnOk l.prog w K mg base (CXx l.prog w) 1 f22 _ ["_law_found"] (spWhole K) := ok_whole F22 B
  have O23 : FnOk l.prog w K mg base (CXx l.prog w) 7 f23 _ ["_law_found", "_law_due"] (spLikeB K 6) := all_like F23 B O22 b22 k22 m22 b23 k23 m23 6
  have O17 : FnOk l.prog w K mg base (CXx l.prog w) 1 f17 _ ["_law_pick"] spGoodN := ok_goodn F17
  have O18 : FnOk l.prog w K mg base (CXx l.prog w) 1 f18 _ ["_law_pick"] spBigL := ok_bigl F18
  have O19 : FnOk l.prog w K mg base (CXx l.prog w) 2 f19 _ ["_law_nums"] (spGoodRw K) := ok_goodrw B.rng B.tup F19 O17 b17 k17 m17 O18 b18 k18 m18
  have O20 : FnOk l.prog w K mg base (CXx l.prog w) 3 f20 _ ["_law_cell_here"] (spAnyD K) := ok_anyd B.tup F20 (O13.mono (by decide)) b13 k13 m13 (O17.mono (by decide)) b17 k17 m17 (O18.mono (by decide)) b18 k18 m18 O19 b19 k19 m19
  have O24 : FnOk l.prog w K mg base (CXx l.prog w) 1 f24 _ [] spSigns8 := ok_signs8 F24
  have O25 : FnOk l.prog w K mg base (CXx l.prog w) 3 f25 _ ["_law_line_here", "_law_cell_here"] spSpoilt48 := ok_spoilt8 B.len F25 (O13.mono (by decide)) b13 k13 m13 (O24.mono (by decide)) b24 k24 m24
  have O26 : FnOk l.prog w K mg base (CXx l.prog w) 1 f26 _ ["_law_text", "_law_signs_here"] spAllOf := ok_allof8 B.len B.all F26
  have O27 : FnOk l.prog w K mg base (CXx l.prog w) 3 f27 _ ["_law_kind", "_law_text"] (spMeantP K 2) := all_meantp8 B.len B.tup B.int F27 O26 b26 k26 m26 b27 k27 m27 2
  have O28 : FnOk l.prog w K mg base (CXx l.prog w) 4 f28 _ ["_law_parts"] (spMeantR K) := ok_meantr8 B.tup F28 O27 b27 k27 m27
  have O29 : FnOk l.prog w K mg base (CXx l.prog w) 5 f29 _ ["_law_line_here"] (spMeantL K) := ok_meantl8 B.len B.rng B.tup F29 (O27.mono (by decide)) b27 k27 m27 O28 b28 k28 m28
  exact ok_law mBadLine xBadLine PySem.F.excBase_ValueError.hasBase F30 (O16.mono (by decide)) b16 k16 m16 (O20.mono (by decide)) b20 k20 m20 (O21.mono (by decide)) b21 k21 m21 (O25.mono (by decide)) b25 k25 m25 (O29.mono (by decide)) b29 k29 m29 (O12.mono (by decide)) b12 k12 m12 (O23.mono (by decide)) b23 k23 m23
theorem walk {l : PySem.W.OpenLaw} {q : Program} {loose : List Str} {XP : (Str → Option Value) → Heap → Prop} {YP : World → Heap → Prop} {d : DefRec} {K : Params → PySem.W.Frag} (hn : l.most = some 63) (hdf : d.params.defaults = [])
    (hY : ∀ (w : World) (h : Heap), YP w h → (K w.params).In h)
    (F : ∀ (w : World) (mg : Str → Option Value) (fa : Addr) (h : Heap), (K w.params).In h → h.Ns mainGlobals mg → mg d.name = some (.ref fa) →
      ∃ fd : FuncData, (∀ (s : Shared) (u : Value), BindsTo s fd ⟨[u], []⟩ [("_law_script", u)]) ∧ ∀ base : Heap, (K w.params).In base → base.Ns mainGlobals mg → FnOk l.prog w (K w.params) mg base (CXx l.prog w) 10 fa fd ["_law_script"] (spLaw (K w.params))) :
    PySem.W.WalkO q loose XP YP l.row.toRowW d [] (fun f vs => PySem.call f vs) :=
  L2.walk_of (n := 63) (k := 10) (x := "_law_script") (CX := fun w => (CXx l.prog w)) (sp := fun w => spLaw (K w.params)) hn (by decide) hdf ⟨rfl, by decide, by decide⟩ hY F (fun _ _ a ns hl _ hS => ⟨a, ns, rfl, hS, hl, fun _ => rfl⟩) fun _ _ _ _ _ z => (by obtain ⟨_, _, _, _, _, _, _, _, _, h⟩ := z; exact h)
end Gu
open PySem PySem.W PyProof.Rows
set_option maxRecDepth 100000 in
set_option maxHeartbeats 0 in
theorem PySem.Challenge.cw_guisery_k48_lines_refused_holds : PySem.Challenge.rw_guisery_k48_lines_refused.Holds := by
  w_on; o_law; o_head (PySem.W.kHook Gu.KH Gu.KA (fun _ => by kernel_rfl)); (case hw => w_witness2)
  k_fill
  refine Gu.walk (l := PySem.Challenge.rw_guisery_k48_lines_refused) rfl rfl (fun w h Y => PySem.W.kIn_of Y) ?F
  case F =>
    intro w mg fa h KX G hmg
    refine' Gu.all_mk KX G hmg ?h1 ?h2 ?h3 ?h4 ?h5 ?h6 ?h7 ?h8 ?h9 ?h10 ?h11 ?h12 ?h13 ?h14 ?h15 ?h16 ?h17 ?h18 ?h19 ?h20 ?h21 ?h22 ?h23 ?h24 ?h25 ?h26 ?h27 ?h28 ?h29 ?a30 ?l30 ?c30 ?k30 ?i1 ?i2 ?i3 ?i4 ?i5 ?gDEEDS ?wDEEDS ?qDEEDS ?oDEEDS ?gREADERS ?wREADERS ?qREADERS_name ?qREADERS_number ?qREADERS_word ?qREADERS_ring ?qREADERS_rows ?z1 ?z2 ?z3 ?z4 ?z5 ?z6 ?z7 ?z8 ?z9 ?z10 ?z11 ?z12 ?z13 ?z14 ?z15 ?z16 ?yBadLine ?xBadLine
    all_goals try (refine' Gu.FA.of ?_ ?_ ?_ ?_ <;> try k_is)
    (case a30 => k_is); (case l30 => k_is); (case c30 => k_is); (case k30 => k_is)
    (case i1 => k_is)
    (case i2 => k_is)
    (case i3 => k_is)
    (case i4 => k_is)
    (case i5 => k_is)
    (case gDEEDS => k_is)
    (case wDEEDS => (first | kernel_rfl | k_is | decide))
    (case qDEEDS => (first | kernel_rfl | k_is | decide))
    (case oDEEDS => (first | kernel_rfl | k_is | decide))
    (case gREADERS => k_is)
    (case wREADERS => (first | kernel_rfl | k_is | decide))
    (case qREADERS_name => (first | k_is | kernel_rfl | rfl))
    (case qREADERS_number => (first | k_is | kernel_rfl | rfl))
    (case qREADERS_word => (first | k_is | kernel_rfl | rfl))
    (case qREADERS_ring => (first | k_is | kernel_rfl | rfl))
    (case qREADERS_rows => (first | k_is | kernel_rfl | rfl))
    (case z1 => k_is)
    (case z2 => k_is)
    (case z3 => k_is)
    (case z4 => k_is)
    (case z5 => k_is)
    (case z6 => k_is)
    (case z7 => k_is)
    (case z8 => k_is)
    (case z9 => k_is)
    (case z10 => k_is)
    (case z11 => k_is)
    (case z12 => k_is)
    (case z13 => k_is)
    (case z14 => k_is)
    (case z15 => k_is)
    (case z16 => k_is)
    (case yBadLine => k_is)
    (case xBadLine => k_exc)

