import PyProof.Rows.All
import Wide.All
import OpenK.AllK
import Wide.FinOn
import Lean
import PyProof.EqAt
import PyProof.EqKinds
import PyProof.TupleCall
import PyProof.ListRange
import PyProof.TupleOfSeq
import PyProof.ConsumeWalk
import PyProof.WalksMore
import PyProof.Draws
import PyProof.EnumMake
import PyProof.ZipIter
import PyProof.Rows.EnumRows
import PyProof.Rows.FactsT2
import PyProof.MeetsSeq3
import PyProof.DictRoadsH
import PyProof.Rows.TupTab
import PyProof.Rows.SortWalk
import PyProof.Rows.SeqCalls
import PyProof.ListMulRoad
import KE.KDictLaws
import OpenK.KRaise
import KE.KLam
import KE.KNestM
import PyProof.IsRules
import KE.KDictList
import PyProof.DictCompW
import PyProof.Rows.SetFrom
import PyProof.Rows.SortRuns
import PySem.Challenge.RW_guisery_k24_camps_told
set_option Elab.async false
set_option linter.all false
set_option maxRecDepth 100000
/-! THE HAND LAYER,for ints,bools,texts,own classes,LISTS and tuples (index,slices,in,append,pop ..),calls,loops. Paste it whole ahead of your own text;what your proof does not reach may be deleted. -/
namespace L2
open PySem PySem.Spec PyProof.Rows

abbrev Key:=Sum Int Str
def keyIs:Key→Value→Bool
 | .inl k,v=>Value.isInt k v
 | .inr x,v=>Value.isStrOf x v
def keyH (w:World):Key→Int
 | .inl k=>hashInt k
 | .inr x=>hashStr w x
theorem keyIs_shape:∀ {k:Key} {v:Value},keyIs k v=true→(∃ i t,k=Sum.inl i∧v=Value.int i t)∨(∃ x t,k=Sum.inr x∧v=Value.str x t)
 | .inl i,v,h=>by
  obtain ⟨t,e⟩:=Value.isInt_shape (k:=i) (v:=v) h
  exact .inl ⟨i,t,rfl,e⟩
 | .inr x,v,h=>by
  obtain ⟨t,e⟩:=Value.isStrOf_shape (x:=x) (v:=v) h
  exact .inr ⟨x,t,rfl,e⟩
theorem keyIs_int (i:Int) (t:Tok):keyIs (.inl i) (.int i t)=true:=by simp [keyIs,Value.isInt]
theorem keyIs_str (x:Str) (t:Tok):keyIs (.inr x) (.str x t)=true:=by simp [keyIs,Value.isStrOf]
theorem key_ll (a b:Int):decide ((Sum.inl a:Key)=Sum.inl b)=(a == b):=by
 by_cases e:a=b
 ·subst e;simp
 ·have h:¬ (Sum.inl a:Key)=Sum.inl b:=fun q=>e (Sum.inl.inj q)
  rw [decide_eq_false h]
  exact (beq_eq_false_iff_ne.mpr e).symm
theorem key_rr (a b:Str):decide ((Sum.inr a:Key)=Sum.inr b)=decide (a=b):=by
 by_cases e:a=b
 ·subst e;simp
 ·have h:¬ (Sum.inr a:Key)=Sum.inr b:=fun q=>e (Sum.inr.inj q)
  rw [decide_eq_false h,decide_eq_false e]
theorem key_lr (a:Int) (b:Str):decide ((Sum.inl a:Key)=Sum.inr b)=false:=decide_eq_false (fun q=>nomatch q)
theorem key_rl (a:Str) (b:Int):decide ((Sum.inr a:Key)=Sum.inl b)=false:=decide_eq_false (fun q=>nomatch q)

def mixKind (prog:Program) (w:World):PySem.KeyKind prog w Key where
 is:=keyIs
 hash:=keyH w
 inj:=fun v a b ha hb=>by
  rcases keyIs_shape ha with ⟨i,t,rfl,rfl⟩ | ⟨x,t,rfl,rfl⟩
  ·rcases keyIs_shape hb with ⟨j,u,rfl,e⟩ | ⟨y,u,rfl,e⟩
   ·injection e with e1 _;rw [e1]
   ·exact nomatch e
  ·rcases keyIs_shape hb with ⟨j,u,rfl,e⟩ | ⟨y,u,rfl,e⟩
   ·exact nomatch e
   ·injection e with e1 _;rw [e1]
 byValue:=fun k v h=>by
  rcases keyIs_shape h with ⟨i,t,rfl,rfl⟩ | ⟨x,t,rfl,rfl⟩<;>rfl
 pyHash:=fun hv h=>by
  rcases keyIs_shape hv with ⟨i,t,rfl,rfl⟩ | ⟨x,t,rfl,rfl⟩
  ·exact wpAny_pyHash_int h
  ·exact wpAny_pyHash_str h
 eqBool:=fun hu hv h=>by
  rcases keyIs_shape hu with ⟨i,t,rfl,rfl⟩ | ⟨x,t,rfl,rfl⟩
  ·rcases keyIs_shape hv with ⟨j,u,rfl,rfl⟩ | ⟨y,u,rfl,rfl⟩
   ·rw [key_ll] at h;exact wpAny_eqBool_int h
   ·rw [key_lr] at h;exact SeqAt.EqAt.int_str i t y u _ _ _ _ h
  ·rcases keyIs_shape hv with ⟨j,u,rfl,rfl⟩ | ⟨y,u,rfl,rfl⟩
   ·rw [key_rl] at h;exact SeqAt.EqAt.str_int x t j u _ _ _ _ h
   ·rw [key_rr] at h;exact wpAny_eqBool_str h
 «strs»:=fun k x t v h=>by
  rcases keyIs_shape h with ⟨i,u,rfl,e⟩ | ⟨y,u,rfl,e⟩
  ·exact nomatch e
  ·injection e with e1 _
   subst e1
   cases v<;>rfl

theorem mixKind_int (prog:Program) (w:World) (i:Int) (t:Tok):(mixKind prog w).is (.inl i) (.int i t)=true:=keyIs_int i t
theorem mixKind_str (prog:Program) (w:World) (x:Str) (t:Tok):(mixKind prog w).is (.inr x) (.str x t)=true:=keyIs_str x t
end L2

namespace L2
open PySem PySem.Spec PyProof.Rows

inductive V where
 | non | bl (b:Bool) | int (i:Int) | str (x:Str) | byt (b:Array UInt8) | flt (b:UInt64) | ref (a:Addr) | ty (n:String)
 deriving DecidableEq

def RelV:V→Value→Prop
 | .non,u=>u=Value.none
 | .bl b,u=>u=Value.bool b
 | .int i,u=>∃ t,u=Value.int i t
 | .str x,u=>∃ t,u=Value.str x t
 | .byt b,u=>∃ t,u=Value.bytes b t
 | .flt b,u=>∃ t,u=Value.float b t
 | .ref a,u=>u=Value.ref a
 | .ty n,u=>u=Value.type n

abbrev Vals:List V→List Value→Prop:=Paired RelV
theorem Vals.length {xs:List V} {us:List Value} (r:Vals xs us):xs.length=us.length:=Paired.length r
theorem Vals.get:∀ {xs:List V} {us:List Value} {i:Nat} {x:V},Vals xs us→xs[i]?=some x→∃ u,us[i]?=some u∧RelV x u
 | _,_,_,_,.nil,e=>by simp at e
 | _,_,0,_,.cons r _,e=>by simp at e;subst e;exact ⟨_,rfl,r⟩
 | _,_,i+1,x,.cons _ t,e=>by
  obtain ⟨u,h1,h2⟩:=Vals.get (i:=i) (x:=x) t (by simpa using e)
  exact ⟨u,by simpa using h1,h2⟩
theorem Vals.set {x:V} {u:Value} (r:RelV x u):∀ {xs:List V} {us:List Value} (i:Nat),Vals xs us→Vals (xs.set i x) (us.set i u)
 | _,_,_,.nil=>.nil
 | _,_,0,.cons _ t=>.cons r t
 | _,_,i+1,.cons q t=>.cons q (Vals.set r i t)
theorem Vals.append:∀ {xs ys:List V} {us ws:List Value},Vals xs us→Vals ys ws→Vals (xs++ys) (us++ws)
 | _,_,_,_,.nil,s=>s
 | _,_,_,_,.cons r t,s=>.cons r (Vals.append t s)
theorem Vals.take:∀ {xs:List V} {us:List Value} (n:Nat),Vals xs us→Vals (xs.take n) (us.take n)
 | _,_,0,_=>.nil
 | _,_,_+1,.nil=>.nil
 | _,_,n+1,.cons r t=>.cons r (Vals.take n t)
theorem Vals.drop:∀ {xs:List V} {us:List Value} (n:Nat),Vals xs us→Vals (xs.drop n) (us.drop n)
 | _,_,0,r=>r
 | _,_,_+1,.nil=>.nil
 | _,_,n+1,.cons _ t=>Vals.drop n t
def RelO:Option V→Option Value→Prop
 | some v,some u=>RelV v u
 | none,none=>True
 | _,_=>False
def KV {κ:Type}:List (κ × V)→List (κ × Value)→Prop:=Paired fun (p:κ × V) (q:κ × Value)=>p.1=q.1∧RelV p.2 q.2

def kV:Key→V
 | .inl i=>.int i
 | .inr x=>.str x

inductive HO where
 /-- a list -/
 | lst (xs:List V)
 /-- a tuple (never changes) -/
 | tup (xs:List V)
 /-- a dict whose keys are ints and texts;one whose keys are tuples of ints and texts (the empty one is both) -/
 | dK (kvs:List (Key × V)) | dT (kvs:List (List Key × V))
 /-- a set of ints: its members,its size -/
 | set (S:Int→Bool) (n:Nat)
 /-- an instance of the class at C,its dict at dx,its attributes -/
 | ins (C dx:Addr) (fs:List (Str × V))
 /-- the dict of the instance at x -/
 | own (x:Addr)
 /-- the dict of an exception -/
 | xd (fs:List (Str × V))
 /-- a bound method,f of x -/
 | met (f x:Addr)
 /-- a range object lo,lo+1,.. below hi -/
 | rng (lo hi:Int)
 /-- a thing that is known to the object (the script;a dict while a loop walks it): read,never written while it is so -/
 | frz (o:Obj) (u:HO)
 /-- a code object's table -/
 | tbl (ps:Array Value)
 /-- any other thing,by what is true of its one object (a def of one's own: SetO a S n:=HO.ext fun h=>..) -/
 | ext (φ:Heap→Prop)

abbrev Hp:=Addr→Option HO
def upd (H:Hp) (a:Addr) (o:HO):Hp:=fun b=>if b=a then some o else H b
theorem upd_same {H:Hp} {a:Addr} {o:HO}:upd H a o a=some o:=by unfold upd;rw [if_pos rfl]
theorem upd_ne {H:Hp} {a b:Addr} {o:HO} (h:b≠a):upd H a o b=H b:=by unfold upd;rw [if_neg h]
theorem ne_of {H:Hp} {a b:Addr} {o u:HO} (h:H a=some o) (h':H b=some u) (d:o≠u):a≠b:=by
 intro e;subst e;rw [h] at h';exact d (Option.some.inj h')
theorem ne_of_none {H:Hp} {a b:Addr} {o:HO} (h:H a=some o) (h':H b=none):a≠b:=by
 intro e;subst e;rw [h] at h';cases h'

section
variable (P:Program) (w:World)
def ObjOk (H:Hp) (h:Heap) (a:Addr):HO→Prop
 | .lst xs=>xs.length≤sizeLine∧∃ (its:List Value) (n:Nat),Vals xs its∧h.get? a=some { cls:=.type "list",data:=.seq its.toArray n }
 | .tup xs=>xs.length≤sizeLine∧∃ (its:List Value) (n:Nat),Vals xs its∧h.get? a=some { cls:=.type "tuple",data:=.seq its.toArray n }
 | .dK kvs=>kvs.length≤sizeLine∧(a == sysModules)=false∧∃ vs,KV kvs vs∧h.DictOf (mixKind P w) a vs
 | .dT kvs=>kvs.length≤sizeLine∧(a == sysModules)=false∧∃ xs:List (List Key × Addr × Value),
   Paired (fun (p:List Key × V) (q:List Key × Addr × Value)=>p.1=q.1∧H q.2.1=some (.tup (p.1.map kV))∧RelV p.2 q.2.2) kvs xs ∧
   ∃ o es ep,h.get? a=some o∧o.ExactDict∧o.data=.dict es ep∧es.toList=xs.map (entryOfKey (tupleKind (mixKind P w)))∧(xs.map (·.1)).Nodup
 | .set S n=>h.SetOf (intKind P w) a S n
 | .ins C dx fs=>H dx=some (.own a)∧fs.length≤1000∧dx≠a∧h.get? a=some (PySem.W.instObj C dx) ∧
   ∃ mA,h.Ns1 dx mA∧(∀ f,RelO (fs.lookup f) (mA f))∧PySem.Within mA (fs.map (·.1))
 | .own _=>∃ o,h.get? a=some o
 | .xd fs=>∃ mA,h.Ns1 a mA∧∀ f,RelO (fs.lookup f) (mA f)
 | .rng lo hi=>∃ t u v,h.get? a=some { cls:=.type "range",data:=.fields #[.int lo t,.int hi u,.int 1 v] }
 | .frz o u=>h.get? a=some o∧ObjOk H h a u
 | .tbl ps=>h.get? a=some { cls:=.none,data:=.fields ps }
 | .met f x=>h.get? a=some (PySem.W.methodObj (.ref f) (.ref x))
 | .ext φ=>φ h∧(∃ o,h.get? a=some o)∧∀ h1 h2:Heap,φ h1→(∀ o,h1.get? a=some o→h2.get? a=some o)→φ h2
def HOk (H:Hp) (h:Heap):Prop:=∀ a o,H a=some o→ObjOk P w H h a o
end

section
variable {P:Program} {w:World} {H H':Hp} {h h':Heap} {a:Addr} {o:HO}
theorem ObjOk.lt (x:ObjOk P w H h a o):a < h.objs.size:=by
 cases o with
 | lst xs=>obtain ⟨_,_,_,_,e⟩:=x;exact Heap.lt_size e
 | tup xs=>obtain ⟨_,_,_,_,e⟩:=x;exact Heap.lt_size e
 | dK kvs=>obtain ⟨_,_,_,_,o,_,_,e,_⟩:=x;exact Heap.lt_size e
 | dT kvs=>obtain ⟨_,_,_,_,o,_,_,e,_⟩:=x;exact Heap.lt_size e
 | set S n=>obtain ⟨o,_,_,_,e,_⟩:=x;exact Heap.lt_size e
 | ins C dx fs=>obtain ⟨_,_,_,e,_⟩:=x;exact Heap.lt_size e
 | own y=>obtain ⟨_,e⟩:=x;exact Heap.lt_size e
 | xd fs=>obtain ⟨_,⟨_,_,_,e,_⟩,_⟩:=x;exact Heap.lt_size e
 | rng lo hi=>obtain ⟨_,_,_,e⟩:=x;exact Heap.lt_size e
 | frz ob u=>obtain ⟨e,_⟩:=x;exact Heap.lt_size e
 | tbl ps=>exact Heap.lt_size (show h.get? a=some _ from x)
 | met f y=>exact Heap.lt_size (show h.get? a=some _ from x)
 | ext φ=>obtain ⟨_,⟨_,e⟩,_⟩:=x;exact Heap.lt_size e
theorem Paired.mapP {α β:Type} {F G:α→β→Prop}:∀ {l₁:List α} {l₂:List β},Paired F l₁ l₂→(∀ a b,F a b→G a b)→Paired G l₁ l₂
 | _,_,.nil,_=>.nil
 | _,_,.cons r t,f=>.cons (f _ _ r) (Paired.mapP t f)
theorem ObjOk.stay (x:ObjOk P w H h a o) (k:∀ b u,(b=a∨H b=some (.own a))→h.get? b=some u→h'.get? b=some u)
  (ho:∀ b,H b=some (.own a)→H' b=some (.own a)) (ht:∀ b xs,H b=some (.tup xs)→H' b=some (.tup xs)):ObjOk P w H' h' a o:=by
 induction o with
 | lst xs=>obtain ⟨z,its,n,r,e⟩:=x;exact ⟨z,its,n,r,k _ _ (.inl rfl) e⟩
 | tup xs=>obtain ⟨z,its,n,r,e⟩:=x;exact ⟨z,its,n,r,k _ _ (.inl rfl) e⟩
 | dK kvs=>obtain ⟨z,y,vs,r,ob,es,ep,e,c⟩:=x;exact ⟨z,y,vs,r,ob,es,ep,k _ _ (.inl rfl) e,c⟩
 | dT kvs =>
  obtain ⟨z,y,xs,r,ob,es,ep,e,c⟩:=x
  exact ⟨z,y,xs,Paired.mapP r fun p q z=>⟨z.1,ht _ _ z.2.1,z.2.2⟩,ob,es,ep,k _ _ (.inl rfl) e,c⟩
 | set S n=>obtain ⟨ob,es,ep,t,e,c⟩:=x;exact ⟨ob,es,ep,t,k _ _ (.inl rfl) e,c⟩
 | ins C dx fs =>
  obtain ⟨d,z,ne,e,mA,⟨od,es,ep,e2,c⟩,r⟩:=x
  exact ⟨ho _ d,z,ne,k _ _ (.inl rfl) e,mA,⟨od,es,ep,k _ _ (.inr d) e2,c⟩,r⟩
 | own y=>obtain ⟨ob,e⟩:=x;exact ⟨ob,k _ _ (.inl rfl) e⟩
 | xd fs=>obtain ⟨mA,⟨od,es,ep,e,c⟩,r⟩:=x;exact ⟨mA,⟨od,es,ep,k _ _ (.inl rfl) e,c⟩,r⟩
 | rng lo hi=>obtain ⟨t,u,v,e⟩:=x;exact ⟨t,u,v,k _ _ (.inl rfl) e⟩
 | frz ob u ih=>obtain ⟨e,q⟩:=x;exact ⟨k _ _ (.inl rfl) e,ih q⟩
 | tbl ps =>
  have e:h.get? a=some { cls:=.none,data:=.fields ps }:=x
  show h'.get? a=some { cls:=.none,data:=.fields ps }
  exact k a _ (.inl rfl) e
 | met f y =>
  have e:h.get? a=some (PySem.W.methodObj (.ref f) (.ref y)):=x
  show h'.get? a=some (PySem.W.methodObj (.ref f) (.ref y))
  exact k a _ (.inl rfl) e
 | ext φ=>obtain ⟨p,⟨o,e⟩,st⟩:=x;exact ⟨st _ _ p fun o q=>k _ _ (.inl rfl) q,⟨o,k _ _ (.inl rfl) e⟩,st⟩
theorem HOk.lt (x:HOk P w H h) (e:H a=some o):a < h.objs.size:=(x a o e).lt
theorem HOk.fresh (x:HOk P w H h) (e:h.objs.size≤a):H a=none:=by
 cases q:H a with
 | none=>rfl
 | some u=>exact absurd (Nat.lt_of_lt_of_le (x.lt q) e) (Nat.lt_irrefl _)
theorem HOk.kept (x:HOk P w H h) (k:∀ b u,h.get? b=some u→h'.get? b=some u):HOk P w H h':=fun a o e =>
 (x a o e).stay (fun b u _ q=>k b u q) (fun _ q=>q) fun _ _ q=>q
theorem HOk.laid (x:HOk P w H h) (k:∀ b u,h.get? b=some u→h'.get? b=some u) (hp:h.objs.size≤a) (new:ObjOk P w (upd H a o) h' a o):HOk P w (upd H a o) h':=fun b u e=>by
 have hn:=x.fresh hp
 by_cases hb:b=a
 ·subst hb;rw [upd_same] at e;cases e;exact new
 ·rw [upd_ne hb] at e
  exact (x b u e).stay (fun c v _ q=>k c v q) (fun c q=>by rw [upd_ne (ne_of_none q hn)];exact q) fun c xs q=>by rw [upd_ne (ne_of_none q hn)];exact q
end

def Rd (H:Hp) (a:Addr) (u:HO):Prop:=H a=some u∨∃ o,H a=some (.frz o u)
theorem Rd.of {H:Hp} {a:Addr} {u:HO} (h:H a=some u):Rd H a u:=.inl h
theorem Rd.ok {P:Program} {w:World} {H:Hp} {h:Heap} {a:Addr} {u:HO} (r:Rd H a u) (x:HOk P w H h):ObjOk P w H h a u:=by
 rcases r with r | ⟨o,r⟩
 ·exact x a u r
 ·obtain ⟨_,q⟩:=x a _ r
  exact q
def Mut:Option HO→Prop
 | some (.lst _)=>True
 | some (.dK _)=>True
 | some (.dT _)=>True
 | some (.set _ _)=>True
 | some (.ins _ _ _)=>True
 | some (.ext _)=>True
 | _=>False
section
variable {P:Program} {w:World} {H:Hp} {h h':Heap} {x e:Addr} {o':HO}
theorem HOk.write (ok:HOk P w H h) (mu:Mut (H x)) (he:e=x∨H e=some (.own x)) (k:∀ b u,b≠e→h.get? b=some u→h'.get? b=some u) (heo:∃ u,h'.get? e=some u)
  (new:ObjOk P w (upd H x o') h' x o'):HOk P w (upd H x o') h':=fun b u q=>by
 have nown:∀ c y,H c=some (.own y)→c≠x:=fun c y r z=>by subst z;rw [r] at mu;exact mu
 have ntup:∀ c xs,H c=some (.tup xs)→c≠x:=fun c xs r z=>by subst z;rw [r] at mu;exact mu
 by_cases hb:b=x
 ·subst hb;rw [upd_same] at q;cases q;exact new
 ·rw [upd_ne hb] at q
  by_cases hbe:b=e
  ·have q':H b=some (.own x):=by
    rcases he with z | z
    ·exact absurd (hbe.trans z) hb
    ·rw [hbe];exact z
   rw [q] at q';cases q'
   obtain ⟨v,hv⟩:=heo
   exact ⟨v,by rw [hbe];exact hv⟩
  ·refine (ok b u q).stay (fun c v hc r=>k c v ?_ r) (fun c r=>by rw [upd_ne (nown c b r)];exact r) fun c xs r=>by rw [upd_ne (ntup c xs r)];exact r
   rcases hc with rfl | hc
   ·exact hbe
   ·rintro rfl
    rcases he with z | z
    ·exact nown c b hc z
    ·rw [hc] at z;cases z;exact hb rfl
end

/-! ### kept unless tracked;of the frames at fs (the callers') the slots may change (an exception that passes writes there);of the records at ex (iterators) nothing is said -/
structure Un (fs ex:List Addr) (H H':Hp) (h h':Heap):Prop where
 keep:∀ b o,h.get? b=some o→H b=none→b∉fs→b∉ex→h'.get? b=some o
 slot:∀ b o,h.get? b=some o→H b=none→b∈fs→b∉ex→∃ sl,h'.get? b=some { o with slots:=sl }
 free:∀ b o,h.get? b=some o→H b=none→b∉ex→H' b=none
 there:∀ b o,h.get? b=some o→b∉ex→∃ o',h'.get? b=some o'
 tups:∀ b xs,H b=some (.tup xs)→H' b=some (.tup xs)
 frzs:∀ b o u,H b=some (.frz o u)→H' b=some (.frz o u)
 tbls:∀ b ps,H b=some (.tbl ps)→∃ more,H' b=some (.tbl (ps++more))
section
variable {fs fs' ex ex':List Addr} {H H1 H2:Hp} {h h1 h2 h':Heap} {a x e:Addr} {o:HO}
theorem Un.any (u:Un fs ex H H1 h h1) {b:Addr} {ob:Obj} (q:h.get? b=some ob) (n:H b=none) (hx:b∉ex):∃ sl,h1.get? b=some { ob with slots:=sl }:=by
 by_cases hb:b∈fs
 ·exact u.slot b ob q n hb hx
 ·exact ⟨ob.slots,u.keep b ob q n hb hx⟩
theorem Un.kept (k:∀ b u,h.get? b=some u→h'.get? b=some u):Un fs ex H H h h' :=
 ⟨fun b ob q _ _ _=>k b ob q,fun b ob q _ _ _=>⟨ob.slots,k b ob q⟩,fun _ _ _ n _=>n,fun b ob q _=>⟨ob,k b ob q⟩,fun _ _ q=>q,fun _ _ _ q=>q,fun _ ps q=>⟨#[],by rw [q];simp⟩⟩
theorem Un.refl:Un fs ex H H h h:=Un.kept fun _ _ q=>q
theorem Un.laid (k:∀ b u,h.get? b=some u→h'.get? b=some u) (hp:h.objs.size≤a) (hn:H a=none):Un fs ex H (upd H a o) h h' where
 keep:=fun b u q _ _ _=>k b u q
 slot:=fun b u q _ _ _=>⟨u.slots,k b u q⟩
 free:=fun b u q n _=>by rw [upd_ne (Nat.ne_of_lt (Nat.lt_of_lt_of_le (Heap.lt_size q) hp))];exact n
 there:=fun b u q _=>⟨u,k b u q⟩
 tups:=fun b xs q=>by rw [upd_ne (ne_of_none q hn)];exact q
 frzs:=fun b u xs q=>by rw [upd_ne (ne_of_none q hn)];exact q
 tbls:=fun b ps q=>⟨#[],by rw [upd_ne (ne_of_none q hn),q];simp⟩
theorem Un.write (mu:Mut (H x)) (he:e=x∨H e=some (.own x)) (k:∀ b u,b≠e→h.get? b=some u→h'.get? b=some u) (heo:∃ u,h'.get? e=some u):Un fs ex H (upd H x o) h h':=by
 have hx:∀ b,H b=none→b≠x:=fun b n z=>by subst z;rw [n] at mu;exact mu
 have hb:∀ b,H b=none→b≠e:=fun b n z=>by
  subst z
  rcases he with r | r
  ·exact hx b n r
  ·rw [n] at r;cases r
 have hm:∀ b u,H b=some u→¬ Mut (some u)→b≠x:=fun b u q nm z=>by subst z;rw [q] at mu;exact nm mu
 refine ⟨fun b u q n _ _=>k b u (hb b n) q,fun b u q n _ _=>⟨u.slots,k b u (hb b n) q⟩,fun b u q n _=>by rw [upd_ne (hx b n)];exact n,fun b u q _=>?_,
  fun b xs q=>by rw [upd_ne (hm b _ q fun z=>z)];exact q,fun b u xs q=>by rw [upd_ne (hm b _ q fun z=>z)];exact q,fun b ps q=>⟨#[],by rw [upd_ne (hm b _ q fun z=>z),q];simp⟩⟩
 by_cases hbe:b=e
 ·subst hbe;exact heo
 ·exact ⟨u,k b u hbe q⟩
end

/-! ### the heap without what is tracked -/
def trk (h:Heap) (H:Hp):List Addr:=(List.range h.objs.size).filter fun a=>(H a).isSome
def hidT (h:Heap) (H:Hp):Heap:=PySem.W.hideAll h (trk h H)
theorem hidT_size (h:Heap) (H:Hp):(hidT h H).objs.size=h.objs.size:=PySem.W.hideAll_size _ _
theorem hidT_get {h:Heap} {H:Hp} {b:Addr} {o:Obj} (e:h.get? b=some o) (n:H b=none):(hidT h H).get? b=some o :=
 PySem.W.hideAll_get _ e fun hm=>by
  have q:(H b).isSome=true:=(List.mem_filter.mp hm).2
  rw [n] at q;simp at q
theorem of_hidT {h:Heap} {H:Hp} {b:Addr} {o:Obj} (e:(hidT h H).get? b=some o):h.get? b=some o∧H b=none:=by
 have e':h.get? b=some o:=PySem.W.of_hideAll (trk h H) e
 refine ⟨e',?_⟩
 cases q:H b with
 | none=>rfl
 | some x =>
  have hm:b∈trk h H:=List.mem_filter.mpr ⟨List.mem_range.mpr (Heap.lt_size e'),by simp [q]⟩
  have z:(hidT h H).get? b=none:=PySem.W.hideAll_none (trk h H) hm
  rw [z] at e;cases e

/-! ### OpenK's ledger,filled with every new object but one -/
def allNews (g h:Heap) (L:Addr):List (Addr × Obj):=(List.range h.objs.size).filterMap fun a=>if a=L∨(g.get? a).isSome=true then none else (h.get? a).map fun o=>(a,o)
def rest (g h:Heap) (L d:Addr):List (Addr × Obj):=(allNews g h L).filter fun p=>decide (p.1≠d)
end L2

namespace L2
open PySem PySem.Spec PyProof.Rows

structure Mod (K:PySem.W.Frag) (mg:Str→Option Value) (base:Heap):Prop where
 kin:K.In base
 glob:base.Ns mainGlobals mg
 blt:∃ mb,base.Ns builtinsNs mb∧∀ x:Str,x≠"__name__"→mb x=bootBuiltins x
 nolimit:base.NoLimit

/-- the context: a def's body (or a comprehension's block) running. base: fixed through the whole law;s₀,H₀: the entry;outer: the frames whose slots others may change (a def's callers);stack: all frames that run;
   ex: iterators that were made ahead of the entry and are walked here (a comprehension's);fn: the names whose cells were made at the entry (a def: all;a comprehension's block: its own);calm: not within an except suite;pn: pins that every state bears;xe: what is wanted of an exception that leaves the code -/
structure Cx where
 prog:Program
 w:World
 K:PySem.W.Frag
 mg:Str→Option Value
 base:Heap
 A:Around
 N:List Str
 s₀:Shared
 H₀:Hp
 env:Env
 outer:List Env
 stack:List Env
 ex:List Addr
 fn:Str→Bool
 calm:Bool
 pn:List (Addr × Obj)
 xe:Value→Shared→Prop
def frs (l:List Env):List Addr:=l.filterMap (·.frame)
abbrev Cx.fs (X:Cx):List Addr:=frs X.outer

def Vis (sc:Scope) (x:Str):Prop:=sc.names.lookup x=some .local∨sc.names.lookup x=some .cell∨sc.names.lookup x=some .free
def Loc (sc:Scope) (x:Str):Prop:=sc.names.lookup x=some .local∨sc.names.lookup x=some .cell
def Look (env:Env) (h:Heap) (m:Str→Option Value) (x:Str) (u:Value):Prop :=
 (env.kindOf x=some .local∧m x=some u)∨((env.kindOf x=some .cell∨env.kindOf x=some .free)∧∃ c,env.cells.lookup x=some c∧h.IsCell c (some u))

structure Cx.Ok (X:Cx):Prop where
 mod:Mod X.K X.mg X.base
 kind:X.env.scope.kind=.function
 glob:X.env.globals=mainGlobals
 blt:X.env.builtins=builtinsNs
 above:X.s₀.heap.objs.size≤X.env.locals
 inj:∀ x y c,X.env.cells.lookup x=some c→X.env.cells.lookup y=some c→x=y
 has:∀ x,(X.env.kindOf x=some .cell∨X.env.kindOf x=some .free)→∃ c,X.env.cells.lookup x=some c
 cab:∀ x c,X.fn x=true→X.env.cells.lookup x=some c→X.s₀.heap.objs.size≤c
 hd:X.calm=true→X.A.handled=none
 frames:X.A.frames=some X.stack
 stk:X.stack=X.outer∨(X.stack=X.env::X.outer∧X.env.frame=some X.env.locals)
 exf:∀ b∈X.ex,b≠X.env.locals∧∀ x c,X.env.cells.lookup x=some c→c≠b
 bs:∀ b o,X.base.get? b=some o→X.s₀.heap.get? b=some o∧X.H₀ b=none
 bsz:X.base.objs.size≤X.s₀.heap.objs.size
 noex:∀ b o,X.base.get? b=some o→b∉X.ex
 exfs:∀ b∈X.ex,b∉X.fs
 funs:X.s₀.heap.FunFrames X.base X.outer
 frf:∀ b∈X.fs,X.H₀ b=none

structure Inv (X:Cx) (pins:List (Addr × Obj)) (σ:List (Option V)) (H:Hp) (s:Shared):Prop where
 ok:X.Ok
 os:s.os=X.s₀.os
 bare:AllBare s.gens
 base:Un X.fs X.ex X.H₀ H X.s₀.heap s.heap
 loc:∃ m,s.heap.Ns X.env.locals m∧∀ (i:Nat) (x:Str) (v:V),X.N[i]?=some x→σ[i]?=some (some v)→Vis X.env.scope x→∃ u,RelV v u∧Look X.env s.heap m x u
 cell:∀ x c,X.env.cells.lookup x=some c→∃ v,s.heap.IsCell c v
 free:H X.env.locals=none
 freeC:∀ x c,X.env.cells.lookup x=some c→H c=none
 pin:∀ p∈X.pn++pins,s.heap.get? p.1=some p.2∧H p.1=none∧p.1≠X.env.locals∧p.1∉X.fs∧∀ v,p.2.data≠.cell v
 hok:HOk X.prog X.w H s.heap
 len:σ.length=X.N.length

section
variable {X:Cx} {pins:List (Addr × Obj)} {σ:List (Option V)} {H H':Hp} {s:Shared} {h':Heap}

theorem Cx.Ok.nofr (ok:X.Ok) {b:Addr} {o:Obj} (e:X.base.get? b=some o):b∉X.fs:=fun hb=>by
 have:=(ok.funs.mem hb).1
 rw [e] at this;cases this
theorem Inv.bs (I:Inv X pins σ H s):∀ b o,X.base.get? b=some o→s.heap.get? b=some o∧H b=none:=fun b o e =>
 ⟨I.base.keep b o (I.ok.bs b o e).1 (I.ok.bs b o e).2 (I.ok.nofr e) (I.ok.noex b o e),I.base.free b o (I.ok.bs b o e).1 (I.ok.bs b o e).2 (I.ok.noex b o e)⟩
theorem Inv.bk (I:Inv X pins σ H s):∀ b o,X.base.get? b=some o→s.heap.get? b=some o:=fun b o e=>(I.bs b o e).1
theorem Inv.mod (I:Inv X pins σ H s):Mod X.K X.mg X.base:=I.ok.mod
theorem Inv.kIn (I:Inv X pins σ H s):X.K.In s.heap:=I.ok.mod.kin.keeps I.bk
theorem Inv.lt (I:Inv X pins σ H s):X.env.locals < s.heap.objs.size:=let ⟨_,hn,_⟩:=I.loc;hn.lt
theorem Inv.sz (I:Inv X pins σ H s):X.s₀.heap.objs.size≤s.heap.objs.size:=Nat.le_trans I.ok.above (Nat.le_of_lt I.lt)
theorem Inv.nofs (I:Inv X pins σ H s) {a:Addr} (h:s.heap.objs.size≤a):a∉X.fs:=fun hb=>by
 obtain ⟨_,o,ho,_⟩:=I.ok.funs.mem hb
 exact absurd (Nat.lt_of_lt_of_le (Heap.lt_size ho) (Nat.le_trans I.sz h)) (Nat.lt_irrefl _)
theorem Inv.cne (I:Inv X pins σ H s):∀ x c,X.env.cells.lookup x=some c→c≠X.env.locals:=fun x c e z=>by
 obtain ⟨v,o,ho,hd⟩:=I.cell x c e
 obtain ⟨m,⟨o',es,ep,ho',hd',_⟩,_⟩:=I.loc
 rw [z,ho'] at ho;cases ho;rw [hd'] at hd;cases hd
theorem Inv.funs (I:Inv X pins σ H s):s.heap.FunFrames X.base X.outer:=by
 have all:∀ (l:List Env),(∀ b∈frs l,b∈X.fs)→X.s₀.heap.FunFrames X.base l→s.heap.FunFrames X.base l:=by
  intro l
  induction l with
  | nil=>intro _ _;trivial
  | cons env r ih =>
   intro hs hl
   obtain ⟨hk,⟨L,o,hf,hn,ho,hd⟩,hr⟩:=hl
   have hL:L∈X.fs:=hs L (by unfold frs;rw [List.filterMap_cons,hf];exact List.mem_cons_self)
   obtain ⟨sl,e⟩:=I.base.slot L o ho (I.ok.frf L hL) hL fun z=>I.ok.exfs L z hL
   exact ⟨hk,⟨L,_,hf,hn,e,hd⟩,ih (fun b hb=>hs b (by unfold frs;rw [List.filterMap_cons,hf];exact List.mem_cons_of_mem _ hb)) hr⟩
 exact all X.outer (fun _ hb=>hb) I.ok.funs

theorem Inv.stack (I:Inv X pins σ H s):s.heap.FunFrames X.base X.stack:=by
 rcases I.ok.stk with e | ⟨e,hf⟩
 ·rw [e];exact I.funs
 ·rw [e]
  obtain ⟨m,hn,_⟩:=I.loc
  refine .cons (by rw [I.ok.kind];decide) hf hn ?_ I.funs
  exact Heap.get?_none_of_le (Nat.le_trans I.ok.bsz I.ok.above)
theorem Inv.stkSub (I:Inv X pins σ H s):∀ b∈frs X.stack,b∈X.env.locals::X.fs:=fun b hb=>by
 rcases I.ok.stk with e | ⟨e,hf⟩
 ·rw [e] at hb;exact List.mem_cons_of_mem _ hb
 ·rw [e] at hb
  unfold frs at hb
  rw [List.filterMap_cons,hf] at hb
  exact hb
theorem Inv.stkFree (I:Inv X pins σ H s):∀ b∈frs X.stack,H b=none:=fun b hb=>by
 rcases List.mem_cons.mp (I.stkSub b hb) with e | hb
 ·rw [e];exact I.free
 ·obtain ⟨_,o,ho,_⟩:=I.ok.funs.mem hb
  exact I.base.free b o ho (I.ok.frf b hb) fun z=>I.ok.exfs b z hb

theorem Inv.step {g':Array GenState} {t':Nat} {d':Drawn} {ch:List Addr} (I:Inv X pins σ H s)
  (hch:∀ b∈ch,(b∈X.ex∨X.s₀.heap.objs.size≤b)∧b≠X.env.locals∧(∀ x c,X.env.cells.lookup x=some c→c≠b)∧∀ p∈X.pn++pins,p.1≠b)
  (keep:∀ b o,b≠X.env.locals→b∉X.fs→b∉ch→s.heap.get? b=some o→H b=none→h'.get? b=some o)
  (slot:∀ b o,b≠X.env.locals→b∈X.fs→b∉ch→s.heap.get? b=some o→H b=none→∃ sl,h'.get? b=some { o with slots:=sl }) (free:∀ b o,b∉ch→s.heap.get? b=some o→H b=none→H' b=none)
  (there:∀ b o,b∉ch→s.heap.get? b=some o→∃ o',h'.get? b=some o')
  (tups:∀ b xs,H b=some (.tup xs)→H' b=some (.tup xs)) (frzs:∀ b o u,H b=some (.frz o u)→H' b=some (.frz o u)) (tbls:∀ b ps,H b=some (.tbl ps)→∃ more,H' b=some (.tbl (ps++more)))
  (ns:∀ m,s.heap.Ns X.env.locals m→h'.Ns X.env.locals m) (hok:HOk X.prog X.w H' h') (hg:AllBare g') :
  Inv X pins σ H' { s with heap:=h',gens:=g',drawn:=d',toks:=t' }:=by
 have neL:∀ b o,X.s₀.heap.get? b=some o→b≠X.env.locals:=fun b o e=>Nat.ne_of_lt (Nat.lt_of_lt_of_le (Heap.lt_size e) I.ok.above)
 have neC:∀ b o,X.s₀.heap.get? b=some o→b∉X.ex→b∉ch:=fun b o e hx hb=>by
  rcases (hch b hb).1 with z | z
  ·exact hx z
  ·exact absurd (Nat.lt_of_lt_of_le (Heap.lt_size e) z) (Nat.lt_irrefl _)
 have cellK:∀ x c,X.env.cells.lookup x=some c→∀ v,s.heap.IsCell c v→h'.IsCell c v:=fun x c e v ⟨o,ho,hd⟩=>by
  have nch:c∉ch:=fun z=>(hch c z).2.2.1 x c e rfl
  by_cases hc:c∈X.fs
  ·obtain ⟨sl,q⟩:=slot c o (I.cne x c e) hc nch ho (I.freeC x c e)
   exact ⟨_,q,hd⟩
  ·exact ⟨o,keep c o (I.cne x c e) hc nch ho (I.freeC x c e),hd⟩
 refine ⟨I.ok,I.os,hg,⟨fun b o e n hb hx=>?_,fun b o e n hb hx=>?_,fun b o e n hx=>?_,fun b o e hx=>?_,fun b xs e=>tups b xs (I.base.tups b xs e),fun b o xs e=>frzs b o xs (I.base.frzs b o xs e),fun b ps e=>?_⟩,?_,fun x c e=>?_,?_,fun x c e=>?_,fun p hp=>?_,hok,I.len⟩
 ·exact keep b o (neL b o e) hb (neC b o e hx) (I.base.keep b o e n hb hx) (I.base.free b o e n hx)
 ·obtain ⟨sl,e1⟩:=I.base.slot b o e n hb hx
  obtain ⟨sl',e2⟩:=slot b _ (neL b o e) hb (neC b o e hx) e1 (I.base.free b o e n hx)
  exact ⟨sl',e2⟩
 ·obtain ⟨o',e1⟩:=I.base.there b o e hx
  exact free b o' (neC b o e hx) e1 (I.base.free b o e n hx)
 ·obtain ⟨o',e1⟩:=I.base.there b o e hx
  exact there b o' (neC b o e hx) e1
 ·obtain ⟨m1,e1⟩:=I.base.tbls b ps e
  obtain ⟨m2,e2⟩:=tbls b _ e1
  exact ⟨m1++m2,by rw [e2,Array.append_assoc]⟩
 ·obtain ⟨m,hn,hl⟩:=I.loc
  refine ⟨m,ns m hn,fun i x v e1 e2 e3=>?_⟩
  obtain ⟨u,r,l⟩:=hl i x v e1 e2 e3
  refine ⟨u,r,?_⟩
  rcases l with l | ⟨k,c,e,z⟩
  ·exact .inl l
  ·exact .inr ⟨k,c,e,cellK x c e _ z⟩
 ·obtain ⟨v,z⟩:=I.cell x c e
  exact ⟨v,cellK x c e v z⟩
 ·obtain ⟨m,⟨o,_,_,ho,_⟩,_⟩:=I.loc
  exact free _ o (fun z=>(hch _ z).2.1 rfl) ho I.free
 ·obtain ⟨v,o,ho,hd⟩:=I.cell x c e
  exact free c o (fun z=>(hch c z).2.2.1 x c e rfl) ho (I.freeC x c e)
 ·obtain ⟨e,n,ne,nf,d⟩:=I.pin p hp
  have nch:p.1∉ch:=fun z=>(hch p.1 z).2.2.2 p hp rfl
  exact ⟨keep p.1 p.2 ne nf nch e n,free p.1 p.2 nch e n,ne,nf,d⟩
theorem Inv.un {t':Nat} (I:Inv X pins σ H s) (u:Un X.fs [] H H' s.heap h') (hok:HOk X.prog X.w H' h'):Inv X pins σ H' { s with heap:=h',toks:=t' }:=by
 obtain ⟨m,⟨o,es,ep,ho,r⟩,_⟩:=id I.loc
 obtain ⟨sl,hL⟩:=u.any ho I.free (by simp)
 exact I.step (g':=s.gens) (d':=s.drawn) (ch:=[]) (fun _ z=>nomatch z) (fun b o _ hb _ e n=>u.keep b o e n hb (by simp)) (fun b o _ hb _ e n=>u.slot b o e n hb (by simp)) (fun b o _ e n=>u.free b o e n (by simp)) (fun b o _ e=>u.there b o e (by simp)) u.tups u.frzs u.tbls (fun m' hm=>by
  obtain ⟨o',es',ep',ho',r'⟩:=hm
  rw [ho] at ho';cases ho'
  exact ⟨_,es',ep',hL,r'⟩) hok I.bare
theorem Inv.call {g':Array GenState} {t':Nat} {d':Drawn} {ch:List Addr} (I:Inv X pins σ H s) (u:Un (frs X.stack) ch H H' s.heap h') (hok:HOk X.prog X.w H' h') (hg:AllBare g')
  (hch:∀ b∈ch,(b∈X.ex∨X.s₀.heap.objs.size≤b)∧b≠X.env.locals∧(∀ x c,X.env.cells.lookup x=some c→c≠b)∧∀ p∈X.pn++pins,p.1≠b) :
  Inv X pins σ H' { s with heap:=h',gens:=g',drawn:=d',toks:=t' }:=by
 obtain ⟨m,⟨o,es,ep,ho,r⟩,_⟩:=id I.loc
 obtain ⟨sl,hL⟩:=u.any ho I.free fun z=>(hch _ z).2.1 rfl
 exact I.step (ch:=ch) hch (fun b o hL hb hc e n=>u.keep b o e n (fun z=>(List.mem_cons.mp (I.stkSub b z)).elim hL hb) hc) (fun b o _ _ hc e n=>u.any e n hc) (fun b o hc e n=>u.free b o e n hc) (fun b o hc e=>u.there b o e hc) u.tups u.frzs u.tbls (fun m' hm=>by
  obtain ⟨o',es',ep',ho',r'⟩:=hm
  rw [ho] at ho';cases ho'
  exact ⟨_,es',ep',hL,r'⟩) hok hg
theorem Inv.turned {t':Nat} {it:Addr} (I:Inv X pins σ H s) (k:∀ b o,b≠it→s.heap.get? b=some o→h'.get? b=some o) (hn:H it=none) (hL:it≠X.env.locals)
  (h1:it∈X.ex∨X.s₀.heap.objs.size≤it) (h2:∀ x c,X.env.cells.lookup x=some c→c≠it) (h3:∀ p∈X.pn++pins,p.1≠it):Inv X pins σ H { s with heap:=h',toks:=t' }:=by
 have nit:∀ b u,H b=some u→b≠it:=fun b u e z=>by rw [z,hn] at e;cases e
 refine I.step (g':=s.gens) (d':=s.drawn) (ch:=[it]) (fun b hb=>?_) (fun b o _ _ hc e _=>k b o (fun z=>hc (by simp [z])) e) (fun b o _ _ hc e _=>⟨o.slots,k b o (fun z=>hc (by simp [z])) e⟩) (fun _ _ _ _ n=>n)
  (fun b o hc e=>⟨o,k b o (fun z=>hc (by simp [z])) e⟩) (fun _ _ e=>e) (fun _ _ _ e=>e) (fun b ps e=>⟨#[],by rw [e];simp⟩) (fun m hm=>?_) (fun b u e=>?_) I.bare
 ·have e:b=it:=by simpa using hb
  subst e
  exact ⟨h1,hL,h2,h3⟩
 ·obtain ⟨o,es,ep,ho,r⟩:=hm
  exact ⟨o,es,ep,k _ o (Ne.symm hL) ho,r⟩
 ·refine (I.hok b u e).stay (fun c v hc q=>k c v ?_ q) (fun _ q=>q) fun _ _ q=>q
  rcases hc with z | z
  ·rw [z];exact nit b u e
  ·exact nit c _ z
theorem Inv.tok (I:Inv X pins σ H s) (t:Nat):Inv X pins σ H { s with toks:=t }:=I.un (h':=s.heap) (t':=t) Un.refl I.hok
theorem Inv.kept {t':Nat} (I:Inv X pins σ H s) (k:∀ b u,s.heap.get? b=some u→h'.get? b=some u):Inv X pins σ H { s with heap:=h',toks:=t' }:=I.un (Un.kept k) (I.hok.kept k)
theorem Inv.laid {a:Addr} {o:HO} {t':Nat} (I:Inv X pins σ H s) (k:∀ b u,s.heap.get? b=some u→h'.get? b=some u) (hp:s.heap.objs.size≤a) (new:ObjOk X.prog X.w (upd H a o) h' a o) :
  Inv X pins σ (upd H a o) { s with heap:=h',toks:=t' }:=I.un (Un.laid k hp (I.hok.fresh hp)) (I.hok.laid k hp new)
theorem Inv.write {x e:Addr} {o:HO} {t':Nat} (I:Inv X pins σ H s) (mu:Mut (H x)) (he:e=x∨H e=some (.own x)) (k:∀ b u,b≠e→s.heap.get? b=some u→h'.get? b=some u) (heo:∃ u,h'.get? e=some u)
  (new:ObjOk X.prog X.w (upd H x o) h' x o):Inv X pins σ (upd H x o) { s with heap:=h',toks:=t' }:=I.un (Un.write mu he k heo) (I.hok.write mu he k heo new)
theorem Inv.pins_of {pins':List (Addr × Obj)} (I:Inv X pins σ H s) (h:∀ p∈pins',s.heap.get? p.1=some p.2∧H p.1=none∧p.1≠X.env.locals∧p.1∉X.fs∧∀ v,p.2.data≠.cell v):Inv X pins' σ H s :=
 ⟨I.ok,I.os,I.bare,I.base,I.loc,I.cell,I.free,I.freeC,fun p hp=>(List.mem_append.mp hp).elim (fun z=>I.pin p (List.mem_append_left _ z)) (h p),I.hok,I.len⟩

theorem nodup_ix {N:List Str} (hN:N.Nodup) {i j:Nat} {x:Str} (a:N[i]?=some x) (b:N[j]?=some x):i=j:=by
 obtain ⟨h1,e1⟩:=List.getElem?_eq_some_iff.mp a
 obtain ⟨h2,e2⟩:=List.getElem?_eq_some_iff.mp b
 exact (List.getElem_inj hN).mp (e1.trans e2.symm)

theorem store_ok2 {M:Model} {A:Around} {E:Value→Shared→Prop} {i:Nat} {x:Str} {v:V} {u:Value} {Q:Unit→Shared→Prop} (I:Inv X pins σ H s) (hN:X.N.Nodup) (hi:X.N[i]?=some x) (hx:Loc X.env.scope x) (r:RelV v u)
  (h:∀ s',Inv X pins (σ.set i (some v)) H s'→(∃ a,Heap.SameBut a s.heap s'.heap∧(a=X.env.locals∨X.env.cells.lookup x=some a))→Q () s') (hf:X.fn x=true∨X.env.scope.names.lookup x=some .local:=by first | exact .inl rfl | exact .inr rfl | assumption):wpAny M A (storeName X.env x u) Q E s:=by
 obtain ⟨m,hn,hl⟩:=id I.loc
 have hcls:(X.env.scope.kind == .class || (X.env.scope.kind == .module && X.env.locals != X.env.globals))=false:=by rw [I.ok.kind];rfl
 have hiσ:i < σ.length:=by rw [I.len];exact (List.getElem?_eq_some_iff.mp hi).1
 have cne:=I.cne
 have tracked:∀ {a:Addr} {h':Heap},(∃ o,s.heap.get? a=some o∧H a=none)→Heap.SameBut a s.heap h'→HOk X.prog X.w H h':=fun {a h'} ha hs b ob e=>by
  obtain ⟨_,_,hfree⟩:=ha
  refine (I.hok b ob e).stay (fun c w' hc q=>(hs.2 c ?_).trans q) (fun _ q=>q) fun _ _ q=>q
  rintro rfl
  rcases hc with rfl | hc
  ·rw [hfree] at e;cases e
  ·rw [hfree] at hc;cases hc
 rcases hx with hk | hk
 ·refine wpAny_storeName_local hk hn (fun h' hn' hs=>?_) hcls
  obtain ⟨oL,_,_,hoL,_⟩:=id hn
  refine h _ ⟨I.ok,I.os,I.bare,⟨fun b o e n hb hx=>?_,fun b o e n hb hx=>?_,I.base.free,fun b o e hx=>?_,I.base.tups,I.base.frzs,I.base.tbls⟩,⟨_,hn',fun j y v' e1 e2 e3=>?_⟩,fun y c e=>?_,I.free,I.freeC,fun p hp=>?_,tracked ⟨oL,hoL,I.free⟩ hs,by simpa using I.len⟩ ⟨_,hs,.inl rfl⟩
  ·exact (hs.2 b (Nat.ne_of_lt (Nat.lt_of_lt_of_le (Heap.lt_size e) I.ok.above))).trans (I.base.keep b o e n hb hx)
  ·obtain ⟨sl,e1⟩:=I.base.slot b o e n hb hx
   exact ⟨sl,(hs.2 b (Nat.ne_of_lt (Nat.lt_of_lt_of_le (Heap.lt_size e) I.ok.above))).trans e1⟩
  ·obtain ⟨o',e1⟩:=I.base.there b o e hx
   exact ⟨o',(hs.2 b (Nat.ne_of_lt (Nat.lt_of_lt_of_le (Heap.lt_size e) I.ok.above))).trans e1⟩
  ·by_cases hj:j=i
   ·subst hj
    rw [hi] at e1;cases e1
    rw [List.getElem?_set_self hiσ] at e2
    cases e2
    exact ⟨u,r,.inl ⟨hk,by simp⟩⟩
   ·rw [List.getElem?_set_ne (Ne.symm hj)] at e2
    obtain ⟨u',r',q⟩:=hl j y v' e1 e2 e3
    refine ⟨u',r',?_⟩
    rcases q with ⟨k,e⟩ | ⟨k,c,e,z⟩
    ·refine .inl ⟨k,?_⟩
     have:y≠x:=fun e=>hj (nodup_ix hN e1 (e ▸ hi))
     simp [this,e]
    ·exact .inr ⟨k,c,e,z.sameBut hs (cne y c e)⟩
  ·obtain ⟨w',z⟩:=I.cell y c e
   exact ⟨w',z.sameBut hs (cne y c e)⟩
  ·obtain ⟨e,n,ne,nf,d⟩:=I.pin p hp
   exact ⟨(hs.2 p.1 ne).trans e,n,ne,nf,d⟩
 ·have hfn:X.fn x=true:=by
   rcases hf with z | z
   ·exact z
   ·rw [z] at hk;cases hk
  obtain ⟨c,hc⟩:=I.ok.has x (.inl hk)
  obtain ⟨w',z⟩:=I.cell x c hc
  refine wpAny_storeName_cell I.ok.kind hk hc z (fun h' hc' hs=>?_)
  obtain ⟨oc,hoc,hocd⟩:=id z
  refine h { s with heap:=h' } ⟨I.ok,I.os,I.bare,⟨fun b o e n hb hx=>?_,fun b o e n hb hx=>?_,I.base.free,fun b o e hx=>?_,I.base.tups,I.base.frzs,I.base.tbls⟩,⟨m,hn.sameBut hs (Ne.symm (cne x c hc)),fun j y v' e1 e2 e3=>?_⟩,fun y c' e=>?_,I.free,I.freeC,fun p hp=>?_,tracked ⟨oc,hoc,I.freeC x c hc⟩ hs,by simpa using I.len⟩ ⟨c,hs,.inr hc⟩
  ·exact (hs.2 b (Nat.ne_of_lt (Nat.lt_of_lt_of_le (Heap.lt_size e) (I.ok.cab x c hfn hc)))).trans (I.base.keep b o e n hb hx)
  ·obtain ⟨sl,e1⟩:=I.base.slot b o e n hb hx
   exact ⟨sl,(hs.2 b (Nat.ne_of_lt (Nat.lt_of_lt_of_le (Heap.lt_size e) (I.ok.cab x c hfn hc)))).trans e1⟩
  ·obtain ⟨o',e1⟩:=I.base.there b o e hx
   exact ⟨o',(hs.2 b (Nat.ne_of_lt (Nat.lt_of_lt_of_le (Heap.lt_size e) (I.ok.cab x c hfn hc)))).trans e1⟩
  ·by_cases hj:j=i
   ·subst hj
    rw [hi] at e1;cases e1
    rw [List.getElem?_set_self hiσ] at e2
    cases e2
    exact ⟨u,r,.inr ⟨.inl hk,c,hc,hc'⟩⟩
   ·rw [List.getElem?_set_ne (Ne.symm hj)] at e2
    obtain ⟨u',r',q⟩:=hl j y v' e1 e2 e3
    refine ⟨u',r',?_⟩
    rcases q with q | ⟨k,c',e,z'⟩
    ·exact .inl q
    ·refine .inr ⟨k,c',e,z'.sameBut hs ?_⟩
     rintro rfl
     exact hj (nodup_ix hN e1 (I.ok.inj _ _ _ e hc ▸ hi))
  ·by_cases hcc:c'=c
   ·subst hcc;exact ⟨_,hc'⟩
   ·obtain ⟨w2,z2⟩:=I.cell y c' e
    exact ⟨w2,z2.sameBut hs hcc⟩
  ·obtain ⟨e,n,ne,nf,d⟩:=I.pin p hp
   refine ⟨(hs.2 p.1 ?_).trans e,n,ne,nf,d⟩
   intro q
   rw [q,hoc] at e
   have q':oc=p.2:=Option.some.inj e
   exact d w' (by rw [←q'];exact hocd)
theorem store_ok {M:Model} {A:Around} {E:Value→Shared→Prop} {i:Nat} {x:Str} {v:V} {u:Value} {Q:Unit→Shared→Prop} (I:Inv X pins σ H s) (hN:X.N.Nodup) (hi:X.N[i]?=some x) (hx:Loc X.env.scope x) (r:RelV v u)
  (h:∀ s',Inv X pins (σ.set i (some v)) H s'→Q () s') (hf:X.fn x=true∨X.env.scope.names.lookup x=some .local:=by first | exact .inl rfl | exact .inr rfl | assumption):wpAny M A (storeName X.env x u) Q E s :=
 store_ok2 I hN hi hx r (fun s' I' _=>h s' I') hf
theorem Inv.call' {s':Shared} {ch:List Addr} (I:Inv X pins σ H s) (ho:s'.os=s.os) (u:Un (frs X.stack) ch H H' s.heap s'.heap) (hok:HOk X.prog X.w H' s'.heap) (hg:AllBare s'.gens)
  (hch:∀ b∈ch,(b∈X.ex∨X.s₀.heap.objs.size≤b)∧b≠X.env.locals∧(∀ x c,X.env.cells.lookup x=some c→c≠b)∧∀ p∈X.pn++pins,p.1≠b):Inv X pins σ H' s':=by
 obtain ⟨h',g',d',t',o'⟩:=s'
 have e:o'=s.os:=ho
 subst e
 exact I.call (g':=g') (t':=t') (d':=d') u hok hg hch
end

/-! ### the judgements -/
abbrev XK:=Value→Option Addr→Hp→Prop
abbrev St:=List (Option V)
abbrev VK:=V→Hp→Prop
abbrev TE:=St→Hp→VK→Prop
abbrev TT:=St→Hp→(Bool→Hp→Prop)→Prop
abbrev TA:=St→Hp→(List V→Hp→Prop)→Prop
structure Ends where
 nx:St→Hp→Prop
 rt:VK
 bk:St→Hp→Prop:=fun _ _=>False
 ct:St→Hp→Prop:=fun _ _=>False
abbrev TS:=Ends→St→Hp→Prop

def EP (X:Cx) (pins:List (Addr × Obj)) (σ:St) (Q:VK) (u:Value) (s':Shared):Prop:=∃ v H',Inv X pins σ H' s'∧RelV v u∧Q v H'
def TP (X:Cx) (pins:List (Addr × Obj)) (σ:St) (Q:Bool→Hp→Prop) (b:Bool) (s':Shared):Prop:=∃ H',Inv X pins σ H' s'∧Q b H'
def AP (X:Cx) (pins:List (Addr × Obj)) (σ:St) (Q:List V→Hp→Prop) (us:List Value) (s':Shared):Prop:=∃ vs H',Inv X pins σ H' s'∧Vals vs us∧Q vs H'
def SP (X:Cx) (pins:List (Addr × Obj)) (D:Ends) (f:Flow) (s':Shared):Prop :=
 match f with
 | .next=>∃ σ' H',Inv X pins σ' H' s'∧D.nx σ' H'
 | .brk=>∃ σ' H',Inv X pins σ' H' s'∧D.bk σ' H'
 | .cont=>∃ σ' H',Inv X pins σ' H' s'∧D.ct σ' H'
 | .ret u=>∃ v σ' H',Inv X pins σ' H' s'∧RelV v u∧D.rt v H'

def PE (X:Cx) (e:Expr) (t:TE):Prop :=
 ∀ (pins:List (Addr × Obj)) (s:Shared) (σ:St) (H:Hp) (Q:VK),Inv X pins σ H s→t σ H Q→wpAny (model X.prog X.w) X.A (eval e X.env) (EP X pins σ Q) X.xe s
def PT (X:Cx) (e:Expr) (t:TT):Prop :=
 ∀ (pins:List (Addr × Obj)) (s:Shared) (σ:St) (H:Hp) (Q:Bool→Hp→Prop),Inv X pins σ H s→t σ H Q→wpAny (model X.prog X.w) X.A (isTrue e X.env (eval e X.env)) (TP X pins σ Q) X.xe s
def PW (X:Cx) (e:Expr) (t:TT):Prop :=
 ∀ (whole:Sem Value) (pins:List (Addr × Obj)) (s:Shared) (σ:St) (H:Hp) (Q:Bool→Hp→Prop),Inv X pins σ H s→t σ H Q→wpAny (model X.prog X.w) X.A (isTrue e X.env whole) (TP X pins σ Q) X.xe s
theorem PW.pt {X:Cx} {e:Expr} {t:TT} (h:PW X e t):PT X e t:=h _
def PA (X:Cx) (es:List Expr) (t:TA):Prop :=
 ∀ (pos:Pos) (pins:List (Addr × Obj)) (s:Shared) (σ:St) (H:Hp) (Q:List V→Hp→Prop),Inv X pins σ H s→t σ H Q→wpAny (model X.prog X.w) X.A (spliced (backTo pos (starEach es X.env))) (AP X pins σ Q) X.xe s
def PS (X:Cx) (st:Stmt) (t:TS):Prop :=
 ∀ (pins:List (Addr × Obj)) (s:Shared) (σ:St) (H:Hp) (D:Ends),Inv X pins σ H s→t D σ H→wpAny (model X.prog X.w) X.A (exec st X.env) (SP X pins D) X.xe s
def PSs (X:Cx) (st:List Stmt) (t:TS):Prop :=
 ∀ (pins:List (Addr × Obj)) (s:Shared) (σ:St) (H:Hp) (D:Ends),Inv X pins σ H s→t D σ H→wpAny (model X.prog X.w) X.A (execs st X.env) (SP X pins D) X.xe s
theorem thn {α:Type} {t:Sem α} {Q Q':α→Shared→Prop} {M:Model} {A:Around} {E:Value→Shared→Prop} {s:Shared} (h:wpAny M A t Q E s) (hQ:∀ a s,Q a s→Q' a s):wpAny M A t Q' E s:=wpAny_mono h hQ fun _ _ x=>x
end L2

namespace L2
open PySem PySem.Spec PyProof.Rows
section
variable {X:Cx}

theorem bin {a b:Expr} {ta tb:TE} (ha:PE X a ta) (hb:PE X b tb) {pins:List (Addr × Obj)} {s:Shared} {σ:St} {H:Hp} {R:V→V→Hp→Prop} (I:Inv X pins σ H s) (h:ta σ H fun x H1=>tb σ H1 fun y H2=>R x y H2)
  {α:Type} {Q:α→Shared→Prop} {f:Value→Value→Sem α}
  (hf:∀ v u s2 x y H2,Inv X pins σ H2 s2→RelV x v→RelV y u→R x y H2→wpAny (model X.prog X.w) X.A (f v u) Q X.xe s2) :
  wpAny (model X.prog X.w) X.A (eval a X.env) (fun v s₁=>wpAny (model X.prog X.w) X.A (eval b X.env) (fun u s₂=>wpAny (model X.prog X.w) X.A (f v u) Q X.xe s₂) X.xe s₁) X.xe s:=by
 refine thn (ha pins s σ H _ I h) fun v s1 ⟨x,H1,I1,r1,q1⟩=>?_
 refine thn (hb pins s1 σ H1 _ I1 q1) fun u s2 ⟨y,H2,I2,r2,q2⟩=>?_
 exact hf v u s2 x y H2 I2 r1 r2 q2

/-! ### names and constants -/
def tVar (i:Nat):TE:=fun σ H Q=>∃ v,σ[i]?=some (some v)∧Q v H
def tC (v:V):TE:=fun _ H Q=>Q v H
theorem pe_var {i:Nat} {x:Str} {pos:Pos} (hN:X.N[i]?=some x) (hv:Vis X.env.scope x) (hd:(x == ("__debug__":Str))=false:=by decide) (hcd:(x == ("__classdict__":Str))=false:=by decide):PE X (.Name x pos) (tVar i):=by
 intro pins s σ H Q I h
 obtain ⟨v,e,h⟩:=h
 obtain ⟨m,hn,hl⟩:=I.loc
 obtain ⟨u,r,l⟩:=hl i x v hN e hv
 have fin:EP X pins σ Q u s:=⟨v,H,I,r,h⟩
 rcases l with ⟨hk,hm⟩ | ⟨hk,c,hc,hcell⟩
 ·exact wpAny_Name (wpAny_loadName_local I.ok.kind hk hn hm fin) hd
 ·rcases hk with hk | hk
  ·exact wpAny_Name (wpAny_loadName_cell I.ok.kind hk hc hcell fin) hd
  ·exact wpAny_Name (wpAny_loadName_free I.ok.kind hk hc hcell fin hcd) hd
theorem pe_int {i j pos}:PE X (.Constant (.int i) j pos) (tC (.int i)):=fun _ _ _ H _ I h=>wpAny_Constant_int ⟨.int i,H,I.tok _,⟨_,rfl⟩,h⟩
theorem pe_bl {b j pos}:PE X (.Constant (.bool b) j pos) (tC (.bl b)):=fun _ _ _ H _ I h=>Constant_bool ⟨.bl b,H,I,rfl,h⟩
theorem pe_non {j pos}:PE X (.Constant .none j pos) (tC .non):=fun _ _ _ H _ I h=>Constant_none ⟨.non,H,I,rfl,h⟩
theorem pe_str {x j pos}:PE X (.Constant (.str x) j pos) (tC (.str x)):=fun _ _ _ H _ I h=>Calls.Constant_str ⟨.str x,H,I.tok _,⟨_,rfl⟩,h⟩

def Gl (X:Cx) (x:Str):Prop:=X.env.kindOf x=some .globalImplicit
theorem ld_glob {E:Value→Shared→Prop} {pins:List (Addr × Obj)} {s:Shared} {σ:St} {H:Hp} {x:Str} {u:Value} {pos:Pos} {Q:Value→Shared→Prop} (I:Inv X pins σ H s) (hg:Gl X x) (hm:X.mg x=some u) (h:Q u s)
  (hd:(x == ("__debug__":Str))=false:=by decide):wpAny (model X.prog X.w) X.A (eval (.Name x pos) X.env) Q E s :=
 Calls.Name_function_global I.ok.kind hg (Calls.loadGlobal_global (by rw [I.ok.glob];exact I.mod.glob.keeps I.bk) hm h) hd
theorem ld_blt {E:Value→Shared→Prop} {pins:List (Addr × Obj)} {s:Shared} {σ:St} {H:Hp} {x:Str} {u:Value} {pos:Pos} {Q:Value→Shared→Prop} (I:Inv X pins σ H s) (hg:Gl X x) (hm:X.mg x=none) (hv:bootBuiltins x=some u) (h:Q u s)
  (hn:x≠"__name__":=by decide) (hd:(x == ("__debug__":Str))=false:=by decide):wpAny (model X.prog X.w) X.A (eval (.Name x pos) X.env) Q E s:=by
 obtain ⟨mb,h1,h2⟩:=I.mod.blt
 exact Calls.Name_function_global I.ok.kind hg (Calls.loadGlobal_builtin (by rw [I.ok.glob];exact I.mod.glob.keeps I.bk) hm (by rw [I.ok.blt];exact h1.keeps I.bk) ((h2 x hn).trans hv) h) hd
theorem pe_glob {x:Str} {v:V} {u:Value} {pos:Pos} (hg:Gl X x) (hm:X.mg x=some u) (r:RelV v u) (hd:(x == ("__debug__":Str))=false:=by decide):PE X (.Name x pos) (tC v) :=
 fun _ _ _ H _ I h=>ld_glob I hg hm ⟨v,H,I,r,h⟩ hd
theorem pe_bltn {x:Str} {v:V} {u:Value} {pos:Pos} (hg:Gl X x) (hm:X.mg x=none) (hv:bootBuiltins x=some u) (r:RelV v u) (hn:x≠"__name__":=by decide) (hd:(x == ("__debug__":Str))=false:=by decide):PE X (.Name x pos) (tC v) :=
 fun _ _ _ H _ I h=>ld_blt I hg hm hv ⟨v,H,I,r,h⟩ hn hd

/-! ### arithmetic -/
def t2I (ta tb:TE) (k:Int→Int→Hp→Prop):St→Hp→Prop:=fun σ H=>ta σ H fun x H1=>tb σ H1 fun y H2=>∃ i j,x=.int i∧y=.int j∧k i j H2
variable {a b:Expr} {ta tb:TE} {pos:Pos}
/-! ### comparisons -/
def PC (X:Cx) (op:CmpOp) (a b:Expr) (t:TE):Prop :=
 ∀ (pins:List (Addr × Obj)) (s:Shared) (σ:St) (H:Hp) (Q:VK),Inv X pins σ H s→t σ H Q →
  wpAny (model X.prog X.w) X.A (eval a X.env) (fun v s₁=>wpAny (model X.prog X.w) X.A (eval b X.env) (fun u s₂=>wpAny (model X.prog X.w) X.A (compareOp op v u) (EP X pins σ Q) X.xe s₂) X.xe s₁) X.xe s
theorem nobehind (b:Expr) {op:CmpOp} (h:op≠.In) (h2:op≠.NotIn):behindInMarks op b=false:=by
 have e1:(op == CmpOp.In)=false:=by cases op<;>first | rfl | exact absurd rfl h
 have e2:(op == CmpOp.NotIn)=false:=by cases op<;>first | rfl | exact absurd rfl h2
 cases b<;>simp [behindInMarks,e1,e2]
def tCmp (p:Int→Int→Bool) (ta tb:TE):TE:=fun σ H Q=>t2I ta tb (fun i j H2=>Q (.bl (p i j)) H2) σ H
abbrev tEqI:TE→TE→TE:=tCmp fun i j=>decide (i=j)
abbrev tNeI:TE→TE→TE:=tCmp fun i j=>!decide (i=j)
theorem pc_int {op:CmpOp} {p:Int→Int→Bool} (ha:PE X a ta) (hb:PE X b tb)
  (rule:∀ (i j:Int) (t u:Tok) (Q:Value→Shared→Prop) (s:Shared),Q (.bool (p i j)) s→wpAny (model X.prog X.w) X.A (compareOp op (.int i t) (.int j u)) Q X.xe s):PC X op a b (tCmp p ta tb):=by
 intro pins s σ H Q I h
 refine bin ha hb I h fun v u s2 x y H2 I2 rx ry q=>?_
 obtain ⟨i,j,rfl,rfl,q⟩:=q
 obtain ⟨t,rfl⟩:=rx
 obtain ⟨t',rfl⟩:=ry
 exact rule i j t t' _ s2 ⟨.bl _,H2,I2,rfl,q⟩
theorem pc_eqI (ha:PE X a ta) (hb:PE X b tb):PC X .Eq a b (tEqI ta tb):=pc_int ha hb fun _ _ _ _ _ _ h=>eq_int (by rw [Bool.beq_eq_decide_eq];exact h)
theorem pc_neI (ha:PE X a ta) (hb:PE X b tb):PC X .NotEq a b (tNeI ta tb):=pc_int ha hb fun _ _ _ _ _ _ h=>ne_int (by rw [bne,Bool.beq_eq_decide_eq];exact h)
def tB (t:TE):TT:=fun σ H Q=>t σ H fun x H1=>∃ c,x=.bl c∧Q c H1
theorem pt_cmp {op:CmpOp} {t:TE} (h:PC X op a b t) (h1:behindInMarks op b=false:=by first | exact nobehind _ (by decide) (by decide) | rfl):PT X (.Compare a [op] [b] pos) (tB t):=by
 intro pins s σ H Q I hw
 refine wpAny_isTrue_Compare1 (thn (h pins s σ H _ I hw) fun v s1 h1=>thn h1 fun u s2 h2=>thn h2 fun c s3 ⟨x,H1,I1,r1,q1⟩=>?_) h1
 obtain ⟨d,rfl,q⟩:=q1
 cases r1
 exact wpAny_truthy_bool ⟨H1,I1,q⟩
theorem pt_val {e:Expr} {t:TE} (h:PE X e t) (he:∀ whole,isTrue e X.env whole=(do let v ←whole;standAt e.pos;holding [v] (truthy v)):=by intro _;rfl):PT X e (tB t):=by
 intro pins s σ H Q I hw
 refine isTrue_plain (thn (h pins s σ H _ I hw) fun v s1 ⟨x,H1,I1,r1,q1⟩=>?_) (he _)
 obtain ⟨d,rfl,q⟩:=q1
 cases r1
 exact wpAny_truthy_bool ⟨H1,I1,q⟩

/-! ### and,or,not -/
variable {tA tB':TT} {rest:List Expr}
def tAnd (t u:TT):TT:=fun σ H Q=>t σ H fun c H1=>if c=true then u σ H1 Q else Q false H1
def tOr (t u:TT):TT:=fun σ H Q=>t σ H fun c H1=>if c=true then Q true H1 else u σ H1 Q
def tNot (t:TT):TT:=fun σ H Q=>t σ H fun c H1=>Q (!c) H1
theorem pw_and1 (ha:PT X a tA):PW X (.BoolOp .And [a] pos) tA:=by
 intro wh pins s σ H Q I h
 refine isTrue_and (thn (ha pins s σ H Q I h) fun c s1 e=>?_)
 cases c with
 | true=>exact isTrue_and_nil e
 | false=>exact e
theorem pw_or1 (ha:PT X a tA):PW X (.BoolOp .Or [a] pos) tA:=by
 intro wh pins s σ H Q I h
 refine isTrue_or (thn (ha pins s σ H Q I h) fun c s1 e=>?_)
 cases c with
 | false=>exact isTrue_or_nil e
 | true=>exact e
theorem pw_and (ha:PT X a tA) (hb:PW X (.BoolOp .And (b::rest) pos) tB'):PW X (.BoolOp .And (a::b::rest) pos) (tAnd tA tB'):=by
 intro wh pins s σ H Q I h
 refine isTrue_and (thn (ha pins s σ H _ I h) fun c s1 ⟨H1,I1,q1⟩=>?_)
 cases c with
 | true=>exact hb wh pins s1 σ H1 Q I1 q1
 | false=>exact ⟨H1,I1,q1⟩
theorem pw_or (ha:PT X a tA) (hb:PW X (.BoolOp .Or (b::rest) pos) tB'):PW X (.BoolOp .Or (a::b::rest) pos) (tOr tA tB'):=by
 intro wh pins s σ H Q I h
 refine isTrue_or (thn (ha pins s σ H _ I h) fun c s1 ⟨H1,I1,q1⟩=>?_)
 cases c with
 | true=>exact ⟨H1,I1,q1⟩
 | false=>exact hb wh pins s1 σ H1 Q I1 q1
theorem pt_not (ha:PT X a tA):PT X (.UnaryOp .Not a pos) (tNot tA):=by
 intro pins s σ H Q I h
 exact isTrue_not (ha pins s σ H (fun c H1=>Q (!c) H1) I h)
def tAndV (ta tb:TE):TE:=fun σ H Q=>ta σ H fun x H1=>∃ c,x=.bl c∧if c=true then tb σ H1 Q else Q (.bl false) H1
def tNotV (ta:TE):TE:=fun σ H Q=>ta σ H fun x H1=>∃ c,x=.bl c∧Q (.bl (!c)) H1
theorem pe_one {op} {t:TE} (h:PE X a t):PE X (.BoolOp op [a] pos) t:=fun pins s σ H Q I hw=>BoolOp_one (h pins s σ H Q I hw)
theorem pe_and (ha:PE X a ta) (hb:PE X (.BoolOp .And (b::rest) pos) tb):PE X (.BoolOp .And (a::b::rest) pos) (tAndV ta tb):=by
 intro pins s σ H Q I h
 refine BoolOp_and (thn (ha pins s σ H _ I h) fun v s1 ⟨x,H1,I1,r1,q1⟩=>?_)
 obtain ⟨c,rfl,q1⟩:=q1
 cases r1
 refine wpAny_truthy_bool ?_
 cases c with
 | true=>exact hb pins s1 σ H1 Q I1 q1
 | false=>exact ⟨.bl false,H1,I1,rfl,q1⟩
theorem pe_not (ha:PE X a ta):PE X (.UnaryOp .Not a pos) (tNotV ta):=by
 intro pins s σ H Q I h
 refine UnaryOp_ (thn (ha pins s σ H _ I h) fun v s1 ⟨x,H1,I1,r1,q1⟩=>?_)
 obtain ⟨c,rfl,q1⟩:=q1
 cases r1
 exact not_of (wpAny_truthy_bool ⟨.bl (!c),H1,I1,rfl,q1⟩)
def tIf (t:TT) (ta tb:TE):TE:=fun σ H Q=>t σ H fun c H1=>if c=true then ta σ H1 Q else tb σ H1 Q
theorem pe_ifExp {c:Expr} (hc:PT X c tA) (ha:PE X a ta) (hb:PE X b tb):PE X (.IfExp c a b pos) (tIf tA ta tb):=by
 intro pins s σ H Q I h
 refine wpAny_IfExp (thn (hc pins s σ H _ I h) fun d s1 ⟨H1,I1,q1⟩=>?_)
 cases d with
 | true=>exact ha pins s1 σ H1 Q I1 q1
 | false=>exact hb pins s1 σ H1 Q I1 q1
end
end L2

namespace L2
open PySem PySem.Spec PyProof.Rows

/-! ### a list,a tuple that is read: tracked,frozen,or an object of the module -/
def SqL (K:PySem.W.Frag) (H:Hp) (a:Addr) (xs:List V):Prop :=
 Rd H a (.lst xs) ∨
  ∃ (o:Obj) (its:Array Value) (n:Nat),K.lookup a=some o∧o.cls=.type "list"∧o.dict=none∧o.data=.seq its n∧its.size≤sizeLine∧Vals xs its.toList
def SqT (K:PySem.W.Frag) (H:Hp) (a:Addr) (xs:List V):Prop :=
 Rd H a (.tup xs) ∨
  ∃ (o:Obj) (its:Array Value) (n:Nat),K.lookup a=some o∧o.cls=.type "tuple"∧o.data=.seq its n∧its.size≤sizeLine∧Vals xs its.toList
def absV:Value→Option V
 | .none=>some .non
 | .bool b=>some (.bl b)
 | .int i _=>some (.int i)
 | .str x _=>some (.str x)
 | .bytes b _=>some (.byt b)
 | .float b _=>some (.flt b)
 | .ref a=>some (.ref a)
 | .type n=>some (.ty n)
 | _=>none
theorem RelV.abs {x:V} {u:Value} (r:RelV x u):absV u=some x:=by
 cases x with
 | non=>cases r;rfl
 | bl _=>cases r;rfl
 | int _=>obtain ⟨t,rfl⟩:=r;rfl
 | str _=>obtain ⟨t,rfl⟩:=r;rfl
 | byt _=>obtain ⟨t,rfl⟩:=r;rfl
 | flt _=>obtain ⟨t,rfl⟩:=r;rfl
 | ref _=>cases r;rfl
 | ty _=>cases r;rfl
theorem RelV.inj {x y:V} {u:Value} (r:RelV x u) (q:RelV y u):x=y:=Option.some.inj (r.abs.symm.trans q.abs)
theorem Vals.inj:∀ {xs ys:List V} {us:List Value},Vals xs us→Vals ys us→xs=ys
 | _,_,_,.nil,.nil=>rfl
 | _,_,_,.cons r t,.cons r' t'=>by rw [r.inj r',Vals.inj t t']
section
variable {X:Cx} {pins:List (Addr × Obj)} {σ:St} {H:Hp} {s:Shared} {a:Addr} {xs ys:List V}
theorem SqL.of {K:PySem.W.Frag} (h:H a=some (.lst xs)):SqL K H a xs:=.inl (.inl h)
theorem SqT.of {K:PySem.W.Frag} (h:H a=some (.tup xs)):SqT K H a xs:=.inl (.inl h)
theorem Inv.list (I:Inv X pins σ H s) (h:SqL X.K H a xs):∃ its:List Value,Vals xs its∧PlainL s.heap a its.toArray∧xs.length≤sizeLine:=by
 rcases h with h | ⟨o,its,n,hk,hc,hd,hs,hz,r⟩
 ·obtain ⟨z,its,n,r,e⟩:=h.ok I.hok
  exact ⟨its,r,⟨_,n,e,rfl,rfl,rfl⟩,z⟩
 ·refine ⟨its.toList,r,⟨o,n,I.kIn a o hk,hc,hd,by simpa using hs⟩,?_⟩
  have e:=r.length
  simp only [Array.length_toList] at e
  omega
theorem Inv.tuple (I:Inv X pins σ H s) (h:SqT X.K H a xs):∃ its:List Value,Vals xs its∧IsTup s.heap a its.toArray∧xs.length≤sizeLine:=by
 rcases h with h | ⟨o,its,n,hk,hc,hs,hz,r⟩
 ·obtain ⟨z,its,n,r,e⟩:=h.ok I.hok
  exact ⟨its,r,⟨_,e,rfl,n,rfl⟩,z⟩
 ·refine ⟨its.toList,r,⟨o,I.kIn a o hk,hc,n,by simpa using hs⟩,?_⟩
  have e:=r.length
  simp only [Array.length_toList] at e
  omega
theorem Inv.list_inj (I:Inv X pins σ H s) (h:SqL X.K H a xs) (h':SqL X.K H a ys):xs=ys:=by
 obtain ⟨its,r,⟨o,n,e,_,_,d⟩,_⟩:=I.list h
 obtain ⟨its',r',⟨o',n',e',_,_,d'⟩,_⟩:=I.list h'
 rw [e] at e';cases e'
 rw [d] at d'
 injection d' with d1 _
 have:its=its':=by simpa using congrArg Array.toList d1
 subst this
 exact r.inj r'
theorem Inv.tuple_inj (I:Inv X pins σ H s) (h:SqT X.K H a xs) (h':SqT X.K H a ys):xs=ys:=by
 obtain ⟨its,r,⟨o,e,_,n,d⟩,_⟩:=I.tuple h
 obtain ⟨its',r',⟨o',e',_,n',d'⟩,_⟩:=I.tuple h'
 rw [e] at e';cases e'
 rw [d] at d'
 injection d' with d1 _
 have:its=its':=by simpa using congrArg Array.toList d1
 subst this
 exact r.inj r'
end

/-! ### another wish about exceptions -/
abbrev Cx.wish (X:Cx) (E:Value→Shared→Prop):Cx:={ X with xe:=E }
abbrev Cx.nox (X:Cx):Cx:=X.wish fun _ _=>False
theorem Cx.Ok.wish {X:Cx} (ok:X.Ok) (E:Value→Shared→Prop):(X.wish E).Ok :=
 ⟨ok.mod,ok.kind,ok.glob,ok.blt,ok.above,ok.inj,ok.has,ok.cab,ok.hd,ok.frames,ok.stk,ok.exf,ok.bs,ok.bsz,ok.noex,ok.exfs,ok.funs,ok.frf⟩
theorem Cx.Ok.unwish {X:Cx} {E:Value→Shared→Prop} (ok:(X.wish E).Ok):X.Ok :=
 ⟨ok.mod,ok.kind,ok.glob,ok.blt,ok.above,ok.inj,ok.has,ok.cab,ok.hd,ok.frames,ok.stk,ok.exf,ok.bs,ok.bsz,ok.noex,ok.exfs,ok.funs,ok.frf⟩
section
variable {X:Cx} {pins:List (Addr × Obj)} {σ:St} {H:Hp} {s:Shared} {E:Value→Shared→Prop}
theorem Inv.wish (I:Inv X pins σ H s) (E:Value→Shared→Prop):Inv (X.wish E) pins σ H s:=⟨I.ok.wish E,I.os,I.bare,I.base,I.loc,I.cell,I.free,I.freeC,I.pin,I.hok,I.len⟩
theorem Inv.unwish (I:Inv (X.wish E) pins σ H s):Inv X pins σ H s:=⟨I.ok.unwish,I.os,I.bare,I.base,I.loc,I.cell,I.free,I.freeC,I.pin,I.hok,I.len⟩
theorem SP.unwish {D:Ends} {f:Flow} {s':Shared} (h:SP (X.wish E) pins D f s'):SP X pins D f s':=by
 cases f with
 | next=>obtain ⟨σ',H',I,q⟩:=h;exact ⟨σ',H',I.unwish,q⟩
 | brk=>obtain ⟨σ',H',I,q⟩:=h;exact ⟨σ',H',I.unwish,q⟩
 | cont=>obtain ⟨σ',H',I,q⟩:=h;exact ⟨σ',H',I.unwish,q⟩
 | ret u=>obtain ⟨v,σ',H',I,r,q⟩:=h;exact ⟨v,σ',H',I.unwish,r,q⟩
theorem PSs.nox {st:List Stmt} {t:TS} (h:PSs X.nox st t):PSs X st t:=fun pins s σ H D I hw =>
 wpAny_mono (h pins s σ H D (I.wish _) hw) (fun _ _ q=>q.unwish) fun _ _ z=>False.elim z
end

/-! ### blocks and small statements -/
section
variable {X:Cx} {st:Stmt} {rest:List Stmt} {t u:TS} {e:Expr} {te:TE} {pos:Pos}
def tNext:TS:=fun D σ H=>D.nx σ H
def tSeq (t u:TS):TS:=fun D σ H=>t { D with nx:=u D } σ H
theorem pss_nil:PSs X [] tNext:=fun _ _ σ H _ I h=>wpAny_execs_nil ⟨σ,H,I,h⟩
theorem pss_cons (h1:PS X st t) (h2:PSs X rest u):PSs X (st::rest) (tSeq t u):=by
 intro pins s σ H D I h
 refine wpAny_execs_cons (thn (h1 pins s σ H { D with nx:=u D } I h) fun f s1 q=>?_)
 cases f with
 | next =>
  obtain ⟨σ',H',I',q⟩:=q
  exact h2 pins s1 σ' H' D I' q
 | ret v=>exact q
 | brk=>exact q
 | cont=>exact q
theorem pss_one (h1:PS X st t):PSs X [st] t:=by
 intro pins s σ H D I h
 refine wpAny_execs_cons (thn (h1 pins s σ H D I h) fun f s1 q=>?_)
 cases f with
 | next=>exact wpAny_execs_nil q
 | ret v=>exact q
 | brk=>exact q
 | cont=>exact q
theorem Inv.quiet {pins:List (Addr × Obj)} {σ:St} {H:Hp} {s:Shared} (I:Inv X pins σ H s):interactive X.env=false:=by simp [interactive,I.ok.kind]
def tDrop (te:TE):TS:=fun D σ H=>te σ H fun _ H1=>D.nx σ H1
theorem ps_expr (he:PE X e te) (hs:swapsWith e none pos.line X.env=pure false:=by rfl):PS X (.Expr e pos) (tDrop te):=by
 intro pins s σ H D I h
 exact wpAny_Expr_any (thn (he pins s σ H _ I h) fun v s1 ⟨x,H1,I1,r1,q1⟩=>⟨σ,H1,I1,q1⟩) I.quiet hs
def tRet (te:TE):TS:=fun D σ H=>te σ H D.rt
theorem ps_ret (he:PE X e te):PS X (.Return (some e) pos) (tRet te):=by
 intro pins s σ H D I h
 exact wpAny_Return_some (thn (he pins s σ H _ I h) fun v s1 ⟨x,H1,I1,r1,q1⟩=>⟨x,σ,H1,I1,r1,q1⟩)
def tIfS (c:TT) (t u:TS):TS:=fun D σ H=>c σ H fun b H1=>if b=true then t D σ H1 else u D σ H1
theorem ps_if {c:Expr} {a b:List Stmt} {tc:TT} (hc:PT X c tc) (ha:PSs X a t) (hb:PSs X b u):PS X (.If c a b pos) (tIfS tc t u):=by
 intro pins s σ H D I h
 refine wpAny_If (thn (hc pins s σ H _ I h) fun d s1 ⟨H1,I1,q1⟩=>?_)
 cases d with
 | true=>exact ha pins s1 σ H1 D I1 q1
 | false=>exact hb pins s1 σ H1 D I1 q1
end

/-! ### targets -/
abbrev TG:=V→St→Hp→(St→Hp→Prop)→Prop
abbrev TGs:=List V→St→Hp→(St→Hp→Prop)→Prop
def PG (X:Cx) (target:Expr) (t:TG):Prop :=
 ∀ (pins:List (Addr × Obj)) (s:Shared) (σ:St) (H:Hp) (v:V) (u:Value) (Q:St→Hp→Prop),Inv X pins σ H s→RelV v u→t v σ H Q →
  wpAny (model X.prog X.w) X.A (assign target X.env u) (fun _ s'=>∃ σ' H',Inv X pins σ' H' s'∧Q σ' H') X.xe s
def PGs (X:Cx) (ts:List Expr) (t:TGs):Prop :=
 ∀ (pins:List (Addr × Obj)) (s:Shared) (σ:St) (H:Hp) (vs:List V) (us:List Value) (Q:St→Hp→Prop),Inv X pins σ H s→Vals vs us→t vs σ H Q →
  wpAny (model X.prog X.w) X.A (assignInOrder ((assignEach ts X.env).map (·.2)) us) (fun _ s'=>∃ σ' H',Inv X pins σ' H' s'∧Q σ' H') X.xe s
abbrev TSet:=V→V→V→Hp→(Hp→Prop)→Prop
def PSet (X:Cx) (t:TSet):Prop :=
 ∀ (pins:List (Addr × Obj)) (s:Shared) (σ:St) (H:Hp) (o i v:V) (ov iv u:Value) (Q:Hp→Prop),Inv X pins σ H s→RelV o ov→RelV i iv→RelV v u→t o i v H Q →
  wpAny (model X.prog X.w) X.A (setItem ov iv u) (fun _ s'=>∃ H',Inv X pins σ H' s'∧Q H') X.xe s
abbrev TIp:=V→V→Hp→VK→Prop
def PIp (X:Cx) (op:Operator) (t:TIp):Prop :=
 ∀ (pins:List (Addr × Obj)) (s:Shared) (σ:St) (H:Hp) (x y:V) (v u:Value) (Q:VK),Inv X pins σ H s→RelV x v→RelV y u→t x y H Q →
  wpAny (model X.prog X.w) X.A (inplaceOp op v u) (EP X pins σ Q) X.xe s
section
variable {X:Cx} {pos:Pos}
def gName (i:Nat):TG:=fun v σ H Q=>Q (σ.set i (some v)) H
theorem pg_name {i:Nat} {x:Str} (hN:X.N.Nodup) (hi:X.N[i]?=some x) (hx:Loc X.env.scope x) (hf:X.fn x=true∨X.env.scope.names.lookup x=some .local:=by first | exact .inl rfl | exact .inr rfl | assumption):PG X (.Name x pos) (gName i):=by
 intro pins s σ H v u Q I r h
 exact wpAny_assign_Name (store_ok I hN hi hx r (fun s' I'=>⟨_,H,I',h⟩) hf)
def gNil:TGs:=fun vs σ H Q=>vs=[]∧Q σ H
def gCons (t:TG) (u:TGs):TGs:=fun vs σ H Q=>∃ v r,vs=v::r∧t v σ H fun σ' H'=>u r σ' H' Q
theorem pgs_nil:PGs X [] gNil:=by
 intro pins s σ H vs us Q I r h
 obtain ⟨e,h⟩:=h
 subst e
 cases r
 exact assignInOrder_nil ⟨σ,H,I,h⟩
theorem pgs_cons {e:Expr} {es:List Expr} {t:TG} {u:TGs} (h1:PG X e t) (h2:PGs X es u)
  (hs:(assignEach (e::es) X.env).map (·.2)=assign e X.env::(assignEach es X.env).map (·.2):=by rfl):PGs X (e::es) (gCons t u):=by
 intro pins s σ H vs us Q I r h
 obtain ⟨v,vr,e1,h⟩:=h
 subst e1
 cases r with
 | cons r rr =>
  rw [hs]
  refine assignInOrder_cons (thn (h1 pins s σ H _ _ _ I r h) fun _ s1 ⟨σ1,H1,I1,q1⟩=>?_)
  exact h2 pins s1 σ1 H1 _ _ Q I1 rr q1
def gTup (K:PySem.W.Frag) (n:Nat) (t:TGs):TG:=fun v σ H Q=>∃ a xs,v=.ref a∧SqT K H a xs∧xs.length=n∧t xs σ H Q
theorem pg_tup {es:List Expr} {k:Nat} {t:TGs} {n:Nat} (hc:X.calm=true) (h:PGs X es t)
  (hn:(assignEach es X.env).length=n:=by rfl) (hst:(assignEach es X.env).findIdx? (·.1)=none:=by rfl):PG X (.Tuple es k pos) (gTup X.K n t):=by
 intro pins s σ H v u Q I r hw
 obtain ⟨a,xs,e1,hq,hl,hw⟩:=hw
 subst e1
 cases r
 obtain ⟨its,rv,ht,hz⟩:=I.tuple hq
 refine assign_Tuple_tuple (I.ok.hd hc) ht (by simp [hn,←hl,rv.length]) hst fun h' hx=>?_
 have I1:Inv X pins σ H { s with heap:=h' }:=I.kept (t':=s.toks) fun b o e=>hx b o (Nat.ne_of_lt (Heap.lt_size e)) e
 exact h pins _ σ H xs _ Q I1 (by simpa using rv) hw
def gSub (to ti:TE) (t:TSet):TG:=fun v σ H Q=>to σ H fun o H1=>ti σ H1 fun i H2=>t o i v H2 fun H3=>Q σ H3
theorem pg_sub {o i:Expr} {to ti:TE} {t:TSet} (ho:PE X o to) (hi:PE X i ti) (hs:PSet X t)
  (ha:∀ v,assign (.Subscript o i pos) X.env v=(do
   let ov ←holding [v] (eval o X.env)
   let iv ←holding [v,ov] (eval i X.env)
   standAt pos
   holding [v,ov,iv] (setItem ov iv v)
   release [v,ov,iv] []):=by intro _;rfl):PG X (.Subscript o i pos) (gSub to ti t):=by
 intro pins s σ H v u Q I r h
 rw [ha]
 refine wpAny_bind (wpAny_holding (thn (ho pins s σ H _ I h) fun ov s1 ⟨x,H1,I1,r1,q1⟩=>?_))
 refine wpAny_bind (wpAny_holding (thn (hi pins s1 σ H1 _ I1 q1) fun iv s2 ⟨y,H2,I2,r2,q2⟩=>?_))
 refine wpAny_bind (wpAny_standAt (wpAny_bind (wpAny_holding (thn (hs pins s2 σ H2 x y v ov iv u _ I2 r1 r2 r q2) fun _ s3 ⟨H3,I3,q3⟩=>?_))))
 exact wpAny_release ⟨σ,H3,I3,q3⟩
def tAsg (te:TE) (g:TG):TS:=fun D σ H=>te σ H fun x H1=>g x σ H1 D.nx
theorem ps_asg {tg e:Expr} {te:TE} {g:TG} (he:PE X e te) (hg:PG X tg g) (hs:swapsWithSole [tg] e pos.line X.env=pure false:=by rfl) (hw:swappedStores [tg] e X.env=pure none:=by rfl)
  (h1:(assignEach [tg] X.env).map (·.2)=[assign tg X.env]:=by rfl):PS X (.Assign [tg] e pos) (tAsg te g):=by
 intro pins s σ H D I h
 refine wpAny_Assign_stores (thn (he pins s σ H _ I h) fun v s1 ⟨x,H1,I1,r1,q1⟩=>?_) hs hw
 rw [h1]
 exact thn (hg pins s1 σ H1 x v _ I1 r1 q1) fun _ s2 q=>q
theorem ps_set {i:Nat} {x:Str} {e:Expr} {te:TE} {pos':Pos} (hN:X.N.Nodup) (hi:X.N[i]?=some x) (hx:Loc X.env.scope x) (he:PE X e te) (hs:swapsWith e (some (.Name x pos')) pos.line X.env=pure false:=by rfl) (hf:X.fn x=true∨X.env.scope.names.lookup x=some .local:=by first | exact .inl rfl | exact .inr rfl | assumption) :
  PS X (.Assign [.Name x pos'] e pos) (tAsg te (gName i)):=by
 intro pins s σ H D I h
 refine wpAny_Assign_Name (thn (he pins s σ H _ I h) fun v s1 ⟨y,H1,I1,r1,q1⟩=>?_) hs
 exact store_ok I1 hN hi hx r1 (fun s2 I2=>⟨_,H1,I2,q1⟩) hf
def tAug (i:Nat) (te:TE) (ti:TIp):TS:=fun D σ H=>∃ x,σ[i]?=some (some x)∧te σ H fun y H1=>ti x y H1 fun z H2=>D.nx (σ.set i (some z)) H2
theorem ps_aug {i:Nat} {x:Str} {e:Expr} {te:TE} {op:Operator} {ti:TIp} {pos':Pos} (hN:X.N.Nodup) (hi:X.N[i]?=some x) (hx:Loc X.env.scope x) (he:PE X e te) (ho:PIp X op ti) (hf:X.fn x=true∨X.env.scope.names.lookup x=some .local:=by first | exact .inl rfl | exact .inr rfl | assumption) :
  PS X (.AugAssign (.Name x pos') op e pos) (tAug i te ti):=by
 intro pins s σ H D I h
 obtain ⟨v,e1,h⟩:=h
 obtain ⟨m,hn,hl⟩:=I.loc
 have vis:Vis X.env.scope x:=by rcases hx with k | k;exact .inl k;exact .inr (.inl k)
 obtain ⟨u,r,l⟩:=hl i x v hi e1 vis
 refine wpAny_AugAssign_Name ?_
 have go:wpAny (model X.prog X.w) X.A (eval e X.env) (fun w s₂=>wpAny (model X.prog X.w) X.A (inplaceOp op u w) (fun r s₃=>wpAny (model X.prog X.w) X.A (storeName X.env x r) (fun _=>SP X pins D .next) X.xe s₃) X.xe s₂) X.xe s:=by
  refine thn (he pins s σ H _ I h) fun w s1 ⟨y,H1,I1,r1,q1⟩=>?_
  refine thn (ho pins s1 σ H1 v y u w _ I1 r r1 q1) fun z s2 ⟨zv,H2,I2,r2,q2⟩=>?_
  exact store_ok I2 hN hi hx r2 (fun s3 I3=>⟨_,H2,I3,q2⟩) hf
 rcases l with ⟨hk,hm⟩ | ⟨hk,c,hc,hcell⟩
 ·exact wpAny_loadName_local I.ok.kind hk hn hm go
 ·rcases hk with hk | hk
  ·exact wpAny_loadName_cell I.ok.kind hk hc hcell go
  ·rcases hx with k | k
   ·have:X.env.scope.names.lookup x=some .free:=hk
    rw [k] at this;cases this
   ·have:X.env.scope.names.lookup x=some .free:=hk
    rw [k] at this;cases this
def ipI (f:Int→Int→Int):TIp:=fun x y H Q=>∃ i j,x=.int i∧y=.int j∧Q (.int (f i j)) H
theorem ip_add:PIp X .Add (ipI fun i j=>i+j):=by
 intro pins s σ H x y v u Q I r1 r2 h
 obtain ⟨i,j,e1,e2,q⟩:=h
 subst e1;subst e2
 obtain ⟨t,rfl⟩:=r1
 obtain ⟨t',rfl⟩:=r2
 exact iadd_int ⟨.int _,H,I.tok _,⟨_,rfl⟩,q⟩
end

/-! ### while -/
section
variable {X:Cx} {pos:Pos}
def tWhile (c:TT) (tb:TS):TS:=fun D σ H=>∃ W:Nat→St→Hp→Prop,(∃ m,W m σ H)∧∀ m σ H,W m σ H →
 c σ H fun b H1=>if b=true then ∃ N:St→Hp→Prop,(∀ σ' H',N σ' H'→∃ m',m' < m∧W m' σ' H')∧tb { D with nx:=N,ct:=N,bk:=D.nx } σ H1 else D.nx σ H1
theorem ps_while {c:Expr} {body:List Stmt} {tc:TT} {tb:TS} (hp:PassesOwn (model X.prog X.w) X.A X.env X.xe) (hc:PT X c tc) (hb:PSs X body tb):PS X (.While c body [] pos) (tWhile tc tb):=by
 intro pins s σ H D I h
 obtain ⟨W,⟨m0,w0⟩,turn⟩:=h
 refine wpAny_While (codeAny_whileLoop (fun n s'=>∃ σ' H',Inv X pins σ' H' s'∧W n σ' H') ?_ m0 ⟨σ,H,I,w0⟩)
 rintro n s1 ⟨σ1,H1,I1,w1⟩
 refine wpAny_passesOwn hp (thn (hc pins s1 σ1 H1 _ I1 (turn n σ1 H1 w1)) fun b s2 ⟨H2,I2,q2⟩=>?_)
 cases b with
 | true =>
  obtain ⟨N,hN,q2⟩:=q2
  rw [if_pos rfl]
  refine wpAny_passesOwn hp (thn (hb pins s2 σ1 H2 _ I2 q2) fun f s3 q3=>?_)
  cases f with
  | next =>
   obtain ⟨σ3,H3,I3,n3⟩:=q3
   obtain ⟨m',hm,w3⟩:=hN σ3 H3 n3
   exact ⟨m',hm,σ3,H3,I3,w3⟩
  | cont =>
   obtain ⟨σ3,H3,I3,n3⟩:=q3
   obtain ⟨m',hm,w3⟩:=hN σ3 H3 n3
   exact ⟨m',hm,σ3,H3,I3,w3⟩
  | brk=>exact q3
  | ret v=>exact q3
 | false =>
  rw [if_neg Bool.false_ne_true]
  exact wpAny_execs_nil ⟨σ1,H2,I2,q2⟩
end

/-! ### what a loop or a comprehension walks -/
structure It where
 go:Nat→Hp→Prop
 yld:Nat→Hp→V→Hp→Prop
 stop:Nat→Hp→Prop
def FpOk (X:Cx) (pins:List (Addr × Obj)) (H:Hp) (b:Addr):Prop :=
 H b=none∧b≠X.env.locals∧b∉X.fs∧(b∈X.ex∨X.s₀.heap.objs.size≤b)∧(∀ x c,X.env.cells.lookup x=some c→c≠b)∧∀ p∈X.pn++pins,p.1≠b
theorem Inv.fpOk {X:Cx} {pins:List (Addr × Obj)} {σ:St} {H H':Hp} {s:Shared} {b:Addr} (I:Inv X pins σ H s) (hb:s.heap.objs.size≤b) (hn:H' b=none):FpOk X pins H' b:=by
 refine ⟨hn,Nat.ne_of_gt (Nat.lt_of_lt_of_le I.lt hb),I.nofs hb,.inr (Nat.le_trans I.sz hb),fun x c e z=>?_,fun p hp z=>?_⟩
 ·obtain ⟨v,q⟩:=I.cell x c e
  exact absurd (Nat.lt_of_lt_of_le q.lt (by rw [z];exact hb)) (Nat.lt_irrefl _)
 ·exact absurd (Nat.lt_of_lt_of_le (Heap.lt_size (I.pin p hp).1) (by rw [z];exact hb)) (Nat.lt_irrefl _)
structure Turn (P:Program) (w:World) (K:PySem.W.Frag) (tg:Expr) (J:It) (fp:List Addr) (it:Addr) (tn:Nat→Heap→Prop):Prop where
 mem:it∈fp
 obj:∀ i h,tn i h→∀ b∈fp,∃ o,h.get? b=some o∧∀ v,o.data≠.cell v
 keep:∀ i h h',tn i h→(∀ b∈fp,∀ o,h.get? b=some o→h'.get? b=some o)→tn i h'
 item:∀ (X:Cx),X.prog=P→X.w=w→X.K=K→X.calm=true→∀ (i:Nat) (pins:List (Addr × Obj)) (s:Shared) (σ:St) (H:Hp) (E:Value→Shared→Prop),Inv X pins σ H s→(∀ b∈fp,FpOk X pins H b)→tn i s.heap→J.go i H →
  wpAny (model P w) X.A (pyNext (.ref it)) (fun r s1=>∃ u,r=some u ∧
   wpAny (model P w) X.A (letOwnedTupleGo tg (.ref it) u) (fun _ s2=>∃ x H',Inv X pins σ H' s2∧RelV x u∧J.yld i H x H'∧tn (i+1) s2.heap∧∀ b∈fp,H' b=none) E s1) E s
 done:∀ (X:Cx),X.prog=P→X.w=w→X.K=K→X.calm=true→∀ (i:Nat) (pins:List (Addr × Obj)) (s:Shared) (σ:St) (H:Hp) (E:Value→Shared→Prop),Inv X pins σ H s→(∀ b∈fp,FpOk X pins H b)→tn i s.heap→J.stop i H →
  wpAny (model P w) X.A (pyNext (.ref it)) (fun r s1=>r=none∧Inv X pins σ H s1) E s
 self:∀ (A:Around) (i:Nat) (s:Shared) (Q:Value→Shared→Prop) (E:Value→Shared→Prop),tn i s.heap→Q (.ref it) s→wpAny (model P w) A (pyIter (.ref it)) Q E s
abbrev TI:=St→Hp→(It→Hp→Prop)→Prop
def PIE (X:Cx) (pins:List (Addr × Obj)) (σ:St) (tg:Expr) (R:It→Hp→Prop) (itv:Value) (s2:Shared):Prop :=
 ∃ (it:Addr) (fp:List Addr) (tn:Nat→Heap→Prop) (J:It) (H':Hp),itv=.ref it∧Inv X pins σ H' s2∧Turn X.prog X.w X.K tg J fp it tn∧tn 0 s2.heap∧(∀ b∈fp,FpOk X pins H' b)∧R J H'
def PI (X:Cx) (tg iter:Expr) (wi:TI):Prop :=
 ∀ (pins:List (Addr × Obj)) (s:Shared) (σ:St) (H:Hp) (R:It→Hp→Prop),Inv X pins σ H s→wi σ H R →
  wpAny (model X.prog X.w) X.A (eval iter X.env) (fun v s1=>wpAny (model X.prog X.w) X.A (pyIter v) (PIE X pins σ tg R) X.xe s1) X.xe s

theorem go_of {M:Model} {A:Around} {E:Value→Shared→Prop} {s:Shared} {tg:Expr} {it:Addr} {u:Value} {o:Obj} {n:String} {vs:Array Value} {Q:Unit→Shared→Prop} (ho:s.heap.get? it=some o) (hc:o.cls=.type n) (hd:o.data=.fields vs)
  (hn:["enumerate","zip","dict_itemiterator","dict_reverseitemiterator","odict_iterator","itertools.zip_longest","itertools.pairwise"].contains n=false) (hQ:Q () s):wpAny M A (letOwnedTupleGo tg (.ref it) u) Q E s:=by
 unfold letOwnedTupleGo
 cases tg<;>first
  | exact wpAny_pure hQ
  | (cases u<;>first
    | exact wpAny_pure hQ
    | (refine wpAny_bind (wpAny_load ho ?_)
       rw [hc,hd]
       show wpAny M A (if (["enumerate","zip","dict_itemiterator","dict_reverseitemiterator","odict_iterator","itertools.zip_longest","itertools.pairwise"].contains n && vs[0]? == some (rawInt _))=true then _ else _) Q E s
       rw [if_neg (by intro h;rw [hn,Bool.false_and] at h;cases h)]
       exact wpAny_pure hQ))

def Itl (K:PySem.W.Frag) (a:Addr):It :=
 ⟨fun i H=>∃ xs x,SqL K H a xs∧xs[i]?=some x,fun i H x H'=>H'=H∧∀ xs,SqL K H a xs→xs[i]?=some x,fun i H=>∃ xs,SqL K H a xs∧xs.length≤i⟩
def Itt (K:PySem.W.Frag) (a:Addr):It :=
 ⟨fun i H=>∃ xs x,SqT K H a xs∧xs[i]?=some x,fun i H x H'=>H'=H∧∀ xs,SqT K H a xs→xs[i]?=some x,fun i H=>∃ xs,SqT K H a xs∧xs.length≤i⟩
def Itr (lo:Int) (n:Nat):It:=⟨fun i _=>i < n,fun i H x H'=>H'=H∧x=.int (lo+i),fun i _=>n≤i⟩
theorem turn_list {P:Program} {w:World} {K:PySem.W.Frag} {tg:Expr} (a it:Addr):Turn P w K tg (Itl K a) [it] it (fun i h=>h.IsListIter it a i) where
 mem:=by simp
 obj:=fun i h st b hb=>by
  have e:b=it:=by simpa using hb
  subst e
  obtain ⟨o,e,c,d⟩:=st
  exact ⟨o,e,fun v z=>by rw [d] at z;cases z⟩
 keep:=fun i h h' st k=>st.at fun o e=>k it (by simp) o e
 item:=by
  intro X hP hw hK hc i pins s σ H E I hf st hg
  subst hP hw hK
  obtain ⟨xs,x,hq,hx⟩:=hg
  obtain ⟨its,rv,p,hz⟩:=I.list hq
  obtain ⟨u,hu,ru⟩:=rv.get hx
  obtain ⟨f0,f1,f2,f3,f4,f5⟩:=hf it (by simp)
  refine wpAny_pyNext_list_item st p.isList (x:=u) (by simpa using hu) fun h' st' sb=>?_
  have I1:Inv X pins σ H { s with heap:=h' }:=I.turned (t':=s.toks) (fun b o hb e=>(sb.2 b hb).trans e) f0 f1 f3 f4 f5
  obtain ⟨o,e,c,d⟩:=id st'
  exact ⟨u,rfl,go_of (s:={ s with heap:=h' }) e c d (by decide) ⟨x,H,I1,ru,⟨rfl,fun ys hy=>by rw [I.list_inj hy hq];exact hx⟩,st',fun b hb=>(hf b hb).1⟩⟩
 done:=by
  intro X hP hw hK hc i pins s σ H E I hf st hg
  subst hP hw hK
  obtain ⟨xs,hq,hx⟩:=hg
  obtain ⟨its,rv,p,hz⟩:=I.list hq
  obtain ⟨f0,f1,f2,f3,f4,f5⟩:=hf it (by simp)
  have hl:=rv.length
  exact wpAny_pyNext_list_end (I.ok.hd hc) st p.isList (by simp;omega) fun h' eb=>⟨rfl,I.turned (t':=s.toks) (fun b o hb e=>eb b o hb e) f0 f1 f3 f4 f5⟩
 self:=fun _ _ _ _ _ st h=>wpAny_pyIter_listiter st h
theorem turn_tuple {P:Program} {w:World} {K:PySem.W.Frag} {tg:Expr} (a it:Addr):Turn P w K tg (Itt K a) [it] it (fun i h=>h.IsTupleIter it a i) where
 mem:=by simp
 obj:=fun i h st b hb=>by
  have e:b=it:=by simpa using hb
  subst e
  obtain ⟨o,e,c,d⟩:=st
  exact ⟨o,e,fun v z=>by rw [d] at z;cases z⟩
 keep:=fun i h h' st k=>st.at fun o e=>k it (by simp) o e
 item:=by
  intro X hP hw hK hc i pins s σ H E I hf st hg
  subst hP hw hK
  obtain ⟨xs,x,hq,hx⟩:=hg
  obtain ⟨its,rv,p,hz⟩:=I.tuple hq
  obtain ⟨u,hu,ru⟩:=rv.get hx
  obtain ⟨f0,f1,f2,f3,f4,f5⟩:=hf it (by simp)
  refine wpAny_pyNext_tuple_item st (show s.heap.IsTuple a its.toArray from p) (x:=u) (by simpa using hu) fun h' st' sb=>?_
  have I1:Inv X pins σ H { s with heap:=h' }:=I.turned (t':=s.toks) (fun b o hb e=>(sb.2 b hb).trans e) f0 f1 f3 f4 f5
  obtain ⟨o,e,c,d⟩:=id st'
  exact ⟨u,rfl,go_of (s:={ s with heap:=h' }) e c d (by decide) ⟨x,H,I1,ru,⟨rfl,fun ys hy=>by rw [I.tuple_inj hy hq];exact hx⟩,st',fun b hb=>(hf b hb).1⟩⟩
 done:=by
  intro X hP hw hK hc i pins s σ H E I hf st hg
  subst hP hw hK
  obtain ⟨xs,hq,hx⟩:=hg
  obtain ⟨its,rv,p,hz⟩:=I.tuple hq
  obtain ⟨f0,f1,f2,f3,f4,f5⟩:=hf it (by simp)
  have hl:=rv.length
  exact wpAny_pyNext_tuple_end (I.ok.hd hc) st (show s.heap.IsTuple a its.toArray from p) (by simp;omega) fun h' eb=>⟨rfl,I.turned (t':=s.toks) (fun b o hb e=>eb b o hb e) f0 f1 f3 f4 f5⟩
 self:=fun _ _ _ _ _ st h=>wpAny_pyIter_tupleiter st h
theorem turn_range {P:Program} {w:World} {K:PySem.W.Frag} {tg:Expr} (it:Addr) (lo:Int) (n:Nat):Turn P w K tg (Itr lo n) [it] it (fun i h=>IsRangeIter h it (lo+(i:Nat)*1) ((n:Int) - (i:Nat)) 1) where
 mem:=by simp
 obj:=fun i h st b hb=>by
  have e:b=it:=by simpa using hb
  subst e
  exact ⟨_,st,fun v z=>by
   have z':Data.fields _=Data.cell v:=z
   cases z'⟩
 keep:=fun i h h' st k=>k it (by simp) _ st
 item:=by
  intro X hP hw hK hc i pins s σ H E I hf st hg
  subst hP hw hK
  obtain ⟨f0,f1,f2,f3,f4,f5⟩:=hf it (by simp)
  have W:=Walks.range (prog:=X.prog) (w:=X.w) (I.ok.hd hc) it lo 1 n
  refine W.item i s _ _ hg st fun v h' tk hv st' kk=>?_
  obtain ⟨t,rfl⟩:=hv
  have I1:Inv X pins σ H { s with heap:=h',toks:=tk }:=I.turned (fun b o hb e=>kk b o (by simpa using hb) e) f0 f1 f3 f4 f5
  refine ⟨_,rfl,go_of (s:={ s with heap:=h',toks:=tk }) (n:="range_iterator") st' rfl rfl (by decide) ⟨.int (lo+i),H,I1,⟨t,?_⟩,⟨rfl,rfl⟩,st',fun b hb=>(hf b hb).1⟩⟩
  rw [Int.mul_one]
 done:=by
  intro X hP hw hK hc i pins s σ H E I hf st hg
  subst hP hw hK
  obtain ⟨f0,f1,f2,f3,f4,f5⟩:=hf it (by simp)
  exact wpAny_pyNext_range_end (I.ok.hd hc) st (by have:n≤i:=hg;omega) fun h' eb=>⟨rfl,I.turned (t':=s.toks) (fun b o hb e=>eb b o hb e) f0 f1 f3 f4 f5⟩
 self:=fun _ _ _ _ _ st h=>wpAny_pyIter_rangeiter st h
end L2

namespace L2
open PySem PySem.Spec PyProof.Rows
section
variable {X:Cx} {tg:Expr}
def iList (K:PySem.W.Frag) (tl:TE):TI:=fun σ H R=>tl σ H fun x H1=>∃ a,x=.ref a∧(∃ xs,SqL K H1 a xs)∧R (Itl K a) H1
def iTup (K:PySem.W.Frag) (tl:TE):TI:=fun σ H R=>tl σ H fun x H1=>∃ a,x=.ref a∧(∃ xs,SqT K H1 a xs)∧R (Itt K a) H1
theorem pi_list {l:Expr} {tl:TE} (hl:PE X l tl):PI X tg l (iList X.K tl):=by
 intro pins s σ H R I h
 refine thn (hl pins s σ H _ I h) fun v s1 ⟨x,H1,I1,r1,q1⟩=>?_
 obtain ⟨a,e,⟨xs,hq⟩,q⟩:=q1
 subst e
 cases r1
 obtain ⟨its,rv,p,hz⟩:=I1.list hq
 refine wpAny_pyIter_list p.isList ?_
 refine ⟨s1.heap.objs.size,[s1.heap.objs.size],_,_,H1,rfl,I1.kept (t':=s1.toks) fun b o e=>Heap.get?_push_of_some _ e,turn_list a _,⟨_,Heap.get?_push_size _ rfl,rfl,rfl⟩,fun b hb=>?_,q⟩
 have e:b=s1.heap.objs.size:=by simpa using hb
 subst e
 exact I1.fpOk (Nat.le_refl _) (I1.hok.fresh (Nat.le_refl _))
theorem pi_tup {l:Expr} {tl:TE} (hl:PE X l tl):PI X tg l (iTup X.K tl):=by
 intro pins s σ H R I h
 refine thn (hl pins s σ H _ I h) fun v s1 ⟨x,H1,I1,r1,q1⟩=>?_
 obtain ⟨a,e,⟨xs,hq⟩,q⟩:=q1
 subst e
 cases r1
 obtain ⟨its,rv,p,hz⟩:=I1.tuple hq
 refine wpAny_pyIter_tuple (show s1.heap.IsTuple a its.toArray from p) ?_
 refine ⟨s1.heap.objs.size,[s1.heap.objs.size],_,_,H1,rfl,I1.kept (t':=s1.toks) fun b o e=>Heap.get?_push_of_some _ e,turn_tuple a _,⟨_,Heap.get?_push_size _ rfl,rfl,rfl⟩,fun b hb=>?_,q⟩
 have e:b=s1.heap.objs.size:=by simpa using hb
 subst e
 exact I1.fpOk (Nat.le_refl _) (I1.hok.fresh (Nat.le_refl _))
theorem range_it {pins:List (Addr × Obj)} {σ:St} {H:Hp} {s:Shared} {R:It→Hp→Prop} {E:Value→Shared→Prop} {lo hi:Int} {t u v:Tok} {tk:Nat} (I:Inv X pins σ H s) (h1:-(2 ^ 62)≤lo) (h2:lo < 2 ^ 62) (h3:-(2 ^ 62)≤hi) (h4:hi < 2 ^ 62)
  (q:R (Itr lo (hi - lo).toNat) H):wpAny (model X.prog X.w) X.A (pyIter (.ref s.heap.objs.size)) (PIE X pins σ tg R) E { s with heap:=s.heap.push { cls:=.type "range",data:=.fields #[.int lo t,.int hi u,.int 1 v] },toks:=tk }:=by
 refine wpAny_pyIter_range (IsRange.new ..) (small_one h1 h2 h3 h4) ?_
 have I1:Inv X pins σ H { s with heap:=s.heap.push { cls:=.type "range",data:=.fields #[.int lo t,.int hi u,.int 1 v] },toks:=tk }:=I.kept fun b o e=>Heap.get?_push_of_some _ e
 refine ⟨(s.heap.push { cls:=.type "range",data:=.fields #[.int lo t,.int hi u,.int 1 v] }).objs.size,[(s.heap.push { cls:=.type "range",data:=.fields #[.int lo t,.int hi u,.int 1 v] }).objs.size],_,_,H,rfl,
  I1.kept (t':=tk) fun b o e=>Heap.get?_push_of_some _ e,turn_range _ lo (hi - lo).toNat,?_,fun b hb=>?_,q⟩
 ·have e1:lo+((0:Nat):Int)*1=lo:=by simp
  have e2:(((hi - lo).toNat:Nat):Int) - ((0:Nat):Int)=Builtin.Range.rangeSize lo hi 1:=by rw [rangeSize_one];split<;>omega
  show IsRangeIter _ _ (lo+((0:Nat):Int)*1) ((((hi - lo).toNat:Nat):Int) - ((0:Nat):Int)) 1
  rw [e1,e2]
  exact Heap.get?_push_size _ rfl
 ·have e:b=(s.heap.push { cls:=.type "range",data:=.fields #[.int lo t,.int hi u,.int 1 v] }).objs.size:=by simpa using hb
  subst e
  exact I1.fpOk (Nat.le_refl _) (I1.hok.fresh (Nat.le_refl _))
def iRng1 (ta:TA):TI:=fun σ H R=>ta σ H fun vs H1=>∃ j:Int,vs=[.int j]∧-(2 ^ 62)≤j∧j < 2 ^ 62∧R (Itr 0 j.toNat) H1
theorem pi_range1 {a:Expr} {ta:TA} {p pos:Pos} (hg:Gl X "range") (hm:X.mg "range"=none) (ha:PA X [a] ta) (hs:starEach [a] X.env=[(false,eval a X.env)]:=by rfl):PI X tg (.Call (.Name "range" p) [a] [] pos) (iRng1 ta):=by
 intro pins s σ H R I h
 refine Call_ (ld_blt I hg hm boot_range (PyProof.Rows.callWith_type1 (thn (ha pos pins s σ H _ I h) fun us s1 ⟨vs,H1,I1,r1,q1⟩=>?_) hs rfl))
 obtain ⟨j,e,q1,q2,q⟩:=q1
 subst e
 cases r1 with
 | cons r rr =>
  cases rr
  obtain ⟨t,rfl⟩:=r
  exact call_range_1 (range_it I1 (by omega) (by omega) q1 q2 (by simpa using q))
/-! ### for -/
def tFor (wi:TI) (g:TG) (tb:TS):TS:=fun D σ H=>wi σ H fun J H1=>∃ W:Nat→Nat→St→Hp→Prop,(∃ m,W 0 m σ H1)∧∀ i m σ H,W i m σ H →
 (J.stop i H∧D.nx σ H)∨(J.go i H∧∃ N:St→Hp→Prop,(∀ σ' H',N σ' H'→∃ m',m' < m∧W (i+1) m' σ' H')∧∀ x H',J.yld i H x H'→g x σ H' fun σ2 H2=>tb { D with nx:=N,ct:=N,bk:=D.nx } σ2 H2)
def pinsAt (fp:List Addr) (h:Heap):List (Addr × Obj):=fp.filterMap fun b=>(h.get? b).map fun o=>(b,o)
theorem mem_pinsAt {fp:List Addr} {h:Heap} {b:Addr} {o:Obj} (hb:b∈fp) (e:h.get? b=some o):(b,o)∈pinsAt fp h:=List.mem_filterMap.mpr ⟨b,hb,by rw [e];rfl⟩
theorem of_pinsAt {fp:List Addr} {h:Heap} {p:Addr × Obj} (hp:p∈pinsAt fp h):p.1∈fp∧h.get? p.1=some p.2:=by
 obtain ⟨b,hb,e⟩:=List.mem_filterMap.mp hp
 cases q:h.get? b with
 | none=>rw [q] at e;cases e
 | some o =>
  rw [q] at e
  have e':(b,o)=p:=Option.some.inj e
  subst e'
  exact ⟨hb,q⟩
theorem Inv.pinned {pins:List (Addr × Obj)} {σ:St} {H:Hp} {s:Shared} {fp:List Addr} (I:Inv X pins σ H s) (hf:∀ b∈fp,FpOk X pins H b) (ho:∀ b∈fp,∃ o,s.heap.get? b=some o∧∀ v,o.data≠.cell v):Inv X (pins++pinsAt fp s.heap) σ H s :=
 I.pins_of fun p hp=>(List.mem_append.mp hp).elim (fun z=>I.pin p (List.mem_append_right _ z)) fun z=>by
  obtain ⟨hb,e⟩:=of_pinsAt z
  obtain ⟨f0,f1,f2,_⟩:=hf p.1 hb
  obtain ⟨o,e',d⟩:=ho p.1 hb
  rw [e] at e';cases e'
  exact ⟨e,f0,f1,f2,d⟩
theorem Inv.unpinned {pins pl:List (Addr × Obj)} {σ:St} {H:Hp} {s:Shared} (I:Inv X (pins++pl) σ H s):Inv X pins σ H s:=I.pins_of fun p hp=>I.pin p (List.mem_append_right _ (List.mem_append_left _ hp))
theorem ps_for {iter:Expr} {body:List Stmt} {wi:TI} {g:TG} {tb:TS} {pos:Pos} (hp:PassesOwn (model X.prog X.w) X.A X.env X.xe) (hc:X.calm=true) (hi:PI X tg iter wi) (hg:PG X tg g) (hb:PSs X body tb)
  (hs:∀ x,foldedSetIterable iter X.env x=pure x:=by intro _;rfl):PS X (.For tg iter body [] pos) (tFor wi g tb):=by
 intro pins s σ H D I h
 refine wpAny_For (thn (hi pins s σ H _ I h) fun v s1 h1=>thn h1 fun itv s2 h2=>?_) hs
 obtain ⟨it,fp,tn,J,H2,e,I2,T,st2,f2,W,⟨m0,w0⟩,turn⟩:=h2
 subst e
 -- what stays true of the iterator's objects through the loop
 have stat:∀ {H':Hp},(∀ b∈fp,H' b=none)→∀ b∈fp,FpOk X pins H' b:=fun hn b hb=>⟨hn b hb,(f2 b hb).2⟩
 refine codeAny_forLoop_any (fun n s'=>∃ i σ' H',Inv X pins σ' H' s'∧tn i s'.heap∧(∀ b∈fp,H' b=none)∧W i n σ' H') ?_ m0 ⟨0,σ,H2,I2,st2,fun b hb=>(f2 b hb).1,w0⟩
 rintro n s3 ⟨i,σ3,H3,I3,st3,fr3,w3⟩
 rcases turn i n σ3 H3 w3 with ⟨stop,qn⟩ | ⟨go,N,hN,step⟩
 ·refine wpAny_passesOwn hp (thn (T.done X rfl rfl rfl hc i pins s3 σ3 H3 X.xe I3 (stat fr3) st3 stop) fun r s4 ⟨hr,I4⟩=>?_)
  subst hr
  exact wpAny_execs_nil ⟨σ3,H3,I4,qn⟩
 ·refine wpAny_passesOwn hp (thn (T.item X rfl rfl rfl hc i pins s3 σ3 H3 X.xe I3 (stat fr3) st3 go) fun r s4 ⟨u,hr,h4⟩=>?_)
  subst hr
  refine wpAny_passesOwn hp (thn h4 fun _ s5 ⟨x,H5,I5,r5,y5,st5,fr5⟩=>?_)
  have I5':=I5.pinned (stat fr5) (T.obj _ _ st5)
  refine wpAny_passesOwn hp (thn (hg _ s5 σ3 H5 x u _ I5' r5 (step x H5 y5)) fun _ s6 ⟨σ6,H6,I6,q6⟩=>?_)
  refine wpAny_passesOwn hp (thn (hb _ s6 σ6 H6 _ I6 q6) fun f s7 q7=>?_)
  have again:∀ {σ7:St} {H7:Hp},Inv X (pins++pinsAt fp s5.heap) σ7 H7 s7→N σ7 H7→∃ m,m < n∧∃ i σ' H',Inv X pins σ' H' s7∧tn i s7.heap∧(∀ b∈fp,H' b=none)∧W i m σ' H':=fun {σ7 H7} I7 n7=>by
   obtain ⟨m',hm,w7⟩:=hN σ7 H7 n7
   refine ⟨m',hm,i+1,σ7,H7,I7.unpinned,T.keep _ _ _ st5 fun b hb o e=>(I7.pin (b,o) (List.mem_append_right _ (List.mem_append_right _ (mem_pinsAt hb e)))).1,fun b hb=>?_,w7⟩
   obtain ⟨o,e,d⟩:=T.obj _ _ st5 b hb
   exact (I7.pin (b,o) (List.mem_append_right _ (List.mem_append_right _ (mem_pinsAt hb e)))).2.1
  cases f with
  | next=>obtain ⟨σ7,H7,I7,n7⟩:=q7;exact again I7 n7
  | cont=>obtain ⟨σ7,H7,I7,n7⟩:=q7;exact again I7 n7
  | brk=>obtain ⟨σ7,H7,I7,q7⟩:=q7;exact ⟨σ7,H7,I7.unpinned,q7⟩
  | ret v=>obtain ⟨x7,σ7,H7,I7,r7,q7⟩:=q7;exact ⟨x7,σ7,H7,I7.unpinned,r7,q7⟩
end

/-! ### the forms one uses -/
theorem for_list {K:PySem.W.Frag} {a:Addr} {xs:List V} {g:TG} {tb:TS} {D:Ends} {σ:St} {H:Hp} (Pv:Nat→St→Hp→Prop) (h0:Pv 0 σ H) (hl:∀ i σ H,i≤xs.length→Pv i σ H→SqL K H a xs)
  (hs:∀ i x σ H,xs[i]?=some x→Pv i σ H→g x σ H fun σ2 H2=>tb { D with nx:=Pv (i+1),ct:=Pv (i+1),bk:=D.nx } σ2 H2) (hd:∀ σ H,Pv xs.length σ H→D.nx σ H) :
  ∃ W:Nat→Nat→St→Hp→Prop,(∃ m,W 0 m σ H)∧∀ i m σ H,W i m σ H →
   ((Itl K a).stop i H∧D.nx σ H)∨((Itl K a).go i H∧∃ N:St→Hp→Prop,(∀ σ' H',N σ' H'→∃ m',m' < m∧W (i+1) m' σ' H')∧∀ x H',(Itl K a).yld i H x H'→g x σ H' fun σ2 H2=>tb { D with nx:=N,ct:=N,bk:=D.nx } σ2 H2):=by
 refine ⟨fun i m σ H=>m=xs.length - i∧i≤xs.length∧Pv i σ H,⟨xs.length,by simp,Nat.zero_le _,h0⟩,?_⟩
 rintro i m σ H ⟨rfl,hi,p⟩
 have q:=hl i σ H hi p
 by_cases hlt:i < xs.length
 ·refine .inr ⟨⟨xs,xs[i],q,by simp [hlt]⟩,Pv (i+1),fun σ' H' p'=>⟨xs.length - (i+1),by omega,rfl,hlt,p'⟩,fun x H' y=>?_⟩
  obtain ⟨e,y⟩:=y
  subst e
  exact hs i x σ _ (y xs q) p
 ·have e:i=xs.length:=by omega
  subst e
  exact .inl ⟨⟨xs,q,Nat.le_refl _⟩,hd σ H p⟩
theorem for_tup {K:PySem.W.Frag} {a:Addr} {xs:List V} {g:TG} {tb:TS} {D:Ends} {σ:St} {H:Hp} (Pv:Nat→St→Hp→Prop) (h0:Pv 0 σ H) (hl:∀ i σ H,i≤xs.length→Pv i σ H→SqT K H a xs)
  (hs:∀ i x σ H,xs[i]?=some x→Pv i σ H→g x σ H fun σ2 H2=>tb { D with nx:=Pv (i+1),ct:=Pv (i+1),bk:=D.nx } σ2 H2) (hd:∀ σ H,Pv xs.length σ H→D.nx σ H) :
  ∃ W:Nat→Nat→St→Hp→Prop,(∃ m,W 0 m σ H)∧∀ i m σ H,W i m σ H →
   ((Itt K a).stop i H∧D.nx σ H)∨((Itt K a).go i H∧∃ N:St→Hp→Prop,(∀ σ' H',N σ' H'→∃ m',m' < m∧W (i+1) m' σ' H')∧∀ x H',(Itt K a).yld i H x H'→g x σ H' fun σ2 H2=>tb { D with nx:=N,ct:=N,bk:=D.nx } σ2 H2):=by
 refine ⟨fun i m σ H=>m=xs.length - i∧i≤xs.length∧Pv i σ H,⟨xs.length,by simp,Nat.zero_le _,h0⟩,?_⟩
 rintro i m σ H ⟨rfl,hi,p⟩
 have q:=hl i σ H hi p
 by_cases hlt:i < xs.length
 ·refine .inr ⟨⟨xs,xs[i],q,by simp [hlt]⟩,Pv (i+1),fun σ' H' p'=>⟨xs.length - (i+1),by omega,rfl,hlt,p'⟩,fun x H' y=>?_⟩
  obtain ⟨e,y⟩:=y
  subst e
  exact hs i x σ _ (y xs q) p
 ·have e:i=xs.length:=by omega
  subst e
  exact .inl ⟨⟨xs,q,Nat.le_refl _⟩,hd σ H p⟩
theorem for_range {lo:Int} {n:Nat} {g:TG} {tb:TS} {D:Ends} {σ:St} {H:Hp} (Pv:Nat→St→Hp→Prop) (h0:Pv 0 σ H)
  (hs:∀ i σ H,i < n→Pv i σ H→g (.int (lo+i)) σ H fun σ2 H2=>tb { D with nx:=Pv (i+1),ct:=Pv (i+1),bk:=D.nx } σ2 H2) (hd:∀ σ H,Pv n σ H→D.nx σ H) :
  ∃ W:Nat→Nat→St→Hp→Prop,(∃ m,W 0 m σ H)∧∀ i m σ H,W i m σ H →
   ((Itr lo n).stop i H∧D.nx σ H)∨((Itr lo n).go i H∧∃ N:St→Hp→Prop,(∀ σ' H',N σ' H'→∃ m',m' < m∧W (i+1) m' σ' H')∧∀ x H',(Itr lo n).yld i H x H'→g x σ H' fun σ2 H2=>tb { D with nx:=N,ct:=N,bk:=D.nx } σ2 H2):=by
 refine ⟨fun i m σ H=>m=n - i∧i≤n∧Pv i σ H,⟨n,by simp,Nat.zero_le _,h0⟩,?_⟩
 rintro i m σ H ⟨rfl,hi,p⟩
 by_cases hlt:i < n
 ·refine .inr ⟨hlt,Pv (i+1),fun σ' H' p'=>⟨n - (i+1),by omega,rfl,hlt,p'⟩,fun x H' y=>?_⟩
  obtain ⟨e,y⟩:=y
  subst e y
  exact hs i σ _ hlt p
 ·have e:i=n:=by omega
  subst e
  exact .inl ⟨Nat.le_refl _,hd σ H p⟩
end L2

namespace L2
open PySem PySem.Spec PyProof.Rows

abbrev R2:=V→V→Hp→VK→Prop
def OpR (X:Cx) (f:Value→Value→Sem Value) (r:R2):Prop :=
 ∀ (pins:List (Addr × Obj)) (s:Shared) (σ:St) (H:Hp) (x y:V) (v u:Value) (Q:VK),Inv X pins σ H s→RelV x v→RelV y u→r x y H Q →
  wpAny (model X.prog X.w) X.A (f v u) (EP X pins σ Q) X.xe s
def UnR (X:Cx) (f:Value→Sem Value) (r:V→Hp→VK→Prop):Prop :=
 ∀ (pins:List (Addr × Obj)) (s:Shared) (σ:St) (H:Hp) (x:V) (v:Value) (Q:VK),Inv X pins σ H s→RelV x v→r x H Q →
  wpAny (model X.prog X.w) X.A (f v) (EP X pins σ Q) X.xe s
def CallR (X:Cx) (f:Value) (r:List V→Hp→VK→Prop):Prop :=
 ∀ (pins:List (Addr × Obj)) (s:Shared) (σ:St) (H:Hp) (xs:List V) (us:List Value) (Q:VK),Inv X pins σ H s→Vals xs us→r xs H Q →
  wpAny (model X.prog X.w) X.A (call f us) (EP X pins σ Q) X.xe s
def tOp (r:R2) (ta tb:TE):TE:=fun σ H Q=>ta σ H fun x H1=>tb σ H1 fun y H2=>r x y H2 Q
def tUn (r:V→Hp→VK→Prop) (ta:TE):TE:=fun σ H Q=>ta σ H fun x H1=>r x H1 Q
def rI (C:Int→Int→Prop) (g:Int→Int→V):R2:=fun x y H Q=>∃ i j,x=.int i∧y=.int j∧C i j∧Q (g i j) H
def rI0 (g:Int→Int→V):R2:=fun x y H Q=>∃ i j,x=.int i∧y=.int j∧Q (g i j) H
def rU (g:Int→V):V→Hp→VK→Prop:=fun x H Q=>∃ i,x=.int i∧Q (g i) H

section
variable {X:Cx} {a b c:Expr} {ta tb tc:TE} {pos:Pos}

theorem binT (ha:PE X a ta) (hb:PE X b tb) {pins:List (Addr × Obj)} {s:Shared} {σ:St} {H:Hp} {R:V→V→Hp→Prop} (I:Inv X pins σ H s)
  (h:ta σ H fun x H1=>tb σ H1 fun y H2=>R x y H2) {Q:Value→Shared→Prop} {f:Value→Value→Sem Value}
  (hf:∀ v u s2 x y H2,Inv X pins σ H2 s2→RelV x v→RelV y u→R x y H2→wpAny (model X.prog X.w) X.A (f v u) Q X.xe s2) :
  wpAny (model X.prog X.w) X.A (eval a X.env) (fun v s₁=>wpAny (model X.prog X.w) X.A (eval b X.env) (fun u s₂=>wpAny (model X.prog X.w) X.A (f v u) Q X.xe s₂) X.xe s₁) X.xe s:=by
 refine thn (ha pins s σ H _ I h) fun v s1 ⟨x,H1,I1,r1,q1⟩=>?_
 refine thn (hb pins s1 σ H1 _ I1 q1) fun u s2 ⟨y,H2,I2,r2,q2⟩=>?_
 exact hf v u s2 x y H2 I2 r1 r2 q2

theorem pe_op {op:Operator} {r:R2} (ho:OpR X (binaryOp op) r) (ha:PE X a ta) (hb:PE X b tb):PE X (.BinOp a op b pos) (tOp r ta tb):=by
 intro pins s σ H Q I h
 exact wpAny_BinOp (binT ha hb I h fun v u s2 x y H2 I2 rx ry q=>ho pins s2 σ H2 x y v u Q I2 rx ry q)
theorem pe_un {op:UnaryOp} {r:V→Hp→VK→Prop} (ho:UnR X (unaryOp op) r) (ha:PE X a ta):PE X (.UnaryOp op a pos) (tUn r ta):=by
 intro pins s σ H Q I h
 exact UnaryOp_ (thn (ha pins s σ H _ I h) fun v s1 ⟨x,H1,I1,r1,q1⟩=>ho pins s1 σ H1 x v Q I1 r1 q1)
/-! ### ints -/
theorem opI {f:Value→Value→Sem Value} {C:Int→Int→Prop} {g:Int→Int→Int}
  (rule:∀ (i j:Int) (t u:Tok) (s:Shared) (Q:Value→Shared→Prop) (E:Value→Shared→Prop),C i j→Q (.int (g i j) s.toks) { s with toks:=s.toks+1 }→wpAny (model X.prog X.w) X.A (f (.int i t) (.int j u)) Q E s) :
  OpR X f (rI C fun i j=>.int (g i j)):=by
 intro pins s σ H x y v u Q I rx ry h
 obtain ⟨i,j,rfl,rfl,hc,q⟩:=h
 obtain ⟨t,rfl⟩:=rx
 obtain ⟨t',rfl⟩:=ry
 exact rule i j t t' s _ _ hc ⟨.int (g i j),H,I.tok _,⟨_,rfl⟩,q⟩
theorem opI0 {f:Value→Value→Sem Value} {g:Int→Int→Int}
  (rule:∀ (i j:Int) (t u:Tok) (s:Shared) (Q:Value→Shared→Prop) (E:Value→Shared→Prop),Q (.int (g i j) s.toks) { s with toks:=s.toks+1 }→wpAny (model X.prog X.w) X.A (f (.int i t) (.int j u)) Q E s) :
  OpR X f (rI0 fun i j=>.int (g i j)):=by
 intro pins s σ H x y v u Q I rx ry h
 obtain ⟨i,j,rfl,rfl,q⟩:=h
 obtain ⟨t,rfl⟩:=rx
 obtain ⟨t',rfl⟩:=ry
 exact rule i j t t' s _ _ ⟨.int (g i j),H,I.tok _,⟨_,rfl⟩,q⟩
theorem opB0 {f:Value→Value→Sem Value} {g:Int→Int→Bool}
  (rule:∀ (i j:Int) (t u:Tok) (s:Shared) (Q:Value→Shared→Prop) (E:Value→Shared→Prop),Q (.bool (g i j)) s→wpAny (model X.prog X.w) X.A (f (.int i t) (.int j u)) Q E s) :
  OpR X f (rI0 fun i j=>.bl (g i j)):=by
 intro pins s σ H x y v u Q I rx ry h
 obtain ⟨i,j,rfl,rfl,q⟩:=h
 obtain ⟨t,rfl⟩:=rx
 obtain ⟨t',rfl⟩:=ry
 exact rule i j t t' s _ _ ⟨.bl (g i j),H,I,rfl,q⟩

def CDiv (i j:Int):Prop:=0 < j∧j < 1073741824
def CPow (i j:Int):Prop:=0≤j∧j≤1000000∧i.natAbs < 2 ^ 64
def CMul (i j:Int):Prop:=(-(2 ^ 64) < i∧i < 2 ^ 64)∨(-(2 ^ 64) < j∧j < 2 ^ 64)
theorem CMul.ok {i j:Int} (h:CMul i j):IntMulOk i j:=by
 rcases h with ⟨h1,h2⟩ | ⟨h1,h2⟩
 ·exact .of_left (intBits_le_64 h1 h2)
 ·exact .of_right (intBits_le_64 h1 h2)
theorem op_add:OpR X (binaryOp .Add) (rI0 fun i j=>.int (i+j)):=opI0 fun _ _ _ _ _ _ _ q=>add_int q
theorem op_sub:OpR X (binaryOp .Sub) (rI0 fun i j=>.int (i - j)):=opI0 fun _ _ _ _ _ _ _ q=>sub_int q
theorem op_mul:OpR X (binaryOp .Mult) (rI CMul fun i j=>.int (i*j)):=opI fun _ _ _ _ _ _ _ hc q=>mul_int q hc.ok
theorem op_fdiv:OpR X (binaryOp .FloorDiv) (rI CDiv fun i j=>.int (i / j)):=opI fun i j _ _ _ _ _ hc q=>by
 have h1:(0:Int) < j:=hc.1
 have h2:j < 1073741824:=hc.2
 exact floordiv_int (by omega) (by rw [Int.fdiv_eq_ediv_of_nonneg i (by omega)];exact q) (.inl (PyProof.noPylong_small (by omega)))
theorem op_mod:OpR X (binaryOp .Mod) (rI (fun _ j=>0 < j) fun i j=>.int (i % j)):=opI fun i j _ _ _ _ _ hc q=>by
 have h1:(0:Int) < j:=hc
 exact mod_int' (by omega) (by rw [Int.fmod_eq_emod_of_nonneg i (by omega)];exact q)
theorem op_pow:OpR X (binaryOp .Pow) (rI CPow fun i j=>.int (i ^ j.toNat)):=opI fun _ _ _ _ _ _ _ hc q=>pow_int_small hc.1 hc.2.1 hc.2.2 q
theorem unI {f:Value→Sem Value} {g:Int→Int}
  (rule:∀ (i:Int) (t:Tok) (s:Shared) (Q:Value→Shared→Prop) (E:Value→Shared→Prop),Q (.int (g i) s.toks) { s with toks:=s.toks+1 }→wpAny (model X.prog X.w) X.A (f (.int i t)) Q E s) :
  UnR X f (rU fun i=>.int (g i)):=by
 intro pins s σ H x v Q I rx h
 obtain ⟨i,rfl,q⟩:=h
 obtain ⟨t,rfl⟩:=rx
 exact rule i t s _ _ ⟨.int (g i),H,I.tok _,⟨_,rfl⟩,q⟩
theorem un_neg:UnR X (unaryOp .USub) (rU fun i=>.int (-i)):=unI fun _ _ _ _ _ q=>neg_int q
/-! ### bools among ints: n += (a < b) -/
end

/-! ### comparisons -/
def scal:V→V→Bool
 | .non,.non=>true | .non,.int _=>true | .int _,.non=>true | .non,.bl _=>true | .bl _,.non=>true | .non,.str _=>true | .str _,.non=>true
 | .int _,.int _=>true | .bl _,.bl _=>true | .str _,.str _=>true | .byt _,.byt _=>true
 | .int _,.str _=>true | .str _,.int _=>true | .bl _,.str _=>true | .str _,.bl _=>true
 | _,_=>false
def rEq:R2:=fun x y H Q=>scal x y=true∧Q (.bl (decide (x=y))) H
def rNe:R2:=fun x y H Q=>scal x y=true∧Q (.bl (!decide (x=y))) H

theorem dec_int {i j:Int}:decide (V.int i=V.int j)=(i == j):=by
 rw [Bool.eq_iff_iff]
 simp
theorem dec_bl {i j:Bool}:decide (V.bl i=V.bl j)=(i == j):=by
 rw [Bool.eq_iff_iff]
 simp
theorem dec_str {i j:Str}:decide (V.str i=V.str j)=(i == j):=by
 rw [Bool.eq_iff_iff]
 simp
theorem dec_byt {i j:Array UInt8}:decide (V.byt i=V.byt j)=(i.toList == j.toList):=by
 rw [Bool.eq_iff_iff]
 cases i
 cases j
 simp

section
variable {X:Cx} {a b c:Expr} {ta tb tc:TE} {pos:Pos}
theorem fin_bl {pins:List (Addr × Obj)} {σ:St} {H:Hp} {s:Shared} {Q:VK} {k k':Bool} (I:Inv X pins σ H s) (q:Q (.bl k) H) (e:k=k'):EP X pins σ Q (.bool k') s:=by
 subst e
 exact ⟨.bl k,H,I,rfl,q⟩
theorem op_eq:OpR X (compareOp .Eq) rEq:=by
 intro pins s σ H x y v u Q I rx ry h
 obtain ⟨hs,q⟩:=h
 cases x with
 | non =>
  cases rx
  cases y with
  | non=>cases ry;exact PySem.EqNone.eq_none_none (fin_bl I q (by simp))
  | bl j=>cases ry;exact PySem.EqNone.eq_none_bool (fin_bl I q (by simp))
  | int j=>obtain ⟨t',rfl⟩:=ry;exact PySem.EqNone.eq_none_int (fin_bl I q (by simp))
  | str j=>obtain ⟨t',rfl⟩:=ry;exact PySem.EqNone.eq_none_str (fin_bl I q (by simp))
  | _=>exact absurd (show false=true from hs) Bool.false_ne_true
 | bl i =>
  cases rx
  cases y with
  | non=>cases ry;exact PySem.EqNone.eq_bool_none (fin_bl I q (by simp))
  | bl j=>cases ry;exact eq_bool (fin_bl I q dec_bl)
  | str j=>obtain ⟨t',rfl⟩:=ry;exact PySem.EqMixed.eq_bool_str (fin_bl I q (by simp))
  | _=>exact absurd (show false=true from hs) Bool.false_ne_true
 | int i =>
  obtain ⟨t,rfl⟩:=rx
  cases y with
  | non=>cases ry;exact PySem.EqNone.eq_int_none (fin_bl I q (by simp))
  | int j=>obtain ⟨t',rfl⟩:=ry;exact eq_int (fin_bl I q dec_int)
  | str j=>obtain ⟨t',rfl⟩:=ry;exact PySem.EqMixed.eq_int_str (fin_bl I q (by simp))
  | _=>exact absurd (show false=true from hs) Bool.false_ne_true
 | str i =>
  obtain ⟨t,rfl⟩:=rx
  cases y with
  | non=>cases ry;exact PySem.EqNone.eq_str_none (fin_bl I q (by simp))
  | bl j=>cases ry;exact PySem.EqMixed.eq_str_bool (fin_bl I q (by simp))
  | int j=>obtain ⟨t',rfl⟩:=ry;exact PySem.EqMixed.eq_str_int (fin_bl I q (by simp))
  | str j=>obtain ⟨t',rfl⟩:=ry;exact eq_str (fin_bl I q dec_str)
  | _=>exact absurd (show false=true from hs) Bool.false_ne_true
 | byt i =>
  obtain ⟨t,rfl⟩:=rx
  cases y with
  | byt j=>obtain ⟨t',rfl⟩:=ry;exact PySem.W.eq_bytes (fin_bl I q dec_byt)
  | _=>exact absurd (show false=true from hs) Bool.false_ne_true
 | _=>cases y<;>exact absurd (show false=true from hs) Bool.false_ne_true
theorem op_ne:OpR X (compareOp .NotEq) rNe:=by
 intro pins s σ H x y v u Q I rx ry h
 obtain ⟨hs,q⟩:=h
 cases x with
 | non =>
  cases rx
  cases y with
  | non=>cases ry;exact PySem.EqNone.ne_none_none (fin_bl I q (by simp))
  | bl j=>cases ry;exact PySem.EqNone.ne_none_bool (fin_bl I q (by simp))
  | int j=>obtain ⟨t',rfl⟩:=ry;exact PySem.EqNone.ne_none_int (fin_bl I q (by simp))
  | str j=>obtain ⟨t',rfl⟩:=ry;exact PySem.EqNone.ne_none_str (fin_bl I q (by simp))
  | _=>exact absurd (show false=true from hs) Bool.false_ne_true
 | bl i =>
  cases rx
  cases y with
  | non=>cases ry;exact PySem.EqNone.ne_bool_none (fin_bl I q (by simp))
  | bl j=>cases ry;exact ne_bool (fin_bl I q (congrArg not dec_bl))
  | str j=>obtain ⟨t',rfl⟩:=ry;exact PySem.EqMixed.ne_bool_str (fin_bl I q (by simp))
  | _=>exact absurd (show false=true from hs) Bool.false_ne_true
 | int i =>
  obtain ⟨t,rfl⟩:=rx
  cases y with
  | non=>cases ry;exact PySem.EqNone.ne_int_none (fin_bl I q (by simp))
  | int j=>obtain ⟨t',rfl⟩:=ry;exact ne_int (fin_bl I q (congrArg not dec_int))
  | str j=>obtain ⟨t',rfl⟩:=ry;exact PySem.EqMixed.ne_int_str (fin_bl I q (by simp))
  | _=>exact absurd (show false=true from hs) Bool.false_ne_true
 | str i =>
  obtain ⟨t,rfl⟩:=rx
  cases y with
  | non=>cases ry;exact PySem.EqNone.ne_str_none (fin_bl I q (by simp))
  | bl j=>cases ry;exact PySem.EqMixed.ne_str_bool (fin_bl I q (by simp))
  | int j=>obtain ⟨t',rfl⟩:=ry;exact PySem.EqMixed.ne_str_int (fin_bl I q (by simp))
  | str j=>obtain ⟨t',rfl⟩:=ry;exact ne_str (fin_bl I q (congrArg not dec_str))
  | _=>exact absurd (show false=true from hs) Bool.false_ne_true
 | byt i =>
  obtain ⟨t,rfl⟩:=rx
  cases y with
  | byt j=>obtain ⟨t',rfl⟩:=ry;exact PySem.W.ne_bytes (fin_bl I q (congrArg not dec_byt))
  | _=>exact absurd (show false=true from hs) Bool.false_ne_true
 | _=>cases y<;>exact absurd (show false=true from hs) Bool.false_ne_true

theorem op_lt:OpR X (compareOp .Lt) (rI0 fun i j=>.bl (decide (i < j))):=opB0 fun _ _ _ _ _ _ _ q=>lt_int q
theorem op_le:OpR X (compareOp .LtE) (rI0 fun i j=>.bl (decide (i≤j))):=opB0 fun _ _ _ _ _ _ _ q=>le_int q
theorem op_gt:OpR X (compareOp .Gt) (rI0 fun i j=>.bl (decide (j < i))):=opB0 fun _ _ _ _ _ _ _ q=>gt_int q
theorem op_isN:OpR X (compareOp .Is) (fun x y H Q=>y=.non∧Q (.bl (decide (x=.non))) H):=by
 intro pins s σ H x y v u Q I rx ry h
 obtain ⟨rfl,q⟩:=h
 cases ry
 refine is_none_gen (fin_bl I q ?_)
 cases x<;>first
  | (cases rx;rfl)
  | (obtain ⟨t,rfl⟩:=rx;rfl)
theorem nomark (b:Expr) {op:CmpOp} (h:op≠.In:=by decide) (h2:op≠.NotIn:=by decide):behindInMarks op b=false:=by
 have e1:(op == CmpOp.In)=false:=by cases op<;>first | rfl | exact absurd rfl h
 have e2:(op == CmpOp.NotIn)=false:=by cases op<;>first | rfl | exact absurd rfl h2
 cases b<;>simp [behindInMarks,e1,e2]
theorem pe_cmpR {op:CmpOp} {r:R2} (ho:OpR X (compareOp op) r) (ha:PE X a ta) (hb:PE X b tb) (hm:behindInMarks op b=false):PE X (.Compare a [op] [b] pos) (tOp r ta tb):=by
 intro pins s σ H Q I h
 exact wpAny_Compare1 (binT ha hb I h fun v u s2 x y H2 I2 rx ry q=>ho pins s2 σ H2 x y v u Q I2 rx ry q) hm
def tTest (t:TE):TT:=fun σ H Q=>t σ H fun x H'=>∃ k,x=.bl k∧Q k H'
theorem pt_cmpR {op:CmpOp} {r:R2} (ho:OpR X (compareOp op) r) (ha:PE X a ta) (hb:PE X b tb) (hm:behindInMarks op b=false):PT X (.Compare a [op] [b] pos) (tTest (tOp r ta tb)):=by
 intro pins s σ H Q I h
 refine wpAny_isTrue_Compare1 (thn (ha pins s σ H _ I h) fun v s1 ⟨x,H1,I1,r1,q1⟩=>thn (hb pins s1 σ H1 _ I1 q1) fun u s2 ⟨y,H2,I2,r2,q2⟩ =>
  thn (ho pins s2 σ H2 x y v u _ I2 r1 r2 q2) fun c s3 ⟨z,H3,I3,r3,k,e,q3⟩=>?_) hm
 subst e
 cases r3
 exact wpAny_truthy_bool ⟨H3,I3,q3⟩
def tChain (r r':R2) (ta tb tc:TE):TE:=fun σ H Q=>ta σ H fun x H1=>tb σ H1 fun y H2=>r x y H2 fun z H3=>∃ k,z=.bl k ∧
 (if k=true then tc σ H3 fun w' H4=>r' y w' H4 Q else Q (.bl false) H3)
theorem pe_chain {op op':CmpOp} {r r':R2} (ho:OpR X (compareOp op) r) (ho':OpR X (compareOp op') r') (ha:PE X a ta) (hb:PE X b tb) (hc:PE X c tc)
  (hm:lastMarks [op,op'] [b,c]=false:=by with_unfolding_all rfl):PE X (.Compare a [op,op'] [b,c] pos) (tChain r r' ta tb tc):=by
 intro pins s σ H Q I h
 refine Compare_chain (thn (ha pins s σ H _ I h) fun v s1 ⟨x,H1,I1,r1,q1⟩=>chain_link (thn (hb pins s1 σ H1 _ I1 q1) fun u s2 ⟨y,H2,I2,r2,q2⟩ =>
  thn (ho pins s2 σ H2 x y v u _ I2 r1 r2 q2) fun d s3 ⟨z,H3,I3,r3,k,e,q3⟩=>?_)) hm
 subst e
 cases r3
 refine wpAny_truthy_bool ?_
 cases k with
 | false=>exact ite_ff ⟨.bl false,H3,I3,rfl,q3⟩
 | true=>exact ite_tt (chain_last (thn (hc pins s3 σ H3 _ I3 q3) fun w' s4 ⟨z',H4,I4,r4,q4⟩=>ho' pins s4 σ H4 y z' u w' Q I4 r2 r4 q4))
theorem pt_chain {op op':CmpOp} {r r':R2} (ho:OpR X (compareOp op) r) (ho':OpR X (compareOp op') r') (ha:PE X a ta) (hb:PE X b tb) (hc:PE X c tc)
  (hm:lastMarks [op,op'] [b,c]=false:=by with_unfolding_all rfl):PT X (.Compare a [op,op'] [b,c] pos) (tTest (tChain r r' ta tb tc)):=by
 intro pins s σ H Q I h
 refine isTrue_chain (thn (ha pins s σ H _ I h) fun v s1 ⟨x,H1,I1,r1,q1⟩=>test_link (thn (hb pins s1 σ H1 _ I1 q1) fun u s2 ⟨y,H2,I2,r2,q2⟩ =>
  thn (ho pins s2 σ H2 x y v u _ I2 r1 r2 q2) fun d s3 ⟨z,H3,I3,r3,k,e,q3⟩=>?_)) hm
 subst e
 cases r3
 refine wpAny_truthy_bool ?_
 cases k with
 | false =>
  obtain ⟨k',e',q'⟩:=q3
  cases e'
  exact ite_ff ⟨H3,I3,q'⟩
 | true =>
  refine ite_tt (test_last (thn (hc pins s3 σ H3 _ I3 q3) fun w' s4 ⟨z',H4,I4,r4,q4⟩=>thn (ho' pins s4 σ H4 y z' u w' _ I4 r2 r4 q4) fun d' s5 ⟨z2,H5,I5,r5,k2,e2,q5⟩=>?_))
  subst e2
  cases r5
  exact wpAny_truthy_bool ⟨H5,I5,q5⟩

/-! ### truth -/
theorem line63:(sizeLine:Nat) < 2 ^ 63:=by rw [sizeLine_eq];decide
/-! ### strs and bytes -/
/-! ### scalar builtins,by CallR -/
theorem vals1 {x:V} {us:List Value} (r:Vals [x] us):∃ u,us=[u]∧RelV x u:=by
 cases r with
 | cons r1 r2=>cases r2;exact ⟨_,rfl,r1⟩
theorem vals2 {x y:V} {us:List Value} (r:Vals [x,y] us):∃ u w',us=[u,w']∧RelV x u∧RelV y w':=by
 cases r with
 | cons r1 r2 =>
  cases r2 with
  | cons r3 r4=>cases r4;exact ⟨_,_,rfl,r1,r3⟩
theorem call_min2 (hc:X.calm=true):CallR X (.builtin "min") (fun xs H Q=>∃ i j,xs=[.int i,.int j]∧Q (.int (if j < i then j else i)) H):=by
 intro pins s σ H xs us Q I r h
 obtain ⟨i,j,rfl,q⟩:=h
 obtain ⟨u,w',rfl,⟨t,rfl⟩,⟨t',rfl⟩⟩:=vals2 r
 refine min_two_ints (I.ok.hd hc) fun h' tk k=>⟨_,H,I.kept k,?_,q⟩
 by_cases hj:j < i
 ·rw [if_pos hj,if_pos hj];exact ⟨_,rfl⟩
 ·rw [if_neg hj,if_neg hj];exact ⟨_,rfl⟩
theorem call_divmod:CallR X (.builtin "divmod") (fun xs H Q=>∃ i j,xs=[.int i,.int j]∧CDiv i j∧∀ p,H p=none→Q (.ref p) (upd H p (.tup [.int (i / j),.int (i % j)]))):=by
 intro pins s σ H xs us Q I r h
 obtain ⟨i,j,rfl,⟨h1,h2⟩,q⟩:=h
 obtain ⟨u,w',rfl,⟨t,rfl⟩,⟨t',rfl⟩⟩:=vals2 r
 refine divmod_int (by omega) ?_ (.inl (PyProof.noPylong_small (by omega)))
 rw [Int.fdiv_eq_ediv_of_nonneg i (by omega),Int.fmod_eq_emod_of_nonneg i (by omega)]
 have hn:H s.heap.objs.size=none:=I.hok.fresh (Nat.le_refl _)
 refine ⟨.ref s.heap.objs.size,_,?_,rfl,q _ hn⟩
 refine I.laid (fun b o e=>Heap.get?_push_of_some _ e) (Nat.le_refl _) ⟨by simp only [List.length_cons,List.length_nil];rw [sizeLine_eq];decide,[.int (i / j) s.toks,.int (i % j) (s.toks+1)],0,.cons ⟨_,rfl⟩ (.cons ⟨_,rfl⟩ .nil),?_⟩
 exact Heap.get?_push_size s.heap rfl
end
end L2

namespace L2
open PySem PySem.Spec PyProof.Rows

/-! ### an instance,its attributes a map -/
structure ObjM (h:Heap) (x dx C:Addr) (mA:Str→Option Value):Prop where
 obj:h.get? x=some (PySem.W.instObj C dx)
 ns:h.Ns1 dx mA
 ne:dx≠x

theorem lookIn_ns {h:Heap} {dx:Addr} {mA:Str→Option Value} (n:h.Ns1 dx mA):∃ od,h.get? dx=some od∧∀ name,PySem.W.lookIn name od=some (mA name):=by
 obtain ⟨o,es,ep,ho,hd,hk,_,hm⟩:=n
 refine ⟨o,ho,fun name=>?_⟩
 have e:=hm name
 unfold nsFind findBy at e
 rw [←Array.find?_toList] at e
 unfold PySem.W.lookIn
 rw [hd]
 dsimp only
 split
 ·rename_i y q
  rw [q] at e
  exact congrArg some e
 ·rename_i q
  rw [q] at e
  have a:es.toList.any (·.refKey)=false:=by
   rw [List.any_eq_false]
   intro y hy
   obtain ⟨z,t,hkey⟩:=hk y (Array.mem_toList_iff.mp hy)
   simp [DictEntry.refKey,hkey]
  have a':¬ es.toList.any (·.refKey)=true:=by rw [a];exact Bool.false_ne_true
  rw [if_neg a']
  exact congrArg some e

theorem ObjM.look {h:Heap} {x dx C:Addr} {mA:Str→Option Value} (I:ObjM h x dx C mA):∃ od,PySem.W.InstAt h x (PySem.W.instObj C dx) C (some od)∧∀ name,PySem.W.lookIn name od=some (mA name) :=
 let ⟨od,ho,hl⟩:=lookIn_ns I.ns
 ⟨od,⟨I.obj,rfl,rfl,ho⟩,hl⟩

section
variable {prog:Program} {w:World} {A:Around} {E:Value→Shared→Prop} {s:Shared} {K:PySem.W.Frag} {x dx C f:Addr} {mA:Str→Option Value} {name:Str} {v:Value}

end

/-! ### the attributes as a list of pairs -/
theorem RelO.some_of {v:V} {o:Option Value} (r:RelO (some v) o):∃ u,o=some u∧RelV v u:=by
 cases o with
 | none=>exact (show False from r).elim
 | some u=>exact ⟨u,rfl,r⟩
section
variable {P:Program} {w:World} {H H':Hp} {h h':Heap} {a C dx:Addr} {fs fs':List (Str × V)}
theorem ins_get (hok:HOk P w H h) (e:H a=some (.ins C dx fs)):∃ mA,ObjM h a dx C mA∧(∀ f,RelO (fs.lookup f) (mA f))∧PySem.Within mA (fs.map (·.1))∧fs.length≤1000∧H dx=some (.own a):=by
 obtain ⟨d,z,ne,ob,mA,n,r,q⟩:=(show ObjOk P w H h a (.ins C dx fs) from hok a _ e)
 exact ⟨mA,⟨ob,n,ne⟩,r,q,z,d⟩
end

/-! ### what of the text a class must have -/
structure Cls (K:PySem.W.Frag) (C:Addr):Prop where
 pg:PySem.W.plainGet K C Str.empty=true
 hd:PySem.W.hasDictIn K C=true
 po:PySem.W.plainOver K C=true
 sa:PySem.W.findIn K (.ref C) "__setattr__"=some (some (.builtin "object.__setattr__"))
theorem Cls.get {K:PySem.W.Frag} {C:Addr} (c:Cls K C) (f:Str):PySem.W.plainGet K C f=true:=c.pg
section
variable {X:Cx} {pins:List (Addr × Obj)} {σ:St} {H:Hp} {s:Shared} {a C dx:Addr} {fs:List (Str × V)} {f:Str} {v:V} {A:Around} {E:Value→Shared→Prop}

end

/-! ### readings and rules -/
section
variable {X:Cx} {o e value:Expr} {f:Str} {pos pos' tpos:Pos} {ta tv:TE}
end

/-! ### isinstance -/
section
variable {X:Cx} {pins:List (Addr × Obj)} {σ:St} {H:Hp} {s:Shared} {A:Around} {E:Value→Shared→Prop} {Q:Value→Shared→Prop} {c:Value} {b:Bool}
inductive TyOf (K:PySem.W.Frag) (H:Hp):V→Value→Prop where
 | non:TyOf K H .non (.type "NoneType")
 | bl (x:Bool):TyOf K H (.bl x) (.type "bool")
 | int (i:Int):TyOf K H (.int i) (.type "int")
 | str (x:Str):TyOf K H (.str x) (.type "str")
 | flt (x:UInt64):TyOf K H (.flt x) (.type "float")
 | lst {a:Addr} {xs:List V} (e:H a=some (.lst xs)):TyOf K H (.ref a) (.type "list")
 | frz {a:Addr} {o:Obj} {xs:List V} (e:H a=some (.frz o (.lst xs))):TyOf K H (.ref a) (.type "list")
 | tup {a:Addr} {xs:List V} (e:H a=some (.tup xs)):TyOf K H (.ref a) (.type "tuple")
 | dK {a:Addr} {kvs:List (Key × V)} (e:H a=some (.dK kvs)):TyOf K H (.ref a) (.type "dict")
 | dT {a:Addr} {kvs:List (List Key × V)} (e:H a=some (.dT kvs)):TyOf K H (.ref a) (.type "dict")
 | ins {a C dx:Addr} {fs:List (Str × V)} (e:H a=some (.ins C dx fs)) (cl:Cls K C) (ha:PySem.W.findIn K (.ref C) "__class__"=some (some (.builtin "object.__class__")))
   (hn:PySem.W.specialIn K (.builtin "object.__class__") "__get__"=some (some (.builtin "getset_descriptor.__get__"))) (htk:PySem.W.takesIn K (.builtin "object.__class__")=some true)
   (hm:PySem.W.mroIn K C (.type "object")=some true):TyOf K H (.ref a) (.ref C)
theorem isinst_ok {x:V} {u t:Value} (I:Inv X pins σ H s) (rx:RelV x u) (ty:TyOf X.K H x t) (e:PySem.W.kitOne X.K t c=some b) (h:∀ tk,Q (.bool b) { s with toks:=tk }) :
  wpAny (model X.prog X.w) A (call (.builtin "isinstance") [u,c]) Q E s:=by
 cases ty with
 | non=>cases (show u=Value.none from rx);exact PySem.W.kia_one PySem.W.kitx_none I.kIn True.intro e (fun z=>nomatch z) h
 | bl y=>cases (show u=Value.bool y from rx);exact PySem.W.kia_one PySem.W.kitx_bool I.kIn True.intro e (fun z=>nomatch z) h
 | int i=>obtain ⟨t,q⟩:=(show ∃ t,u=Value.int i t from rx);cases q;exact PySem.W.kia_one PySem.W.kitx_int I.kIn True.intro e (fun z=>nomatch z) h
 | str y=>obtain ⟨t,q⟩:=(show ∃ t,u=Value.str y t from rx);cases q;exact PySem.W.kia_one PySem.W.kitx_str I.kIn True.intro e (fun z=>nomatch z) h
 | flt y=>obtain ⟨t,q⟩:=(show ∃ t,u=Value.float y t from rx);cases q;exact PySem.W.kia_one PySem.W.kitx_float I.kIn True.intro e (fun z=>nomatch z) h
 | @lst a xs ea =>
  cases (show u=Value.ref a from rx)
  obtain ⟨_,_,n,_,h1⟩:=(show ObjOk X.prog X.w H s.heap a (.lst xs) from I.hok a _ ea)
  exact PySem.W.kia_one PySem.W.kitx_list I.kIn ⟨_,h1,rfl⟩ e (fun z=>nomatch z) h
 | @frz a ob xs ea =>
  cases (show u=Value.ref a from rx)
  obtain ⟨_,_,_,n,_,h1⟩:=(show ObjOk X.prog X.w H s.heap a (.frz ob (.lst xs)) from I.hok a _ ea)
  exact PySem.W.kia_one PySem.W.kitx_list I.kIn ⟨_,h1,rfl⟩ e (fun z=>nomatch z) h
 | @tup a xs ea =>
  cases (show u=Value.ref a from rx)
  obtain ⟨_,_,n,_,h1⟩:=(show ObjOk X.prog X.w H s.heap a (.tup xs) from I.hok a _ ea)
  exact PySem.W.kia_one PySem.W.kitx_tuple I.kIn ⟨_,h1,rfl⟩ e (fun z=>nomatch z) h
 | @dK a kvs ea =>
  cases (show u=Value.ref a from rx)
  obtain ⟨_,_,vs,_,p⟩:=(show ObjOk X.prog X.w H s.heap a (.dK kvs) from I.hok a _ ea)
  obtain ⟨o,es,ep,h1,h2,_⟩:=p
  exact PySem.W.kia_one PySem.W.kitx_dict I.kIn ⟨o,h1,h2.1⟩ e (fun z=>nomatch z) h
 | @dT a kvs ea =>
  cases (show u=Value.ref a from rx)
  obtain ⟨_,_,xs,_,o,es,ep,h1,h2,_⟩:=(show ObjOk X.prog X.w H s.heap a (.dT kvs) from I.hok a _ ea)
  exact PySem.W.kia_one PySem.W.kitx_dict I.kIn ⟨o,h1,h2.1⟩ e (fun z=>nomatch z) h
 | @ins a C dx fs ea cl ha hn htk hm =>
  cases (show u=Value.ref a from rx)
  obtain ⟨mA,O,_⟩:=ins_get I.hok ea
  obtain ⟨od,J,_⟩:=O.look
  exact PySem.W.kia_one (PySem.W.kitx_own (cl.get _) cl.hd ha hn htk hm) I.kIn J e (fun z=>nomatch z) h
end
end L2

namespace L2
open PySem PySem.Spec PyProof.Rows

/-! ### room -/
structure Room (k:Nat) (A:Around):Prop where
 hd:A.handled=none
 dp:A.depth+3*k+5 < recursionLimit
 un:A.units+16*k+200 < cLine
theorem Room.mono {j k:Nat} {A:Around} (r:Room k A) (h:j≤k):Room j A:=⟨r.hd,by have:=r.dp;omega,by have:=r.un;omega⟩
theorem Room.deeper {k:Nat} {A:Around} (r:Room (k+1) A) (env:Env):Room k (A.deeper env) :=
 ⟨r.hd,by have:=r.dp;show A.depth+1+3*k+5 < _;omega,by have:=r.un;show A.units+3+16*k+200 < _;omega⟩
theorem Room.depth {k:Nat} {A:Around} (r:Room k A):A.depth < recursionLimit:=by have:=r.dp;omega
theorem Room.units {k:Nat} {A:Around} (r:Room k A):A.units+64 < cLine:=by have:=r.un;omega
theorem Room.units0 {k:Nat} {A:Around} (r:Room k A):A.units < cLine:=by have:=r.un;omega

/-! ### argument lists and displays -/
def tNil:TA:=fun _ H Q=>Q [] H
def tCons (ta:TE) (tr:TA):TA:=fun σ H Q=>ta σ H fun x H1=>tr σ H1 fun xs H2=>Q (x::xs) H2
section
variable {X:Cx} {e:Expr} {es:List Expr} {te:TE} {t:TA} {pos:Pos}
theorem pa_nil:PA X [] tNil:=fun _ _ _ _ H Q I h=>Calls.spliced_nil ⟨[],H,I,.nil,h⟩
theorem pa_cons (ha:PE X e te) (hr:PA X es t) (hs:starEach (e::es) X.env=(false,eval e X.env)::starEach es X.env:=by rfl):PA X (e::es) (tCons te t):=by
 intro pos pins s σ H Q I h
 rw [hs]
 show wpAny _ _ (spliced ((false,eval e X.env)::backTo pos (starEach es X.env))) _ _ s
 refine Calls.spliced_cons (thn (ha pins s σ H _ I h) fun u s1 ⟨x,H1,I1,r1,q1⟩=>?_)
 exact thn (hr pos pins s1 σ H1 _ I1 q1) fun us s2 ⟨xs,H2,I2,r2,q2⟩=>⟨x::xs,H2,I2,.cons r1 r2,q2⟩

def tTup (t:TA):TE:=fun σ H Q=>t σ H fun xs H1=>xs.length≤sizeLine∧∀ p,H1 p=none→Q (.ref p) (upd H1 p (.tup xs))
def tLst (t:TA):TE:=fun σ H Q=>t σ H fun xs H1=>xs.length≤sizeLine∧∀ p,H1 p=none→Q (.ref p) (upd H1 p (.lst xs))
theorem pe_tup {x1} (h:PA X es t):PE X (.Tuple es x1 pos) (tTup t):=by
 intro pins s σ H Q I hq
 refine wpAny_Tuple_spliced (thn (h pos pins s σ H _ I hq) fun us s1 ⟨xs,H1,I1,r,z,q⟩=>⟨by rw [←r.length];exact z,?_⟩)
 have hf:H1 s1.heap.objs.size=none:=I1.hok.fresh (Nat.le_refl _)
 refine ⟨.ref s1.heap.objs.size,upd H1 s1.heap.objs.size (.tup xs),I1.laid (t':=s1.toks) (fun b u e=>Heap.get?_push_of_some _ e) (Nat.le_refl _) ?_,rfl,q _ hf⟩
 exact ⟨z,us,0,r,Heap.get?_push_size _ rfl⟩
theorem pe_lst (h:PA X es t):PE X (.List es pos) (tLst t):=by
 intro pins s σ H Q I hq
 refine wpAny_List_spliced (thn (h pos pins s σ H _ I hq) fun us s1 ⟨xs,H1,I1,r,z,q⟩=>⟨by rw [←r.length];exact z,?_⟩)
 have hf:H1 s1.heap.objs.size=none:=I1.hok.fresh (Nat.le_refl _)
 refine ⟨.ref s1.heap.objs.size,upd H1 s1.heap.objs.size (.lst xs),I1.laid (t':=s1.toks) (fun b u e=>Heap.get?_push_of_some _ e) (Nat.le_refl _) ?_,rfl,q _ hf⟩
 exact ⟨z,us,0,r,Heap.get?_push_size _ rfl⟩
end

/-! ### what a def promises -/
abbrev Sp:=List V→Hp→VK→XK→Prop
abbrev CXT:=List Env→Hp→Shared→XK→Value→Shared→Prop

structure Env0 (P:Program) (w:World) (K:PySem.W.Frag) (mg:Str→Option Value) (base:Heap) (A:Around) (outer:List Env) (s:Shared) (H:Hp):Prop where
 frames:A.frames=some outer
 mod:Mod K mg base
 bs:∀ b o,base.get? b=some o→s.heap.get? b=some o∧H b=none
 bsz:base.objs.size≤s.heap.objs.size
 funs:s.heap.FunFrames base outer
 frf:∀ b∈frs outer,H b=none
 hok:HOk P w H s.heap
 bare:AllBare s.gens
def CE (outer:List Env) (P:Program) (w:World) (H:Hp) (s:Shared) (Q:VK) (u:Value) (s':Shared):Prop :=
 ∃ v H',s'.os=s.os∧AllBare s'.gens∧Un (frs outer) [] H H' s.heap s'.heap∧HOk P w H' s'.heap∧RelV v u∧Q v H'
def CR (CX:CXT) (outer:List Env) (P:Program) (w:World) (H:Hp) (s:Shared) (Q:VK) (E:XK) (r:Result) (s':Shared):Prop :=
 match r with
 | .ok (.ret u)=>CE outer P w H s Q u s'
 | .ok _=>False
 | .error e=>CX outer H s E e s'
structure FnOk (P:Program) (w:World) (K:PySem.W.Frag) (mg:Str→Option Value) (base:Heap) (CX:CXT) (k:Nat) (f:Addr) (fd:FuncData) (ps:List Str) (sp:Sp):Prop where
 len:∀ vs H Q E,sp vs H Q E→vs.length=ps.length
 run:∀ (A:Around) (outer:List Env) (s:Shared) (H:Hp) (args:Args) (us:List Value) (vs:List V) (Q:VK) (E:XK),Room k A→Env0 P w K mg base A outer s H→BindsTo s fd args (ps.zip us)→Vals vs us→sp vs H Q E →
  codeAny (model P w) A (.call (.ref f) args) (CR CX outer P w H s Q E) s
theorem FnOk.mono {P:Program} {w:World} {K:PySem.W.Frag} {mg:Str→Option Value} {base:Heap} {CX:CXT} {j k:Nat} {f:Addr} {fd:FuncData} {ps:List Str} {sp:Sp} (F:FnOk P w K mg base CX j f fd ps sp) (h:j≤k) :
  FnOk P w K mg base CX k f fd ps sp:=⟨F.len,fun A outer s H args us vs Q E hr=>F.run A outer s H args us vs Q E (hr.mono h)⟩
section
variable {X:Cx} {pins:List (Addr × Obj)} {σ:St} {H:Hp} {s s':Shared}
theorem Inv.env0 (I:Inv X pins σ H s):Env0 X.prog X.w X.K X.mg X.base X.A X.stack s H :=
 ⟨I.ok.frames,I.ok.mod,I.bs,Nat.le_trans I.ok.bsz I.sz,I.stack,I.stkFree,I.hok,I.bare⟩
theorem Inv.after {Q:VK} {u:Value} (I:Inv X pins σ H s) (h:CE X.stack X.prog X.w H s Q u s'):EP X pins σ Q u s':=by
 obtain ⟨v,H',os,bare,un,hok,r,q⟩:=h
 obtain ⟨hh,g,d,t,os'⟩:=s'
 obtain rfl:os'=s.os:=os
 exact ⟨v,H',I.call (h':=hh) (g':=g) (d':=d) (t':=t) (ch:=[]) un hok bare (fun b z=>absurd z (by simp)),r,q⟩
end

/-! ### calls -/
def tCall (sp:Sp) (dvs:List V) (E:XK) (t:TA):TE:=fun σ H Q=>t σ H fun vs H1=>sp (vs++dvs) H1 Q E
def Binds (K:PySem.W.Frag) (fd:FuncData) (ps:List Str) (ds:List Value):Prop :=
 ∀ (s:Shared) (us:List Value),K.In s.heap→(us++ds).length=ps.length→BindsTo s fd ⟨us,[]⟩ (ps.zip (us++ds))
theorem Binds.all {K:PySem.W.Frag} {fd:FuncData} {ps:List Str} (h:∀ us:List Value,us.length=ps.length→bindArgs fd ⟨us,[]⟩=pure (ps.zip us)):Binds K fd ps []:=fun s us _ hl=>by
 rw [List.append_nil] at hl ⊢
 exact .of_eq (h us hl)

def Passes (CX:CXT) (X:Cx) (E:XK):Prop:=∀ (pins:List (Addr × Obj)) (σ:St) (H:Hp) (s:Shared) (e:Value) (s':Shared),Inv X pins σ H s→CX X.stack H s E e s'→X.xe e s'

section
variable {X:Cx} {CX:CXT} {k:Nat} {f C:Addr} {fd:FuncData} {ps:List Str} {sp:Sp} {dvs:List V} {ds:List Value} {E:XK} {x m:Str} {p pos apos:Pos} {e o:Expr} {es:List Expr} {ta:TE} {t:TA}

theorem run_fn {pins:List (Addr × Obj)} {σ:St} {H:Hp} {s:Shared} {Q:VK} {us:List Value} {vs:List V} (F:FnOk X.prog X.w X.K X.mg X.base CX k f fd ps sp) (hr:Room k X.A) (hb:Binds X.K fd ps ds) (hd:Vals dvs ds) (hx:Passes CX X E)
  (I:Inv X pins σ H s) (r:Vals vs us) (h:sp (vs++dvs) H Q E):wpAny (model X.prog X.w) X.A (call (.ref f) us) (EP X pins σ Q) X.xe s:=by
 have r2:Vals (vs++dvs) (us++ds):=r.append hd
 have hl:(us++ds).length=ps.length:=by rw [←r2.length];exact F.len _ _ _ _ h
 refine wpAny_call (codeAny_mono (F.run X.A X.stack s H ⟨us,[]⟩ (us++ds) (vs++dvs) Q E hr I.env0 (hb s us I.kIn hl) r2 h) fun r s' hq=>?_)
 cases r with
 | error e=>exact hx pins σ H s e s' I hq
 | ok fl =>
  cases fl with
  | ret u=>exact I.after hq
  | next=>exact False.elim hq
  | brk=>exact False.elim hq
  | cont=>exact False.elim hq

theorem pe_call (F:FnOk X.prog X.w X.K X.mg X.base CX k f fd ps sp) (hr:Room k X.A) (hg:Gl X x) (hm:X.mg x=some (.ref f)) (hk:PySem.W.keepIn X.K (.ref f)=true) (hb:Binds X.K fd ps ds) (hd:Vals dvs ds) (hx:Passes CX X E)
  (ha:PA X (e::es) t) (hdb:(x == ("__debug__":Str))=false:=by decide) (he:starEach (e::es) X.env=(false,eval e X.env)::starEach es X.env:=by rfl) (hpl:(backTo pos (starEach es X.env)).any (·.1)=false:=by rfl) :
  PE X (.Call (.Name x p) (e::es) [] pos) (tCall sp dvs E t):=by
 intro pins s σ H Q I h
 refine wpAny_Call_Name_kw (ld_glob I hg hm ?_ hdb)
 refine PySem.W.callWith_K (h₀:=X.base) I.ok.mod.kin hk (thn (ha pos pins s σ H _ I h) fun us s1 ⟨vs,H1,I1,r,q⟩=>⟨I1.kIn,?_⟩) he hpl
 exact run_fn F hr hb hd hx I1 r q
end

/-! ### keywords -/
section
variable {X:Cx} {CX:CXT} {k:Nat} {f C:Addr} {fd:FuncData} {ps ks:List Str} {sp:Sp} {E:XK} {x m:Str} {p pos apos kpos:Pos} {e o:Expr} {es:List Expr} {kws:List Keyword} {te ta:TE} {t tk:TA} {nm:Option Str}
variable {g:List Value→List Value→List Value} {gV:List V→List V→List V}
end

/-! ### a def's body keeps its promise -/
structure FnScope (N P:List Str) (sc:Scope):Prop where
 kind:sc.kind=.function
 co:sc.isCoroutine=false
 gen:sc.isGenerator=false
 nd:N.Nodup
 pre:N.take P.length=P
 par:∀ x∈P,sc.names.lookup x=some .local∨sc.names.lookup x=some .cell
 nofree:∀ y∈sc.names,y.2≠.free

theorem bindL_out {kindOf:Str→Option NameKind} {x:Str}:∀ {binds:List (Str × Value)} {m:Str→Option Value},(∀ v,(x,v)∉binds)→bindL kindOf binds m x=m x
 | [],_,_=>rfl
 | (n,v)::r,m,h=>by
  unfold bindL
  rw [bindL_out fun w hw=>h w (List.mem_cons_of_mem _ hw)]
  split
  ·have:x≠n:=by rintro rfl;exact h v List.mem_cons_self
   simp [this]
  ·rfl
theorem bindC_out {kindOf:Str→Option NameKind} {x:Str}:∀ {binds:List (Str × Value)} {m:Str→Option Value},(∀ v,(x,v)∉binds)→bindC kindOf binds m x=m x
 | [],_,_=>rfl
 | (n,v)::r,m,h=>by
  unfold bindC
  rw [bindC_out fun w hw=>h w (List.mem_cons_of_mem _ hw)]
  split
  ·rfl
  ·have:x≠n:=by rintro rfl;exact h v List.mem_cons_self
   simp [this]
theorem bindL_get {kindOf:Str→Option NameKind} {x:Str} {v:Value}:∀ {P:List Str} {vs:List Value} {i:Nat} {m:Str→Option Value},P.Nodup→P[i]?=some x→vs[i]?=some v→kindOf x=some .local →
  bindL kindOf (P.zip vs) m x=some v
 | [],_,_,_,_,h,_,_=>by simp at h
 | _::_,[],_,_,_,_,h,_=>by simp at h
 | p::P,w::vs,0,m,nd,h1,h2,hk=>by
  simp at h1 h2;subst h1;subst h2
  show bindL kindOf ((p,w)::P.zip vs) m p=_
  unfold bindL
  rw [bindL_out fun v hv=>(List.nodup_cons.mp nd).1 (List.of_mem_zip hv).1,if_pos hk]
  simp
 | p::P,w::vs,i+1,m,nd,h1,h2,hk=>by
  show bindL kindOf ((p,w)::P.zip vs) m x=_
  unfold bindL
  exact bindL_get (i:=i) (List.nodup_cons.mp nd).2 (by simpa using h1) (by simpa using h2) hk
theorem bindC_get {kindOf:Str→Option NameKind} {x:Str} {v:Value}:∀ {P:List Str} {vs:List Value} {i:Nat} {m:Str→Option Value},P.Nodup→P[i]?=some x→vs[i]?=some v→kindOf x≠some .local →
  bindC kindOf (P.zip vs) m x=some v
 | [],_,_,_,_,h,_,_=>by simp at h
 | _::_,[],_,_,_,_,h,_=>by simp at h
 | p::P,w::vs,0,m,nd,h1,h2,hk=>by
  simp at h1 h2;subst h1;subst h2
  show bindC kindOf ((p,w)::P.zip vs) m p=_
  unfold bindC
  rw [bindC_out fun v hv=>(List.nodup_cons.mp nd).1 (List.of_mem_zip hv).1,if_neg hk]
  simp
 | p::P,w::vs,i+1,m,nd,h1,h2,hk=>by
  show bindC kindOf ((p,w)::P.zip vs) m x=_
  unfold bindC
  exact bindC_get (i:=i) (List.nodup_cons.mp nd).2 (by simpa using h1) (by simpa using h2) hk

def start (N:List Str) (vs:List V):St:=vs.map some++List.replicate (N.length - vs.length) none

def cxOf (CX:CXT) (P:Program) (w:World) (K:PySem.W.Frag) (mg:Str→Option Value) (base:Heap) (N:List Str) (qual:Str) (scope:Scope) (f:Addr) (cd:Value) (A:Around) (outer:List Env) (s:Shared) (H:Hp) (E:XK):Cx where
 prog:=P
 w:=w
 K:=K
 mg:=mg
 base:=base
 A:=A.deeper (envOfC qual scope s.heap.objs.size f cd)
 N:=N
 s₀:=s
 H₀:=H
 env:=envOfC qual scope s.heap.objs.size f cd
 outer:=outer
 stack:=envOfC qual scope s.heap.objs.size f cd::outer
 ex:=[]
 calm:=true
 fn:=fun _=>true
 pn:=[]
 xe:=fun e s'=>wpAny (model P w) (A.deeper (envOfC qual scope s.heap.objs.size f cd)) (leaving (envOfC qual scope s.heap.objs.size f cd) e) (fun _ s''=>CX outer H s E e s'') (fun e' s''=>CX outer H s E e' s'') s'

theorem cell_has {sc:Scope} {n:Nat} {x:Str} (h:sc.names.lookup x=some .cell):∃ c,(cellsFrom n sc.names []).lookup x=some c:=by
 have q:=PySem.W.cellsFrom_some sc.names n [] (.inl h)
 exact Option.isSome_iff_exists.mp q

theorem inv_start {CX:CXT} {P:Program} {w:World} {K:PySem.W.Frag} {mg:Str→Option Value} {base:Heap} {N ps:List Str} {qual:Str} {scope:Scope} {f:Addr} {cd:Value} {A:Around} {outer:List Env} {s s1:Shared} {H:Hp} {E:XK} {us:List Value} {vs:List V}
  (S:FnScope N ps scope) (hd:A.handled=none) (e0:Env0 P w K mg base A outer s H) (hl:vs.length=ps.length) (r:Vals vs us)
  (x:InCallC s s.heap.objs.size (bindL (envOfC qual scope s.heap.objs.size f cd).kindOf (ps.zip us) fun _=>none) (cellsFrom (s.heap.objs.size+1) scope.names []) (bindC (envOfC qual scope s.heap.objs.size f cd).kindOf (ps.zip us) fun _=>none) s1) :
  Inv (cxOf CX P w K mg base N qual scope f cd A outer s H E) [] (start N vs) H s1:=by
 have hpl:ps.length≤N.length:=by have:=congrArg List.length S.pre;rw [List.length_take] at this;omega
 obtain ⟨h1,tk,rfl,hk⟩:=x.done
 have noA:∀ b:Addr,b∉(cxOf CX P w K mg base N qual scope f cd A outer s H E).ex:=fun b z=>absurd (show b∈([]:List Addr) from z) (by simp)
 refine ⟨⟨e0.mod,S.kind,rfl,rfl,Nat.le_refl _,fun y z c h1 h2=>?_,fun y hy=>?_,fun y c _ h=>?_,fun _=>hd,Around.frames_deeper e0.frames,.inr ⟨rfl,rfl⟩,fun b z=>absurd z (noA b),e0.bs,e0.bsz,fun b _ _=>noA b,fun b z=>absurd z (noA b),e0.funs,e0.frf⟩,
  rfl,e0.bare,Un.kept hk,⟨_,x.toInCall.ns,fun i y v h1 h2 h3=>?_⟩,fun y c h=>⟨_,x.cell y c h⟩,e0.hok.fresh (Nat.le_refl _),fun y c h=>?_,fun p hp=>absurd (show p∈([]:List (Addr × Obj)) from hp) (by simp),e0.hok.kept hk,?_⟩
 ·exact name_of_addr x.apart (PySem.mem_of_lookup h1) (PySem.mem_of_lookup h2)
 ·have hy:scope.names.lookup y=some .cell∨scope.names.lookup y=some .free:=hy
  rcases hy with hy | hy
  ·exact cell_has hy
  ·exact absurd rfl (S.nofree _ (PySem.mem_of_lookup hy))
 ·exact Nat.le_of_lt (x.above y c (PySem.mem_of_lookup h))
 ·have hi:i < vs.length:=by
   unfold start at h2
   by_cases hi:i < vs.length
   ·exact hi
   ·rw [List.getElem?_append_right (by simpa using hi)] at h2
    rw [List.getElem?_replicate] at h2
    split at h2<;>cases h2
  have ha:vs[i]?=some v:=by
   unfold start at h2
   rw [List.getElem?_append_left (by simpa using hi),List.getElem?_map] at h2
   cases e:vs[i]? with
   | none=>rw [e] at h2;cases h2
   | some a=>rw [e] at h2;cases h2;rfl
  obtain ⟨u,hu,rv⟩:=r.get ha
  have hp:ps[i]?=some y:=by
   rw [←S.pre,List.getElem?_take_of_lt (by omega)];exact h1
  have ndP:ps.Nodup:=by rw [←S.pre];exact S.nd.sublist (List.take_sublist _ _)
  refine ⟨u,rv,?_⟩
  rcases S.par y (List.mem_of_getElem? hp) with k | k
  ·exact .inl ⟨k,bindL_get ndP hp hu k⟩
  ·obtain ⟨c,e⟩:=cell_has (n:=s.heap.objs.size+1) k
   refine .inr ⟨.inl k,c,e,?_⟩
   have q:=x.cell y c e
   rw [bindC_get ndP hp hu (by show scope.names.lookup y≠_;rw [k];decide)] at q
   exact q
 ·exact e0.hok.fresh (Nat.le_of_lt (x.above y c (PySem.mem_of_lookup h)))
 ·unfold start
  show _=N.length
  rw [List.length_append,List.length_map,List.length_replicate]
  omega

theorem fn_of {CX:CXT} {P:Program} {w:World} {K:PySem.W.Frag} {mg:Str→Option Value} {base:Heap} {k:Nat} {f:Addr} {name qual:Str} {params:Arguments} {body:List Stmt} {scope:Scope} {dV kV doc pm cdv ct oc:Value} {an od:Option Addr}
  {osl:Array (Option Value)} {N ps:List Str} {sp:Sp} (lk:K.lookup f=some ⟨oc,od,.func (PySem.W.fnOf name qual params body scope dV kV doc pm an cdv ct),osl⟩) (hcd:PySem.W.codeIn K cdv qual=true) (S:FnScope N ps scope)
  (len:∀ vs H Q E,sp vs H Q E→vs.length=ps.length)
  (hbody:∀ (A:Around) (outer:List Env) (s:Shared) (H:Hp) (vs:List V) (Q:VK) (E:XK),Room k (A.deeper (envOfC qual scope s.heap.objs.size f cdv))→sp vs H Q E →
   ∃ t,PSs (cxOf CX P w K mg base N qual scope f cdv A outer s H E) body t∧t { nx:=fun _ H'=>Q .non H',rt:=Q } (start N vs) H) :
  FnOk P w K mg base CX (k+1) f (PySem.W.fnOf name qual params body scope dV kV doc pm an cdv ct) ps sp:=by
 refine ⟨len,fun A outer s H args us vs Q E hr e0 hb r hsp=>?_⟩
 have hl:=len _ _ _ _ hsp
 have KX:K.In s.heap:=e0.mod.kin.keeps fun b o e=>(e0.bs b o e).1
 have lim:s.heap.NoLimit:=e0.mod.nolimit.keeps fun b o e=>(e0.bs b o e).1
 have hkind:∀ y∈ps.zip us,scope.names.lookup y.1=some .local∨(scope.names.lookup y.1=some .cell∧((cellsFrom (s.heap.objs.size+1) scope.names []).lookup y.1).isSome=true):=fun ⟨n,v⟩ hy=>by
  rcases S.par n (List.of_mem_zip hy).1 with q | q
  ·exact .inl q
  ·exact .inr ⟨q,PySem.W.cellsFrom_some _ _ _ (.inl q)⟩
 refine codeAny_call_function hr.depth (KX _ _ lk) rfl S.co S.gen rfl (PySem.W.codeRec_of KX hcd) (hb _ _ _ _ ?_)
 refine wpAny_newFunctionEnv_cells S.kind hkind fun env he s1 x=>?_
 subst he
 refine ⟨lim.keeps x.toInCall.keep,codeAny_func ?_⟩
 obtain ⟨t,ht,hq⟩:=hbody A outer s H vs Q E (hr.deeper _) hsp
 have I:Inv (cxOf CX P w K mg base N qual scope f cdv A outer s H E) [] (start N vs) H s1:=inv_start S hr.hd e0 hl r x
 refine wpAny_mono (ht [] s1 (start N vs) H _ I hq) (fun fl s' hs=>?_) fun e s' hs=>hs
 have fin:∀ {σ':St} {H':Hp} {v:V} {u:Value},Inv (cxOf CX P w K mg base N qual scope f cdv A outer s H E) [] σ' H' s'→RelV v u→Q v H'→CE outer P w H s Q u s' :=
  fun {σ' H' v u} J rv q=>⟨v,H',J.os,J.bare,J.base,J.hok,rv,q⟩
 cases fl with
 | ret u =>
  obtain ⟨v,σ',H',J,rv,q⟩:=hs
  exact fin J rv q
 | next =>
  obtain ⟨σ',H',J,q⟩:=hs
  exact fin (v:=V.non) (u:=Value.none) J rfl q
 | brk =>
  obtain ⟨_,_,_,q⟩:=hs
  exact False.elim q
 | cont =>
  obtain ⟨_,_,_,q⟩:=hs
  exact False.elim q
end L2

namespace L2
open PySem PySem.Spec PyProof.Rows
section
variable {X:Cx} {x:Str} {p pos:Pos} {e:Expr} {es:List Expr} {t:TA} {id T:String} {r:List V→Hp→VK→Prop}

def tCB (r:List V→Hp→VK→Prop) (t:TA):TE:=fun σ H Q=>t σ H fun vs H1=>r vs H1 Q
theorem pe_callB (hc:CallR X (.builtin id) r) (hg:Gl X x) (hm:X.mg x=none) (hv:bootBuiltins x=some (.builtin id)) (ha:PA X (e::es) t) (hn:x≠"__name__":=by decide) (hdb:(x == ("__debug__":Str))=false:=by decide)
  (he:starEach (e::es) X.env=(false,eval e X.env)::starEach es X.env:=by rfl) (hpl:(backTo pos (starEach es X.env)).any (·.1)=false:=by rfl):PE X (.Call (.Name x p) (e::es) [] pos) (tCB r t):=by
 intro pins s σ H Q I h
 refine wpAny_Call_Name_kw (ld_blt I hg hm hv ?_ hn hdb)
 exact PyProof.Rows.callWith_builtin1 (thn (ha pos pins s σ H _ I h) fun us s1 ⟨vs,H1,I1,r1,q1⟩=>hc pins s1 σ H1 vs us Q I1 r1 q1) he hpl
theorem pe_callTy (hc:CallR X (.type T) r) (hg:Gl X x) (hm:X.mg x=none) (hv:bootBuiltins x=some (.type T)) (ha:PA X (e::es) t) (hn:x≠"__name__":=by decide) (hdb:(x == ("__debug__":Str))=false:=by decide)
  (he:starEach (e::es) X.env=(false,eval e X.env)::starEach es X.env:=by rfl) (hpl:(backTo pos (starEach es X.env)).any (·.1)=false:=by rfl):PE X (.Call (.Name x p) (e::es) [] pos) (tCB r t):=by
 intro pins s σ H Q I h
 refine wpAny_Call_Name_kw (ld_blt I hg hm hv ?_ hn hdb)
 exact PyProof.Rows.callWith_type1 (thn (ha pos pins s σ H _ I h) fun us s1 ⟨vs,H1,I1,r1,q1⟩=>hc pins s1 σ H1 vs us Q I1 r1 q1) he hpl
end
end L2

namespace HT
open PySem PyProof.Rows

section
open PySem.SeqAt
open PySem.AutoSeq1 (wpAny_loadPart')
open PySem.MeetsSeq PySem.MeetsSeq2 PySem.MeetsSeq3

end

section
variable {prog:Program} {w:World} {A:Around} {E:Value→Shared→Prop} {s:Shared}

theorem cat_tup {t b:Addr} {vs ws:List Value} {Q:Value→Shared→Prop} (ht:IsTup s.heap t vs.toArray) (hb:IsTup s.heap b ws.toArray) (hv:vs≠[])
  (h1:ws=[]→Q (.ref t) s) (h2:ws≠[]→Q (.ref s.heap.objs.size) { s with heap:=s.heap.push { cls:=.type "tuple",data:=.seq (vs++ws).toArray } })
  (hsz:vs.length+ws.length≤sizeLine):wpAny (model prog w) A (binaryOp .Add (.ref t) (.ref b)) Q E s:=by
 obtain ⟨⟨cls,dd,data,sl⟩,ho,hc,n,hd⟩:=id ht
 obtain ⟨⟨cls2,dd2,data2,sl2⟩,ho2,hc2,n2,hd2⟩:=id hb
 simp only at hc hd hc2 hd2
 subst hc hd hc2 hd2
 have e:vs.toArray++ws.toArray=(vs++ws).toArray:=by simp
 by_cases hw:ws=[]
 ·exact concat_meets ⟨_,ho,rfl⟩ ⟨_,ho2,rfl⟩ noFill_tuple_add seq_tuple_add PySem.F.slot_tuple_add PySem.F.entry_tuple_add (PySem.F.args_tuple_add_2 _ _)
   (tuple_addW1 t b vs.toArray ws.toArray n n2 dd dd2 sl sl2 (by simpa using hv) (by simp [hw])) ⟨ho,ho2,h1 hw⟩
 ·refine concat_meets ⟨_,ho,rfl⟩ ⟨_,ho2,rfl⟩ noFill_tuple_add seq_tuple_add PySem.F.slot_tuple_add PySem.F.entry_tuple_add (PySem.F.args_tuple_add_2 _ _)
   (tuple_addW2 t b vs.toArray ws.toArray n n2 dd dd2 sl sl2 (by simpa using hv) (by simpa using hw) (by rw [List.size_toArray,List.size_toArray];exact hsz)) ⟨ho,ho2,?_⟩
  rw [e]
  exact h2 hw

/-! ### t[a:b],not the whole -/
def sIx (n d:Nat):Option Int→Nat
 | none=>d
 | some v=>if v < 0 then (v+(n:Int)).toNat else min v.toNat n
theorem sIx_none (n d:Nat):sIx n d none=d:=rfl
theorem sIx_nat (n d k:Nat):sIx n d (some (k:Int))=min k n:=by
 show (if (k:Int) < 0 then ((k:Int)+(n:Int)).toNat else min (k:Int).toNat n)=min k n
 rw [if_neg (by omega),Int.toNat_natCast]
end
end HT

namespace L2
open PySem PySem.Spec PyProof.Rows

/-! ### the parts of a slice -/
abbrev TO:=St→Hp→(Option Int→Hp→Prop)→Prop
def PO (X:Cx) (e:Option Expr) (t:TO):Prop :=
 ∀ (pins:List (Addr × Obj)) (s:Shared) (σ:St) (H:Hp) (Q:Option Int→Hp→Prop),Inv X pins σ H s→t σ H Q →
  wpAny (model X.prog X.w) X.A (evalPart e X.env) (fun u s'=>∃ o H',Inv X pins σ H' s'∧IsPart u o∧Q o H') X.xe s
def tNoPart:TO:=fun _ H Q=>Q none H
def tPart (t:TE):TO:=fun σ H Q=>t σ H fun x H1=>∃ i,x=.int i∧Q (some i) H1

section
variable {X:Cx} {e:Expr} {te:TE} {lo hi:Option Expr} {tl th:TO} {pos p2:Pos}

theorem po_none:PO X none tNoPart:=by
 intro pins s σ H Q I h
 rw [evalPart_none]
 exact wpAny_pure ⟨none,H,I,.none,h⟩
theorem po_some (h:PE X e te):PO X (some e) (tPart te):=by
 intro pins s σ H Q I hw
 rw [evalPart_some]
 refine thn (h pins s σ H _ I hw) fun u s1 ⟨x,H1,I1,r1,q1⟩=>?_
 obtain ⟨i,rfl,q⟩:=q1
 obtain ⟨t,rfl⟩:=r1
 exact ⟨some i,H1,I1,.int i t,q⟩

def SlR (X:Cx) (r:V→Option Int→Option Int→Hp→VK→Prop):Prop :=
 ∀ (pins:List (Addr × Obj)) (s:Shared) (σ:St) (H:Hp) (x:V) (v vl vu:Value) (lo hi:Option Int) (sl:Addr) (Q:VK),Inv X pins σ H s→RelV x v→s.heap.IsSliceOf sl vl vu .none→IsPart vl lo→IsPart vu hi→r x lo hi H Q →
  ∃ T id,typeLookup (.type T) "__getitem__"=pure (some (.builtin id))∧s.TypeIs v T∧wpAny (model X.prog X.w) X.A (getItem v (.ref sl)) (EP X pins σ Q) X.xe s
def tSl (r:V→Option Int→Option Int→Hp→VK→Prop) (te:TE) (tl th:TO):TE:=fun σ H Q=>te σ H fun x H1=>tl σ H1 fun l H2=>th σ H2 fun u H3=>r x l u H3 Q
theorem pe_slice {r:V→Option Int→Option Int→Hp→VK→Prop} (hr:SlR X r) (he:PE X e te) (hl:PO X lo tl) (hu:PO X hi th):PE X (.Subscript e (.Slice lo hi none p2) pos) (tSl r te tl th):=by
 intro pins s σ H Q I h
 refine Subscript_ (thn (he pins s σ H _ I h) fun v s1 ⟨x,H1,I1,r1,q1⟩=>?_)
 refine wpAny_Slice (thn (hl pins s1 σ H1 _ I1 q1) fun vl s2 ⟨l,H2,I2,pl,q2⟩=>thn (hu pins s2 σ H2 _ I2 q2) fun vu s3 ⟨u,H3,I3,pu,q3⟩=>?_)
 rw [evalPart_none]
 refine wpAny_pure ?_
 have I4:Inv X pins σ H3 { s3 with heap:=s3.heap.push { cls:=.type "slice",data:=.fields #[vl,vu,.none] } }:=I3.kept (t':=s3.toks) fun b ob q=>Heap.get?_push_of_some _ q
 obtain ⟨T,id,hT,ht,hg⟩:=hr pins { s3 with heap:=s3.heap.push { cls:=.type "slice",data:=.fields #[vl,vu,.none] } } σ H3 x v vl vu l u s3.heap.objs.size Q I4 r1 (Heap.IsSliceOf.new ..) pl pu q3
 show wpAny (model X.prog X.w) X.A (subscriptTail e (.Slice lo hi none p2) v (.ref s3.heap.objs.size)) (EP X pins σ Q) X.xe { s3 with heap:=s3.heap.push { cls:=.type "slice",data:=.fields #[vl,vu,.none] } }
 exact tail_any (ops:=[.ref s3.heap.objs.size,v]) ht hT hg (by with_unfolding_all rfl)

def cutV (xs:List V) (lo hi:Option Int):List V:=(xs.drop (HT.sIx xs.length 0 lo)).take (HT.sIx xs.length xs.length hi - HT.sIx xs.length 0 lo)
theorem cutV_length (xs:List V) (lo hi:Option Int):(cutV xs lo hi).length≤xs.length:=by
 unfold cutV
 rw [List.length_take,List.length_drop]
 omega
/-! ### t < u,t+u -/
def rCatT (K:PySem.W.Frag):R2:=fun x y H Q=>∃ a b xs ys,x=.ref a∧y=.ref b∧SqT K H a xs∧SqT K H b ys∧xs≠[]∧xs.length+ys.length≤sizeLine ∧
 (ys=[]→Q (.ref a) H)∧(ys≠[]→∀ p,H p=none→Q (.ref p) (upd H p (.tup (xs++ys))))
theorem Vals.nil_iff {xs:List V} {us:List Value} (r:Vals xs us):us=[]↔xs=[]:=by
 cases r with
 | nil=>simp
 | cons _ _=>simp
theorem op_catT:OpR X (binaryOp .Add) (rCatT X.K):=by
 intro pins s σ H x y v u Q I rx ry h
 obtain ⟨a,b,xs,ys,rfl,rfl,ha,hb,hx,hz,q1,q2⟩:=h
 cases rx
 cases ry
 obtain ⟨its,r1,p1,_⟩:=I.tuple ha
 obtain ⟨its2,r2,p2,_⟩:=I.tuple hb
 refine HT.cat_tup p1 p2 (fun z=>hx (r1.nil_iff.mp z)) (fun z=>⟨.ref a,H,I,rfl,q1 (r2.nil_iff.mp z)⟩) (fun z=>?_) (by rw [←r1.length,←r2.length];exact hz)
 refine ⟨.ref s.heap.objs.size,_,I.laid (t':=s.toks) (o:=.tup (xs++ys)) (fun b ob q=>Heap.get?_push_of_some _ q) (Nat.le_refl _) ?_,rfl,q2 (fun w=>z (r2.nil_iff.mpr w)) _ (I.hok.fresh (Nat.le_refl _))⟩
 exact ⟨by rw [List.length_append];exact hz,_,0,r1.append r2,Heap.get?_push_size _ rfl⟩
end
end L2

namespace L2
open PySem PySem.Spec PyProof.Rows

/-! ### places -/
def ixN (n:Nat) (i:Int):Option Nat:=if 0≤i then (if i < n then some i.toNat else none) else if -(n:Int)≤i then some (i+n).toNat else none
def atI {α:Type} (xs:List α) (i:Int):Option α:=(ixN xs.length i).bind fun j=>xs[j]?
theorem ixN_seq {n:Nat} {i:Int} {j:Nat} (h:ixN n i=some j):seqIndex? i n=some j∧j < n∧-(n:Int)≤i∧i < n:=by
 unfold ixN at h
 by_cases h0:0≤i
 ·rw [if_pos h0] at h
  by_cases h1:i < n
  ·rw [if_pos h1] at h
   have e:i.toNat=j:=Option.some.inj h
   exact ⟨by rw [seqIndex_of h0 h1,e],by omega,by omega,h1⟩
  ·rw [if_neg h1] at h;cases h
 ·rw [if_neg h0] at h
  by_cases h1:-(n:Int)≤i
  ·rw [if_pos h1] at h
   have e:(i+n).toNat=j:=Option.some.inj h
   exact ⟨by rw [seqIndex_neg (by omega) h1,e],by omega,h1,by omega⟩
  ·rw [if_neg h1] at h;cases h
theorem atI_get {α:Type} {xs:List α} {i:Int} {v:α} (h:atI xs i=some v):∃ j,seqIndex? i xs.length=some j∧xs[j]?=some v∧j < xs.length∧-(xs.length:Int)≤i∧i < xs.length:=by
 unfold atI at h
 cases e:ixN xs.length i with
 | none=>rw [e] at h;cases h
 | some j =>
  rw [e] at h
  obtain ⟨h1,h2,h3,h4⟩:=ixN_seq e
  exact ⟨j,h1,h,h2,h3,h4⟩
theorem atI_nat {α:Type} {xs:List α} {j:Nat} {v:α} (h:xs[j]?=some v):atI xs (j:Int)=some v:=by
 have hj:j < xs.length:=(List.getElem?_eq_some_iff.mp h).1
 have e:ixN xs.length (j:Int)=some j:=by
  unfold ixN
  rw [if_pos (by omega),if_pos (by omega)];simp
 unfold atI;rw [e];exact h
/-! ### what may be subscripted -/
def PlainIx (b:Expr):Prop:=∀ o i,subscripted b false o i=operate [o,i] (getItem o i)
def IxR (X:Cx) (r:R2):Prop :=
 ∀ (value slice:Expr) (pins:List (Addr × Obj)) (s:Shared) (σ:St) (H:Hp) (x y:V) (v u:Value) (Q:VK),Inv X pins σ H s→RelV x v→RelV y u→r x y H Q →
  subscripted slice false v u=operate [v,u] (getItem v u)→wpAny (model X.prog X.w) X.A (subscriptTail value slice v u) (EP X pins σ Q) X.xe s
def MtR (X:Cx) (id:String) (r:V→List V→Hp→VK→Prop):Prop :=
 ∀ (pins:List (Addr × Obj)) (s:Shared) (σ:St) (H:Hp) (x:V) (xs:List V) (v:Value) (us:List Value) (Q:VK),Inv X pins σ H s→RelV x v→Vals xs us→r x xs H Q →
  wpAny (model X.prog X.w) X.A (call (.builtin id) (v::us)) (EP X pins σ Q) X.xe s
section
variable {X:Cx} {a b:Expr} {ta tb:TE} {pos:Pos}
theorem IxR.or {r r':R2} (h:IxR X r) (h':IxR X r'):IxR X (fun x y H Q=>r x y H Q∨r' x y H Q):=by
 intro value slice pins s σ H x y v u Q I rx ry q hs
 rcases q with q | q
 ·exact h value slice pins s σ H x y v u Q I rx ry q hs
 ·exact h' value slice pins s σ H x y v u Q I rx ry q hs
theorem pe_ix {r:R2} (hr:IxR X r) (ha:PE X a ta) (hb:PE X b tb) (hs:PlainIx b):PE X (.Subscript a b pos) (tOp r ta tb):=by
 intro pins s σ H Q I h
 exact Subscript_ (binT ha hb I h fun v u s2 x y H2 I2 rx ry q=>hr a b pins s2 σ H2 x y v u Q I2 rx ry q (hs _ _))

def rIxL (K:PySem.W.Frag):R2:=fun x y H Q=>∃ p xs i v,x=.ref p∧y=.int i∧SqL K H p xs∧atI xs i=some v∧Q v H
def rIxT (K:PySem.W.Frag):R2:=fun x y H Q=>∃ p xs i v,x=.ref p∧y=.int i∧SqT K H p xs∧atI xs i=some v∧Q v H
theorem ix_list:IxR X (rIxL X.K):=by
 intro value slice pins s σ H x y v u Q I rx ry h hs
 obtain ⟨p,xs,i,z,rfl,rfl,hq,he,q⟩:=h
 cases rx
 obtain ⟨t,rfl⟩:=ry
 obtain ⟨its,r,pl,hz⟩:=I.list hq
 obtain ⟨j,h1,h2,h3,h4,h5⟩:=atI_get he
 obtain ⟨w,ew,rw'⟩:=r.get h2
 have hl:=r.length
 have hn:=line63
 have fin:EP X pins σ Q w s:=⟨z,H,I,rw',q⟩
 by_cases h0:0≤i
 ·have hj:i.toNat=j:=by
   rw [seqIndex_of h0 h5] at h1
   exact Option.some.inj h1
  exact item_listR pl.isList h0 (by omega) (by rw [hj];simpa using ew) fin hs
 ·have hj:(i+(its.toArray.size:Int)).toNat=j:=by
   rw [seqIndex_neg (by omega) h4] at h1
   rw [List.size_toArray,←hl]
   exact Option.some.inj h1
  exact subscriptTail_builtinR (x:=w) pl.isList.typeIs slot_list_getitem.lookup
   (wpAny_getItem_list_neg (Q:=fun r s'=>r=w∧EP X pins σ Q r s') pl.isList (by omega) (by rw [List.size_toArray]<;>omega) (by omega) (by rw [hj];simpa using ew) ⟨rfl,fin⟩) hs
theorem ix_tup:IxR X (rIxT X.K):=by
 intro value slice pins s σ H x y v u Q I rx ry h hs
 obtain ⟨p,xs,i,z,rfl,rfl,hq,he,q⟩:=h
 cases rx
 obtain ⟨t,rfl⟩:=ry
 obtain ⟨its,r,pl,hz⟩:=I.tuple hq
 obtain ⟨j,h1,h2,h3,h4,h5⟩:=atI_get he
 obtain ⟨w,ew,rw'⟩:=r.get h2
 have hl:=r.length
 have hn:=line63
 have fin:EP X pins σ Q w s:=⟨z,H,I,rw',q⟩
 exact subscriptTail_builtinR (x:=w) pl.typeIs slot_tuple_getitem.lookup
  (getItem_tuple (j:=j) (Q:=fun r s'=>r=w∧EP X pins σ Q r s') pl (by omega) (by omega) (by rw [List.size_toArray,←hl];exact h1) (by simpa using ew) ⟨rfl,fin⟩) hs
/-! ### xs[i]=v,any sign -/
theorem mapSeq_set (its:List Value) (n j:Nat) (u:Value):Obj.mapSeq (·.setIfInBounds j u) { cls:=.type "list",data:=.seq its.toArray n }={ cls:=.type "list",data:=.seq (its.set j u).toArray n }:=by
 simp [Obj.mapSeq]
theorem Inv.lst {pins:List (Addr × Obj)} {σ:St} {H:Hp} {s:Shared} {p:Addr} {xs:List V} (I:Inv X pins σ H s) (h:H p=some (.lst xs)) :
  ∃ (its:List Value) (n:Nat),Vals xs its∧s.heap.get? p=some { cls:=.type "list",data:=.seq its.toArray n }∧xs.length≤sizeLine:=by
 obtain ⟨z,its,n,r,e⟩:=I.hok p _ h
 exact ⟨its,n,r,e,z⟩
theorem Inv.lstUpd {pins:List (Addr × Obj)} {σ:St} {H:Hp} {s:Shared} {p:Addr} {xs ys:List V} {its its':List Value} {n n':Nat} {f:Obj→Obj} (I:Inv X pins σ H s) (h:H p=some (.lst xs))
  (ho:s.heap.get? p=some { cls:=.type "list",data:=.seq its.toArray n }) (hf:f { cls:=.type "list",data:=.seq its.toArray n }={ cls:=.type "list",data:=.seq its'.toArray n' }) (r:Vals ys its') (hz:ys.length≤sizeLine) (t:Nat) :
  Inv X pins σ (upd H p (.lst ys)) { s with heap:=s.heap.update p f,toks:=t }:=by
 have e:(s.heap.update p f).get? p=some { cls:=.type "list",data:=.seq its'.toArray n' }:=by
  rw [Heap.get?_update_self f ho (by rw [hf]<;>rfl),hf]
 refine I.write (x:=p) (e:=p) (by rw [h];trivial) (.inl rfl) (fun b u hb q=>(Heap.get?_update_other _ _ (Ne.symm hb)).trans q) ⟨_,e⟩ ?_
 exact ⟨hz,its',n',r,e⟩
def rSetL:V→V→V→Hp→(Hp→Prop)→Prop:=fun o i v H Q=>∃ p xs k j,o=.ref p∧i=.int k∧H p=some (.lst xs)∧ixN xs.length k=some j∧Q (upd H p (.lst (xs.set j v)))
theorem set_list:PSet X rSetL:=by
 intro pins s σ H o i v ov iv u Q I ro ri rv h
 obtain ⟨p,xs,k,j,rfl,rfl,hp,hj,q⟩:=h
 cases ro
 obtain ⟨t,rfl⟩:=ri
 obtain ⟨its,n,r,ho,hz⟩:=I.lst hp
 obtain ⟨h1,h2,h3,h4⟩:=ixN_seq hj
 have hl:=r.length
 have hn:=line63
 have I':Inv X pins σ (upd H p (.lst (xs.set j v))) { s with heap:=s.heap.update p (Obj.mapSeq (·.setIfInBounds j u)) } :=
  I.lstUpd hp ho (mapSeq_set its n j u) (r.set rv j) (by rw [List.length_set];exact hz) s.toks
 by_cases h0:0≤k
 ·have hk:k.toNat=j:=by
   rw [seqIndex_of h0 h4] at h1
   exact Option.some.inj h1
  exact PySem.W.ki_setAt ho h0 (by omega) (by rw [List.size_toArray,←hl];exact h4) (by rw [hk];exact ⟨_,I',q⟩)
 ·have hk:(k+(its.toArray.size:Int)).toNat=j:=by
   rw [seqIndex_neg (by omega) h3] at h1
   rw [List.size_toArray,←hl]
   exact Option.some.inj h1
  exact PySem.W.ki_setBack ho (by omega) (by rw [List.size_toArray,←hl];exact h3) (by omega) (by rw [hk];exact ⟨_,I',q⟩)

/-! ### slices -/
theorem slice_bounds (lo hi:Option Int) (n:Nat):(sliceBounds lo hi none n).1=((HT.sIx n 0 lo:Nat):Int)∧(sliceBounds lo hi none n).2.1=((HT.sIx n n hi:Nat):Int)∧(sliceBounds lo hi none n).2.2=1:=by
 refine ⟨?_,?_,rfl⟩
 ·cases lo with
  | none=>simp [sliceBounds,HT.sIx]
  | some i =>
   simp only [sliceBounds,HT.sIx,Option.getD_none,show (1:Int) > 0 by decide,if_true]
   by_cases h:i < 0
   ·simp only [h,if_true]<;>omega
   ·simp only [h,if_false]<;>omega
 ·cases hi with
  | none=>simp [sliceBounds,HT.sIx]
  | some i =>
   simp only [sliceBounds,HT.sIx,Option.getD_none,show (1:Int) > 0 by decide,if_true]
   by_cases h:i < 0
   ·simp only [h,if_true]<;>omega
   ·simp only [h,if_false]<;>omega
theorem slicePick_cut (its:List Value) (lo hi:Option Int):slicePick its.toArray lo hi none=((its.drop (HT.sIx its.length 0 lo)).take (HT.sIx its.length its.length hi - HT.sIx its.length 0 lo)).toArray:=by
 obtain ⟨h1,h2,h3⟩:=slice_bounds lo hi its.toArray.size
 unfold slicePick
 rw [h1,h2,h3]
 simp only [sliceRange_one,pick_run,List.size_toArray]<;>rfl
def rSlL (K:PySem.W.Frag):V→Option Int→Option Int→Hp→VK→Prop:=fun x lo hi H Q=>∃ a xs,x=.ref a∧SqL K H a xs∧∀ p,H p=none→Q (.ref p) (upd H p (.lst (cutV xs lo hi)))
theorem sl_list:SlR X (rSlL X.K):=by
 intro pins s σ H x v vl vu lo hi sl Q I rx hs pl pu h
 obtain ⟨a,xs,rfl,hx,q⟩:=h
 cases rx
 obtain ⟨its,r,ht,hz⟩:=I.list hx
 have hlen:=r.length
 refine ⟨"list",_,slot_list_getitem.lookup,ht.isList.typeIs,?_⟩
 refine wpAny_getItem_list_slice ht.isList hs pl pu .none (by simp) ?_ (by rw [List.size_toArray]<;>omega)
 rw [slicePick_cut,←hlen]
 refine ⟨.ref s.heap.objs.size,_,I.laid (t':=s.toks) (o:=.lst (cutV xs lo hi)) (fun b ob q=>Heap.get?_push_of_some _ q) (Nat.le_refl _) ?_,rfl,q _ (I.hok.fresh (Nat.le_refl _))⟩
 exact ⟨Nat.le_trans (cutV_length xs lo hi) hz,_,0,(r.drop (HT.sIx xs.length 0 lo)).take (HT.sIx xs.length xs.length hi - HT.sIx xs.length 0 lo),Heap.get?_push_size _ rfl⟩

/-! ### in,not in: flat items -/
/-! ### len,list(x),tuple(x) of any list or tuple that is read -/
theorem call_len_seq:CallR X (.builtin "len") (fun xs H Q=>∃ p ys,xs=[.ref p]∧(SqL X.K H p ys∨SqT X.K H p ys)∧Q (.int ys.length) H):=by
 intro pins s σ H xs us Q I r h
 obtain ⟨p,ys,rfl,hq,q⟩:=h
 obtain ⟨u,rfl,rx⟩:=vals1 r
 cases rx
 have hn:=line63
 rcases hq with hq | hq
 ·obtain ⟨its,r',pl,hz⟩:=I.list hq
  have hlen:=r'.length
  exact Calls.call_len_list pl.isList (by simp only [List.size_toArray]<;>omega) ⟨.int ys.length,H,I.tok _,⟨s.toks+1,by rw [List.size_toArray,hlen]⟩,q⟩
 ·obtain ⟨its,r',pl,hz⟩:=I.tuple hq
  have hlen:=r'.length
  exact len_tuple pl (by simp only [List.size_toArray]<;>omega) ⟨.int ys.length,H,I.tok _,⟨s.toks+1,by rw [List.size_toArray,hlen]⟩,q⟩
theorem call_list_of:CallR X (.type "list") (fun xs H Q=>∃ p ys,xs=[.ref p]∧(SqL X.K H p ys∨SqT X.K H p ys)∧∀ l,H l=none→Q (.ref l) (upd H l (.lst ys))):=by
 intro pins s σ H xs us Q I r h
 obtain ⟨p,ys,rfl,hq,q⟩:=h
 obtain ⟨u,rfl,rx⟩:=vals1 r
 cases rx
 have fin:∀ (its:List Value),Vals ys its→ys.length≤sizeLine→∀ (h':Heap) (c':Nat),(∀ b o',s.heap.get? b=some o'→h'.get? b=some o') →
   h'.get? s.heap.objs.size=some { cls:=.type "list",dict:=none,data:=.seq its.toArray c',slots:=#[] }→EP X pins σ Q (.ref s.heap.objs.size) { s with heap:=h' }:=fun its r' hz h' c' kp e =>
  ⟨.ref s.heap.objs.size,_,I.laid (t':=s.toks) kp (Nat.le_refl _) (show ObjOk X.prog X.w _ h' _ (.lst ys) from ⟨hz,its,c',r',e⟩),rfl,q _ (I.hok.fresh (Nat.le_refl _))⟩
 rcases hq with hq | hq
 ·obtain ⟨its,r',pl,hz⟩:=I.list hq
  have hlen:=r'.length
  obtain ⟨o,ho,hc,n,hd⟩:=pl.isList
  exact call_list_seq p (.inl rfl) ho hc hd (fun h' c' kp e=>fin its r' hz h' c' kp e) (by simp only [List.size_toArray]<;>omega)
 ·obtain ⟨its,r',pl,hz⟩:=I.tuple hq
  have hlen:=r'.length
  obtain ⟨o,ho,hc,n,hd⟩:=pl
  exact call_list_seq p (.inr rfl) ho hc hd (fun h' c' kp e=>fin its r' hz h' c' kp e) (by simp only [List.size_toArray]<;>omega)
theorem call_tuple_of:CallR X (.type "tuple") (fun xs H Q=>∃ p ys,xs=[.ref p]∧((SqL X.K H p ys∧∀ l,H l=none→Q (.ref l) (upd H l (.tup ys)))∨(SqT X.K H p ys∧Q (.ref p) H))):=by
 intro pins s σ H xs us Q I r h
 obtain ⟨p,ys,rfl,h⟩:=h
 obtain ⟨u,rfl,rx⟩:=vals1 r
 cases rx
 rcases h with ⟨hq,q⟩ | ⟨hq,q⟩
 ·obtain ⟨its,r',pl,hz⟩:=I.list hq
  have hlen:=r'.length
  refine call_tuple_list pl.isList (fun h' kp=>?_) (by simp only [List.size_toArray]<;>omega)
  have I1:Inv X pins σ H { s with heap:=h' }:=I.kept (t':=s.toks) kp
  have I2:Inv X pins σ (upd H h'.objs.size (.tup ys)) { s with heap:=h'.push { cls:=.type "tuple",data:=.seq its.toArray } } :=
   I1.laid (t':=s.toks) (fun b o e=>Heap.get?_push_of_some _ e) (Nat.le_refl _) (show ObjOk X.prog X.w _ _ _ (.tup ys) from ⟨hz,its,0,r',Heap.get?_push_size _ rfl⟩)
  exact ⟨.ref h'.objs.size,_,I2,rfl,q _ (I1.hok.fresh (Nat.le_refl _))⟩
 ·obtain ⟨its,r',pl,hz⟩:=I.tuple hq
  exact call_tuple_same pl ⟨.ref p,H,I,rfl,q⟩

/-! ### the call of a builtin's method: o.m(..) -/
def tyV (K:PySem.W.Frag) (T:String) (x:V) (H:Hp):Prop:=match x with
 | .str _=>T="str"
 | .int _=>T="int"
 | .ref p=>(T="list"∧∃ xs,SqL K H p xs)∨(T="tuple"∧((∃ o,K.lookup p=some o∧o.cls=.type "tuple"∧o.dict=none)∨∃ xs,H p=some (.tup xs))) ∨
   (T="dict"∧((∃ kvs,H p=some (.dK kvs))∨∃ kvs,H p=some (.dT kvs)))∨(T="set"∧∃ S n,H p=some (.set S n))
 | _=>False
theorem tyV_is {pins:List (Addr × Obj)} {σ:St} {H:Hp} {s:Shared} {T:String} {x:V} {v:Value} (I:Inv X pins σ H s) (r:RelV x v) (ty:tyV X.K T x H) :
  s.TypeIs v T∧∀ a,v=.ref a→∃ ob,s.heap.get? a=some ob∧ob.dict=none:=by
 cases x with
 | str z =>
  obtain ⟨t,rfl⟩:=r
  cases (show T="str" from ty)
  exact ⟨typeIs_str s z t,fun _ e=>nomatch e⟩
 | int i =>
  obtain ⟨t,rfl⟩:=r
  cases (show T="int" from ty)
  exact ⟨typeIs_int s i t,fun _ e=>nomatch e⟩
 | ref p =>
  cases r
  rcases ty with ⟨rfl,xs,hq⟩ | ⟨rfl,⟨o,hk,hc,hd⟩ | ⟨xs,hq⟩⟩ | ⟨rfl,hk⟩ | ⟨rfl,S,n,hk⟩
  ·obtain ⟨its,_,pl,_⟩:=I.list hq
   refine ⟨pl.isList.typeIs,fun a e=>?_⟩
   cases e
   obtain ⟨o,n,e,c,hd,_⟩:=pl
   exact ⟨o,e,hd⟩
  ·refine ⟨⟨o,I.kIn p o hk,hc⟩,fun a e=>?_⟩
   cases e
   exact ⟨o,I.kIn _ o hk,hd⟩
  ·obtain ⟨_,its,n,_,h1⟩:=(show ObjOk X.prog X.w H s.heap p (.tup xs) from I.hok p _ hq)
   refine ⟨⟨_,h1,rfl⟩,fun a e=>?_⟩
   cases e
   exact ⟨_,h1,rfl⟩
  ·have z:∃ o,s.heap.get? p=some o∧o.ExactDict:=by
    rcases hk with ⟨kvs,hk⟩ | ⟨kvs,hk⟩
    ·obtain ⟨_,_,_,_,o,_,_,e,ex,_⟩:=I.hok p _ hk
     exact ⟨o,e,ex⟩
    ·obtain ⟨_,_,_,_,o,_,_,e,ex,_⟩:=I.hok p _ hk
     exact ⟨o,e,ex⟩
   obtain ⟨o,e,ex⟩:=z
   refine ⟨⟨o,e,ex.1⟩,fun a e2=>?_⟩
   cases e2
   exact ⟨o,e,ex.2.1⟩
  ·obtain ⟨o,_,_,_,e,ex,_⟩:=I.hok p _ hk
   refine ⟨⟨o,e,ex.1⟩,fun a e2=>?_⟩
   cases e2
   exact ⟨o,e,ex.2.1⟩
 | _=>exact False.elim ty
def tBM0 (K:PySem.W.Frag) (T:String) (r:V→List V→Hp→VK→Prop) (to:TE):TE:=fun σ H Q=>to σ H fun x H1=>tyV K T x H1∧r x [] H1 Q
def tBM (K:PySem.W.Frag) (T:String) (r:V→List V→Hp→VK→Prop) (to:TE) (t:TA):TE:=fun σ H Q=>to σ H fun x H1=>tyV K T x H1∧t σ H1 fun xs H2=>r x xs H2 Q
variable {o e:Expr} {es:List Expr} {to:TE} {t:TA} {name:Str} {apos cpos:Pos} {T id:String} {r:V→List V→Hp→VK→Prop}
theorem pe_bm0 (pa:PlainAttrs T) (slot:Slot T name id) (hty:typeOf (.builtin id)=pure (.type "method_descriptor")) (hm:MtR X id r) (ho:PE X o to)
  (hbase:attributeBase o name X.env (eval o X.env)=eval o X.env:=by rfl) (hline:(apos.endLine == cpos.line)=true:=by rfl):PE X (.Call (.Attribute o name apos) [] [] cpos) (tBM0 X.K T r to):=by
 intro pins s σ H Q I h
 refine wpAny_Call_method0_late hbase hline (thn (ho pins s σ H _ I h) fun v s1 ⟨x,H1,I1,r1,ty,q1⟩=>?_)
 obtain ⟨h1,h2⟩:=tyV_is I1 r1 ty
 exact ⟨T,id,pa,slot,hty,h1,h2,Calls.callWith_builtin rfl (PySem.evalArgs_none (hm pins s1 σ H1 x [] v [] Q I1 r1 .nil q1))⟩
theorem pe_bm (pa:PlainAttrs T) (slot:Slot T name id) (hty:typeOf (.builtin id)=pure (.type "method_descriptor")) (hm:MtR X id r) (ho:PE X o to) (ha:PA X (e::es) t)
  (hbase:attributeBase o name X.env (eval o X.env)=eval o X.env:=by rfl)
  (hfew:((backTo cpos (starEach (e::es) X.env)).all (fun x=>!x.1) && (backToKw cpos (keywordEach [] X.env)).all (fun x=>x.1.isSome)
   && decide ((e::es).length+([]:List Keyword).length+(if ([]:List Keyword).isEmpty then 0 else 1) < 30))=true:=by rfl)
  (hline:(apos.endLine == cpos.line)=true:=by rfl) (hs:starEach (e::es) X.env=(false,eval e X.env)::starEach es X.env:=by rfl) (hplain:(backTo cpos (starEach es X.env)).any (·.1)=false:=by rfl) :
  PE X (.Call (.Attribute o name apos) (e::es) [] cpos) (tBM X.K T r to t):=by
 intro pins s σ H Q I h
 refine wpAny_Call_method_late hbase hfew hline rfl (thn (ho pins s σ H _ I h) fun v s1 ⟨x,H1,I1,r1,ty,q1⟩=>?_)
 obtain ⟨h1,h2⟩:=tyV_is I1 r1 ty
 refine ⟨T,id,pa,slot,hty,h1,h2,?_⟩
 have hA:=ha cpos pins s1 σ H1 _ I1 q1
 rw [hs] at hA ⊢
 refine Calls.callWith_builtin (by show (false || (backTo cpos (starEach es X.env)).any (·.1))=false;rw [hplain]<;>rfl) (Calls.evalArgs_plain ?_)
 exact thn hA fun us s2 ⟨vs,H2,I2,r2,q2⟩=>hm pins s2 σ H2 x vs v us Q I2 r1 r2 q2
end
end L2

namespace L2
open PySem PySem.Spec PyProof.Rows

def MtM (X:Cx) (id:String) (r:V→List V→Hp→VK→Prop):Prop :=
 ∀ (pins:List (Addr × Obj)) (s:Shared) (σ:St) (H:Hp) (x:V) (xs:List V) (v:Value) (us:List Value) (Q:VK),Inv X pins σ H s→RelV x v→Vals xs us→r x xs H Q →
  wpAny (model X.prog X.w) X.A (call (.builtin id) (v::us)) (EP X pins σ Q) X.xe s

/-! ### lists of values -/
theorem Vals.one:∀ {x:V} {us:List Value},Vals [x] us→∃ u,us=[u]∧RelV x u
 | _,_,.cons r .nil=>⟨_,rfl,r⟩
theorem Vals.zero:∀ {us:List Value},Vals [] us→us=[]
 | _,.nil=>rfl
theorem Vals.dropLast {xs:List V} {us:List Value} (h:Vals xs us):Vals xs.dropLast us.dropLast:=by
 induction h with
 | nil=>exact .nil
 | cons r t ih =>
  cases t with
  | nil=>exact .nil
  | cons q t'=>exact .cons r ih
theorem Vals.eraseIdx:∀ {xs:List V} {us:List Value} (i:Nat),Vals xs us→Vals (xs.eraseIdx i) (us.eraseIdx i)
 | _,_,_,.nil=>.nil
 | _,_,0,.cons _ t=>t
 | _,_,i+1,.cons r t=>.cons r (Vals.eraseIdx i t)
theorem Vals.reverse {xs:List V} {us:List Value} (h:Vals xs us):Vals xs.reverse us.reverse:=by
 induction h with
 | nil=>exact .nil
 | cons r t ih=>rw [List.reverse_cons,List.reverse_cons];exact Vals.append ih (.cons r .nil)
theorem Vals.rep {xs:List V} {us:List Value} (h:Vals xs us):∀ k:Nat,Vals (List.replicate k xs).flatten (List.replicate k us).flatten
 | 0=>.nil
 | k+1=>by
  rw [List.replicate_succ,List.replicate_succ,List.flatten_cons,List.flatten_cons]
  exact Vals.append h (Vals.rep h k)
theorem erase_last {α:Type} (l:List α):l.eraseIdx (l.length - 1)=l.dropLast:=by
 induction l with
 | nil=>rfl
 | cons a r ih =>
  cases r with
  | nil=>rfl
  | cons b r =>
   have e:(a::b::r).length - 1=((b::r).length - 1)+1:=by
    have h1:(a::b::r).length=r.length+2:=rfl
    have h2:(b::r).length=r.length+1:=rfl
    omega
   rw [e,List.eraseIdx_cons_succ,ih]
   all_goals rfl
theorem len_erase {α:Type}:∀ (l:List α) (i:Nat),(l.eraseIdx i).length≤l.length
 | [],_=>Nat.le_refl _
 | _::_,0=>Nat.le_succ _
 | _::r,i+1=>Nat.succ_le_succ (len_erase r i)
theorem foldl_rep (its:List Value):∀ (k:Nat) (acc:List Value),
  List.foldl (fun x1 x2=>x1++x2) acc.toArray (List.replicate k its.toArray)=(acc++(List.replicate k its).flatten).toArray
 | 0,acc=>by simp
 | k+1,acc=>by
  have e:acc.toArray++its.toArray=(acc++its).toArray:=by simp
  have e2:(acc++its)++(List.replicate k its).flatten=acc++(List.replicate (k+1) its).flatten:=by
   rw [List.replicate_succ,List.flatten_cons,List.append_assoc]
  rw [←e2,←foldl_rep its k (acc++its),←e,List.replicate_succ,List.foldl_cons]

section
variable {X:Cx} {pins:List (Addr × Obj)} {σ:St} {H:Hp} {s:Shared} {l b:Addr} {xs ys zs:List V}

/-! ### the two steps: a tracked list is rewritten,a new list is laid -/
theorem Inv.lset {its its':List Value} {n:Nat} {f:Array Value→Array Value} {t':Nat} (I:Inv X pins σ H s) (hH:H l=some (.lst xs))
  (e:s.heap.get? l=some { cls:=.type "list",data:=.seq its.toArray n }) (hf:f its.toArray=its'.toArray) (hv:Vals ys its') (hz:ys.length≤sizeLine) :
  Inv X pins σ (upd H l (.lst ys)) { s with heap:=s.heap.update l (Obj.mapSeq f),toks:=t' }:=by
 have q:=PySem.IsL.update e f
 rw [hf] at q
 refine I.write (x:=l) (e:=l) (by rw [hH];exact trivial) (.inl rfl) (fun b' u hb hu=>(Heap.get?_update_other s.heap (Obj.mapSeq f) (Ne.symm hb)).trans hu) ⟨_,q⟩ ?_
 exact ⟨hz,its',_,hv,q⟩
theorem Inv.lnew {its:List Value} {t':Nat} (I:Inv X pins σ H s) (hv:Vals ys its) (hz:ys.length≤sizeLine) :
  Inv X pins σ (upd H s.heap.objs.size (.lst ys)) { s with heap:=s.heap.push { cls:=.type "list",data:=.seq its.toArray },toks:=t' } :=
 I.laid (fun _ _ q=>Heap.get?_push_of_some _ q) (Nat.le_refl _) ⟨hz,its,0,hv,Heap.get?_push_size _ rfl⟩
theorem Inv.fresh (I:Inv X pins σ H s):H s.heap.objs.size=none:=I.hok.fresh (Nat.le_refl _)
theorem Inv.lstM (I:Inv X pins σ H s) (hH:H l=some (.lst xs)):xs.length≤sizeLine∧∃ (its:List Value) (n:Nat),Vals xs its∧xs.length=its.length∧s.heap.get? l=some { cls:=.type "list",data:=.seq its.toArray n }:=by
 obtain ⟨z,its,n,r,e⟩:=I.hok l _ hH
 exact ⟨z,its,n,r,r.length,e⟩

theorem notLongL {n:Nat} (h:n≤sizeLine):Builtin.List.listTooLong n=false:=by
 unfold Builtin.List.listTooLong
 exact decide_eq_false (by omega)
end

section
variable {X:Cx}

/-! ### methods -/
def rAppend:V→List V→Hp→VK→Prop:=fun x vs H Q=>∃ l xs y,x=.ref l∧vs=[y]∧H l=some (.lst xs)∧xs.length < sizeLine∧Q .non (upd H l (.lst (xs++[y])))
theorem mt_append:MtM X "list.append" rAppend:=by
 intro pins s σ H x vs v us Q I rx rv h
 obtain ⟨l,xs,y,rfl,rfl,hH,hz,q⟩:=h
 cases rx
 obtain ⟨u,rfl,ru⟩:=rv.one
 obtain ⟨z,its,n,r,hl,e⟩:=I.lstM hH
 refine call_meets F.slot_list_append ⟨_,e,rfl⟩ F.entry_list_append (F.args_list_append_2 _ _) (PySem.list_append l its.toArray n u (by rw [List.size_toArray];omega)) ⟨e,?_⟩
 refine ⟨.non,_,I.lset (its':=its++[u]) hH e (by simp) (r.append (.cons ru .nil)) ?_,rfl,q⟩
 rw [List.length_append,List.length_singleton]
 omega

def rPop:V→List V→Hp→VK→Prop:=fun x vs H Q=>∃ l xs y,x=.ref l∧vs=[]∧H l=some (.lst xs)∧xs[xs.length - 1]?=some y∧Q y (upd H l (.lst xs.dropLast))
theorem mt_pop:MtM X "list.pop" rPop:=by
 intro pins s σ H x vs v us Q I rx rv h
 obtain ⟨l,xs,y,rfl,rfl,hH,hy,q⟩:=h
 cases rx
 have hus:=rv.zero
 subst hus
 obtain ⟨z,its,n,r,hl,e⟩:=I.lstM hH
 obtain ⟨u,hu,ru⟩:=r.get hy
 have hy':its.toArray[its.toArray.size - 1]?=some u:=by
  show its.toArray[its.length - 1]?=some u
  rw [←Array.getElem?_toList,←hl]
  exact hu
 refine call_meets F.slot_list_pop ⟨_,e,rfl⟩ F.entry_list_pop (F.args_list_pop_1 _) (MeetsSeq.list_pop_last l its.toArray n u hy' (by rw [List.size_toArray];omega)) ⟨e,?_⟩
 refine ⟨y,_,I.lset (its':=its.dropLast) hH e ?_ r.dropLast ?_,ru,q⟩
 ·show its.toArray.eraseIdxIfInBounds (its.toArray.size - 1)=its.dropLast.toArray
  rw [List.size_toArray,List.eraseIdxIfInBounds_toArray,erase_last]
 ·rw [List.length_dropLast]
  omega

def rPopAt:V→List V→Hp→VK→Prop:=fun x vs H Q=>∃ l xs i k y,x=.ref l∧vs=[.int i]∧H l=some (.lst xs)∧-(2 ^ 63)≤i∧i < 2 ^ 63∧seqIndex? i xs.length=some k∧xs[k]?=some y∧Q y (upd H l (.lst (xs.eraseIdx k)))
theorem mt_popAt:MtM X "list.pop" rPopAt:=by
 intro pins s σ H x vs v us Q I rx rv h
 obtain ⟨l,xs,i,k,y,rfl,rfl,hH,h1,h2,hk,hy,q⟩:=h
 cases rx
 obtain ⟨u,rfl,ru⟩:=rv.one
 obtain ⟨t,rfl⟩:=ru
 obtain ⟨z,its,n,r,hl,e⟩:=I.lstM hH
 obtain ⟨w,hw,rw'⟩:=r.get hy
 refine call_meets F.slot_list_pop ⟨_,e,rfl⟩ F.entry_list_pop (F.args_list_pop_2 _ _)
  (MeetsSeq.list_pop_at l its.toArray n i t k w (fitsIndex_both h1 h2) (by rw [List.size_toArray,←hl];exact hk) (by rw [←Array.getElem?_toList];exact hw) (by rw [List.size_toArray];omega)) ⟨e,?_⟩
 refine ⟨y,_,I.lset (its':=its.eraseIdx k) hH e ?_ (r.eraseIdx k) ?_,rw',q⟩
 ·show its.toArray.eraseIdxIfInBounds k=(its.eraseIdx k).toArray
  rw [List.eraseIdxIfInBounds_toArray]
 ·have:=len_erase xs k
  omega

/-! ### list+list,list += list,list*int -/
def rCat:R2:=fun x y H Q=>∃ l b xs zs,x=.ref l∧y=.ref b∧H l=some (.lst xs)∧H b=some (.lst zs)∧xs.length+zs.length≤sizeLine∧∀ p,H p=none→Q (.ref p) (upd H p (.lst (xs++zs)))
theorem op_cat:OpR X (binaryOp .Add) rCat:=by
 intro pins s σ H x y v u Q I rx ry h
 obtain ⟨l,b,xs,zs,rfl,rfl,hH,hB,hz,q⟩:=h
 cases rx
 cases ry
 obtain ⟨z,its,n,r,hl,e⟩:=I.lstM hH
 obtain ⟨z2,its2,n2,r2,hl2,e2⟩:=I.lstM hB
 refine PySem.P.add_list e e2 ?_ (by rw [List.size_toArray,List.size_toArray];omega)
 have ea:its.toArray++its2.toArray=(its++its2).toArray:=by simp
 rw [ea]
 exact ⟨.ref _,_,I.lnew (t':=s.toks) (r.append r2) (by rw [List.length_append];omega),rfl,q _ I.fresh⟩
def rRep:R2:=fun x y H Q=>∃ l k xs,x=.ref l∧y=.int k∧H l=some (.lst xs)∧-(2 ^ 63)≤k∧k < 2 ^ 63∧xs.length*k.toNat≤sizeLine ∧
 ∀ p,H p=none→Q (.ref p) (upd H p (.lst (List.replicate k.toNat xs).flatten))
theorem len_rep {α:Type} (xs:List α) (k:Nat):(List.replicate k xs).flatten.length=k*xs.length:=by
 induction k with
 | zero=>simp
 | succ k ih=>rw [List.replicate_succ,List.flatten_cons,List.length_append,ih,Nat.succ_mul,Nat.add_comm]
theorem op_rep:OpR X (binaryOp .Mult) rRep:=by
 intro pins s σ H x y v u Q I rx ry h
 obtain ⟨l,k,xs,rfl,rfl,hH,h1,h2,hz,q⟩:=h
 cases rx
 obtain ⟨t,rfl⟩:=ry
 obtain ⟨z,its,n,r,hl,e⟩:=I.lstM hH
 have hlen:its.toArray.size*k.toNat≤sizeLine:=by rw [List.size_toArray,←hl];exact hz
 have hcap:¬ its.toArray.size*k.toNat > (2 ^ 63 - 1) / 8:=by
  have:(sizeLine:Nat)≤(2 ^ 63 - 1) / 8:=by decide
  omega
 have hfit:¬ (!Builtin.List.listFitsIndex k)=true:=by
  rw [fitsIndex_both h1 h2]
  exact Bool.false_ne_true
 have hlong:¬ Builtin.List.listTooLong (its.toArray.size*k.toNat)=true:=by
  rw [notLongL hlen]
  exact Bool.false_ne_true
 have hnew:List.foldl (fun x1 x2=>x1++x2) #[] (List.replicate (if its.toArray.isEmpty=true then 0 else k.toNat) its.toArray)=(List.replicate k.toNat its).flatten.toArray:=by
  have f0:∀ m:Nat,List.foldl (fun x1 x2=>x1++x2) #[] (List.replicate m its.toArray)=(List.replicate m its).flatten.toArray:=fun m=>by
   have:=foldl_rep its m []
   rw [List.nil_append] at this
   exact this
  rw [f0]
  cases its with
  | nil=>simp
  | cons a r'=>rw [if_neg (by simp)]
 refine wpAny_binaryOp_repeat_ref (T:="list") (U:="int") (by decide) ⟨_,e,rfl⟩ (fun s'=>typeIs_int s' k t) noFill_list_mul F.fills_int_mul F.slot_int_rmul repeat_list F.slot_int_index.lookup
  (call_meets F.slot_int_rmul (typeIs_int s k t) F.entry_int_rmul (F.args_int_rmul_2 _ _) (int___rmul___int_list k t l its.toArray n)
   ⟨e,rfl,⟨_,e,rfl⟩,call_meets F.slot_list_mul ⟨_,e,rfl⟩ F.entry_list_mul (F.args_list_mul_2 _ _) (AutoListH.list___mul___list_int_3 l its.toArray n k t hfit hcap hlong) ⟨e,?_⟩⟩)
 rw [hnew]
 exact ⟨.ref _,_,I.lnew (t':=s.toks) (r.rep k.toNat) (by rw [len_rep,Nat.mul_comm];exact hz),rfl,q _ I.fresh⟩

/-! ### del xs[i] -/
end

/-! ### xs[a:b]=ys -/
section
variable {prog:Program} {w:World} {A:Around} {E:Value→Shared→Prop} {s:Shared}
end

section
variable {X:Cx}
end
end L2

namespace L2
open PySem PySem.Spec PyProof.Rows

/-! ### lists of pairs as tables -/
section
variable {κ:Type} [DecidableEq κ]
def valV (kvs:List (κ × V)) (k:κ):Option V:=(kvs.find? fun kv=>decide (kv.1=k)).map (·.2)
def putK (kvs:List (κ × V)) (k:κ) (v:V):List (κ × V) :=
 if (kvs.any fun kv=>decide (kv.1=k))=true then kvs.map (fun kv=>if kv.1=k then (kv.1,v) else kv) else kvs++[(k,v)]
theorem valV_pos {p:κ × V} {r:List (κ × V)} {k:κ} (e:p.1=k):valV (p::r) k=some p.2:=by simp [valV,List.find?_cons,e]
theorem valV_neg {p:κ × V} {r:List (κ × V)} {k:κ} (e:¬ p.1=k):valV (p::r) k=valV r k:=by simp [valV,List.find?_cons,e]
theorem valV_any (k:κ):∀ kvs:List (κ × V),(kvs.any fun kv=>decide (kv.1=k))=(valV kvs k).isSome
 | []=>rfl
 | p::r=>by
  rw [List.any_cons]
  by_cases e:p.1=k
  ·simp only [valV_pos e,decide_eq_true e,Bool.true_or,Option.isSome_some]
  ·rw [valV_neg e,decide_eq_false e,Bool.false_or];exact valV_any k r
theorem length_putK (kvs:List (κ × V)) (k:κ) (v:V):(putK kvs k v).length≤kvs.length+1:=by
 unfold putK
 split
 ·rw [List.length_map];omega
 ·rw [List.length_append,List.length_cons,List.length_nil];omega
theorem putK_new {kvs:List (κ × V)} {k:κ} (v:V) (h:valV kvs k=none):putK kvs k v=kvs++[(k,v)]:=by
 unfold putK
 rw [valV_any,h]
 exact if_neg (by decide)

theorem RelO.isSome_eq {o:Option V} {u:Option Value} (r:RelO o u):o.isSome=u.isSome:=by
 cases o with
 | none=>cases u with
  | none=>rfl
  | some _=>exact (show False from r).elim
 | some _=>cases u with
  | none=>exact (show False from r).elim
  | some _=>rfl
theorem RelO.getD {o:Option V} {u:Option Value} {d:V} {d':Value} (r:RelO o u) (rd:RelV d d'):RelV (o.getD d) (u.getD d'):=by
 cases o with
 | none=>cases u with
  | none=>exact rd
  | some _=>exact (show False from r).elim
 | some _=>cases u with
  | none=>exact (show False from r).elim
  | some _=>exact r

theorem KV.val {kvs:List (κ × V)} {vs:List (κ × Value)} (r:KV kvs vs) (k:κ):RelO (valV kvs k) (valueAt vs k):=by
 unfold KV at r
 induction r with
 | nil=>exact True.intro
 | @cons p q ps qs h t ih =>
  obtain ⟨h1,h2⟩:=h
  by_cases e:p.1=k
  ·have e':q.1=k:=h1.symm.trans e
   have b:valueAt (q::qs) k=some q.2:=by simp [valueAt,List.find?_cons,e']
   rw [valV_pos e,b];exact h2
  ·have e':¬ q.1=k:=fun z=>e (h1.trans z)
   have b:valueAt (q::qs) k=valueAt qs k:=by simp [valueAt,List.find?_cons,e']
   rw [valV_neg e,b];exact ih
theorem KV.any {kvs:List (κ × V)} {vs:List (κ × Value)} (r:KV kvs vs) (k:κ):(kvs.any fun kv=>decide (kv.1=k))=vs.any fun kv=>decide (kv.1=k):=by
 unfold KV at r
 induction r with
 | nil=>rfl
 | cons h t ih=>rw [List.any_cons,List.any_cons,ih,h.1]
theorem KV.repl {kvs:List (κ × V)} {vs:List (κ × Value)} (r:KV kvs vs) (k:κ) {y:V} {u:Value} (ry:RelV y u) :
  KV (kvs.map fun kv=>if kv.1=k then (kv.1,y) else kv) (vs.map fun kv=>if kv.1=k then (kv.1,u) else kv):=by
 unfold KV at r ⊢
 induction r with
 | nil=>exact .nil
 | @cons p q ps qs h t ih =>
  rw [List.map_cons,List.map_cons]
  refine .cons ?_ ih
  obtain ⟨h1,h2⟩:=h
  by_cases e:p.1=k
  ·rw [if_pos e,if_pos (h1.symm.trans e)];exact ⟨h1,ry⟩
  ·rw [if_neg e,if_neg (fun z=>e (h1.trans z))];exact ⟨h1,h2⟩
theorem KV.put {kvs:List (κ × V)} {vs:List (κ × Value)} (r:KV kvs vs) (k:κ) {y:V} {u:Value} (ry:RelV y u):KV (putK kvs k y) (stored vs k u):=by
 unfold putK stored
 rw [r.any k]
 by_cases e:(vs.any fun kv=>decide (kv.1=k))=true
 ·rw [if_pos e,if_pos e];exact r.repl k ry
 ·rw [if_neg e,if_neg e];exact Paired.snoc r ⟨rfl,ry⟩
theorem KV.length {kvs:List (κ × V)} {vs:List (κ × Value)} (r:KV kvs vs):kvs.length=vs.length:=Paired.length r
end


/-! ### a tracked dict,its keys ints and texts or tuples of these -/
theorem kV_is {P:Program} {w:World} {k:Key} {u:Value} (r:RelV (kV k) u):(mixKind P w).is k u=true:=by
 cases k with
 | inl i=>obtain ⟨t,e⟩:=(show ∃ t,u=Value.int i t from r);subst e;exact mixKind_int P w i t
 | inr x=>obtain ⟨t,e⟩:=(show ∃ t,u=Value.str x t from r);subst e;exact mixKind_str P w x t
theorem items_are {P:Program} {w:World}:∀ {ks:List Key} {us:List Value},Vals (ks.map kV) us→ItemsAre (mixKind P w) ks us
 | [],_,r=>by rw [List.map_nil] at r;cases r;exact .nil
 | k::ks,_,r=>by
  rw [List.map_cons] at r
  cases r with
  | cons h t=>exact .cons (kV_is h) (items_are t)

abbrev KT (H:Hp):List (List Key × V)→List (List Key × Addr × Value)→Prop:=Paired fun p q=>p.1=q.1∧H q.2.1=some (.tup (p.1.map kV))∧RelV p.2 q.2.2
theorem KT.val {H:Hp} {kvs:List (List Key × V)} {xs:List (List Key × Addr × Value)} (r:KT H kvs xs) (k:List Key):RelO (valV kvs k) ((atKey xs k).map (·.2)):=by
 induction r with
 | nil=>exact True.intro
 | @cons p q ps qs h t ih =>
  obtain ⟨h1,_,h2⟩:=h
  by_cases e:p.1=k
  ·have e':q.1=k:=h1.symm.trans e
   have b:atKey (q::qs) k=some q.2:=by simp [atKey,List.find?_cons,e']
   rw [valV_pos e,b];exact h2
  ·have e':¬ q.1=k:=fun z=>e (h1.trans z)
   have b:atKey (q::qs) k=atKey qs k:=by simp [atKey,List.find?_cons,e']
   rw [valV_neg e,b];exact ih
theorem KT.repl {H:Hp} {kvs:List (List Key × V)} {xs:List (List Key × Addr × Value)} (r:KT H kvs xs) (k:List Key) {y:V} {u:Value} (ry:RelV y u) :
  KT H (kvs.map fun kv=>if kv.1=k then (kv.1,y) else kv) (xs.map (putAt k u)):=by
 induction r with
 | nil=>exact .nil
 | @cons p q ps qs h t ih =>
  rw [List.map_cons,List.map_cons]
  refine .cons ?_ ih
  obtain ⟨h1,h2,h3⟩:=h
  unfold putAt
  by_cases e:p.1=k
  ·rw [if_pos e,if_pos (h1.symm.trans e)];exact ⟨h1,h2,ry⟩
  ·rw [if_neg e,if_neg (fun z=>e (h1.trans z))];exact ⟨h1,h2,h3⟩
theorem KT.put {H:Hp} {kvs:List (List Key × V)} {xs:List (List Key × Addr × Value)} (r:KT H kvs xs) (k:List Key) {b:Addr} {y:V} {u:Value} (hb:H b=some (.tup (k.map kV))) (ry:RelV y u) :
  KT H (putK kvs k y) (storedH xs k b u):=by
 have e:(kvs.any fun kv=>decide (kv.1=k))=(atKey xs k).isSome:=by
  rw [valV_any,(r.val k).isSome_eq,Option.isSome_map]
 unfold putK storedH
 rw [e]
 by_cases q:(atKey xs k).isSome=true
 ·rw [if_pos q,if_pos q];exact r.repl k ry
 ·rw [if_neg q,if_neg q];exact Paired.snoc r ⟨rfl,hb,ry⟩
theorem KT.keeps {H H':Hp} {kvs:List (List Key × V)} {xs:List (List Key × Addr × Value)} (r:KT H kvs xs) (ht:∀ b ys,H b=some (.tup ys)→H' b=some (.tup ys)):KT H' kvs xs :=
 Paired.mapP r fun _ _ z=>⟨z.1,ht _ _ z.2.1,z.2.2⟩

section
variable {P:Program} {w:World} {H:Hp} {h:Heap} {a:Addr}
theorem rd_of {u:HO} (ok:HOk P w H h) (e:Rd H a u):ObjOk P w H h a u:=e.ok ok
theorem dk_rd {kvs:List (Key × V)} (ok:HOk P w H h) (e:Rd H a (.dK kvs)):kvs.length≤sizeLine∧(a == sysModules)=false∧∃ vs,KV kvs vs∧h.DictOf (mixKind P w) a vs :=
 show ObjOk P w H h a (.dK kvs) from rd_of ok e
theorem dk_of {kvs:List (Key × V)} (ok:HOk P w H h) (e:H a=some (.dK kvs)):kvs.length≤sizeLine∧(a == sysModules)=false∧∃ vs,KV kvs vs∧h.DictOf (mixKind P w) a vs:=dk_rd ok (.inl e)
theorem key_of {ks:List Key} (ok:HOk P w H h) (e:H a=some (.tup (ks.map kV))):(tupleKind (mixKind P w)).is h ks a:=by
 obtain ⟨_,its,n,r,h1⟩:=(show ObjOk P w H h a (.tup (ks.map kV)) from ok a _ e)
 exact ⟨_,its.toArray,n,h1,rfl,rfl,by simpa using items_are r⟩
theorem dt_rd {kvs:List (List Key × V)} (ok:HOk P w H h) (e:Rd H a (.dT kvs)):kvs.length≤sizeLine∧(a == sysModules)=false ∧
  ∃ xs,KT H kvs xs∧h.DictOfH (tupleKind (mixKind P w)) a xs:=by
 obtain ⟨z,y,xs,r,o,es,ep,h1,h2,h3,h4,h5⟩:=(show ObjOk P w H h a (.dT kvs) from rd_of ok e)
 refine ⟨z,y,xs,r,o,es,ep,h1,h2,h3,h4,fun x hx=>?_,h5⟩
 have all:∀ {l:List (List Key × V)} {m:List (List Key × Addr × Value)},KT H l m→∀ x∈m,(tupleKind (mixKind P w)).is h x.1 x.2.1:=by
  intro l m q
  induction q with
  | nil=>intro x hx;exact nomatch hx
  | @cons p q ps qs hq t ih =>
   intro x hx
   rcases List.mem_cons.mp hx with e | hx
   ·subst e
    exact key_of ok (by rw [←hq.1];exact hq.2.1)
   ·exact ih x hx
 exact all r x hx
theorem dt_of {kvs:List (List Key × V)} (ok:HOk P w H h) (e:H a=some (.dT kvs)):kvs.length≤sizeLine∧(a == sysModules)=false ∧
  ∃ xs,KT H kvs xs∧h.DictOfH (tupleKind (mixKind P w)) a xs:=dt_rd ok (.inl e)
end

def DGet (H:Hp) (a:Addr) (y:V) (r:Option V):Prop :=
 (∃ kvs k,Rd H a (.dK kvs)∧y=kV k∧r=valV kvs k)∨∃ kvs k b,Rd H a (.dT kvs)∧y=.ref b∧H b=some (.tup (k.map kV))∧r=valV kvs k
def DPut (H:Hp) (a:Addr) (y v:V) (H':Hp):Prop :=
 (∃ kvs k,H a=some (.dK kvs)∧y=kV k∧kvs.length < sizeLine∧H'=upd H a (.dK (putK kvs k v))) ∨
 ∃ kvs k b,H a=some (.dT kvs)∧y=.ref b∧H b=some (.tup (k.map kV))∧kvs.length < sizeLine∧H'=upd H a (.dT (putK kvs k v))
theorem DGet.k {H:Hp} {a:Addr} {kvs:List (Key × V)} {k:Key} (e:H a=some (.dK kvs)):DGet H a (kV k) (valV kvs k):=.inl ⟨kvs,k,.inl e,rfl,rfl⟩
theorem DPut.k {H:Hp} {a:Addr} {kvs:List (Key × V)} {k:Key} {v:V} (e:H a=some (.dK kvs)) (hl:kvs.length < sizeLine):DPut H a (kV k) v (upd H a (.dK (putK kvs k v))):=.inl ⟨kvs,k,e,rfl,hl,rfl⟩
section
variable {X:Cx} {pins:List (Addr × Obj)} {σ:St} {H:Hp} {s:Shared} {a:Addr} {y v:V} {u r:Value} {o:Option V} {A:Around} {E:Value→Shared→Prop}

theorem Inv.big (I:Inv X pins σ H s):sysModules < s.heap.objs.size:=by
 have h:mainGlobals < s.heap.objs.size:=(I.mod.glob.keeps I.bk).lt
 exact Nat.lt_trans (by decide) h

theorem d_getItem {Q:Value→Shared→Prop} (hu:A.units+1 < cLine) (I:Inv X pins σ H s) (g:DGet H a y (some v)) (ry:RelV y u) (h:∀ w' s',Inv X pins σ H s'→RelV v w'→Q w' s') :
  wpAny (model X.prog X.w) A (getItem (.ref a) u) Q E s:=by
 rcases g with ⟨kvs,k,e,ey,l⟩ | ⟨kvs,k,b,e,ey,eb,l⟩
 ·subst ey
  obtain ⟨z,hd,vs,rel,dd⟩:=dk_rd I.hok e
  obtain ⟨w',hw,rw'⟩:=RelO.some_of (v:=v) (o:=valueAt vs k) (by rw [l];exact rel.val k)
  exact wpAny_getItem_of (kV_is ry) dd.mapOf hw (h w' _ (I.tok _) rw')
 ·subst ey
  cases (show u=Value.ref b from ry)
  obtain ⟨z,hd,xs,rel,dd⟩:=dt_rd I.hok e
  obtain ⟨w',hw,rw'⟩:=RelO.some_of (v:=v) (o:=(atKey xs k).map (·.2)) (by rw [l];exact rel.val k)
  obtain ⟨p,hp,hp2⟩:=Option.map_eq_some_iff.mp hw
  refine wpAny_getItem_heap (tupleKind_room_in1 hu) (key_of I.hok eb) dd hp ?_
  rw [hp2]
  exact h w' _ (I.tok _) rw'
theorem d_notIn {Q:Value→Shared→Prop} (hu:A.units+1 < cLine) (I:Inv X pins σ H s) (g:DGet H a y o) (ry:RelV y u) (h:∀ s',Inv X pins σ H s'→Q (.bool (!o.isSome)) s') :
  wpAny (model X.prog X.w) A (compareOp .NotIn u (.ref a)) Q E s:=by
 rcases g with ⟨kvs,k,e,ey,l⟩ | ⟨kvs,k,b,e,ey,eb,l⟩
 ·subst ey
  obtain ⟨z,hd,vs,rel,dd⟩:=dk_rd I.hok e
  refine wpAny_notIn_of (kV_is ry) hd dd.mapOf ?_
  rw [←(rel.val k).isSome_eq,←l]
  exact h _ (I.tok _)
 ·subst ey
  cases (show u=Value.ref b from ry)
  obtain ⟨z,hd,xs,rel,dd⟩:=dt_rd I.hok e
  refine wpAny_notIn_heap (tupleKind_room_in1 hu) (key_of I.hok eb) hd dd ?_
  have q:=(rel.val k).isSome_eq
  rw [Option.isSome_map] at q
  rw [←q,←l]
  exact h _ (I.tok _)
theorem d_write {h':Heap} {t':Nat} {ob:HO} (I:Inv X pins σ H s) (mu:Mut (H a)) (hs:Heap.SameBut a s.heap h') (he:∃ q,h'.get? a=some q) (new:ObjOk X.prog X.w (upd H a ob) h' a ob) :
  Inv X pins σ (upd H a ob) { s with heap:=h',toks:=t' } :=
 I.write (x:=a) (e:=a) mu (.inl rfl) (fun b q hb z=>(hs.2 b hb).trans z) he new
theorem dk_new {P:Program} {w:World} {H':Hp} {h':Heap} {kvs:List (Key × V)} {vs:List (Key × Value)} (z:kvs.length≤sizeLine) (hd:(a == sysModules)=false) (rel:KV kvs vs) (dd:h'.DictOf (mixKind P w) a vs) :
  ObjOk P w H' h' a (.dK kvs):=⟨z,hd,vs,rel,dd⟩
theorem d_setItem {H':Hp} {Q:Unit→Shared→Prop} (hu:A.units+1 < cLine) (I:Inv X pins σ H s) (g:DPut H a y v H') (ry:RelV y u) (rv:RelV v r) (h:∀ s',Inv X pins σ H' s'→Q () s') :
  wpAny (model X.prog X.w) A (setItem (.ref a) u r) Q E s:=by
 rcases g with ⟨kvs,k,e,ey,l,eH⟩ | ⟨kvs,k,b,e,ey,eb,l,eH⟩
 ·subst ey eH
  obtain ⟨z,hd,vs,rel,dd⟩:=dk_of I.hok e
  have hz:vs.length≤sizeLine:=by rw [←rel.length];exact z
  have hl:(putK kvs k v).length≤sizeLine:=by have:=length_putK kvs k v;omega
  refine wpAny_setItem_pairs (hsz:=hz) (kV_is ry) dd fun h' dd' hs=>h _ ?_
  have he:∃ q,h'.get? a=some q:=let ⟨q,_,_,hq,_⟩:=dd';⟨q,hq⟩
  exact d_write I (by rw [e];exact True.intro) hs he (dk_new hl hd (rel.put k rv) dd')
 ·subst ey eH
  cases (show u=Value.ref b from ry)
  obtain ⟨z,hd,xs,rel,dd⟩:=dt_of I.hok e
  have hz:xs.length≤sizeLine:=by rw [←Paired.length rel];exact z
  have hl:(putK kvs k v).length≤sizeLine:=by have:=length_putK kvs k v;omega
  refine wpAny_setItem_heap (hsz:=hz) (tupleKind_room_in1 hu) (key_of I.hok eb) dd fun h' dd' hs=>h _ ?_
  obtain ⟨q,es,ep,hq,h2,h3,h4,_,h5⟩:=dd'
  refine d_write I (by rw [e];exact True.intro) hs ⟨q,hq⟩ ⟨hl,hd,_,(rel.put k eb rv).keeps fun c ys ec=>?_,q,es,ep,hq,h2,h3,h4,h5⟩
  rw [upd_ne (ne_of ec e (fun z=>nomatch z))]
  exact ec
end

section
variable {X:Cx} {pins:List (Addr × Obj)} {σ:St} {H:Hp} {s:Shared} {a:Addr} {kvs:List (Key × V)} {k:Key} {u:Value} {A:Around} {E:Value→Shared→Prop}
end


/-! ### readings and rules -/
def NoSl (i:Expr):Prop:=∀ ov iv,subscripted i false ov iv=operate [ov,iv] (getItem ov iv)
theorem subD_of {prog:Program} {w:World} {A:Around} {E:Value→Shared→Prop} {s:Shared} {env:Env} {value slice:Expr} {pos:Pos} {T id:String} {Q:Value→Shared→Prop}
  (hl:typeLookup (.type T) "__getitem__"=pure (some (.builtin id))) (hs:NoSl slice)
  (h:wpAny (model prog w) A (eval value env) (fun o s₁=>wpAny (model prog w) A (eval slice env) (fun i s₂=>s₂.TypeIs o T∧wpAny (model prog w) A (getItem o i) Q E s₂) E s₁) E s) :
  wpAny (model prog w) A (eval (.Subscript value slice pos) env) Q E s:=by
 refine Subscript_ (wpAny_mono h (fun o s₁ h₁=>wpAny_mono h₁ (fun i s₂ h₂=>?_) fun _ _ x=>x) fun _ _ x=>x)
 obtain ⟨hT,h₂⟩:=h₂
 unfold subscriptTail
 refine wpAny_bind ?_
 rw [getitemInPython_of_ne hT.not_modules]
 refine wpAny_bind (wpAny_specialOf hT hl ?_)
 have fin:wpAny (model prog w) A (subscripted slice false o i) (fun r s₃=>wpAny (model prog w) A (letTemporaryGo value o r >>= fun _=>pure r) Q E s₃) E s₂:=by
  rw [hs o i]
  exact wpAny_operating (wpAny_mono h₂ (fun r s₃ h₃=>wpAny_bind (wpAny_letTemporaryGo (wpAny_pure h₃))) fun _ _ x=>x)
 first
  | exact wpAny_pure (wpAny_bind fin)
  | exact wpAny_bind (wpAny_pure (wpAny_bind fin))
  | exact wpAny_bind fin

theorem dict_typeIs {X:Cx} {pins:List (Addr × Obj)} {σ:St} {H:Hp} {s:Shared} {a:Addr} {y:V} {o:Option V} (I:Inv X pins σ H s) (g:DGet H a y o):s.TypeIs (.ref a) "dict":=by
 rcases g with ⟨kvs,k,e,_,_⟩ | ⟨kvs,k,b,e,_,_,_⟩
 ·obtain ⟨_,_,vs,_,dd⟩:=dk_rd I.hok e
  exact dd.typeIs
 ·obtain ⟨_,_,xs,_,dd⟩:=dt_rd I.hok e
  exact dd.typeIs
def tDGet (td ty:TE):TE:=fun σ H Q=>td σ H fun x H1=>ty σ H1 fun y H2=>∃ a v,x=.ref a∧DGet H2 a y (some v)∧Q v H2
def tDNotIn (ty td:TE):TE:=fun σ H Q=>ty σ H fun y H1=>td σ H1 fun x H2=>∃ a o,x=.ref a∧DGet H2 a y o∧Q (.bl (!o.isSome)) H2
def sDPut (td ty tv:TE):TS:=fun D σ H=>tv σ H fun v H1=>td σ H1 fun x H2=>ty σ H2 fun y H3=>∃ a H4,x=.ref a∧DPut H3 a y v H4∧D.nx σ H4
section
variable {X:Cx} {o i e value:Expr} {pos pos' tpos:Pos} {td ty tv:TE}
theorem pe_dget (hu:X.A.units+1 < cLine) (ho:PE X o td) (hi:PE X i ty) (hs:NoSl i):PE X (.Subscript o i pos) (tDGet td ty):=by
 intro pins s σ H Q I h
 refine subD_of PySem.F.slot_dict_getitem.lookup hs (thn (ho pins s σ H _ I h) fun u s1 ⟨x,H1,I1,rx,q1⟩=>thn (hi pins s1 σ H1 _ I1 q1) fun iv s2 ⟨y,H2,I2,ry,a,v,ex,g,q2⟩=>?_)
 subst ex
 obtain rfl:u=Value.ref a:=rx
 exact ⟨dict_typeIs I2 g,d_getItem hu I2 g ry fun w' s3 I3 rw'=>⟨v,H2,I3,rw',q2⟩⟩
theorem pc_dnotin (hu:X.A.units+1 < cLine) (hi:PE X i ty) (ho:PE X o td):PC X .NotIn i o (tDNotIn ty td):=by
 intro pins s σ H Q I h
 refine thn (hi pins s σ H _ I h) fun iv s1 ⟨y,H1,I1,ry,q1⟩=>thn (ho pins s1 σ H1 _ I1 q1) fun u s2 ⟨x,H2,I2,rx,a,ov,ex,g,q2⟩=>?_
 subst ex
 obtain rfl:u=Value.ref a:=rx
 exact d_notIn hu I2 g ry fun s3 I3=>⟨.bl (!ov.isSome),H2,I3,rfl,q2⟩
theorem ps_dput (hu:X.A.units+1 < cLine) (ho:PE X o td) (hi:PE X i ty) (hv:PE X value tv) (hs:swapsWith value (some (.Subscript o i pos')) pos.line X.env=pure false) :
  PS X (.Assign [.Subscript o i pos'] value pos) (sDPut td ty tv):=by
 intro pins s σ H D I h
 refine wpAny_Assign_Subscript (thn (hv pins s σ H _ I h) fun r s1 ⟨v,H1,I1,rv,q1⟩=>thn (ho pins s1 σ H1 _ I1 q1) fun u s2 ⟨x,H2,I2,rx,q2⟩=>thn (hi pins s2 σ H2 _ I2 q2) fun iv s3 ⟨y,H3,I3,ry,a,H4,ex,g,q3⟩=>?_) hs
 subst ex
 obtain rfl:u=Value.ref a:=rx
 exact d_setItem hu I3 g ry rv fun s4 I4=>⟨σ,H4,I4,q3⟩
end


/-! ### displays -/
theorem dk_empty {P:Program} {w:World} {H:Hp} (h:Heap) (hb:sysModules < h.objs.size):ObjOk P w H (h.push { cls:=.type "dict",data:=.dict #[] }) h.objs.size (.dK []) :=
 ⟨Nat.zero_le _,beq_eq_false_iff_ne.mpr (Ne.symm (Nat.ne_of_lt hb)),[],.nil,Heap.DictOf.new h⟩
def tDNewK:TE:=fun _ H Q=>∀ p,H p=none→Q (.ref p) (upd H p (.dK []))
section
variable {X:Cx} {pos:Pos}
theorem pe_dnewK:PE X (.Dict [] [] pos) tDNewK:=fun pins s σ H Q I h =>
 wpAny_Dict_empty ⟨.ref s.heap.objs.size,_,I.laid (a:=s.heap.objs.size) (o:=.dK []) (t':=s.toks) (fun _ _ q=>Heap.get?_push_of_some _ q) (Nat.le_refl _) (dk_empty s.heap I.big),rfl,h _ (I.hok.fresh (Nat.le_refl _))⟩
end

def tPairs:List (TE × TE)→St→Hp→(List (V × V)→Hp→Prop)→Prop
 | [],_,H,Q=>Q [] H
 | (tk,tv)::r,σ,H,Q=>tk σ H fun x H1=>tv σ H1 fun y H2=>tPairs r σ H2 fun ps H3=>Q ((x,y)::ps) H3
abbrev VV:List (V × V)→List (Value × Value)→Prop:=Paired fun p q=>RelV p.1 q.1∧RelV p.2 q.2
def PPs (X:Cx) (pos:Pos) (keys:List (Option Expr)) (values:List Expr) (trs:List (TE × TE)):Prop :=
 ∀ (pins:List (Addr × Obj)) (s:Shared) (σ:St) (H:Hp) (Q:List (V × V)→Hp→Prop),Inv X pins σ H s→tPairs trs σ H Q →
  wpAny (model X.prog X.w) X.A (evalPairs (pairTrees keys values X.env pos)) (fun vs s'=>∃ ps H',Inv X pins σ H' s'∧VV ps vs∧Q ps H') X.xe s
theorem pps_nil {X:Cx} {pos:Pos}:PPs X pos [] [] []:=fun pins s σ H Q I h=>pairTrees_nil_walk ⟨[],H,I,.nil,h⟩
theorem pps_cons {X:Cx} {pos:Pos} {k v:Expr} {ks:List (Option Expr)} {vs:List Expr} {tk tv:TE} {trs:List (TE × TE)} (hk:PE X k tk) (hv:PE X v tv) (hr:PPs X pos ks vs trs) :
  PPs X pos (some k::ks) (v::vs) ((tk,tv)::trs):=fun pins s σ H Q I h =>
 pairTrees_cons_walk (thn (hk pins s σ H _ I h) fun u s1 ⟨x,H1,I1,rx,q1⟩=>thn (hv pins s1 σ H1 _ I1 q1) fun w2 s2 ⟨y,H2,I2,ry,q2⟩ =>
  thn (hr pins s2 σ H2 _ I2 q2) fun ws s3 ⟨ps,H3,I3,rel,q3⟩=>⟨(x,y)::ps,H3,I3,.cons ⟨rx,ry⟩ rel,q3⟩)

def mergeK (kvs more:List (Key × V)):List (Key × V):=more.foldl (fun acc kv=>putK acc kv.1 kv.2) kvs
theorem KV.merge:∀ {more:List (Key × V)} {rs:List (Key × Value)} {kvs:List (Key × V)} {vs:List (Key × Value)},KV more rs→KV kvs vs→KV (mergeK kvs more) (merged vs rs):=by
 intro more rs kvs vs r
 unfold KV at r
 induction r generalizing kvs vs with
 | nil=>intro q;exact q
 | @cons p q ps qs h t ih =>
  intro r0
  have e:KV (putK kvs p.1 p.2) (stored vs q.1 q.2):=by
   have:=r0.put p.1 h.2
   rw [←h.1];exact this
  exact ih e
theorem length_mergeK:∀ (more kvs:List (Key × V)),(mergeK kvs more).length≤kvs.length+more.length
 | [],kvs=>by show kvs.length≤kvs.length+0;omega
 | p::r,kvs=>by
  have h1:=length_mergeK r (putK kvs p.1 p.2)
  have h2:=length_putK kvs p.1 p.2
  show (mergeK (putK kvs p.1 p.2) r).length≤_
  rw [List.length_cons];omega
theorem carries_of {P:Program} {w:World}:∀ {kvs:List (Key × V)} {ws:List (Value × Value)},VV (kvs.map fun kv=>(kV kv.1,kv.2)) ws→∃ rs,Carries (mixKind P w) ws rs∧KV kvs rs
 | [],_,r=>by rw [List.map_nil] at r;cases r;exact ⟨[],True.intro,.nil⟩
 | p::kvs,_,r=>by
  rw [List.map_cons] at r
  cases r with
  | @cons a b as bs h t =>
   obtain ⟨rs,c,q⟩:=carries_of (P:=P) (w:=w) t
   obtain ⟨b1,b2⟩:=b
   exact ⟨(p.1,b2)::rs,⟨kV_is h.1,rfl,c⟩,.cons ⟨rfl,h.2⟩ q⟩
def tDisp (trs:List (TE × TE)):TE:=fun σ H Q=>∀ p,H p=none→tPairs trs σ (upd H p (.dK [])) fun ps H2=>H2 p=some (.dK [])∧∃ kvs:List (Key × V),ps=kvs.map (fun kv=>(kV kv.1,kv.2))∧kvs.length≤15∧Q (.ref p) (upd H2 p (.dK (mergeK [] kvs)))
theorem pe_disp {X:Cx} {pos:Pos} {keys:List (Option Expr)} {values:List Expr} {trs:List (TE × TE)} (h:PPs X pos keys values trs) (hall:keys.all (·.isSome)=true) (hl:keys.length=values.length) (h0:keys≠[])
  (h15:keys.length≤15):PE X (.Dict keys values pos) (tDisp trs):=by
 intro pins s σ H Q I q
 have hn:=I.hok.fresh (Nat.le_refl s.heap.objs.size)
 have I1:=I.laid (a:=s.heap.objs.size) (o:=.dK []) (h':=s.heap.push { cls:=.type "dict",data:=.dict #[] }) (t':=s.toks) (fun _ _ q=>Heap.get?_push_of_some _ q) (Nat.le_refl _) (dk_empty s.heap I.big)
 refine wpAny_Dict_walk (knd:=mixKind X.prog X.w) hall hl h0 h15 (thn (h pins _ σ _ _ I1 (q _ hn)) fun ws s2 ⟨ps,H2,I2,rel,e,kvs,ep,lk,q2⟩=>?_)
 subst ep
 obtain ⟨rs,c,rk⟩:=carries_of (P:=X.prog) (w:=X.w) rel
 obtain ⟨z,hd,vs0,r0,dd⟩:=dk_of I2.hok e
 cases r0
 refine ⟨rs,c,dd,fun h' dd' hs=>⟨.ref s.heap.objs.size,_,?_,rfl,q2⟩⟩
 have hz:(mergeK [] kvs).length≤sizeLine:=by
  have h1:=length_mergeK kvs []
  rw [List.length_nil] at h1
  rw [sizeLine_eq];omega
 have he:∃ q,h'.get? s.heap.objs.size=some q:=let ⟨q,_,_,hq,_⟩:=dd';⟨q,hq⟩
 exact d_write I2 (by rw [e];exact True.intro) hs he (dk_new hz hd (rk.merge .nil) dd')


/-! ### methods -/
structure M1 (X:Cx) (o:Expr) (m:Str) (apos:Pos) (e:Expr) (cpos:Pos):Prop where
 base:attributeBase o m X.env (eval o X.env)=eval o X.env
 few:((backTo cpos (starEach [e] X.env)).all (fun x=>!x.1) && (backToKw cpos (keywordEach [] X.env)).all (fun x=>x.1.isSome)
  && decide (([e]:List Expr).length+([]:List Keyword).length+(if ([]:List Keyword).isEmpty then 0 else 1) < 30))=true
 line:(apos.endLine == cpos.line)=true
 trees:backTo cpos (starEach [e] X.env)=[(false,eval e X.env)]
structure M2 (X:Cx) (o:Expr) (m:Str) (apos:Pos) (e f:Expr) (cpos:Pos):Prop where
 base:attributeBase o m X.env (eval o X.env)=eval o X.env
 few:((backTo cpos (starEach [e,f] X.env)).all (fun x=>!x.1) && (backToKw cpos (keywordEach [] X.env)).all (fun x=>x.1.isSome)
  && decide (([e,f]:List Expr).length+([]:List Keyword).length+(if ([]:List Keyword).isEmpty then 0 else 1) < 30))=true
 line:(apos.endLine == cpos.line)=true
 trees:backTo cpos (starEach [e,f] X.env)=[(false,eval e X.env),(false,eval f X.env)]

def IsD (H:Hp) (a:Addr):Prop:=(∃ kvs,Rd H a (.dK kvs))∨∃ kvs,Rd H a (.dT kvs)
theorem isD_at {X:Cx} {pins:List (Addr × Obj)} {σ:St} {H:Hp} {s:Shared} {a:Addr} (I:Inv X pins σ H s) (d:IsD H a) :
  s.TypeIs (.ref a) "dict"∧(∀ b,Value.ref a=.ref b→∃ ob,s.heap.get? b=some ob∧ob.dict=none)∧(a == sysModules)=false:=by
 rcases d with ⟨kvs,e⟩ | ⟨kvs,e⟩
 ·obtain ⟨_,hd,vs,_,dd⟩:=dk_rd I.hok e
  refine ⟨dd.typeIs,fun b q=>?_,hd⟩
  cases q
  obtain ⟨ob,_,_,h1,h2,_⟩:=dd
  exact ⟨ob,h1,h2.2.1⟩
 ·obtain ⟨_,hd,xs,_,dd⟩:=dt_rd I.hok e
  refine ⟨dd.typeIs,fun b q=>?_,hd⟩
  cases q
  obtain ⟨ob,_,_,h1,h2,_⟩:=dd
  exact ⟨ob,h1,h2.2.1⟩

section
variable {X:Cx} {pins:List (Addr × Obj)} {σ:St} {H:Hp} {s:Shared} {a:Addr} {y d:V} {u r:Value} {o:Option V} {A:Around} {E:Value→Shared→Prop}
theorem d_get2 {Q:Value→Shared→Prop} (hu:A.units+1 < cLine) (I:Inv X pins σ H s) (g:DGet H a y o) (ry:RelV y u) (rd:RelV d r) (h:∀ w' s',Inv X pins σ H s'→RelV (o.getD d) w'→Q w' s') :
  wpAny (model X.prog X.w) A (call (.builtin "dict.get") [.ref a,u,r]) Q E s:=by
 rcases g with ⟨kvs,k,e,ey,l⟩ | ⟨kvs,k,b,e,ey,eb,l⟩
 ·subst ey
  obtain ⟨z,hd,vs,rel,dd⟩:=dk_rd I.hok e
  refine call_meetsIn PySem.F.slot_dict_get dd.typeIs PySem.F.entry_dict_get (PySem.F.args_dict_get_3 _ _ _) (meets_dict_get_default (mixKind X.prog X.w) a (kV_is ry) hd r) ⟨_,dd.mapOf,h _ _ (I.tok _) ?_⟩
  rw [l]
  exact (rel.val k).getD rd
 ·subst ey
  cases (show u=Value.ref b from ry)
  obtain ⟨z,hd,xs,rel,dd⟩:=dt_rd I.hok e
  refine call_meetsIn PySem.F.slot_dict_get dd.typeIs PySem.F.entry_dict_get (PySem.F.args_dict_get_3 _ _ _) (meetsH_dict_get_default (tupleKind (mixKind X.prog X.w)) a b hd r) ⟨tupleKind_room_in1 hu,k,xs,key_of I.hok eb,dd,h _ _ (I.tok _) ?_⟩
  rw [l]
  exact (rel.val k).getD rd
end

def tDGet2 (td ty tx:TE):TE:=fun σ H Q=>td σ H fun x H1=>∃ a,x=.ref a∧IsD H1 a∧ty σ H1 fun y H2=>tx σ H2 fun z H3=>∃ o,DGet H3 a y o∧Q (o.getD z) H3
section
variable {X:Cx} {o e f:Expr} {apos cpos:Pos} {td ty tx:TE}
theorem pe_dget2 (hu:X.A.units+1 < cLine) (ho:PE X o td) (he:PE X e ty) (hf:PE X f tx) (m:M2 X o "get" apos e f cpos):PE X (.Call (.Attribute o "get" apos) [e,f] [] cpos) (tDGet2 td ty tx):=by
 intro pins s σ H Q I h
 refine wpAny_Call_method m.base m.few m.line PySem.F.plainAttrs_dict PySem.F.slot_dict_get PySem.F.type_dict_get (thn (ho pins s σ H _ I h) fun u s1 ⟨x,H1,I1,rx,a,ex,d,q1⟩=>?_)
 subst ex
 obtain rfl:u=Value.ref a:=rx
 obtain ⟨t1,t2,_⟩:=isD_at I1 d
 refine ⟨t1,t2,?_⟩
 rw [m.trees]
 refine Calls.callWith_builtin rfl (Calls.evalArgs_plain (Calls.spliced_cons (thn (he pins s1 σ H1 _ I1 q1) fun iv s2 ⟨y,H2,I2,ry,q2⟩ =>
  Calls.spliced_cons (thn (hf pins s2 σ H2 _ I2 q2) fun fv s3 ⟨z,H3,I3,rz,ov,g,q3⟩=>Calls.spliced_nil ?_))))
 exact d_get2 hu I3 g ry rz fun w' s4 I4 rw'=>⟨_,H3,I4,rw',q3⟩
end

/-! ### dict(d): a copy -/
section
variable {X:Cx} {pins:List (Addr × Obj)} {σ:St} {H:Hp} {s:Shared} {a:Addr} {kvs:List (Key × V)} {A:Around} {E:Value→Shared→Prop}
end


section
variable {X:Cx} {pins:List (Addr × Obj)} {σ:St} {H:Hp} {s:Shared} {a:Addr} {y:V} {u:Value} {A:Around} {E:Value→Shared→Prop}
end
end L2

namespace Att
open PySem PySem.W PySem.Calls PyProof.Rows

/-! ### the script -/
theorem ints_of_wellAll {P:Params} {h:Heap}:∀ (ns:List Int) (vs:List Value),WellAll P h vs (ns.map WData.int)→IntsAre vs ns:=by
 intro ns
 induction ns with
 | nil =>
  intro vs w
  rw [List.map_nil] at w
  cases w
  exact .nil
 | cons n ns ih =>
  intro vs w
  rw [List.map_cons] at w
  cases w with
  | cons a b =>
   cases a
   exact .cons _ _ (ih _ b)

theorem script_of {l:OpenLaw} {n:Nat} (hn:l.most=some n) {P:Params} {h:Heap} {args:List WData} {vals:List Value}
  (hpre:l.row.toRowW.claim.pre args=true) (hwl:WellAll P h vals args) :
  ∃ a vs ns,vals=[Value.ref a]∧args=[WData.list (ns.map WData.int)]∧h.get? a=some { cls:=.type "list",data:=.seq vs.toArray }∧IntsAre vs ns∧ns.length≤n:=by
 have hsh:WShape.hasAll [] args [.list .int]=true:=(pre_splitW hpre).1
 have hc:l.pre.holds [] { args:=args }=true:=(pre_splitW hpre).2
 obtain ⟨d,r,rfl,h1,h2⟩:=hasAllW_cons hsh
 obtain rfl:=hasAllW_nil h2
 obtain ⟨xs,rfl,h3⟩:=hasW_list h1
 obtain ⟨ns,rfl⟩:=items_int h3
 have hlen:ns.length≤n:=by
  unfold OpenLaw.pre at hc
  have h4:(WTm.not (.lt (.lit (.int (n:Int))) (.len (.arg 0)))).holds [] { args:=[.list (ns.map .int)] }=true:=by
   have h4:=(holds_andW hc).1
   rw [hn] at h4
   exact h4
  have h5:=condW_of h4 (w_not (w_lt w_lit (w_len_list (w_arg rfl))))
  rw [List.length_map] at h5
  refine Nat.le_of_not_lt fun q=>?_
  have q':(n:Int) < ((ns.length:Nat):Int):=by omega
  first
   | (rw [decide_eq_true q'] at h5;exact absurd h5 (by decide))
   | (simp at h5;omega)
 cases hwl with
 | cons w1 w2 =>
  cases w2
  cases w1 with
  | list ho hall=>exact ⟨_,_,ns,rfl,rfl,ho,ints_of_wellAll ns _ hall,hlen⟩

theorem post_true (l:OpenLaw) (args:List WData):l.row.toRowW.claim.post args (.bool true) args=true :=
 postW_of (r:=l.row.toRowW) (X:=(true == true))
  (show WShape.has [] (.bool true) .bool=true by first | rfl | decide | simp [WShape.has,WShape.arms,WShape.armsAll])
  (show (WTm.eq .res (.lit (.bool true))).value [] { args:=args,res:=some (.bool true),after:=args }=some (.bool (true == true)) from w_eq_bool (w_res rfl) w_lit) rfl

/-! ### the attachment: holds_open's last premise (the goal 'hc' behind k_head) from a wpAny of the law's body -/
theorem attach_call {l:OpenLaw} {n:Nat} {q:Program} {loose:List Str} {XP:(Str→Option Value)→Heap→Prop} {YP:World→Heap→Prop} {d:DefRec}
  (hn:l.most=some n) (hdf:d.params.defaults=[])
  (call:∀ (w:World) (s₀ s₁:Shared) (mg mb:Str→Option Value) (fa:Addr) (o:Obj) (pm cd doc:Value) (a:Addr) (vs:List Value) (ns:List Int),
   Ground q loose [] XP w s₀ mg mb s₁.heap→YP w s₁.heap →
   s₁.heap.get? fa=some o→o.data=.func (docDef d.name d.params d.body d.scope pm cd doc)→s₁.heap.CodeRec cd d.name→mg d.name=some (.ref fa) →
   s₁.heap.get? a=some { cls:=.type "list",data:=.seq vs.toArray }→IntsAre vs ns→ns.length≤n→s₁.gens=#[] →
   codeAny (model l.prog w) callerA (.call (.ref fa) ⟨[.ref a],[]⟩) (fun r s'=>r=.ok (.ret (.bool true))∧OldK s₁.heap s'.heap∧s'.os=s₁.os∧AllBare s'.gens) s₁) :
  WalkO q loose XP YP l.row.toRowW d [] (fun f vs=>PySem.call f vs):=by
 intro w s₀ s₁ mg mb G Y fa o pm cd doc dV kV ho hd hcd hD hmg hg args vals as hpre hlay hrd hwl hlo
 obtain rfl:dV=.none:=Dflts.none hD hdf
 obtain rfl:kV=.none:=Dflts.noKw hD
 obtain ⟨a,vs,ns,rfl,rfl,hobj,hints,hlen⟩:=script_of hn hpre hwl
 refine enter_call (codeAny_mono (call w s₀ s₁ mg mb fa o pm cd doc a vs ns G Y ho (fd_plain hd) hcd hmg hobj hints hlen hg) fun r s' hq=>?_)
 obtain ⟨rfl,h2,h3,h4⟩:=hq
 exact ⟨.inl ⟨.bool true,.bool true,[],rfl,fun _=>rfl,.bool true,post_true l _,fun _=>⟨List.Pairwise.nil,fun _ hm=>(nomatch hm)⟩⟩,h2,h3,h4⟩

/-! ### rules over ANY heap (no ledger) from facts about the written part K: the library's own take a ledger (News) for what they write -/
section
variable {prog:Program} {w:World} {A:Around} {E:Value→Shared→Prop} {s:Shared} {K:Frag}

/-! the whole heap as the ledger: makes every rule that writes through a ledger a rule over any heap -/
def ledger (h:Heap) (L d:Addr):List (Addr × Obj):=(List.range h.objs.size).filterMap fun a=>if a=L∨a=d then none else (h.get? a).map fun o=>(a,o)
end
end Att

namespace L2
open PySem PySem.Spec PyProof.Rows

theorem vals_ints:∀ {vs:List Value} {ns:List Int},IntsAre vs ns→Vals (ns.map V.int) vs
 | _,_,.nil=>.nil
 | _,_,.cons n t h=>.cons ⟨t,rfl⟩ (vals_ints h)

def Only (H:Hp):Prop:=∀ b,H b=none∨∃ o xs,H b=some (.frz o (.lst xs))

theorem law_call {P:Program} {w:World} {K:PySem.W.Frag} {mg mb:Str→Option Value} {CX:CXT} {k:Nat} {fa a:Addr} {fd:FuncData} {x:Str} {sp:Sp} {s₁:Shared} {vs:List Value} {ns:List Int}
  (KX:K.In s₁.heap) (hns:s₁.heap.Ns mainGlobals mg) (hb:s₁.heap.Ns builtinsNs mb) (hbb:∀ x:Str,x≠"__name__"→mb x=bootBuiltins x) (hlim:s₁.heap.NoLimit) (hg:s₁.gens=#[])
  (ha:s₁.heap.get? a=some { cls:=.type "list",data:=.seq vs.toArray }) (hi:IntsAre vs ns) (hl:ns.length≤sizeLine) (hr:Room k callerA)
  (F:∀ base:Heap,K.In base→base.Ns mainGlobals mg→FnOk P w K mg base CX k fa fd [x] sp) (hbind:∀ (s:Shared) (u:Value),BindsTo s fd ⟨[u],[]⟩ [(x,u)])
  (hsp:∀ H:Hp,Only H→SqL K H a (ns.map V.int)→sp [.ref a] H (fun v _=>v=.bl true) fun _ _ _=>False)
  (hCX:∀ H e s',CX [] H s₁ (fun _ _ _=>False) e s'→False) :
  codeAny (model P w) callerA (.call (.ref fa) ⟨[.ref a],[]⟩) (fun r s'=>r=.ok (.ret (.bool true))∧OldK s₁.heap s'.heap∧s'.os=s₁.os∧AllBare s'.gens) s₁:=by
 have rv:=vals_ints hi
 have lenV:=hi.length
 -- from an abstract heap in which nothing but the script may be tracked
 have core:∀ H:Hp,Only H→SqL K H a (ns.map V.int)→HOk P w H s₁.heap→(∀ b,H b≠none→b=a)→(H a≠none→K.lookup a=none) →
   codeAny (model P w) callerA (.call (.ref fa) ⟨[.ref a],[]⟩) (fun r s'=>r=.ok (.ret (.bool true))∧OldK s₁.heap s'.heap∧s'.os=s₁.os∧AllBare s'.gens) s₁:=by
  intro H hO hS hok hA hK
  have base_of:∀ {b:Addr} {o:Obj},s₁.heap.get? b=some o→H b=none→(hidT s₁.heap H).get? b=some o:=fun e n=>hidT_get e n
  have noA:∀ {b:Addr} {o:Obj} {es:Array DictEntry} {ep:Nat},s₁.heap.get? b=some o→o.data=.dict es ep→H b=none:=fun {b o es ep} e d=>by
   cases q:H b with
   | none=>rfl
   | some u =>
    have e':b=a:=hA b (by rw [q];simp)
    subst e'
    rw [ha] at e;cases e
    have d':Data.seq vs.toArray _=Data.dict es ep:=d
    cases d'
  have nsK:∀ {b:Addr} {m:Str→Option Value},s₁.heap.Ns b m→(hidT s₁.heap H).Ns b m:=fun {b m} ⟨o,es,ep,e,d,r⟩=>⟨o,es,ep,base_of e (noA e d),d,r⟩
  have hKb:K.In (hidT s₁.heap H):=fun b o e=>base_of (KX b o e) (by
   cases q:H b with
   | none=>rfl
   | some u =>
    have e':b=a:=hA b (by rw [q];simp)
    subst e'
    rw [hK (by rw [q];simp)] at e;cases e)
  have hM:Mod K mg (hidT s₁.heap H):=⟨hKb,nsK hns,⟨mb,nsK hb,hbb⟩,let ⟨mc,h1,h2⟩:=hlim;⟨mc,nsK h1,h2⟩⟩
  have e0:Env0 P w K mg (hidT s₁.heap H) callerA [] s₁ H:=⟨rfl,hM,fun b o e=>of_hidT e,Nat.le_of_eq (hidT_size _ _),trivial,fun b hb=>absurd (show b∈([]:List Addr) from hb) (by simp),hok,.of_eq hg⟩
  refine codeAny_mono ((F _ hKb (nsK hns)).run callerA [] s₁ H ⟨[.ref a],[]⟩ [.ref a] [.ref a] _ _ hr e0 (hbind s₁ (.ref a)) (.cons rfl .nil) (hsp H hO hS)) fun r s' h=>?_
  cases r with
  | error e=>exact (hCX H e s' h).elim
  | ok fl =>
   cases fl with
   | next=>exact False.elim h
   | brk=>exact False.elim h
   | cont=>exact False.elim h
   | ret u =>
    obtain ⟨v,H',os,bare,un,hok',r',q⟩:=h
    have q':v=.bl true:=q
    subst q'
    obtain rfl:u=Value.bool true:=r'
    refine ⟨rfl,OldK.of_keep fun b o e=>?_,os,bare⟩
    cases q:H b with
    | none=>exact un.keep b o e q (by intro z;exact absurd (show b∈([]:List Addr) from z) (by simp)) (by simp)
    | some u =>
     rcases hO b with z | ⟨ob,xs,z⟩
     ·rw [q] at z;cases z
     ·have z2:=un.frzs b ob _ z
      obtain ⟨e1,_⟩:=hok b _ z
      obtain ⟨e2,_⟩:=hok' b _ z2
      rw [e] at e1;cases e1
      exact e2
 cases hk:K.lookup a with
 | some o =>
  -- the script is one of the module's own objects
  have e:=KX a o hk
  rw [ha] at e
  cases e
  refine core (fun _=>none) (fun _=>.inl rfl) (.inr ⟨_,vs.toArray,_,hk,rfl,rfl,rfl,by rw [List.size_toArray,lenV];exact hl,by simpa using rv⟩) (fun b u z=>by have z':(none:Option HO)=some u:=z;cases z') (fun b z=>absurd rfl z) fun z=>absurd rfl z
 | none =>
  refine core (fun b=>if b=a then some (.frz { cls:=.type "list",data:=.seq vs.toArray } (.lst (ns.map V.int))) else none) (fun b=>?_) (.inl (.inr ⟨{ cls:=.type "list",data:=.seq vs.toArray },if_pos rfl⟩)) (fun b u z=>?_) (fun b z=>?_) fun _=>hk
  ·by_cases hb:b=a
   ·exact .inr ⟨_,_,if_pos hb⟩
   ·exact .inl (if_neg hb)
  ·by_cases hb:b=a
   ·have z':=(if_pos hb).symm.trans z
    cases z'
    subst hb
    exact ⟨ha,by rw [List.length_map];exact hl,vs,_,rv,ha⟩
   ·have z':=(if_neg hb).symm.trans z
    cases z'
  ·by_cases hb:b=a
   ·exact hb
   ·exact absurd (if_neg hb) z
end L2

namespace L2
open PySem PySem.Spec PyProof.Rows

theorem walk_of {l:PySem.W.OpenLaw} {n k:Nat} {q:Program} {loose:List Str} {XP:(Str→Option Value)→Heap→Prop} {YP:World→Heap→Prop} {d:DefRec} {K:Params→PySem.W.Frag} {CX:World→CXT} {sp:World→Sp} {x:Str}
  (hn:l.most=some n) (hn2:n≤sizeLine) (hdf:d.params.defaults=[]) (hr:Room k callerA)
  (hY:∀ (w:World) (h:Heap),YP w h→(K w.params).In h)
  (F:∀ (w:World) (mg:Str→Option Value) (fa:Addr) (h:Heap),(K w.params).In h→h.Ns mainGlobals mg→mg d.name=some (.ref fa) →
   ∃ fd:FuncData,(∀ (s:Shared) (u:Value),BindsTo s fd ⟨[u],[]⟩ [(x,u)]) ∧
    ∀ base:Heap,(K w.params).In base→base.Ns mainGlobals mg→FnOk l.prog w (K w.params) mg base (CX w) k fa fd [x] (sp w))
  (hsp:∀ (w:World) (H:Hp) (a:Addr) (ns:List Int),ns.length≤n→Only H→SqL (K w.params) H a (ns.map V.int)→sp w [.ref a] H (fun v _=>v=.bl true) fun _ _ _=>False)
  (hCX:∀ (w:World) (H:Hp) (s:Shared) (e:Value) (s':Shared),CX w [] H s (fun _ _ _=>False) e s'→False) :
  PySem.W.WalkO q loose XP YP l.row.toRowW d [] (fun f vs=>PySem.call f vs):=by
 refine Att.attach_call hn hdf fun w s₀ s₁ mg mb fa o pm cd doc a vs ns G Y ho hd hcd hmg hobj hints hlen hg=>?_
 have KX:=hY w _ Y
 obtain ⟨fd,hb,hF⟩:=F w mg fa _ KX G.T.g hmg
 exact law_call KX G.T.g G.T.b G.T.builtins G.T.nolimit hg hobj hints (Nat.le_trans hlen hn2) hr hF hb (fun H hO hS=>hsp w H a ns hlen hO hS) fun H e s'=>hCX w H s₁ e s'
end L2


/-! SHORT WORDS over the layer: a def of the text,its body,what a loop and a test want. -/
namespace L2
open PySem PySem.Spec PyProof.Rows

/-! ### the text by places -/
def defArgs (s:Stmt):Arguments:=match s with
 | .FunctionDef _ a _ _ _ _ _ _ _ _=>a
 | _=>{ posonlyargs:=[],args:=[],vararg:=none,kwonlyargs:=[],kw_defaults:=[],kwarg:=none,defaults:=[] }
def defBody (s:Stmt):List Stmt:=match s with
 | .FunctionDef _ _ b _ _ _ _ _ _ _=>b
 | _=>[]
def defScope (s:Stmt):Scope:=match s with
 | .FunctionDef _ _ _ _ _ _ sc _ _ _=>sc
 | _=>{ kind:=.function,names:=[],isGenerator:=false,isCoroutine:=false }

/-! ### no exception leaves a def -/
abbrev E0:XK:=fun _ _ _=>False
/-! ### a def (or method) of the text as it stands behind the top -/
structure Fun (K:PySem.W.Frag) (x qual:Str) (st:Stmt) (f:Addr) (fd:FuncData):Prop where
 ex:∃ (oc:Value) (od:Option Addr) (kV doc pm:Value) (an:Option Addr) (cdv ct:Value) (osl:Array (Option Value)),
  fd=PySem.W.fnOf x qual (defArgs st) (defBody st) (defScope st) .none kV doc pm an cdv ct∧K.lookup f=some ⟨oc,od,.func fd,osl⟩∧PySem.W.codeIn K cdv qual=true
 kp:PySem.W.keepIn K (.ref f)=true
section
variable {P:Program} {w:World} {K:PySem.W.Frag} {mg:Str→Option Value} {base:Heap}
theorem Fun.binds {x qual:Str} {st:Stmt} {f:Addr} {fd:FuncData} {ps:List Str} (F:Fun K x qual st f fd)
  (h:∀ (kV doc pm:Value) (an:Option Addr) (cdv ct:Value) (us:List Value),us.length=ps.length→bindArgs (PySem.W.fnOf x qual (defArgs st) (defBody st) (defScope st) .none kV doc pm an cdv ct) ⟨us,[]⟩=pure (ps.zip us)):Binds K fd ps []:=by
 obtain ⟨oc,od,kV,doc,pm,an,cdv,ct,osl,rfl,lk,hcd⟩:=F.ex
 exact .all (h kV doc pm an cdv ct)
theorem fun_mk {x qual:Str} {st:Stmt} {f:Addr} {oc:Value} {od an:Option Addr} {osl:Array (Option Value)} {kV doc pm cdv ct:Value} (l:K.lookup f=some ⟨oc,od,.func (PySem.W.fnOf x qual (defArgs st) (defBody st) (defScope st) .none kV doc pm an cdv ct),osl⟩)
  (c:PySem.W.codeIn K cdv qual=true) (k:PySem.W.keepIn K (.ref f)=true):Fun K x qual st f (PySem.W.fnOf x qual (defArgs st) (defBody st) (defScope st) .none kV doc pm an cdv ct):=⟨⟨oc,od,kV,doc,pm,an,cdv,ct,osl,rfl,l,c⟩,k⟩
end
theorem hu_of {A:Around} {k:Nat} (hr:Room k A):A.units+1 < cLine:=Nat.lt_of_le_of_lt (Nat.add_le_add_left (by decide:1≤64) _) hr.units
theorem small1000 {n:Nat} (h:n≤1000):n < sizeLine:=Nat.lt_of_le_of_lt h (by decide)

/-! ### expressions in short: the name that stands in the i-th slot -/
section
variable {X:Cx}
theorem pv (i:Nat) {x:Str} {pos:Pos} (hN:X.N[i]?=some x:=by rfl) (hv:Vis X.env.scope x:=by first | exact Or.inl rfl | exact Or.inr (Or.inl rfl) | exact Or.inr (Or.inr rfl)) (hd:(x == ("__debug__":Str))=false:=by decide)
  (hcd:(x == ("__classdict__":Str))=false:=by decide):PE X (.Name x pos) (tVar i):=pe_var hN hv hd hcd
end

/-! ### tests -/
theorem iteF {A B:Prop} (h:B):if false=true then A else B:=by
 rw [if_neg Bool.false_ne_true]
 exact h
theorem iteT {A B:Prop} (h:A):if true=true then A else B:=by
 rw [if_pos rfl]
 exact h
theorem ite2 {c A B:Prop} [Decidable c] (h1:c→A) (h2:¬ c→B):if c then A else B:=by
 by_cases h:c
 ·rw [if_pos h]
  exact h1 h
 ·rw [if_neg h]
  exact h2 h
/-! ### heaps -/
def Same (H H':Hp):Prop:=∀ b o,H b=some o→H' b=some o
theorem Same.refl (H:Hp):Same H H:=fun _ _ h=>h
theorem Same.trans {H H1 H2:Hp} (a:Same H H1) (b:Same H1 H2):Same H H2:=fun c o h=>b c o (a c o h)
theorem Same.free {H H':Hp} (e:Same H H') {l:Addr} (h:H' l=Option.none):H l=Option.none:=by
 cases q:H l with
 | none=>rfl
 | some o =>
  rw [e l o q] at h
  cases h
theorem Same.seq {K:PySem.W.Frag} {H H':Hp} {a:Addr} {xs:List V} (e:Same H H') (h:SqL K H a xs):SqL K H' a xs:=by
 rcases h with (h | ⟨o,h⟩) | h
 ·exact .inl (.inl (e _ _ h))
 ·exact .inl (.inr ⟨o,e _ _ h⟩)
 ·exact .inr h

/-! ### a dict's pairs: keys that differ -/
section
variable {κ:Type} [DecidableEq κ]
theorem nd_snoc:∀ {l:List κ} {k:κ},l.Nodup→¬ k∈l→(l++[k]).Nodup
 | [],k,_,_=>by simp
 | a::r,k,h,hk=>by
  obtain ⟨h1,h2⟩:=List.nodup_cons.mp h
  show (a::(r++[k])).Nodup
  refine List.nodup_cons.mpr ⟨fun m=>?_,nd_snoc h2 fun m=>hk (List.mem_cons.mpr (Or.inr m))⟩
  rcases List.mem_append.mp m with q | q
  ·exact h1 q
  ·exact hk (List.mem_cons.mpr (Or.inl (List.mem_singleton.mp q).symm))
end
end L2

set_option Elab.async false
set_option linter.all false
set_option maxRecDepth 100000
set_option maxHeartbeats 4000000
namespace Gu
open PySem L2
def top (i:Nat):Stmt:=PySem.Challenge.pw_guisery_k24_camps_told.main.body.getD i (.Pass ⟨0,0,0,0⟩)
abbrev sBreadth:Stmt:=top 6
abbrev sReadF:Stmt:=top 7
abbrev sCheckW:Stmt:=top 9
abbrev sWorn:Stmt:=top 11
abbrev sNumberOf:Stmt:=top 15
abbrev sWordOf:Stmt:=top 16
abbrev sOnFloor:Stmt:=top 17
abbrev sFloor:Stmt:=top 18
abbrev sCamps:Stmt:=top 19
abbrev sLedTo:Stmt:=top 20
abbrev sFloorSize:Stmt:=top 22
abbrev sReadL:Stmt:=top 23
abbrev sFigures:Stmt:=top 24
abbrev sNumberL:Stmt:=top 25
abbrev sTable:Stmt:=top 26
abbrev sCell:Stmt:=top 27
abbrev sLetters:Stmt:=top 28
abbrev sInLine:Stmt:=top 29
abbrev sShrunk:Stmt:=top 30
abbrev sNumbers:Stmt:=top 31
abbrev sRear:Stmt:=top 32
abbrev sRows:Stmt:=top 33
abbrev sGuise:Stmt:=top 34
abbrev sStories:Stmt:=top 35
abbrev sWhole:Stmt:=top 36
abbrev sLike:Stmt:=top 37
abbrev sDueL:Stmt:=top 38
abbrev sTold:Stmt:=top 39
abbrev sLaw:Stmt:=top 40
end Gu

set_option Elab.async false
set_option linter.all false
set_option maxRecDepth 100000
set_option maxHeartbeats 4000000
namespace Gu
open PySem PySem.W PyProof.Rows
/-! ### the opening of a text,run over the tree of its objects -/
section
variable (tb:String→Option Builtin) (p:Program) (w:World) (m:Nat) (an:Option Value)
def topT:Nat→SharedT→Thread→Option SharedT
 | 0,_,_=>none
 | n+1,x,y=>match through y,stepOk m an y with
  | true,_=>some x
  | false,false=>none
  | false,true=>match stepT (denote tb) p w x y with
   | some z=>topT n z.1 z.2
   | none=>none
end
section
variable {tb:String→Option Builtin} {p:Program} {w:World} {m:Nat} {an:Option Value}
theorem topT_of:∀ (n:Nat) (x r:SharedT) (y:Thread),topT tb p w m an n x y=some r→topRun tb p w m an n x.abs y=some r.abs
 | 0,_,_,_,h=>by cases h
 | n+1,x,r,y,h=>by
  unfold topT at h
  unfold topRun
  cases ht:through y<;>cases hk:stepOk m an y<;>rw [ht,hk] at h<;>dsimp only at h ⊢
  ·cases h
  ·cases hs:stepT (denote tb) p w x y with
   | none=>rw [hs] at h;cases h
   | some z =>
    rw [hs] at h
    rw [stepT_spec (s':=z.1) (t':=z.2) hs]
    exact topT_of n _ _ _ h
  ·cases h;rfl
  ·cases h;rfl
end
noncomputable def bootT (P:Params):BT:=(.node (boot_o_0 P) (.node (boot_o_1 P) (.node (boot_o_3 P) (.node (boot_o_7 P) .nil .nil) .nil) (.node (boot_o_5 P) (.node (boot_o_9 P) .nil .nil) .nil)) (.node (boot_o_2 P) (.node (boot_o_4 P) (.node (boot_o_8 P) .nil .nil) .nil) (.node (boot_o_6 P) (.node (boot_o_10 P) .nil .nil) .nil)))
noncomputable def bootS (w:World) (os:OsState):SharedT:=⟨bootT w.params,11,(boot_heap w.params).life,Array.mk [],boot_drawn,boot_toks,os⟩
theorem boot_abs (P:Params):absHeap (bootT P) 11 (boot_heap P).life=boot_heap P:=by kernel_rfl
theorem left_of {p q:Program} {Xt:Shared→Bool} {α:Type} {Yf:Shared→α} {Ya:World→α} {N:Nat} (e:opening p=plainProg p.main.scope.names) (hN:Nat.ble 600 N=true) (f:∀ s,fenceModules? p s=some s)
  (h:∀ w os,(topT treeTable p w 11 (some (.ref 6)) N (bootS w os) (topStub p)).bind (fun r=>match staticsOk (importedModules p.main.body) (bootS w os).abs.heap r.abs.heap && namesBound p r.abs.heap && gensDone r.abs && laidKept (bootS w os).abs.heap r.abs.heap with
   | true=>some (openSeen q [] (importedModules p.main.body) Xt true r.abs,Yf r.abs)
   | false=>none)=some (openGood q [],Ya w)):LeftO p q [] Xt Yf Ya N:=fun w=>by
 obtain ⟨s,hs,hv⟩:=Option.map_eq_some_iff.mp (boot_open e hN f w)
 have es:s=(bootS w s.os).abs:=by
  obtain ⟨h1,g1,d1,t1,o1⟩:=s
  obtain ⟨a,b,c,d⟩:h1=boot_heap w.params∧g1=Array.mk []∧d1=boot_drawn∧t1=boot_toks:=by
   simpa [Prod.ext_iff] using hv
  subst a b c d
  show _=(⟨absHeap (bootT w.params) 11 (boot_heap w.params).life,_,_,_,_⟩:Shared)
  rw [boot_abs]
  rfl
 have k:=h w s.os
 obtain ⟨r,hr,k⟩:=Option.bind_eq_some_iff.mp k
 unfold openEnds
 rw [hs]
 show (topFrom treeTable p w N s).map _=_
 unfold topFrom
 rw [es]
 have z1:((bootS w s.os).abs.heap.isNs mainGlobals && (bootS w s.os).abs.gens.size == 0)=true:=by kernel_rfl
 have z2:(bootS w s.os).abs.heap.objs.size=11:=by kernel_rfl
 have z3:(bootS w s.os).abs.heap.nsMap mainGlobals "__annotations__"=some (.ref 6):=by kernel_rfl
 rw [z1,z2,z3]
 dsimp only
 rw [topT_of _ _ _ _ hr]
 show Option.map _ (match _ with | true=>_ | false=>_)=_
 cases c:staticsOk (importedModules p.main.body) (bootS w s.os).abs.heap r.abs.heap && namesBound p r.abs.heap && gensDone r.abs && laidKept (bootS w s.os).abs.heap r.abs.heap with
 | false=>rw [c] at k;cases k
 | true =>
  rw [c] at k
  exact k
end Gu

set_option Elab.async false
set_option linter.all false
set_option maxRecDepth 100000
namespace Gu
open PySem L2
def kE (P:Params) (x:Str) (t:Tok) (v:Value):DictEntry:={ hash:=PyData.keyHash P x,key:=Value.str x t,val:=v }
def kF (s:Stmt) (x:Str) (kV dc pm:Value) (an:Option Addr) (cd ct:Value):Obj:=⟨.type "function",none,.func (PySem.W.fnOf x x (defArgs s) (defBody s) (defScope s) .none kV dc pm an cd ct),#[]⟩
abbrev vN:Value:=.none
abbrev vR (a:Addr):Value:=.ref a
def kR (P:Params) (x:Str) (t:Tok) (a:Addr):DictEntry:=kE P x t (.ref a)
def kG (s:Stmt) (x m:Str) (t:Tok) (c:Addr):Obj:=kF s x .none .none (.str m t) none (.ref c) .none
def kC (x:Str) (a b c d:Tok) (vs:Array Value):Obj:={ cls:=.type "code",data:=.fields (#[Value.str x a,Value.str x b,Value.str "/claim/cut.py" c]++vs++#[Value.str "/claim/cut.py" d]) }
def kD (x:Str) (a b c d:Tok) (ln ar:Int) (A:Addr) (fl:Int) (B:Addr) (X Y Z:Value) (u:Int):Obj:=kC x a b c d #[.int ln 0,.int ar 0,.int 0 0,.int 0 0,.int 3 0,.ref A,.bool true,.int fl 0,.ref B,.none,X,Y,Z,.int u 0,.int ln 0]
def KH (P:Params):PySem.W.Frag:=(nat_lit 2,{ cls:=Value.none,data:=Data.dict #[] }) ::
 (nat_lit 3,{ cls:=Value.type "dict",data:=Data.dict #[kE P "__name__" 165 (Value.str "law_guisery_k24_camps_told" 364),kE P "__doc__" 166 (Value.none),kE P "__package__" 167 (Value.none),kE P "__loader__" 168 (Value.builtin "__main__.__loader__#opaque"),kE P "__spec__" 169 (Value.none),kR P "__annotations__" 170 6,kR P "__builtins__" 171 4,kE P "__file__" 173 (Value.str "/claim/cut.py" 172),kE P "__cached__" 174 (Value.none),kR P "GuiseError" 206 24,kR P "BadWord" 222 37,kR P "BadCount" 238 49,kR P "TooMany" 254 61,kR P "breadth" 265 70,kR P "read_from" 279 77,kR P "check_word" 287 82,kR P "worn" 299 89,kE P "MOST_WORDS" 303 (Value.int 1024 302),kE P "MOST_LETTERS_TOLD" 305 (Value.int 1000 304),kR P "number_of" 315 96,kR P "word_of" 328 103,kR P "words_on_floor" 338 110,kR P "floor" 344 115,kR P "camps" 350 120,kR P "led_to" 363 127,kR P "_law_floor_size" 375 134,kR P "_law_read" 386 141,kR P "_law_figures" 397 148,kR P "_law_number" 407 155,kR P "_law_table" 419 162,kR P "_law_cell" 427 169,kR P "_law_letters" 435 176,kR P "_law_in_line" 441 181,kR P "_law_shrunk" 447 186,kR P "_law_numbers" 458 193,kR P "_law_rearranged" 470 200,kR P "_law_rows" 476 205,kR P "_law_guise" 484 212,kR P "_law_stories" 491 219,kR P "_law_whole" 498 226,kR P "_law_like" 504 231,kR P "_law_due" 510 236,kR P "_law_told" 519 243,kR P "law" 525 248] 44 }) ::
 (nat_lit 23,{ cls:=Value.type "dict",data:=Data.dict #[kE P "__module__" 196 (Value.str "guisery.errors" 187),kE P "__firstlineno__" 200 (Value.int 2 199),kR P "__static_attributes__" 201 22,kR P "__weakref__" 203 25,kE P "__doc__" 204 (Value.none)] 3 }) ::
 (nat_lit 24,{ cls:=Value.type "type",data:=Data.cls { name:="GuiseError",bases:=[Value.type "ValueError"],mro:=[Value.ref 24,Value.type "ValueError",Value.type "Exception",Value.type "BaseException",Value.type "object"],ns:=23,qualname:="GuiseError",subclasses:=[Value.ref 37,Value.ref 49,Value.ref 61] },slots:=#[some (Value.ref 15),none,some (Value.str "GuiseError" 189),some (Value.str "GuiseError" 197),some (Value.builtin "ValueError.__new__"),some (Value.bool true)] }) ::
 (nat_lit 25,{ cls:=Value.type "getset_descriptor",data:=Data.fields #[Value.str "__weakref__" 202,Value.ref 24,Value.builtin "ExceptionGroup.__weakref__",Value.none] }) ::
 (nat_lit 36,{ cls:=Value.type "dict",data:=Data.dict #[kE P "__module__" 214 (Value.str "guisery.errors" 187),kE P "__firstlineno__" 218 (Value.int 4 217),kR P "__static_attributes__" 219 35,kE P "__doc__" 220 (Value.none)] 2 }) ::
 (nat_lit 37,{ cls:=Value.type "type",data:=Data.cls { name:="BadWord",bases:=[Value.ref 24],mro:=[Value.ref 37,Value.ref 24,Value.type "ValueError",Value.type "Exception",Value.type "BaseException",Value.type "object"],ns:=36,qualname:="BadWord" },slots:=#[some (Value.ref 28),none,some (Value.str "BadWord" 207),some (Value.str "BadWord" 215),some (Value.builtin "ValueError.__new__"),some (Value.bool true)] }) ::
 (nat_lit 48,{ cls:=Value.type "dict",data:=Data.dict #[kE P "__module__" 230 (Value.str "guisery.errors" 187),kE P "__firstlineno__" 234 (Value.int 6 233),kR P "__static_attributes__" 235 47,kE P "__doc__" 236 (Value.none)] 2 }) ::
 (nat_lit 49,{ cls:=Value.type "type",data:=Data.cls { name:="BadCount",bases:=[Value.ref 24],mro:=[Value.ref 49,Value.ref 24,Value.type "ValueError",Value.type "Exception",Value.type "BaseException",Value.type "object"],ns:=48,qualname:="BadCount" },slots:=#[some (Value.ref 40),none,some (Value.str "BadCount" 223),some (Value.str "BadCount" 231),some (Value.builtin "ValueError.__new__"),some (Value.bool true)] }) ::
 (nat_lit 60,{ cls:=Value.type "dict",data:=Data.dict #[kE P "__module__" 246 (Value.str "guisery.errors" 187),kE P "__firstlineno__" 250 (Value.int 8 249),kR P "__static_attributes__" 251 59,kE P "__doc__" 252 (Value.none)] 2 }) ::
 (nat_lit 61,{ cls:=Value.type "type",data:=Data.cls { name:="TooMany",bases:=[Value.ref 24],mro:=[Value.ref 61,Value.ref 24,Value.type "ValueError",Value.type "Exception",Value.type "BaseException",Value.type "object"],ns:=60,qualname:="TooMany" },slots:=#[some (Value.ref 52),none,some (Value.str "TooMany" 239),some (Value.str "TooMany" 247),some (Value.builtin "ValueError.__new__"),some (Value.bool true)] }) ::
 (nat_lit 69,kD "breadth" 257 258 259 264 11 1 64 181 65 (vR 66) (vR 67) (vR 68) 263) ::
 (nat_lit 70,kG sBreadth "breadth" "guisery.machines" 255 69) ::
 (nat_lit 76,kD "read_from" 266 267 268 278 14 3 71 181 72 (vR 73) (vR 74) (vR 75) 277) ::
 (nat_lit 77,kG sReadF "read_from" "guisery.machines" 255 76) ::
 (nat_lit 81,kD "check_word" 282 283 284 286 23 2 78 181 79 vN vN (vR 80) 285) ::
 (nat_lit 82,kG sCheckW "check_word" "guisery.words" 280 81) ::
 (nat_lit 88,kD "worn" 290 291 292 298 27 2 83 181 84 (vR 85) (vR 86) (vR 87) 297) ::
 (nat_lit 89,kG sWorn "worn" "guisery.wearing" 288 88) ::
 (nat_lit 95,kD "number_of" 306 307 308 314 34 2 90 181 91 (vR 92) (vR 93) (vR 94) 313) ::
 (nat_lit 96,kG sNumberOf "number_of" "guisery.floors" 300 95) ::
 (nat_lit 102,kD "word_of" 316 317 318 327 40 3 97 181 98 (vR 99) (vR 100) (vR 101) 326) ::
 (nat_lit 103,kG sWordOf "word_of" "guisery.floors" 300 102) ::
 (nat_lit 109,kD "words_on_floor" 329 330 331 337 51 2 104 181 105 (vR 106) (vR 107) (vR 108) 336) ::
 (nat_lit 110,kG sOnFloor "words_on_floor" "guisery.floors" 300 109) ::
 (nat_lit 114,kD "floor" 339 340 341 343 60 2 111 181 112 vN vN (vR 113) 342) ::
 (nat_lit 115,kG sFloor "floor" "guisery.floors" 300 114) ::
 (nat_lit 119,kD "camps" 345 346 347 349 64 2 116 181 117 vN vN (vR 118) 348) ::
 (nat_lit 120,kG sCamps "camps" "guisery.floors" 300 119) ::
 (nat_lit 126,kD "led_to" 351 352 353 362 75 2 121 181 122 (vR 123) (vR 124) (vR 125) 361) ::
 (nat_lit 127,kG sLedTo "led_to" "guisery.floors" 300 126) ::
 (nat_lit 133,kD "_law_floor_size" 366 367 368 374 88 2 128 181 129 (vR 130) (vR 131) (vR 132) 373) ::
 (nat_lit 134,kG sFloorSize "_law_floor_size" "law_guisery_k24_camps_told" 364 133) ::
 (nat_lit 140,kD "_law_read" 376 377 378 385 93 3 135 181 136 (vR 137) (vR 138) (vR 139) 384) ::
 (nat_lit 141,kG sReadL "_law_read" "law_guisery_k24_camps_told" 364 140) ::
 (nat_lit 147,kD "_law_figures" 387 388 389 396 99 3 142 181 143 (vR 144) (vR 145) (vR 146) 395) ::
 (nat_lit 148,kG sFigures "_law_figures" "law_guisery_k24_camps_told" 364 147) ::
 (nat_lit 154,kD "_law_number" 398 399 400 406 105 2 149 181 150 (vR 151) (vR 152) (vR 153) 405) ::
 (nat_lit 155,kG sNumberL "_law_number" "law_guisery_k24_camps_told" 364 154) ::
 (nat_lit 161,kD "_law_table" 408 409 410 418 110 2 156 181 157 (vR 158) (vR 159) (vR 160) 417) ::
 (nat_lit 162,kG sTable "_law_table" "law_guisery_k24_camps_told" 364 161) ::
 (nat_lit 168,kD "_law_cell" 420 421 422 426 117 2 163 181 164 (vR 165) (vR 166) (vR 167) 425) ::
 (nat_lit 169,kG sCell "_law_cell" "law_guisery_k24_camps_told" 364 168) ::
 (nat_lit 175,kD "_law_letters" 428 429 430 434 123 2 170 181 171 (vR 172) (vR 173) (vR 174) 433) ::
 (nat_lit 176,kG sLetters "_law_letters" "law_guisery_k24_camps_told" 364 175) ::
 (nat_lit 180,kD "_law_in_line" 436 437 438 440 125 3 177 181 178 vN vN (vR 179) 439) ::
 (nat_lit 181,kG sInLine "_law_in_line" "law_guisery_k24_camps_told" 364 180) ::
 (nat_lit 185,kD "_law_shrunk" 442 443 444 446 133 2 182 181 183 vN vN (vR 184) 445) ::
 (nat_lit 186,kG sShrunk "_law_shrunk" "law_guisery_k24_camps_told" 364 185) ::
 (nat_lit 192,kD "_law_numbers" 448 449 450 457 156 2 187 181 188 (vR 189) (vR 190) (vR 191) 456) ::
 (nat_lit 193,kG sNumbers "_law_numbers" "law_guisery_k24_camps_told" 364 192) ::
 (nat_lit 199,kD "_law_rearranged" 459 460 461 469 167 2 194 181 195 (vR 196) (vR 197) (vR 198) 468) ::
 (nat_lit 200,kG sRear "_law_rearranged" "law_guisery_k24_camps_told" 364 199) ::
 (nat_lit 204,kD "_law_rows" 471 472 473 475 175 2 201 181 202 vN vN (vR 203) 474) ::
 (nat_lit 205,kG sRows "_law_rows" "law_guisery_k24_camps_told" 364 204) ::
 (nat_lit 211,kD "_law_guise" 477 478 479 483 194 2 206 181 207 (vR 208) (vR 209) (vR 210) 482) ::
 (nat_lit 212,kG sGuise "_law_guise" "law_guisery_k24_camps_told" 364 211) ::
 (nat_lit 218,kD "_law_stories" 485 486 487 490 196 1 213 181 214 (vR 215) (vR 216) (vR 217) 489) ::
 (nat_lit 219,kG sStories "_law_stories" "law_guisery_k24_camps_told" 364 218) ::
 (nat_lit 225,kD "_law_whole" 492 493 494 497 198 1 220 181 221 (vR 222) (vR 223) (vR 224) 496) ::
 (nat_lit 226,kG sWhole "_law_whole" "law_guisery_k24_camps_told" 364 225) ::
 (nat_lit 230,kD "_law_like" 499 500 501 503 200 2 227 181 228 vN vN (vR 229) 502) ::
 (nat_lit 231,kG sLike "_law_like" "law_guisery_k24_camps_told" 364 230) ::
 (nat_lit 235,kD "_law_due" 505 506 507 509 212 2 232 181 233 vN vN (vR 234) 508) ::
 (nat_lit 236,kG sDueL "_law_due" "law_guisery_k24_camps_told" 364 235) ::
 (nat_lit 242,kD "_law_told" 511 512 513 518 229 2 237 181 238 (vR 239) (vR 240) (vR 241) 517) ::
 (nat_lit 243,kG sTold "_law_told" "law_guisery_k24_camps_told" 364 242) ::
 (nat_lit 247,kD "law" 520 521 522 524 238 1 244 181 245 vN vN (vR 246) 523) ::
 (nat_lit 248,kG sLaw "law" "law_guisery_k24_camps_told" 364 247)::[]
def KA:List Addr:=nat_lit 2::nat_lit 3::nat_lit 23::nat_lit 24::nat_lit 25::nat_lit 36::nat_lit 37::nat_lit 48::nat_lit 49::nat_lit 60::nat_lit 61::nat_lit 69::nat_lit 70::nat_lit 76::nat_lit 77::nat_lit 81::nat_lit 82::nat_lit 88::nat_lit 89::nat_lit 95::nat_lit 96::nat_lit 102::nat_lit 103::nat_lit 109::nat_lit 110::nat_lit 114::nat_lit 115::nat_lit 119::nat_lit 120::nat_lit 126::nat_lit 127::nat_lit 133::nat_lit 134::nat_lit 140::nat_lit 141::nat_lit 147::nat_lit 148::nat_lit 154::nat_lit 155::nat_lit 161::nat_lit 162::nat_lit 168::nat_lit 169::nat_lit 175::nat_lit 176::nat_lit 180::nat_lit 181::nat_lit 185::nat_lit 186::nat_lit 192::nat_lit 193::nat_lit 199::nat_lit 200::nat_lit 204::nat_lit 205::nat_lit 211::nat_lit 212::nat_lit 218::nat_lit 219::nat_lit 225::nat_lit 226::nat_lit 230::nat_lit 231::nat_lit 235::nat_lit 236::nat_lit 242::nat_lit 243::nat_lit 247::nat_lit 248::[]
end Gu

set_option Elab.async false
set_option linter.all false
set_option maxRecDepth 100000
set_option maxHeartbeats 4000000
lay_quick PySem.Challenge.pw_guisery_k24_camps_told
namespace Gu
open PySem PySem.W PyProof.Rows PySem.W.Fast
noncomputable abbrev pY:Program:=PySem.Challenge.pw_guisery_k24_camps_told
noncomputable abbrev pQ:Program:=tw2299443241592995091
noncomputable abbrev rY:OpenRow:=PySem.Challenge.rw_guisery_k24_camps_told.row
noncomputable def viewOf (p:Program):Program:={ p with main:={ p.main with body:=[1,2,3,4,6,7,9,11,13,14,15,16,17,18,19,20,22,23,24,25,26,27,28,29,30,31,32,33,34,35,36,37,38,39,40].map fun i=>p.main.body.getD i (.Pass ⟨0,0,0,0⟩) } }
noncomputable abbrev HK:Hook:=PySem.W.kHook Gu.KH Gu.KA (fun _=>by kernel_rfl)
theorem pqe:pY=pQ:=te2299443241592995091
set_option maxHeartbeats 0 in
theorem leftq:∀ w os,(topT tw14364793385576792824 pQ w 11 (some (.ref 6)) 3674 (bootS w os) (topStub pQ)).bind (fun r=>match staticsOk (tw5923862056798008813 pQ.main.body) (bootS w os).abs.heap r.abs.heap && namesBound pQ r.abs.heap && gensDone r.abs && laidKept (bootS w os).abs.heap r.abs.heap with
 | true=>some (tw4187177175401517315 (viewOf pQ) [] (tw5923862056798008813 pQ.main.body) (fun s=>xlAt (viewOf pQ) [] s && recOk [] s) true r.abs,HK.obs r.abs)
 | false=>none)=some (openGood (viewOf pQ) [],HK.val w):=fun w os=>by kernel_rfl
theorem left:LeftO rY.prog (viewOf pY) [] (fun s=>xlAt (viewOf pY) [] s && recOk (RowW.records rY.toRowW) s) HK.obs HK.val 3674:=by
 have h:=leftq
 rw [←te14364793385576792824,←te4187177175401517315,←te5923862056798008813,←pqe] at h
 exact left_of (by kernel_rfl) (by rfl) (fun _=>rfl) h
end Gu

set_option Elab.async false
set_option linter.all false
set_option maxRecDepth 100000
set_option maxHeartbeats 4000000
namespace L2
open PySem PySem.Spec PyProof.Rows

/-! ### comprehensions -/
def closeL (cells:List (Str × Addr)):List (Str × NameKind)→List (Str × Addr)→List (Str × Addr)
 | [],cs=>cs
 | (n,k)::r,cs=>closeL cells r (if k=.free then (n,(cells.lookup n).getD 0)::cs else cs)
theorem closeL_in {cells:List (Str × Addr)}:∀ (l:List (Str × NameKind)) (cs:List (Str × Addr)) (x:Str),(∀ y,(y,NameKind.free)∈l→∃ c,cells.lookup y=some c)→((x,NameKind.free)∈l∨cs.lookup x=cells.lookup x)→(closeL cells l cs).lookup x=cells.lookup x
 | [],cs,x,_,h=>by
  rcases h with h | h
  ·cases h
  ·exact h
 | (n,k)::r,cs,x,hc,h=>by
  refine closeL_in r _ x (fun y hy=>hc y (List.mem_cons_of_mem _ hy)) ?_
  by_cases hk:k=.free
  ·subst hk
   rw [if_pos rfl]
   by_cases e:x=n
   ·subst e
    obtain ⟨c,hcx⟩:=hc x List.mem_cons_self
    right
    rw [List.lookup_cons,hcx]
    simp
   ·rcases h with h | h
    ·rcases List.mem_cons.mp h with h | h
     ·exact absurd (congrArg Prod.fst h) e
     ·exact .inl h
    ·right
     have:(x == n)=false:=by simpa using e
     rw [List.lookup_cons,this]
     exact h
  ·rw [if_neg hk]
   rcases h with h | h
   ·rcases List.mem_cons.mp h with h | h
    ·exact absurd (congrArg Prod.snd h).symm hk
    ·exact .inl h
   ·exact .inr h
theorem closeL_out {cells:List (Str × Addr)}:∀ (l:List (Str × NameKind)) (cs:List (Str × Addr)) (x:Str),(x,NameKind.free)∉l→(closeL cells l cs).lookup x=cs.lookup x
 | [],cs,x,_=>rfl
 | (n,k)::r,cs,x,h=>by
  refine (closeL_out r _ x (fun hy=>h (List.mem_cons_of_mem _ hy))).trans ?_
  by_cases hk:k=.free
  ·subst hk
   rw [if_pos rfl]
   have e:x≠n:=fun e=>h (by subst e;exact List.mem_cons_self)
   have:(x == n)=false:=by simpa using e
   rw [List.lookup_cons,this]
  ·rw [if_neg hk]
theorem closureFor_run {scope:Scope} {env:Env} (h:∀ y,(y,NameKind.free)∈scope.names→∃ c,env.cells.lookup y=some c):closureFor scope env=pure (closeL env.cells scope.names []):=by
 have key:∀ (l:List (Str × NameKind)) (cs:List (Str × Addr)),(∀ y,(y,NameKind.free)∈l→∃ c,env.cells.lookup y=some c) →
   (forIn l cs (fun (x:Str × NameKind) (r:List (Str × Addr))=>if (x.2 == NameKind.free)=true then (do let c ←cellOf env x.1;pure (ForInStep.yield ((x.1,c)::r)):Sem _) else pure (ForInStep.yield r)):Sem (List (Str × Addr)))=pure (closeL env.cells l cs):=by
  intro l
  induction l with
  | nil=>intro cs _;rfl
  | cons x r ih =>
   intro cs hc
   obtain ⟨n,k⟩:=x
   rw [List.forIn_cons]
   by_cases hk:k=.free
   ·subst hk
    obtain ⟨c,e⟩:=hc n List.mem_cons_self
    have e1:cellOf env n=pure c:=by unfold cellOf;rw [e]
    have e2:closeL env.cells ((n,NameKind.free)::r) cs=closeL env.cells r ((n,c)::cs):=by
     show closeL env.cells r (if NameKind.free=NameKind.free then (n,(env.cells.lookup n).getD 0)::cs else cs)=_
     rw [if_pos rfl,e]
     all_goals rfl
    rw [e2,←ih _ (fun y hy=>hc y (List.mem_cons_of_mem _ hy))]
    simp only [beq_self_eq_true,if_true,e1]
    rfl
   ·have hb:(k == NameKind.free)=false:=by simpa using hk
    have e2:closeL env.cells ((n,k)::r) cs=closeL env.cells r cs:=by
     show closeL env.cells r (if k=NameKind.free then _ else cs)=_
     rw [if_neg hk]
    rw [e2,←ih _ (fun y hy=>hc y (List.mem_cons_of_mem _ hy))]
    simp only [hb,Bool.false_eq_true,if_false]
    rfl
 have:=key scope.names [] h
 unfold closureFor
 simp only [] at this ⊢
 exact (congrArg (fun m=>m >>= pure) this).trans rfl
end L2

set_option Elab.async false
set_option linter.all false
set_option maxRecDepth 100000
set_option maxHeartbeats 4000000
namespace L2
open PySem PySem.Spec PyProof.Rows

def noE:Value→Shared→Prop:=fun _ _=>False
section
variable {prog:Program} {w:World} {A:Around} {R:Result→Shared→Prop} {s:Shared}
theorem comp_turns {elt tg iter:Expr} {scope:Scope} {pos:Pos} {it acc:Value} {env:Env} (I:Nat→Shared→Prop)
  (turn:∀ n s,I n s→wpAny (model prog w) A (pyNext it) (fun r s1=>match r with
   | none=>R (.ok .next) s1
   | some v=>wpAny (model prog w) A (letOwnedTupleGo tg it v) (fun _ s2=>wpAny (model prog w) A (assign tg env v) (fun _ s3=>wpAny (model prog w) A (eval elt env) (fun x s4 =>
     wpAny (model prog w) A (call (.builtin "list.append") [acc,x]) (fun _ s5=>∃ m,m < n∧I m s5) noE s4) noE s3) noE s2) noE s1) noE s)
  (n:Nat) (h:I n s):codeAny (model prog w) A (.compLoop (.ListComp elt [⟨tg,iter,[],0⟩] scope pos) 0 it acc env) R s:=by
 have no:∀ (P:Value→Shared→Prop) (a:Value) (b:Shared),noE a b→P a b:=fun _ _ _ z=>False.elim z
 refine codeAny_loop rfl I (fun n s hI=>?_) n h
 show wpAny _ _ ((compTurn (.ListComp elt [⟨tg,iter,[],0⟩] scope pos) 0 it acc env).onRaise
  (fun x=>do noteFrame x env;theTreesLotGoes x)) _ _ s
 refine wpAny_noted ?_
 rw [compTurn_list1]
 refine wpAny_bind (wpAny_standAt (wpAny_bind (wpAny_mono (turn n s hI) (fun r s1 h1=>?_) (no _))))
 cases r with
 | none=>exact wpAny_pure h1
 | some v =>
  refine wpAny_bind (wpAny_mono h1 (fun _ s2 h2=>?_) (no _))
  refine wpAny_bind (wpAny_mono h2 (fun _ s3 h3=>?_) (no _))
  refine wpAny_bind (wpAny_bind (wpAny_mono h3 (fun x s4 h4=>?_) (no _)))
  exact wpAny_bind (wpAny_mono h4 (fun _ s5 h5=>wpAny_pure (wpAny_pure ⟨rfl,h5⟩)) (no _))
end

def relF (env:Env) (p:Str × NameKind):Str × NameKind:=if (p.2 == NameKind.free && env.scope.kind == .function && env.kindOf p.1 == some .cell)=true then (p.1,NameKind.cell) else p
theorem relF_pos {env:Env} {p:Str × NameKind} (h:(p.2 == NameKind.free && env.scope.kind == .function && env.kindOf p.1 == some .cell)=true):relF env p=(p.1,NameKind.cell):=if_pos h
theorem relF_neg {env:Env} {p:Str × NameKind} (h:¬ (p.2 == NameKind.free && env.scope.kind == .function && env.kindOf p.1 == some .cell)=true):relF env p=p:=if_neg h
theorem relabel_free {env:Env} {x:Str}:∀ {l:List (Str × NameKind)},l.lookup x=some .free→(l.map (relF env)).lookup x=some .cell∨(l.map (relF env)).lookup x=some .free
 | [],h=>by simp at h
 | (n,k)::r,h=>by
  rw [List.map_cons]
  by_cases hc:(k == NameKind.free && env.scope.kind == .function && env.kindOf n == some .cell)=true
  ·rw [relF_pos (p:=(n,k)) hc]
   cases hx:x == n with
   | true=>left;rw [List.lookup_cons,hx]
   | false =>
    rw [List.lookup_cons,hx] at h
    rw [List.lookup_cons,hx]
    exact relabel_free h
  ·rw [relF_neg (p:=(n,k)) hc]
   cases hx:x == n with
   | true=>right;rw [List.lookup_cons,hx] at h;rw [List.lookup_cons,hx];exact h
   | false =>
    rw [List.lookup_cons,hx] at h
    rw [List.lookup_cons,hx]
    exact relabel_free h
theorem relabel_only {env:Env} {x:Str} {kd:NameKind} (hkd:kd=.cell∨kd=.free):∀ {l:List (Str × NameKind)},(∀ y∈l,y.2≠.cell)→(l.map (relF env)).lookup x=some kd→(x,NameKind.free)∈l
 | [],_,h=>by simp at h
 | (n,k)::r,hn,h=>by
  rw [List.map_cons] at h
  have hk:k≠.cell:=hn (n,k) List.mem_cons_self
  have up:(r.map (relF env)).lookup x=some kd→(x,NameKind.free)∈(n,k)::r:=fun h2=>List.mem_cons_of_mem _ (relabel_only hkd (fun y hy=>hn y (List.mem_cons_of_mem _ hy)) h2)
  by_cases hc:(k == NameKind.free && env.scope.kind == .function && env.kindOf n == some .cell)=true
  ·rw [relF_pos (p:=(n,k)) hc] at h
   cases hx:x == n with
   | true =>
    have hxn:x=n:=by simpa using hx
    subst hxn
    have z:=hc
    simp only [Bool.and_eq_true,beq_iff_eq] at z
    rw [z.1.1]
    exact List.mem_cons_self
   | false=>rw [List.lookup_cons,hx] at h;exact up h
  ·rw [relF_neg (p:=(n,k)) hc] at h
   cases hx:x == n with
   | true =>
    have hxn:x=n:=by simpa using hx
    subst hxn
    rw [List.lookup_cons,hx] at h
    have e:k=kd:=Option.some.inj h
    rcases hkd with z | z
    ·exact absurd (e.trans z) hk
    ·rw [e,z];exact List.mem_cons_self
   | false=>rw [List.lookup_cons,hx] at h;exact up h

def cxComp (X:Cx) (N:List Str) (scope:Scope) (cl:List (Str × Addr)) (C:Addr) (ex:List Addr) (s:Shared) (H:Hp):Cx where
 prog:=X.prog
 w:=X.w
 K:=X.K
 mg:=X.mg
 base:=X.base
 A:=X.A
 N:=N
 s₀:=s
 H₀:=H
 env:=compEnvC scope cl C X.env
 outer:=X.stack
 stack:=X.stack
 ex:=ex
 fn:=fun _=>false
 calm:=X.calm
 pn:=[]
 xe:=noE
structure CompS (XN:List Str) (xsc:Scope) (N:List Str) (ix:List (Option Nat)) (scope:Scope):Prop where
 kind:scope.kind=.function
 nocell:∀ y∈scope.names,y.2≠.cell
 names:∀ y∈scope.names,y.2=.local→scope.names.lookup y.1=some .local
 frees:∀ y∈scope.names,y.2=.free→xsc.names.lookup y.1=some .cell∨xsc.names.lookup y.1=some .free
 len:ix.length=N.length
 has:((ix.zip N).all fun p=>match p.1 with | none=>true | some j=>XN[j]? == some p.2 && scope.names.lookup p.2 == some .free)=true
 nd:N.Nodup
def compSt (ix:List (Option Nat)) (σ:St):St:=ix.map fun o=>o.bind fun j=>(σ[j]?).join
theorem CompS.at_ {XN:List Str} {xsc:Scope} {N:List Str} {ix:List (Option Nat)} {scope:Scope} (S:CompS XN xsc N ix scope) {i:Nat} {x:Str} {v:V} {σ:St} (hi:N[i]?=some x) (hv:(compSt ix σ)[i]?=some (some v)) :
  ∃ j:Nat,XN[j]?=some x∧scope.names.lookup x=some .free∧σ[j]?=some (some v):=by
 unfold compSt at hv
 rw [List.getElem?_map] at hv
 cases e:ix[i]? with
 | none=>rw [e] at hv;cases hv
 | some o =>
  rw [e] at hv
  cases o with
  | none=>cases hv
  | some j =>
   have hv':(σ[j]?).join=some v:=Option.some.inj hv
   have hm:((some j:Option Nat),x)∈ix.zip N:=by
    have:(ix.zip N)[i]?=some (some j,x):=by rw [List.getElem?_zip_eq_some];exact ⟨e,hi⟩
    exact List.mem_of_getElem? this
   have q:=List.all_eq_true.mp S.has _ hm
   simp only [Bool.and_eq_true,beq_iff_eq] at q
   refine ⟨j,q.1,q.2,?_⟩
   cases z:σ[j]? with
   | none=>rw [z] at hv';cases hv'
   | some u=>rw [z] at hv';exact congrArg some hv'

section
variable {X:Cx} {pins:List (Addr × Obj)} {σ:St} {H:Hp} {s s1:Shared} {N:List Str} {ix:List (Option Nat)} {scope:Scope} {fp:List Addr} {C:Addr}
theorem comp_cells (I:Inv X pins σ H s) (S:CompS X.N X.env.scope N ix scope):∀ y,(y,NameKind.free)∈scope.names→∃ c,X.env.cells.lookup y=some c:=fun y hy=>I.ok.has y (S.frees _ hy rfl)
theorem comp_look (I:Inv X pins σ H s) (S:CompS X.N X.env.scope N ix scope) {x:Str} {c:Addr} (h:(closeL X.env.cells scope.names []).lookup x=some c):X.env.cells.lookup x=some c:=by
 by_cases hm:(x,NameKind.free)∈scope.names
 ·rw [←closeL_in scope.names [] x (comp_cells I S) (.inl hm)];exact h
 ·rw [closeL_out scope.names [] x hm] at h;cases h
theorem comp_inv (I:Inv X pins σ H s) (S:CompS X.N X.env.scope N ix scope) (hC:C=s.heap.objs.size) (hf:∀ b∈fp,FpOk X pins H b) (hfl:∀ b∈fp,b < s.heap.objs.size) {h1:Heap} {m:Str→Option Value} {tk:Nat} (hn:h1.Ns C m)
  (hk:∀ b o,s.heap.get? b=some o→h1.get? b=some o) :
  Inv (cxComp X N scope (closeL X.env.cells scope.names []) C fp s H) [] (compSt ix σ) H { s with heap:=h1,toks:=tk }:=by
 have hne:∀ {b:Addr} {o:Obj},X.base.get? b=some o→b∉fp:=fun {b o} e hb=>by
  obtain ⟨_,_,_,hx,_⟩:=hf b hb
  rcases hx with hx | hx
  ·exact I.ok.noex b o e hx
  ·exact absurd (Nat.lt_of_lt_of_le (Heap.lt_size (I.ok.bs b o e).1) hx) (Nat.lt_irrefl _)
 refine ⟨⟨I.ok.mod,S.kind,I.ok.glob,I.ok.blt,Nat.le_of_eq hC.symm,?_,?_,?_,I.ok.hd,I.ok.frames,.inl rfl,?_,I.bs,Nat.le_trans I.ok.bsz I.sz,fun b o e=>hne e,?_,I.stack,I.stkFree⟩,
  rfl,I.bare,Un.kept hk,⟨m,hn,?_⟩,?_,I.hok.fresh (Nat.le_of_eq hC.symm),?_,fun p hp=>absurd (show p∈([]:List (Addr × Obj)) from hp) (by simp),I.hok.kept hk,?_⟩
 ·intro x y c h1 h2
  exact I.ok.inj x y c (comp_look I S h1) (comp_look I S h2)
 ·intro x hx
  have hm:(x,NameKind.free)∈scope.names:=by
   rcases hx with hx | hx
   ·exact relabel_only (.inl rfl) S.nocell hx
   ·exact relabel_only (.inr rfl) S.nocell hx
  obtain ⟨c,e⟩:=comp_cells I S x hm
  exact ⟨c,(closeL_in scope.names [] x (comp_cells I S) (.inl hm)).trans e⟩
 ·intro x c hx;cases hx
 ·intro b hb
  obtain ⟨_,_,_,_,f4,_⟩:=hf b hb
  refine ⟨fun e=>?_,fun x c e=>f4 x c (comp_look I S e)⟩
  have z:=hfl b hb
  have e':b=C:=e
  rw [e',hC] at z
  exact Nat.lt_irrefl _ z
 ·intro b hb hb2
  obtain ⟨_,f1,f2,_⟩:=hf b hb
  exact (List.mem_cons.mp (I.stkSub b hb2)).elim f1 f2
 ·intro i x v e1 e2 e3
  obtain ⟨j,g1,g2,g3⟩:=S.at_ e1 e2
  have hm:(x,NameKind.free)∈scope.names:=PySem.mem_of_lookup g2
  have hk2:=S.frees _ hm rfl
  obtain ⟨m0,hn0,hl0⟩:=id I.loc
  obtain ⟨u,r,l⟩:=hl0 j x v g1 g3 (hk2.elim (fun z=>.inr (.inl z)) (fun z=>.inr (.inr z)))
  refine ⟨u,r,.inr ⟨relabel_free g2,?_⟩⟩
  rcases l with ⟨k,_⟩ | ⟨k,c,e,z⟩
  ·have k':X.env.scope.names.lookup x=some .local:=k
   rcases hk2 with z | z<;>(rw [k'] at z;cases z)
  ·refine ⟨c,(closeL_in scope.names [] x (comp_cells I S) (.inl hm)).trans e,?_⟩
   obtain ⟨o,ho,hd⟩:=z
   exact ⟨o,hk _ _ ho,hd⟩
 ·intro x c e
  obtain ⟨v,o,ho,hd⟩:=I.cell x c (comp_look I S e)
  exact ⟨v,o,hk _ _ ho,hd⟩
 ·intro x c e
  exact I.freeC x c (comp_look I S e)
 ·unfold compSt
  rw [List.length_map]
  exact S.len
end
end L2

set_option Elab.async false
set_option linter.all false
set_option maxRecDepth 100000
set_option maxHeartbeats 4000000
namespace L2
open PySem PySem.Spec PyProof.Rows

def compW (ix:List (Option Nat)) (J:It) (g:TG) (te:TE) (σ:St) (l:Addr) (H0:Hp) (Qe:Hp→Prop):Prop :=
 ∃ W:Nat→Nat→List V→Hp→Prop,(∃ m,W 0 m [] H0)∧∀ i m ys H,W i m ys H→H l=some (.lst ys) →
  (J.stop i H∧Qe H)∨(J.go i H∧ys.length < sizeLine∧∃ N:List V→Hp→Prop,(∀ zs H',N zs H'→∃ m',m' < m∧W (i+1) m' zs H')∧∀ x H',J.yld i H x H'→g x (compSt ix σ) H' fun σ2 H2=>te σ2 H2 fun v H3 =>
   H3 l=some (.lst ys)∧N (ys++[v]) (upd H3 l (.lst (ys++[v]))))
def tComp (ix:List (Option Nat)) (wi:TI) (g:TG) (te:TE):TE:=fun σ H Q=>wi σ H fun J H1=>∀ l,H1 l=none→compW ix J g te σ l (upd H1 l (.lst [])) fun H'=>Q (.ref l) H'

section
variable {X:Cx} {pins:List (Addr × Obj)} {σ:St} {H:Hp} {s:Shared} {N:List Str} {ix:List (Option Nat)} {scope:Scope} {elt iter tg:Expr} {pos:Pos} {g:TG} {te:TE} {E:Value→Shared→Prop}
theorem comp_again {C:Addr} {fp:List Addr} {pins':List (Addr × Obj)} {σ':St} {Hc:Hp} {s':Shared} (I:Inv X pins σ H s) (S:CompS X.N X.env.scope N ix scope)
  (J:Inv (cxComp X N scope (closeL X.env.cells scope.names []) C fp s H) pins' σ' Hc s'):Inv (cxComp X N scope (closeL X.env.cells scope.names []) C fp s H) [] (compSt ix σ) Hc s':=by
 obtain ⟨m,hn,_⟩:=J.loc
 refine ⟨J.ok,J.os,J.bare,J.base,⟨m,hn,?_⟩,J.cell,J.free,J.freeC,fun p hp=>absurd (show p∈([]:List (Addr × Obj)) from hp) (by simp),J.hok,?_⟩
 ·intro i x v e1 e2 e3
  obtain ⟨j,g1,g2,g3⟩:=S.at_ e1 e2
  have hm:(x,NameKind.free)∈scope.names:=PySem.mem_of_lookup g2
  have hk2:=S.frees _ hm rfl
  obtain ⟨m0,hn0,hl0⟩:=id I.loc
  obtain ⟨u,r,l⟩:=hl0 j x v g1 g3 (hk2.elim (fun z=>.inr (.inl z)) (fun z=>.inr (.inr z)))
  refine ⟨u,r,.inr ⟨relabel_free g2,?_⟩⟩
  rcases l with ⟨k,_⟩ | ⟨k,c,e,z⟩
  ·have k':X.env.scope.names.lookup x=some .local:=k
   rcases hk2 with z | z<;>(rw [k'] at z;cases z)
  ·have ec:(closeL X.env.cells scope.names []).lookup x=some c:=(closeL_in scope.names [] x (comp_cells I S) (.inl hm)).trans e
   refine ⟨c,ec,?_⟩
   obtain ⟨o,ho,hd⟩:=z
   obtain ⟨sl,q⟩:=J.base.any ho (I.freeC x c e) (fun hx=>(J.ok.exf c hx).2 x c ec rfl)
   exact ⟨_,q,hd⟩
 ·unfold compSt
  rw [List.length_map]
  exact S.len
theorem comp_block {it:Addr} {fp:List Addr} {tn:Nat→Heap→Prop} {J:It} {Qe:Addr→Hp→Prop} {RR:Value→Addr→Result→Shared→Prop} (hc:X.calm=true) (S:CompS X.N X.env.scope N ix scope)
  (hg:∀ cl C ex s H,PG (cxComp X N scope cl C ex s H) tg g) (he:∀ cl C ex s H,PE (cxComp X N scope cl C ex s H) elt te)
  (I:Inv X pins σ H s) (T:Turn X.prog X.w X.K tg J fp it tn) (st:tn 0 s.heap) (hf:∀ b∈fp,FpOk X pins H b)
  (hw:∀ l,H l=none→compW ix J g te σ l (upd H l (.lst [])) (Qe l))
  (hRR:∀ l C s' H' m,s'.heap.Ns C m→Inv X pins σ H' s'→FpOk X pins H' C→Qe l H'→RR (.ref l) C (.ok .next) s') :
  wpAny (model X.prog X.w) X.A (newList []) (fun acc s3=>wpAny (model X.prog X.w) X.A (newFunctionEnv scope X.env.globals (closeL X.env.cells scope.names []) [] X.env.qual none .none (some X.env)) (fun cenv s4 =>
   codeAny (model X.prog X.w) X.A (.compStart (.ListComp elt [⟨tg,iter,[],0⟩] scope pos) 0 (.ref it) acc { cenv with scope:=relabel scope X.env }) (RR acc cenv.locals) s4) E s3) E s:=by
 have hlt:∀ b∈fp,b < s.heap.objs.size:=fun b hb=>by
  obtain ⟨o,e,_⟩:=T.obj 0 s.heap st b hb
  exact Heap.lt_size e
 have hl0:H s.heap.objs.size=none:=I.fresh
 obtain ⟨W,⟨m0,w0⟩,turn⟩:=hw s.heap.objs.size hl0
 refine wpAny_newObj_type ?_
 generalize hs3:({ s with heap:=s.heap.push { cls:=.type "list",dict:=none,data:=.seq ([]:List Value).toArray } }:Shared)=s3
 have I3:Inv X pins σ (upd H s.heap.objs.size (.lst [])) s3:=by
  rw [←hs3]
  exact I.lnew (its:=[]) (t':=s.toks) .nil (Nat.zero_le _)
 have k3:∀ b o,s.heap.get? b=some o→s3.heap.get? b=some o:=fun b o e=>by
  rw [←hs3];exact Heap.get?_push_of_some _ e
 have sz3:s3.heap.objs.size=s.heap.objs.size+1:=by rw [←hs3];exact Heap.size_push ..
 have lnfp:s.heap.objs.size∉fp:=fun hb=>Nat.lt_irrefl _ (hlt _ hb)
 have st3:tn 0 s3.heap:=T.keep 0 _ _ st fun b _ o e=>k3 b o e
 have hf3:∀ b∈fp,FpOk X pins (upd H s.heap.objs.size (.lst [])) b:=fun b hb=>by
  obtain ⟨f0,f⟩:=hf b hb
  have nb:b≠s.heap.objs.size:=fun e=>lnfp (by rw [←e];exact hb)
  exact ⟨by rw [upd_ne nb];exact f0,f⟩
 have hlt3:∀ b∈fp,b < s3.heap.objs.size:=fun b hb=>by rw [sz3];exact Nat.lt_succ_of_lt (hlt b hb)
 clear hs3
 refine wpAny_newFunctionEnv S.nocell (by intro y hy;simp at hy) (fun h1 hn1 hb1=>?_) S.kind
 have hk1:∀ b o,s3.heap.get? b=some o→h1.get? b=some o:=fun b o e =>
  (hb1.2 b (Nat.ne_of_lt (Heap.lt_size e))).trans (Heap.get?_push_of_some _ e)
 have J0:Inv (cxComp X N scope (closeL X.env.cells scope.names []) s3.heap.objs.size fp s3 (upd H s.heap.objs.size (.lst []))) [] (compSt ix σ) (upd H s.heap.objs.size (.lst [])) { s3 with heap:=h1,toks:=s3.toks+([]:List (Str × Value)).length } :=
  comp_inv I3 S rfl hf3 hlt3 hn1 hk1
 have st1:tn 0 h1:=T.keep 0 _ _ st3 fun b _ o e=>hk1 b o e
 have fpY:∀ {Hc:Hp},(∀ b∈fp,Hc b=none)→∀ b∈fp,FpOk (cxComp X N scope (closeL X.env.cells scope.names []) s3.heap.objs.size fp s3 (upd H s.heap.objs.size (.lst []))) [] Hc b:=fun {Hc} hn b hb=>by
  obtain ⟨_,f1,f2,_,f4,_⟩:=hf3 b hb
  refine ⟨hn b hb,Nat.ne_of_lt (hlt3 b hb),fun hb2=>(List.mem_cons.mp (I3.stkSub b hb2)).elim f1 f2,.inl hb,fun x c e=>f4 x c (comp_look I3 S e),fun p hp=>absurd (show p∈([]:List (Addr × Obj)) from hp) (by simp)⟩
 have loop:∀ s4:Shared,s4=({ s3 with heap:=h1,toks:=s3.toks+([]:List (Str × Value)).length }:Shared)→codeAny (model X.prog X.w) X.A (.compLoop (.ListComp elt [⟨tg,iter,[],0⟩] scope pos) 0 (.ref it) (.ref s.heap.objs.size)
   (compEnvC scope (closeL X.env.cells scope.names []) s3.heap.objs.size X.env)) (RR (.ref s.heap.objs.size) s3.heap.objs.size) s4:=by
  intro s4 hs4
  subst hs4
  refine comp_turns (fun n s'=>∃ i ys Hc,Inv (cxComp X N scope (closeL X.env.cells scope.names []) s3.heap.objs.size fp s3 (upd H s.heap.objs.size (.lst []))) [] (compSt ix σ) Hc s'∧tn i s'.heap∧(∀ b∈fp,Hc b=none)∧Hc s.heap.objs.size=some (.lst ys)∧W i n ys Hc) ?_ m0 ⟨0,[],_,J0,st1,fun b hb=>(hf3 b hb).1,upd_same,w0⟩
  rintro n s5 ⟨i,ys,Hc,J5,st5,fr5,hl5,w5⟩
  rcases turn i n ys Hc w5 hl5 with ⟨stop,qe⟩ | ⟨go,hz,NN,hNN,step⟩
  ·refine thn (T.done (cxComp X N scope (closeL X.env.cells scope.names []) s3.heap.objs.size fp s3 (upd H s.heap.objs.size (.lst []))) rfl rfl rfl hc i [] s5 _ Hc noE J5 (fpY fr5) st5 stop) fun r s6 ⟨hr,J6⟩=>?_
   subst hr
   have I6:Inv X pins σ Hc s6:=I3.call' (ch:=fp) J6.os J6.base J6.hok J6.bare fun b hb=>by
    obtain ⟨_,f1,f2,f3,f4,f5⟩:=hf3 b hb
    exact ⟨f3,f1,f4,f5⟩
   obtain ⟨m6,hn6,_⟩:=J6.loc
   exact hRR _ _ s6 Hc m6 hn6 I6 (I3.fpOk (Nat.le_refl _) J6.free) qe
  ·refine thn (T.item (cxComp X N scope (closeL X.env.cells scope.names []) s3.heap.objs.size fp s3 (upd H s.heap.objs.size (.lst []))) rfl rfl rfl hc i [] s5 _ Hc noE J5 (fpY fr5) st5 go) fun r s6 ⟨u,hr,h6⟩=>?_
   subst hr
   refine thn h6 fun _ s7 ⟨x,H7,J7,r7,y7,st7,fr7⟩=>?_
   have J7':=J7.pinned (fpY fr7) (T.obj _ _ st7)
   refine thn (hg _ _ _ _ _ _ s7 _ H7 x u _ J7' r7 (step x H7 y7)) fun _ s8 ⟨σ8,H8,J8,q8⟩=>?_
   refine thn (he _ _ _ _ _ _ s8 σ8 H8 _ J8 q8) fun y s9 ⟨v,H9,J9,r9,hl9,n9⟩=>?_
   obtain ⟨m',hm',w9⟩:=hNN _ _ n9
   refine thn (mt_append (X:=cxComp X N scope (closeL X.env.cells scope.names []) s3.heap.objs.size fp s3 (upd H s.heap.objs.size (.lst []))) _ s9 σ8 H9 (.ref s.heap.objs.size) [v] (.ref s.heap.objs.size) [y]
    (fun z Hz=>z=.non∧Hz=upd H9 s.heap.objs.size (.lst (ys++[v]))) J9 rfl (.cons r9 .nil) ⟨_,ys,v,rfl,rfl,hl9,hz,rfl,rfl⟩) fun _ s10 ⟨_,H10,J10,_,_,e10⟩=>?_
   subst e10
   have len8:(compSt ix σ).length=σ8.length:=by
    rw [J10.len]
    unfold compSt
    rw [List.length_map]
    exact S.len
   refine ⟨m',hm',i+1,ys++[v],_,?_,T.keep _ _ _ st7 fun b hb o e=>(J10.pin (b,o) (List.mem_append_right _ (List.mem_append_right _ (mem_pinsAt hb e)))).1,fun b hb=>?_,upd_same,w9⟩
   ·exact comp_again I3 S J10
   ·obtain ⟨o,e,d⟩:=T.obj _ _ st7 b hb
    exact (J10.pin (b,o) (List.mem_append_right _ (List.mem_append_right _ (mem_pinsAt hb e)))).2.1
 exact codeAny_compStart_list (loop _ rfl) (T.self _ 0 _ _ _ st1 (loop _ rfl))
theorem pe_comp {wi:TI} (hc:X.calm=true) (S:CompS X.N X.env.scope N ix scope) (hi:PI X tg iter wi)
  (hg:∀ cl C ex s H,PG (cxComp X N scope cl C ex s H) tg g) (he:∀ cl C ex s H,PE (cxComp X N scope cl C ex s H) elt te)
  (hs:∀ x,foldedSetIterable iter X.env x=pure x:=by intro _;rfl):PE X (.ListComp elt [⟨tg,iter,[],0⟩] scope pos) (tComp ix wi g te):=by
 intro pins s σ H Q I h
 rw [eval_ListComp]
 refine wpAny_comprehension_free (use:=none) rfl hs (closureFor_run (comp_cells I S)) S.kind S.names (thn (hi pins s σ H _ I h) fun v s1 h1=>thn h1 fun itv s2 h2=>?_)
 obtain ⟨it,fp,tn,J,H2,e,I2,T,st2,f2,hw⟩:=h2
 subst e
 refine comp_block (RR:=fun acc C=>compPost (model X.prog X.w) X.A X.xe none (EP X pins σ Q) acc C) hc S hg he I2 T st2 f2 hw fun l C s' H' m hn I' fC q=>⟨m,hn,fun h' hs'=>?_⟩
 obtain ⟨c0,c1,_,c3,c4,c5⟩:=fC
 exact ⟨.ref l,H',I'.turned (t':=s'.toks) (fun b o hb e=>(hs'.2 b hb).trans e) c0 c1 c3 c4 c5,rfl,q⟩
theorem ps_comp {wi:TI} {i:Nat} {x:Str} {spos pos':Pos} (hc:X.calm=true) (S:CompS X.N X.env.scope N ix scope) (hi:PI X tg iter wi)
  (hg:∀ cl C ex s H,PG (cxComp X N scope cl C ex s H) tg g) (he:∀ cl C ex s H,PE (cxComp X N scope cl C ex s H) elt te)
  (hN:X.N.Nodup) (hx:X.N[i]?=some x) (hl:X.env.scope.names.lookup x=some .local)
  (hsw:swapsWith (.ListComp elt [⟨tg,iter,[],0⟩] scope pos) (some (.Name x pos')) spos.line X.env=pure true:=by rfl)
  (hs:∀ x,foldedSetIterable iter X.env x=pure x:=by intro _;rfl):PS X (.Assign [.Name x pos'] (.ListComp elt [⟨tg,iter,[],0⟩] scope pos) spos) (tAsg (tComp ix wi g te) (gName i)):=by
 intro pins s σ H D I h
 rw [exec_Assign_Name_used _ _ _ _ hsw]
 refine wpAny_bind (wpAny_standAt (wpAny_bind ?_))
 show wpAny _ _ (comprehension (.ListComp elt [⟨tg,iter,[],0⟩] scope pos) scope X.env _ (newList []) false (eval iter X.env) (some (assign (.Name x pos') X.env)) >>= fun _=>pure ()) _ _ s
 refine wpAny_bind (wpAny_mono (wpAny_comprehension_free (use:=some (assign (.Name x pos') X.env)) (Q:=fun _ s'=>SP X pins D .next s') rfl hs (closureFor_run (comp_cells I S)) S.kind S.names
  (thn (hi pins s σ H _ I h) fun v s1 h1=>thn h1 fun itv s2 h2=>?_)) (fun _ s' q=>wpAny_pure (wpAny_pure q)) fun _ _ e=>e)
 obtain ⟨it,fp,tn,J,H2,e,I2,T,st2,f2,hw⟩:=h2
 subst e
 refine comp_block (RR:=fun acc C=>compPost (model X.prog X.w) X.A X.xe (some (assign (.Name x pos') X.env)) (fun _ s'=>SP X pins D .next s') acc C) hc S hg he I2 T st2 f2 hw fun l C s' H' m hn I' fC q=>?_
 obtain ⟨c0,c1,c2,c3,c4,c5⟩:=fC
 show wpAny _ _ (assign (.Name x pos') X.env (.ref l)) _ _ _
 refine wpAny_assign_Name (store_ok2 I' hN hx (.inl hl) (v:=.ref l) rfl (fun s'' I'' ⟨a,sb,ha⟩=>?_) (.inr hl))
 have haC:C≠a:=by
  rcases ha with ha | ha
  ·rw [ha];exact c1
  ·exact fun z=>c4 x a ha z.symm
 refine ⟨m,hn.sameBut sb haC,fun h' hs'=>?_⟩
 exact ⟨_,H',I''.turned (t':=s''.toks) (fun b o hb e=>(hs'.2 b hb).trans e) c0 c1 c3 c4 c5,q⟩
end
/-! ### the forms one uses -/
theorem comp_by {J:It} {n:Nat} {l:Addr} {ix:List (Option Nat)} {g:TG} {te:TE} {σ:St} {H0:Hp} {Qe:Hp→Prop} (Pv:Nat→List V→Hp→Prop) (h0:Pv 0 [] H0)
  (hs:∀ i ys H,i < n→Pv i ys H→H l=some (.lst ys)→J.go i H∧ys.length < sizeLine∧∀ x H',J.yld i H x H'→g x (compSt ix σ) H' fun σ2 H2=>te σ2 H2 fun v H3=>H3 l=some (.lst ys)∧Pv (i+1) (ys++[v]) (upd H3 l (.lst (ys++[v]))))
  (hd:∀ ys H,Pv n ys H→H l=some (.lst ys)→J.stop n H∧Qe H):compW ix J g te σ l H0 Qe:=by
 refine ⟨fun i m ys H=>m=n - i∧i≤n∧Pv i ys H,⟨n,by simp,Nat.zero_le _,h0⟩,?_⟩
 rintro i m ys H ⟨rfl,hi,p⟩ hl
 by_cases hlt:i < n
 ·obtain ⟨h1,h2,h3⟩:=hs i ys H hlt p hl
  exact .inr ⟨h1,h2,Pv (i+1),fun zs H' q=>⟨n - (i+1),by omega,rfl,hlt,q⟩,h3⟩
 ·have e:i=n:=by omega
  subst e
  exact .inl (hd ys H p hl)
theorem comp_list {K:PySem.W.Frag} {a l:Addr} {xs:List V} {ix:List (Option Nat)} {g:TG} {te:TE} {σ:St} {H0:Hp} {Qe:Hp→Prop} (Pv:Nat→List V→Hp→Prop) (h0:Pv 0 [] H0) (hl:∀ i ys H,i≤xs.length→Pv i ys H→SqL K H a xs) (hz:xs.length≤sizeLine)
  (hn:∀ i ys H,Pv i ys H→ys.length=i)
  (hs:∀ i x ys H,xs[i]?=some x→Pv i ys H→H l=some (.lst ys)→g x (compSt ix σ) H fun σ2 H2=>te σ2 H2 fun v H3=>H3 l=some (.lst ys)∧Pv (i+1) (ys++[v]) (upd H3 l (.lst (ys++[v]))))
  (hd:∀ ys H,Pv xs.length ys H→H l=some (.lst ys)→Qe H):compW ix (Itl K a) g te σ l H0 Qe:=by
 refine comp_by (n:=xs.length) Pv h0 (fun i ys H hi p hy=>?_) fun ys H p hy=>⟨⟨xs,hl _ ys H (Nat.le_refl _) p,Nat.le_refl _⟩,hd ys H p hy⟩
 have q:=hl i ys H (Nat.le_of_lt hi) p
 refine ⟨⟨xs,xs[i],q,by simp [hi]⟩,by rw [hn i ys H p];exact Nat.lt_of_lt_of_le hi hz,fun x H' y=>?_⟩
 obtain ⟨e,y⟩:=y
 subst e
 exact hs i x ys _ (y xs q) p hy
theorem comp_tup {K:PySem.W.Frag} {a l:Addr} {xs:List V} {ix:List (Option Nat)} {g:TG} {te:TE} {σ:St} {H0:Hp} {Qe:Hp→Prop} (Pv:Nat→List V→Hp→Prop) (h0:Pv 0 [] H0) (hl:∀ i ys H,i≤xs.length→Pv i ys H→SqT K H a xs) (hz:xs.length≤sizeLine)
  (hn:∀ i ys H,Pv i ys H→ys.length=i)
  (hs:∀ i x ys H,xs[i]?=some x→Pv i ys H→H l=some (.lst ys)→g x (compSt ix σ) H fun σ2 H2=>te σ2 H2 fun v H3=>H3 l=some (.lst ys)∧Pv (i+1) (ys++[v]) (upd H3 l (.lst (ys++[v]))))
  (hd:∀ ys H,Pv xs.length ys H→H l=some (.lst ys)→Qe H):compW ix (Itt K a) g te σ l H0 Qe:=by
 refine comp_by (n:=xs.length) Pv h0 (fun i ys H hi p hy=>?_) fun ys H p hy=>⟨⟨xs,hl _ ys H (Nat.le_refl _) p,Nat.le_refl _⟩,hd ys H p hy⟩
 have q:=hl i ys H (Nat.le_of_lt hi) p
 refine ⟨⟨xs,xs[i],q,by simp [hi]⟩,by rw [hn i ys H p];exact Nat.lt_of_lt_of_le hi hz,fun x H' y=>?_⟩
 obtain ⟨e,y⟩:=y
 subst e
 exact hs i x ys _ (y xs q) p hy
theorem comp_range {lo:Int} {n:Nat} {l:Addr} {ix:List (Option Nat)} {g:TG} {te:TE} {σ:St} {H0:Hp} {Qe:Hp→Prop} (Pv:Nat→List V→Hp→Prop) (h0:Pv 0 [] H0) (hz:n≤sizeLine)
  (hn:∀ i ys H,Pv i ys H→ys.length=i)
  (hs:∀ i ys H,i < n→Pv i ys H→H l=some (.lst ys)→g (.int (lo+i)) (compSt ix σ) H fun σ2 H2=>te σ2 H2 fun v H3=>H3 l=some (.lst ys)∧Pv (i+1) (ys++[v]) (upd H3 l (.lst (ys++[v]))))
  (hd:∀ ys H,Pv n ys H→H l=some (.lst ys)→Qe H):compW ix (Itr lo n) g te σ l H0 Qe:=by
 refine comp_by (n:=n) Pv h0 (fun i ys H hi p hy=>⟨hi,by rw [hn i ys H p];exact Nat.lt_of_lt_of_le hi hz,fun x H' y=>?_⟩) fun ys H p hy=>⟨Nat.le_refl _,hd ys H p hy⟩
 obtain ⟨e,y⟩:=y
 subst e y
 exact hs i ys _ hi p hy
end L2

set_option Elab.async false
set_option linter.all false
set_option maxRecDepth 100000
set_option maxHeartbeats 4000000
namespace L2
open PySem PySem.Spec PyProof.Rows
open PySem.AutoSeq1 (wpAny_loadPart')

/-! ### range(n) as an object;tuple(range(n)),list(range(n)) -/
def rint (lo:Int) (n:Nat):List V:=(List.range n).map fun i=>V.int (lo+(i:Nat))
theorem rint_length (lo:Int) (n:Nat):(rint lo n).length=n:=by unfold rint;simp
theorem vals_of_items {lo c:Int} {acc:Array Value} {n:Nat} (hc:c=1) (h:ItemsOf (fun i v=>∃ t,v=.int (lo+i*c) t) acc n):Vals (rint lo n) acc.toList:=by
 subst hc
 obtain ⟨hs,hi⟩:=h
 have key:∀ (k:Nat) (i:Nat),i+k=n→Vals (((List.range n).drop i).map fun j=>V.int (lo+(j:Nat))) (acc.toList.drop i):=by
  intro k
  induction k with
  | zero =>
   intro i hk
   rw [List.drop_of_length_le (by simp;omega),List.drop_of_length_le (by simp;omega)]
   exact .nil
  | succ k ih =>
   intro i hk
   have h1:i < acc.size:=by omega
   have e1:(List.range n).drop i=i::(List.range n).drop (i+1):=by
    rw [List.drop_eq_getElem_cons (by simp;omega)];simp
   have e2:acc.toList.drop i=acc[i]::acc.toList.drop (i+1):=by
    rw [List.drop_eq_getElem_cons (by simpa using h1)];simp
   rw [e1,e2,List.map_cons]
   refine .cons ?_ (ih (i+1) (by omega))
   obtain ⟨t,e⟩:=hi i acc[i] (by simp [h1])
   exact ⟨t,by rw [e,Int.mul_one]⟩
 have:=key n 0 (by omega)
 simpa [rint] using this
section
variable {X:Cx}
theorem call_rng:CallR X (.type "range") (fun xs H Q=>∃ j:Int,xs=[.int j]∧-(2 ^ 62)≤j∧j < 2 ^ 62∧∀ p,H p=none→Q (.ref p) (upd H p (.rng 0 j))):=by
 intro pins s σ H xs us Q I r h
 obtain ⟨j,rfl,h1,h2,q⟩:=h
 obtain ⟨u,rfl,ru⟩:=vals1 r
 obtain ⟨t,rfl⟩:=ru
 refine call_range_1 ?_
 exact ⟨.ref s.heap.objs.size,upd H s.heap.objs.size (.rng 0 j),I.laid (o:=.rng 0 j) (fun b u e=>Heap.get?_push_of_some _ e) (Nat.le_refl _) ⟨_,_,_,Heap.get?_push_size _ rfl⟩,rfl,q _ I.fresh⟩
theorem Inv.rng {pins:List (Addr × Obj)} {σ:St} {H:Hp} {s:Shared} {p:Addr} {lo hi:Int} (I:Inv X pins σ H s) (h:H p=some (.rng lo hi)):∃ t u v,IsRange s.heap p lo hi 1 t u v:=by
 obtain ⟨t,u,v,e⟩:=I.hok p _ h
 exact ⟨t,u,v,e⟩
theorem rng_size {lo hi:Int}:Builtin.Range.rangeSize lo hi 1=(((hi - lo).toNat:Nat):Int):=by
 rw [rangeSize_one];split<;>omega
theorem call_list_rng (hc:X.calm=true):CallR X (.type "list") (fun xs H Q=>∃ p lo hi,xs=[.ref p]∧H p=some (.rng lo hi)∧(-(2 ^ 62)≤lo∧lo < 2 ^ 62∧-(2 ^ 62)≤hi∧hi < 2 ^ 62)∧(hi - lo).toNat≤2 ^ 24 ∧
  ∀ l,H l=none→Q (.ref l) (upd H l (.lst (rint lo (hi - lo).toNat)))):=by
 intro pins s σ H xs us Q I r h
 obtain ⟨p,lo,hi,rfl,hp,⟨b1,b2,b3,b4⟩,hn,q⟩:=h
 obtain ⟨u,rfl,ru⟩:=vals1 r
 cases ru
 obtain ⟨t,u,v,hr⟩:=I.rng hp
 refine call_list_range (I.ok.hd hc) hr (small_one b1 b2 b3 b4) rng_size hn fun h' tk acc c' hk hl hacc=>?_
 have hv:=vals_of_items rfl hacc
 exact ⟨.ref _,_,I.laid (o:=.lst (rint lo (hi - lo).toNat)) (fun b u e=>hk b u e) (Nat.le_refl _) ⟨by rw [rint_length,sizeLine_eq];omega,acc.toList,c',hv,by simpa using hl⟩,rfl,q _ I.fresh⟩
end

section
variable {prog:Program} {w:World} {A:Around} {E:Value→Shared→Prop} {s:Shared}
theorem collect_rng {Q:List Value→Shared→Prop} {r:Addr} {a b c:Int} {t u v:Tok} {n:Nat} (hh:A.handled=none) (hr:IsRange s.heap r a b c t u v) (hsmall:Builtin.Range.small a b c=true)
  (hn:Builtin.Range.rangeSize a b c=n) (hlen:n≤2 ^ 24)
  (hQ:∀ h' tk acc,(∀ b o,s.heap.get? b=some o→h'.get? b=some o)→s.heap.objs.size≤h'.objs.size→ItemsOf (fun i v=>∃ t,v=.int (a+i*c) t) acc n→Q acc.toList { s with heap:=h',toks:=tk }) :
  wpAny (model prog w) A (collect (.ref r)) Q E s:=by
 unfold collect
 refine wpAny_bind (wpAny_runValue (codeAny_builtin F.entry_proto_collect ?_))
 rw [Around.under_plainId F.plain_proto_collect _]
 show wpAny _ A.in1 (newList [] >>= fun l =>
  again (.builtin "list.__iadd__" ⟨[l,.ref r],[]⟩)) _ _ s
 refine wpAny_bind (wpAny_newObj_type ?_)
 refine wpAny_pure ⟨plainId_quiet F.plain_list_iadd _,codeAny_builtin F.entry_list_iadd ?_⟩
 rw [Around.under_plainId F.plain_list_iadd _]
 show wpAny _ A.in1 (Builtin.List.listExtendWith (.ref s.heap.objs.size) (.ref r)
  (.ref s.heap.objs.size)) _ _ _
 have hS:(s.heap.push { cls:=.type "list",data:=.seq ([]:List Value).toArray }).get? s.heap.objs.size=some
  { cls:=.type "list",data:=.seq #[] 0 }:=Heap.get?_push_size _ rfl
 have fin':∀ (h':Heap) (tk:Nat) (acc:Array Value) (c':Nat),(∀ b o,b≠s.heap.objs.size→(s.heap.push { cls:=.type "list",data:=.seq ([]:List Value).toArray }).get? b=some o→h'.get? b=some o) →
   h'.get? s.heap.objs.size=some { cls:=.type "list",dict:=none,data:=.seq acc c',slots:=#[] }→ItemsOf (fun i v=>∃ t,v=.int (a+i*c) t) acc n →
   wpAny (model prog w) A (match Value.ref s.heap.objs.size with
    | Value.ref a=>do
     match (←load a).data with
      | Data.seq xs _=>pure xs.toList
      | _=>unsupported "internal:collect"
    | _=>unsupported "internal:collect") Q E { s with heap:=h',toks:=tk }:=fun h' tk acc c' hk hS' hacc=>by
  show wpAny _ A (load s.heap.objs.size >>= _) _ _ _
  refine wpAny_bind (wpAny_load hS' (wpAny_pure ?_))
  exact hQ h' tk acc (fun b o e=>hk b o (Nat.ne_of_lt (Heap.lt_size e)) (Heap.get?_push_of_some _ e)) (Nat.le_of_lt (Heap.lt_size hS')) hacc
 refine wpAny_mono (wpAny_extend_range (A:=A) (R:=fun r s'=>r=.ok (.ret (.ref s.heap.objs.size))∧wpAny (model prog w) A (match Value.ref s.heap.objs.size with
    | Value.ref a=>do
     match (←load a).data with
      | Data.seq xs _=>pure xs.toList
      | _=>unsupported "internal:collect"
    | _=>unsupported "internal:collect") Q E s') (s:={ s with heap:=s.heap.push { cls:=.type "list",data:=.seq ([]:List Value).toArray } }) hh (Heap.get?_push_of_some _ hr) hsmall hn hlen _ (.ref s.heap.objs.size) 0 hS
  fun h' tk acc c' hk hS' hacc=>⟨rfl,fin' h' tk acc c' hk hS' hacc⟩) (fun fin s' h=>?_) (fun e s' h=>?_)
 ·cases fin with
  | done f =>
   obtain ⟨e,h⟩:=h
   cases e
   exact h
  | again c'=>exact ⟨h.1,codeAny_mono h.2 fun r s'' hr=>by obtain ⟨rfl,h2⟩:=hr;exact h2⟩
 ·exact absurd h.1 (by simp)
end
theorem meets_tuple_rng (r:Addr) {a b c:Int} {t u v:Tok} {n:Nat} (hsmall:Builtin.Range.small a b c=true) (hn:Builtin.Range.rangeSize a b c=n) (hlen:n≤2 ^ 24) :
  Meets (Builtin.«tuple.__new__» ⟨[.type "tuple",.ref r],[]⟩)
   (fun A R s=>A.handled=none∧IsRange s.heap r a b c t u v∧∀ (h':Heap) (tk:Nat) (acc:Array Value),(∀ b o,s.heap.get? b=some o→h'.get? b=some o)→s.heap.objs.size≤h'.objs.size→ItemsOf (fun i v=>∃ t,v=.int (a+i*c) t) acc n →
    R (.ok (.ret (.ref h'.objs.size))) { s with heap:=h'.push { cls:=.type "tuple",data:=.seq acc },toks:=tk }) :=
 .of_wp fun prog w A R s h=>by
  obtain ⟨hh,hr,h⟩:=h
  have hsub:=sub_tuple_self
  have hinit:=init_tuple_lookup
  have hmh:=madeHere_tuple
  have hT:s.TypeIs (.ref r) "range":=⟨_,hr,rfl⟩
  have hh1:A.in1.handled=none:=hh
  wp_walk using wpAny_typeOf hT,collect_rng hh1 hr hsmall hn hlen
  intro h' tk acc hk hz hacc
  show wpAny _ _ (Builtin.Tuple.tupleExact acc.toList.toArray >>=
   fun v=>ret v) _ _ _
  unfold Builtin.Tuple.tupleExact
  refine wpAny_bind (wpAny_newObj_type ?_ (show acc.toList.toArray.size≤sizeLine by simp only [Array.toArray_toList];rw [hacc.1,sizeLine_eq];omega))
  refine wpAny_pure ⟨_,rfl,?_⟩
  have e:acc.toList.toArray=acc:=by simp
  rw [e]
  exact h h' tk acc hk hz hacc
section
variable {X:Cx}
theorem call_tuple_rng (hc:X.calm=true):CallR X (.type "tuple") (fun xs H Q=>∃ p lo hi,xs=[.ref p]∧H p=some (.rng lo hi)∧(-(2 ^ 62)≤lo∧lo < 2 ^ 62∧-(2 ^ 62)≤hi∧hi < 2 ^ 62)∧(hi - lo).toNat≤2 ^ 24 ∧
  ∀ l,H l=none→Q (.ref l) (upd H l (.tup (rint lo (hi - lo).toNat)))):=by
 intro pins s σ H xs us Q I r h
 obtain ⟨p,lo,hi,rfl,hp,⟨b1,b2,b3,b4⟩,hn,q⟩:=h
 obtain ⟨u,rfl,ru⟩:=vals1 r
 cases ru
 obtain ⟨t,u,v,hr⟩:=I.rng hp
 refine callType_new F.called_tuple (by decide) (F.typeCall_tuple_1 _) (F.newCall_tuple_1 _) (fun obj=>F.args_object_init_2 obj _) F.entry_tuple_new
  (meets_tuple_rng p (t:=t) (u:=u) (v:=v) (small_one b1 b2 b3 b4) rng_size hn) ⟨I.ok.hd hc,hr,fun h' tk acc hk hz hacc=>⟨⟨_,Heap.get?_push_size _ rfl,rfl⟩,?_⟩⟩
 have hv:=vals_of_items rfl hacc
 have hf:H h'.objs.size=none:=I.hok.fresh hz
 refine ⟨.ref _,_,I.laid (o:=.tup (rint lo (hi - lo).toNat)) (fun b u e=>Heap.get?_push_of_some _ (hk b u e)) hz ⟨by rw [rint_length,sizeLine_eq];omega,acc.toList,0,hv,by rw [show acc.toList.toArray=acc by simp];exact Heap.get?_push_size _ rfl⟩,rfl,q _ hf⟩
end
/-! ### all(xs),any(xs) of a list of bools -/
section
variable {X:Cx}
theorem truth_bools {prog:Program} {w:World} {A:Around} {its:Array Value} {bs:List Bool} (r:Vals (bs.map V.bl) its.toList):TruthOf prog w A (fun i v=>its[i]?=some v) (fun i=>bs.getD i false):=by
 intro i v s Q E hi hq
 have hl:=r.length
 rw [List.length_map] at hl
 have hlt:i < bs.length:=by
  have:i < its.size:=by
   rcases Nat.lt_or_ge i its.size with z | z
   ·exact z
   ·rw [Array.getElem?_eq_none z] at hi;cases hi
  simp at hl;omega
 have h1:(bs.map V.bl)[i]?=some (.bl bs[i]):=by simp [hlt]
 obtain ⟨u,hu,ru⟩:=r.get h1
 have:u=v:=by
  have e:its.toList[i]?=some v:=by simpa using hi
  rw [e] at hu
  exact (Option.some.inj hu).symm
 subst this
 cases ru
 refine wpAny_truthy_bool ?_
 have e:bs.getD i false=bs[i]:=by simp [hlt]
 have hq':Q (bs.getD i false) s:=hq
 rw [e] at hq'
 exact hq'
theorem range_all {n:Nat} {bs:List Bool} (h:bs.length=n):(List.range n).all (fun i=>bs.getD i false)=bs.all id:=by
 subst h
 rw [Bool.eq_iff_iff,List.all_eq_true,List.all_eq_true]
 constructor
 ·intro h b hb
  obtain ⟨i,hi,e⟩:=List.getElem_of_mem hb
  have:=h i (by simpa using hi)
  simp [hi,e] at this
  exact this
 ·intro h i hi
  have hi:i < bs.length:=by simpa using hi
  have:=h bs[i] (List.getElem_mem hi)
  simp [hi]
  exact this
theorem range_any {n:Nat} {bs:List Bool} (h:bs.length=n):(List.range n).any (fun i=>bs.getD i false)=bs.any id:=by
 subst h
 rw [Bool.eq_iff_iff,List.any_eq_true,List.any_eq_true]
 constructor
 ·rintro ⟨i,hi,e⟩
  have hi:i < bs.length:=by simpa using hi
  refine ⟨bs[i],List.getElem_mem hi,?_⟩
  simp [hi] at e
  exact e
 ·rintro ⟨b,hb,e⟩
  obtain ⟨i,hi,e'⟩:=List.getElem_of_mem hb
  refine ⟨i,by simpa using hi,?_⟩
  simp [hi,e']
  exact e
theorem call_all (hc:X.calm=true):CallR X (.builtin "all") (fun xs H Q=>∃ (p:Addr) (bs:List Bool),xs=[.ref p]∧SqL X.K H p (bs.map V.bl)∧Q (.bl (bs.all id)) H):=by
 intro pins s σ H xs us Q I r h
 obtain ⟨p,bs,rfl,hp,q⟩:=h
 obtain ⟨u,rfl,ru⟩:=vals1 r
 cases ru
 obtain ⟨its,rv,pl,hz⟩:=I.list hp
 have hlt:p < s.heap.objs.size:=by obtain ⟨o,n,e,_⟩:=pl;exact Heap.lt_size e
 have hl:=rv.length
 rw [List.length_map] at hl
 refine call_all_walk (wpAny_pyIter_list pl.isList ?_)
 refine ⟨s.heap.objs.size,_,_,_,_,_,fun i=>bs.getD i false,rfl,Walks.list (A:=X.A.in1) (show X.A.in1.handled=none from I.ok.hd hc) s.heap.objs.size p (Nat.ne_of_lt hlt) its.toArray,⟨⟨_,Heap.get?_push_size _ rfl,rfl,rfl⟩,Heap.IsList.push pl.isList _⟩,truth_bools (by simpa using rv),fun h' tk hk=>?_⟩
 rw [range_all (by simpa using hl)]
 exact ⟨.bl _,H,I.kept (t':=tk) (fun b o e=>hk b o (by simpa using (Nat.ne_of_lt (Heap.lt_size e))) (Heap.get?_push_of_some _ e)),rfl,q⟩
theorem call_any (hc:X.calm=true):CallR X (.builtin "any") (fun xs H Q=>∃ (p:Addr) (bs:List Bool),xs=[.ref p]∧SqL X.K H p (bs.map V.bl)∧Q (.bl (bs.any id)) H):=by
 intro pins s σ H xs us Q I r h
 obtain ⟨p,bs,rfl,hp,q⟩:=h
 obtain ⟨u,rfl,ru⟩:=vals1 r
 cases ru
 obtain ⟨its,rv,pl,hz⟩:=I.list hp
 have hlt:p < s.heap.objs.size:=by obtain ⟨o,n,e,_⟩:=pl;exact Heap.lt_size e
 have hl:=rv.length
 rw [List.length_map] at hl
 refine call_any_walk (wpAny_pyIter_list pl.isList ?_)
 refine ⟨s.heap.objs.size,_,_,_,_,_,fun i=>bs.getD i false,rfl,Walks.list (A:=X.A.in1) (show X.A.in1.handled=none from I.ok.hd hc) s.heap.objs.size p (Nat.ne_of_lt hlt) its.toArray,⟨⟨_,Heap.get?_push_size _ rfl,rfl,rfl⟩,Heap.IsList.push pl.isList _⟩,truth_bools (by simpa using rv),fun h' tk hk=>?_⟩
 rw [range_any (by simpa using hl)]
 exact ⟨.bl _,H,I.kept (t':=tk) (fun b o e=>hk b o (by simpa using (Nat.ne_of_lt (Heap.lt_size e))) (Heap.get?_push_of_some _ e)),rfl,q⟩
end
end L2

set_option Elab.async false
set_option linter.all false
set_option maxRecDepth 100000
set_option maxHeartbeats 4000000
namespace L2
open PySem PySem.Spec PyProof.Rows
open PySem.AutoSeq1 (wpAny_loadPart')

/-! ### enumerate over a tuple -/
section
variable {prog:Program} {w:World} {A:Around} {E:Value→Shared→Prop} {s:Shared}
end

theorem Inv.turnedNew {X:Cx} {pins:List (Addr × Obj)} {σ:St} {H:Hp} {s:Shared} {ch:List Addr} {p:Addr} {o:HO} {h':Heap} {t':Nat} (I:Inv X pins σ H s) (k:∀ b u,b∉ch→s.heap.get? b=some u→h'.get? b=some u)
  (hp:s.heap.objs.size≤p) (new:ObjOk X.prog X.w (upd H p o) h' p o) (hf:∀ b∈ch,FpOk X pins H b):Inv X pins σ (upd H p o) { s with heap:=h',toks:=t' }:=by
 have hn:H p=none:=I.hok.fresh hp
 have nc:∀ b u,H b=some u→b∉ch:=fun b u e z=>by rw [(hf b z).1] at e;cases e
 refine I.step (g':=s.gens) (d':=s.drawn) (ch:=ch) (fun b hb=>?_) (fun b u _ _ hc e _=>k b u hc e) (fun b u _ _ hc e _=>⟨u.slots,k b u hc e⟩) (fun b u _ e n=>?_) (fun b u hc e=>⟨u,k b u hc e⟩)
  (fun b xs e=>?_) (fun b u xs e=>?_) (fun b ps e=>⟨#[],?_⟩) (fun m hm=>?_) (fun b u e=>?_) I.bare
 ·obtain ⟨_,f1,_,f3,f4,f5⟩:=hf b hb
  exact ⟨f3,f1,f4,f5⟩
 ·rw [upd_ne (Nat.ne_of_lt (Nat.lt_of_lt_of_le (Heap.lt_size e) hp))];exact n
 ·rw [upd_ne (ne_of_none e hn)];exact e
 ·rw [upd_ne (ne_of_none e hn)];exact e
 ·rw [upd_ne (ne_of_none e hn),e];simp
 ·obtain ⟨ob,es,ep,ho,r⟩:=hm
  exact ⟨ob,es,ep,k _ ob (fun z=>(hf _ z).2.1 rfl) ho,r⟩
 ·by_cases hb:b=p
  ·subst hb;rw [upd_same] at e;cases e;exact new
  ·rw [upd_ne hb] at e
   refine (I.hok b u e).stay (fun c v hc q=>k c v ?_ q) (fun c q=>by rw [upd_ne (ne_of_none q hn)];exact q) fun c xs q=>by rw [upd_ne (ne_of_none q hn)];exact q
   rcases hc with z | z
   ·rw [z];exact nc b u e
   ·exact nc c _ z
theorem Inv.turnedL {X:Cx} {pins:List (Addr × Obj)} {σ:St} {H:Hp} {s:Shared} {ch:List Addr} {h':Heap} {t':Nat} (I:Inv X pins σ H s) (k:∀ b u,b∉ch→s.heap.get? b=some u→h'.get? b=some u)
  (hf:∀ b∈ch,FpOk X pins H b):Inv X pins σ H { s with heap:=h',toks:=t' }:=by
 have nc:∀ b u,H b=some u→b∉ch:=fun b u e z=>by rw [(hf b z).1] at e;cases e
 refine I.step (g':=s.gens) (d':=s.drawn) (ch:=ch) (fun b hb=>?_) (fun b u _ _ hc e _=>k b u hc e) (fun b u _ _ hc e _=>⟨u.slots,k b u hc e⟩) (fun b u _ e n=>n) (fun b u hc e=>⟨u,k b u hc e⟩)
  (fun b xs e=>e) (fun b u xs e=>e) (fun b ps e=>⟨#[],by rw [e];simp⟩) (fun m hm=>?_) (fun b u e=>?_) I.bare
 ·obtain ⟨_,f1,_,f3,f4,f5⟩:=hf b hb
  exact ⟨f3,f1,f4,f5⟩
 ·obtain ⟨ob,es,ep,ho,r⟩:=hm
  exact ⟨ob,es,ep,k _ ob (fun z=>(hf _ z).2.1 rfl) ho,r⟩
 ·refine (I.hok b u e).stay (fun c v hc q=>k c v ?_ q) (fun c q=>q) fun c xs q=>q
  rcases hc with z | z
  ·rw [z];exact nc b u e
  ·exact nc c _ z
end L2

set_option Elab.async false
set_option linter.all false
set_option maxRecDepth 100000
set_option maxHeartbeats 4000000
namespace L2
open PySem PySem.Spec PyProof.Rows

section
variable {X:Cx} {elts:List Expr} {tk:Nat} {tp:Pos}
/-! ### zip over two lists -/
end
end L2

set_option Elab.async false
set_option linter.all false
set_option maxRecDepth 100000
set_option maxHeartbeats 4000000
namespace L2
open PySem PySem.Spec PyProof.Rows
open PySem.AutoSeq1 (wpAny_loadPart')

/-! ### data: what a value stands for,through its tuples and lists -/
inductive D where
 | non | bl (b:Bool) | int (i:Int) | str (x:Str) | tup (ds:List D) | lst (ds:List D)
mutual
def Dr (K:PySem.W.Frag) (H:Hp):D→V→Prop
 | .non,v=>v=.non
 | .bl b,v=>v=.bl b
 | .int i,v=>v=.int i
 | .str x,v=>v=.str x
 | .tup ds,v=>∃ (a:Addr) (vs:List V),v=.ref a∧H a=some (.tup vs)∧DrL K H ds vs
 | .lst ds,v=>∃ (a:Addr) (vs:List V),v=.ref a∧SqL K H a vs∧DrL K H ds vs
def DrL (K:PySem.W.Frag) (H:Hp):List D→List V→Prop
 | [],vs=>vs=[]
 | d::ds,vs=>∃ v r,vs=v::r∧Dr K H d v∧DrL K H ds r
end
theorem Same.tupl {K:PySem.W.Frag} {H H':Hp} {a:Addr} {xs:List V} (s:Same H H') (h:SqT K H a xs):SqT K H' a xs:=by
 rcases h with (h | ⟨o,h⟩) | h
 ·exact .inl (.inl (s _ _ h))
 ·exact .inl (.inr ⟨o,s _ _ h⟩)
 ·exact .inr h
mutual
theorem Dr.mono {K:PySem.W.Frag} {H H':Hp} (s:Same H H'):∀ {d:D} {v:V},Dr K H d v→Dr K H' d v
 | .non,_,h=>by simp only [Dr] at h ⊢;exact h
 | .bl _,_,h=>by simp only [Dr] at h ⊢;exact h
 | .int _,_,h=>by simp only [Dr] at h ⊢;exact h
 | .str _,_,h=>by simp only [Dr] at h ⊢;exact h
 | .tup ds,_,h=>by
  simp only [Dr] at h ⊢
  obtain ⟨a,vs,e,q,r⟩:=h
  exact ⟨a,vs,e,s _ _ q,DrL.mono s r⟩
 | .lst ds,_,h=>by
  simp only [Dr] at h ⊢
  obtain ⟨a,vs,e,q,r⟩:=h
  exact ⟨a,vs,e,s.seq q,DrL.mono s r⟩
theorem DrL.mono {K:PySem.W.Frag} {H H':Hp} (s:Same H H'):∀ {ds:List D} {vs:List V},DrL K H ds vs→DrL K H' ds vs
 | [],_,h=>by simp only [DrL] at h ⊢;exact h
 | d::ds,_,h=>by
  simp only [DrL] at h ⊢
  obtain ⟨v,r,e,q,q'⟩:=h
  exact ⟨v,r,e,Dr.mono s q,DrL.mono s q'⟩
end
theorem DrL.length {K:PySem.W.Frag} {H:Hp}:∀ {ds:List D} {vs:List V},DrL K H ds vs→ds.length=vs.length
 | [],_,h=>by simp only [DrL] at h;subst h;rfl
 | d::ds,_,h=>by
  simp only [DrL] at h
  obtain ⟨v,r,rfl,_,q⟩:=h
  rw [List.length_cons,List.length_cons,DrL.length q]
theorem DrL.get {K:PySem.W.Frag} {H:Hp}:∀ {ds:List D} {vs:List V} {i:Nat} {d:D},DrL K H ds vs→ds[i]?=some d→∃ v,vs[i]?=some v∧Dr K H d v
 | [],_,_,_,_,e=>by simp at e
 | d::ds,_,0,_,h,e=>by
  simp only [DrL] at h
  obtain ⟨v,r,rfl,q,_⟩:=h
  simp at e;subst e
  exact ⟨v,rfl,q⟩
 | d::ds,_,i+1,d',h,e=>by
  simp only [DrL] at h
  obtain ⟨v,r,rfl,_,q⟩:=h
  obtain ⟨v',h1,h2⟩:=DrL.get (i:=i) q (by simpa using e)
  exact ⟨v',by simpa using h1,h2⟩
theorem DrL.append {K:PySem.W.Frag} {H:Hp}:∀ {ds es:List D} {vs us:List V},DrL K H ds vs→DrL K H es us→DrL K H (ds++es) (vs++us)
 | [],_,_,_,h,h'=>by simp only [DrL] at h;subst h;exact h'
 | d::ds,es,_,us,h,h'=>by
  simp only [DrL] at h
  obtain ⟨v,r,rfl,q,q'⟩:=h
  show DrL K H (d::(ds++es)) (v::(r++us))
  simp only [DrL]
  exact ⟨v,_,rfl,q,DrL.append q' h'⟩
theorem DrL.one {K:PySem.W.Frag} {H:Hp} {d:D} {v:V} (h:Dr K H d v):DrL K H [d] [v]:=by
 simp only [DrL];exact ⟨v,[],rfl,h,rfl⟩
theorem DrL.nil {K:PySem.W.Frag} {H:Hp}:DrL K H [] []:=by simp only [DrL]
theorem DrL.cons {K:PySem.W.Frag} {H:Hp} {d:D} {v:V} {ds:List D} {vs:List V} (h:Dr K H d v) (h':DrL K H ds vs):DrL K H (d::ds) (v::vs):=by
 simp only [DrL];exact ⟨v,vs,rfl,h,h'⟩
theorem DrL.ints {K:PySem.W.Frag} {H:Hp}:∀ (ns:List Int),DrL K H (ns.map D.int) (ns.map V.int)
 | []=>DrL.nil
 | n::r=>DrL.cons (by simp only [Dr]) (DrL.ints r)
theorem DrL.ints_inv {K:PySem.W.Frag} {H:Hp}:∀ {ns:List Int} {vs:List V},DrL K H (ns.map D.int) vs→vs=ns.map V.int
 | [],_,h=>by simp only [List.map_nil,DrL] at h;rw [h];rfl
 | n::r,_,h=>by
  simp only [List.map_cons,DrL] at h
  obtain ⟨v,w,rfl,q,q'⟩:=h
  simp only [Dr] at q
  subst q
  rw [DrL.ints_inv q',List.map_cons]
theorem Dr.tup {K:PySem.W.Frag} {H:Hp} {a:Addr} {ds:List D} {vs:List V} (h:H a=some (.tup vs)) (r:DrL K H ds vs):Dr K H (.tup ds) (.ref a):=by
 simp only [Dr];exact ⟨a,vs,rfl,h,r⟩
theorem Dr.lst {K:PySem.W.Frag} {H:Hp} {a:Addr} {ds:List D} {vs:List V} (h:H a=some (.lst vs)) (r:DrL K H ds vs):Dr K H (.lst ds) (.ref a):=by
 simp only [Dr];exact ⟨a,vs,rfl,SqL.of h,r⟩
theorem Dr.int {K:PySem.W.Frag} {H:Hp} (i:Int):Dr K H (.int i) (.int i):=by simp only [Dr]
abbrev D.its (ns:List Int):D:=.tup (ns.map D.int)
end L2

set_option Elab.async false
set_option linter.all false
set_option maxRecDepth 100000
set_option maxHeartbeats 4000000
namespace L2
open PySem PySem.Spec PyProof.Rows
open PySem.SeqAt

/-! ### == of data -/
mutual
def D.eq:D→D→Bool
 | .non,.non=>true
 | .bl a,.bl b=>a == b
 | .int i,.int j=>i == j
 | .str x,.str y=>decide (x=y)
 | .tup a,.tup b=>D.eqL a b
 | .lst a,.lst b=>D.eqL a b
 | _,_=>false
def D.eqL:List D→List D→Bool
 | [],[]=>true
 | d::ds,e::es=>D.eq d e && D.eqL ds es
 | _,_=>false
end
mutual
def D.ok:D→D→Prop
 | .non,.non=>True
 | .bl _,.bl _=>True
 | .int _,.int _=>True
 | .str _,.str _=>True
 | .tup a,.tup b=>D.okL a b
 | .lst a,.lst b=>D.okL a b
 | _,_=>False
def D.okL:List D→List D→Prop
 | d::ds,e::es=>D.ok d e∧D.okL ds es
 | _,_=>True
end
mutual
def D.dep:D→Nat
 | .tup a=>D.depL a+1
 | .lst a=>D.depL a+1
 | _=>0
def D.depL:List D→Nat
 | []=>0
 | d::ds=>max (D.dep d) (D.depL ds)
end
mutual
theorem D.eq_refl:∀ d:D,D.eq d d=true
 | .non=>by simp only [D.eq]
 | .bl b=>by simp only [D.eq,beq_self_eq_true]
 | .int i=>by simp only [D.eq,beq_self_eq_true]
 | .str x=>by simp only [D.eq,decide_true]
 | .tup a=>by simp only [D.eq];exact D.eqL_refl a
 | .lst a=>by simp only [D.eq];exact D.eqL_refl a
theorem D.eqL_refl:∀ ds:List D,D.eqL ds ds=true
 | []=>by simp only [D.eqL]
 | d::ds=>by simp only [D.eqL,D.eq_refl d,D.eqL_refl ds,Bool.and_self]
end
mutual
theorem D.eq_of:∀ {d e:D},D.eq d e=true→d=e
 | .non,e,h=>by cases e<;>simp only [D.eq,Bool.false_eq_true] at h<;>rfl
 | .bl b,e,h=>by cases e<;>simp only [D.eq,Bool.false_eq_true,beq_iff_eq] at h;rw [h]
 | .int b,e,h=>by cases e<;>simp only [D.eq,Bool.false_eq_true,beq_iff_eq] at h;rw [h]
 | .str b,e,h=>by cases e<;>simp only [D.eq,Bool.false_eq_true,decide_eq_true_eq] at h;rw [h]
 | .tup b,e,h=>by
  cases e<;>simp only [D.eq,Bool.false_eq_true] at h
  rw [D.eqL_of h]
 | .lst b,e,h=>by
  cases e<;>simp only [D.eq,Bool.false_eq_true] at h
  rw [D.eqL_of h]
theorem D.eqL_of:∀ {d e:List D},D.eqL d e=true→d=e
 | [],e,h=>by cases e<;>simp only [D.eqL,Bool.false_eq_true] at h;rfl
 | d::ds,e,h=>by
  cases e<;>simp only [D.eqL,Bool.false_eq_true,Bool.and_eq_true] at h
  rw [D.eq_of h.1,D.eqL_of h.2]
end
theorem D.depL_get:∀ {ds:List D} {j:Nat} {d:D},ds[j]?=some d→D.dep d≤D.depL ds
 | [],_,_,h=>by simp at h
 | _::_,0,_,h=>by
  simp at h;subst h;simp only [D.depL];exact Nat.le_max_left _ _
 | _::ds,j+1,_,h=>by
  simp only [D.depL]
  exact Nat.le_trans (D.depL_get (ds:=ds) (j:=j) (by simpa using h)) (Nat.le_max_right _ _)
def D.at_ (ds es:List D) (j:Nat):Bool:=match ds[j]?,es[j]? with | some d,some e=>D.eq d e | _,_=>true
theorem D.all_eqL:∀ (ds es:List D),(((List.range (min ds.length es.length)).all (D.at_ ds es)) && ds.length == es.length)=D.eqL ds es
 | [],[]=>by simp [D.eqL]
 | [],e::es=>by simp [D.eqL]
 | d::ds,[]=>by simp [D.eqL]
 | d::ds,e::es=>by
  have ih:=D.all_eqL ds es
  simp only [D.eqL]
  rw [←ih]
  have e1:min (d::ds).length (e::es).length=min ds.length es.length+1:=by simp only [List.length_cons];omega
  rw [e1,List.range_succ_eq_map,List.all_cons,List.all_map,Bool.and_assoc]
  have e2:D.at_ (d::ds) (e::es) 0=D.eq d e:=by simp [D.at_]
  have e3:(D.at_ (d::ds) (e::es) ∘ Nat.succ)=D.at_ ds es:=by funext j;simp [D.at_]
  have e4:((d::ds).length == (e::es).length)=(ds.length == es.length):=by simp
  rw [e2,e3,e4]
section
variable {X:Cx} {pins:List (Addr × Obj)} {σ:St} {H:Hp} {s:Shared}
/-! ### isinstance of a built-in type -/
end
end L2

set_option Elab.async false
set_option maxRecDepth 100000
set_option maxHeartbeats 4000000
namespace L2
open PySem PySem.Spec PyProof.Rows PySem.SeqAt
open PySem.AutoSeq1 (wpAny_loadPart')
section
variable {X:Cx}
end
end L2

set_option Elab.async false
set_option linter.all false
set_option maxRecDepth 100000
set_option maxHeartbeats 4000000
namespace L2
open PySem PySem.Spec PyProof.Rows
/-! ### the rules that name the fragment,said of a fragment that is handed in (a block's context hides its own) -/
section
variable {X:Cx} (K:PySem.W.Frag)
theorem ixL (h:X.K=K):IxR X (rIxL K):=h ▸ ix_list
theorem ixT (h:X.K=K):IxR X (rIxT K):=h ▸ ix_tup
theorem cTup (h:X.K=K):CallR X (.type "tuple") (fun xs H Q=>∃ p ys,xs=[.ref p]∧((SqL K H p ys∧∀ l,H l=none→Q (.ref l) (upd H l (.tup ys)))∨(SqT K H p ys∧Q (.ref p) H))):=h ▸ call_tuple_of
theorem piT {tg l:Expr} {tl:TE} (h:X.K=K) (hl:PE X l tl):PI X tg l (iTup K tl):=h ▸ pi_tup hl
variable {o e:Expr} {es:List Expr} {to:TE} {t:TA} {name:Str} {apos cpos:Pos} {T id:String} {r:V→List V→Hp→VK→Prop}
theorem cAll (h:X.K=K) (hc:X.calm=true):CallR X (.builtin "all") (fun xs H Q=>∃ (p:Addr) (bs:List Bool),xs=[.ref p]∧SqL K H p (bs.map V.bl)∧Q (.bl (bs.all _root_.id)) H):=h ▸ call_all hc
theorem cAny (h:X.K=K) (hc:X.calm=true):CallR X (.builtin "any") (fun xs H Q=>∃ (p:Addr) (bs:List Bool),xs=[.ref p]∧SqL K H p (bs.map V.bl)∧Q (.bl (bs.any _root_.id)) H):=h ▸ call_any hc
inductive TyS (K:PySem.W.Frag) (H:Hp):V→Value→Prop where
 | of {x:V} {t:Value} (h:TyOf K H x t):TyS K H x t
 | tup {a:Addr} {xs:List V} (h:SqT K H a xs):TyS K H (.ref a) (.type "tuple")
 | lst {a:Addr} {xs:List V} (h:SqL K H a xs):TyS K H (.ref a) (.type "list")
theorem cIsS (c:String) (hK:X.K=K):CallR X (.builtin "isinstance") (fun xs H Q=>∃ x t b,xs=[x,.ty c]∧TyS K H x t∧PySem.W.kitOne K t (.type c)=some b∧Q (.bl b) H):=by
 subst hK
 intro pins s σ H xs us Q I r h
 obtain ⟨x,t,b,rfl,ty,k,q⟩:=h
 obtain ⟨u,w',rfl,ru,rw'⟩:=vals2 r
 cases rw'
 cases ty with
 | of ty=>exact isinst_ok I ru ty k fun tk=>⟨.bl b,H,I.tok tk,rfl,q⟩
 | tup ht =>
  cases ru
  obtain ⟨_,_,⟨o,h1,h2,_⟩,_⟩:=I.tuple ht
  exact PySem.W.kia_one PySem.W.kitx_tuple I.kIn ⟨o,h1,h2⟩ k (fun z=>nomatch z) fun tk=>⟨.bl b,H,I.tok tk,rfl,q⟩
 | lst ht =>
  cases ru
  obtain ⟨_,_,⟨o,n,h1,h2,_⟩,_⟩:=I.list ht
  exact PySem.W.kia_one PySem.W.kitx_list I.kIn ⟨o,h1,h2⟩ k (fun z=>nomatch z) fun tk=>⟨.bl b,H,I.tok tk,rfl,q⟩
def tIsi (K:PySem.W.Frag) (c:String) (te:TE):TE:=tCB (fun xs H Q=>∃ x t b,xs=[x,.ty c]∧TyS K H x t∧PySem.W.kitOne K t (.type c)=some b∧Q (.bl b) H) (tCons te (tCons (tC (.ty c)) tNil))
theorem pIsi {x:Str} {c:String} {p q cpos:Pos} {te:TE} (hK:X.K=K) (he:PE X e te) (mi:X.mg "isinstance"=none) (mc:X.mg x=none) (hb:bootBuiltins x=some (.type c)) (hg:Gl X "isinstance":=by rfl) (hgc:Gl X x:=by rfl)
  (hn:x≠"__name__":=by decide) (hd:(x == ("__debug__":Str))=false:=by decide)
  (hs:starEach [e,.Name x q] X.env=(false,eval e X.env)::starEach [.Name x q] X.env:=by rfl) (hpl:(backTo cpos (starEach [.Name x q] X.env)).any (·.1)=false:=by rfl) :
  PE X (.Call (.Name "isinstance" p) [e,.Name x q] [] cpos) (tIsi K c te) :=
 pe_callB (cIsS K c hK) hg mi boot_isinstance (pa_cons he (pa_cons (pe_bltn (v:=.ty c) hgc mc hb rfl hn hd) pa_nil) hs) (by decide) (by decide) hs hpl
end
/-! no list or tuple in it is long -/
mutual
def D.few:D→Prop
 | .tup a=>a.length≤5000∧D.fewL a
 | .lst a=>a.length≤5000∧D.fewL a
 | _=>True
def D.fewL:List D→Prop
 | []=>True
 | d::ds=>D.few d∧D.fewL ds
end
theorem D.fewL_get:∀ {ds:List D} {j:Nat} {d:D},D.fewL ds→ds[j]?=some d→D.few d
 | [],_,_,_,h=>by simp at h
 | _::_,0,_,h,e=>by
  simp only [D.fewL] at h
  simp at e;subst e;exact h.1
 | _::_,j+1,_,h,e=>by
  simp only [D.fewL] at h
  exact D.fewL_get h.2 (by simpa using e)
theorem D.depL_ints:∀ ns:List Int,D.depL (ns.map D.int)=0
 | []=>by simp only [List.map_nil,D.depL]
 | n::r=>by simp only [List.map_cons,D.depL,D.dep,D.depL_ints r];rfl
end L2

set_option Elab.async false
set_option linter.all false
set_option maxRecDepth 100000
set_option maxHeartbeats 4000000
namespace Gu
open PySem L2
/-! ### what the law's own defs reckon -/
def cell (ns:List Int) (i:Nat):Int:=if i < ns.length then ns.getD i 0 else if ns.length=0 then 29*i+5 else ns.getD (i % ns.length) 0 % 1000003+103*i
def letters (ns:List Int) (i:Nat):Int:=2+cell ns i % 4
theorem letters_ge (ns:List Int) (i:Nat):2≤letters ns i:=by unfold letters;have:=Int.emod_nonneg (cell ns i) (show (4:Int)≠0 by decide);omega
theorem letters_le (ns:List Int) (i:Nat):letters ns i≤5:=by unfold letters;have:=Int.emod_lt_of_pos (cell ns i) (show (0:Int) < 4 by decide);omega
def letN (ns:List Int) (i:Nat):Nat:=(letters ns i).toNat
theorem letN_ge (ns:List Int) (i:Nat):2≤letN ns i:=by unfold letN;have:=letters_ge ns i;omega
theorem letN_le (ns:List Int) (i:Nat):letN ns i≤5:=by unfold letN;have:=letters_le ns i;omega
theorem letN_int (ns:List Int) (i:Nat):((letN ns i:Nat):Int)=2+cell ns i % 4:=by unfold letN;have:=letters_ge ns i;unfold letters at *;omega
def iota (n:Nat):List Int:=(List.range n).map fun (i:Nat)=>(i:Int)
theorem iota_len (n:Nat):(iota n).length=n:=by simp [iota]
theorem iota_get {n i:Nat} (h:i < n):(iota n)[i]?=some (i:Int):=by simp [iota,h]
theorem mem_iota {n:Nat} {x:Int}:x∈iota n↔0≤x∧x < n:=by
 constructor
 ·intro h
  obtain ⟨i,hi,rfl⟩:=List.mem_map.mp h
  have:=List.mem_range.mp hi
  omega
 ·intro ⟨h0,h1⟩
  exact List.mem_map.mpr ⟨x.toNat,List.mem_range.mpr (by omega),by omega⟩
theorem iota_nodup (n:Nat):(iota n).Nodup:=by
 unfold iota
 rw [List.nodup_iff_pairwise_ne,List.pairwise_map]
 exact List.Pairwise.imp (fun h=>by omega) List.nodup_range
theorem rint_iota (n:Nat):rint 0 n=(iota n).map V.int:=by
 unfold rint iota
 rw [List.map_map]
 refine List.map_congr_left fun i _=>?_
 simp
theorem cons_erase_perm:∀ (l:List Int) (i:Nat) (h:i < l.length),(l[i]::l.eraseIdx i).Perm l
 | [],_,h=>by simp at h
 | a::r,0,_=>List.Perm.refl _
 | a::r,i+1,h=>by
  have ih:=cons_erase_perm r i (by simpa using h)
  show (r[i]'(by simpa using h)::a::r.eraseIdx i).Perm (a::r)
  exact (List.Perm.swap _ _ _).trans (ih.cons a)
def rear:Nat→Int→List Int→List Int
 | 0,_,_=>[]
 | k+1,p,left=>left.getD (p % (left.length:Int)).toNat 0::rear k (p / (left.length:Int)) (left.eraseIdx (p % (left.length:Int)).toNat)
def rearr (pick:Int) (n:Nat):List Int:=rear n pick (iota n)
theorem rear_perm:∀ (k:Nat) (p:Int) (left:List Int),left.length=k→(rear k p left).Perm left
 | 0,_,left,h=>by
  have:left=[]:=List.length_eq_zero_iff.mp h
  subst this
  exact List.Perm.refl _
 | k+1,p,left,h=>by
  have hpos:(0:Int) < left.length:=by omega
  have h0:=Int.emod_nonneg p (show (left.length:Int)≠0 by omega)
  have h1:=Int.emod_lt_of_pos p hpos
  have hi:(p % (left.length:Int)).toNat < left.length:=by omega
  unfold rear
  have e:left.getD (p % (left.length:Int)).toNat 0=left[(p % (left.length:Int)).toNat]:=by simp [hi]
  rw [e]
  have ih:=rear_perm k (p / (left.length:Int)) (left.eraseIdx (p % (left.length:Int)).toNat) (by rw [List.length_eraseIdx_of_lt hi];omega)
  exact (ih.cons _).trans (cons_erase_perm _ _ hi)
theorem rearr_perm (pick:Int) (n:Nat):(rearr pick n).Perm (iota n):=rear_perm n pick (iota n) (iota_len n)
def IsP (n:Nat) (p:List Int):Prop:=p.Perm (iota n)
theorem IsP.len {n:Nat} {p:List Int} (h:IsP n p):p.length=n:=by rw [List.Perm.length_eq h,iota_len]
theorem IsP.nodup {n:Nat} {p:List Int} (h:IsP n p):p.Nodup:=(List.Perm.nodup_iff h).mpr (iota_nodup n)
theorem IsP.mem {n:Nat} {p:List Int} (h:IsP n p) {x:Int}:x∈p↔0≤x∧x < n:=(List.Perm.mem_iff h).trans mem_iota
def turn (one other:List Int):List Int:=one.map fun x=>other.getD x.toNat 0
def back (p:List Int):List Int:=(iota p.length).map fun k=>((p.idxOf k:Nat):Int)
theorem back_get {n:Nat} {p:List Int} (h:IsP n p) {m:Nat} {x:Int} (e:p[m]?=some x):(back p)[x.toNat]?=some (m:Int):=by
 have hm:m < p.length:=(List.getElem?_eq_some_iff.mp e).1
 have e1:p[m]=x:=by rw [List.getElem?_eq_getElem hm] at e;exact Option.some.inj e
 have hx:=h.mem.mp (e1 ▸ List.getElem_mem hm)
 unfold back
 rw [List.getElem?_map,iota_get (n:=p.length) (i:=x.toNat) (by rw [h.len];omega)]
 have e2:((x.toNat:Nat):Int)=x:=by omega
 have e3:p.idxOf x=m:=by rw [←e1];exact List.Nodup.idxOf_getElem h.nodup m hm
 simp [e2,e3]
theorem back_len {p:List Int}:(back p).length=p.length:=by simp [back,iota_len]
theorem turn_back {n:Nat} {p:List Int} (h:IsP n p):turn p (back p)=iota n:=by
 refine List.ext_getElem? fun m=>?_
 unfold turn
 rw [List.getElem?_map]
 by_cases hm:m < n
 ·have hml:m < p.length:=by rw [h.len];exact hm
  have e:p[m]?=some p[m]:=List.getElem?_eq_getElem hml
  rw [e,iota_get hm]
  have:=back_get h e
  simp [this]
 ·rw [List.getElem?_eq_none (by rw [h.len];omega),List.getElem?_eq_none (by rw [iota_len];omega)]
  rfl
end Gu

set_option Elab.async false
set_option linter.all false
set_option maxRecDepth 100000
set_option maxHeartbeats 4000000
namespace L2
open PySem PySem.Spec PyProof.Rows PySem.SeqAt

/-! ### tuples within tuples as keys of a dict -/
instance:DecidableEq D:=fun a b=>if h:D.eq a b=true then isTrue (D.eq_of h) else isFalse fun e=>h (by rw [e];exact D.eq_refl b)
theorem D.dec (a b:D):decide (a=b)=D.eq a b:=by
 by_cases h:D.eq a b=true
 ·rw [decide_eq_true (D.eq_of h),h]
 ·rw [decide_eq_false (fun e=>h (by rw [e];exact D.eq_refl b)),Bool.eq_false_iff.mpr h]
mutual
def Hd (h:Heap):D→Value→Prop
 | .int i,v=>∃ t,v=.int i t
 | .tup ds,v=>∃ (a:Addr) (o:Obj) (its:Array Value) (n:Nat),v=.ref a∧h.get? a=some o∧o.cls=.type "tuple"∧o.data=.seq its n∧HdL h ds its.toList
 | _,_=>False
def HdL (h:Heap):List D→List Value→Prop
 | [],vs=>vs=[]
 | d::ds,vs=>∃ v r,vs=v::r∧Hd h d v∧HdL h ds r
end
mutual
def D.hash:D→Int
 | .int i=>hashInt i
 | .tup ds=>reduceHash (Builtin.Tuple.tupleHashOf (D.hashL ds))
 | _=>0
def D.hashL:List D→List Int
 | []=>[]
 | d::ds=>D.hash d::D.hashL ds
end
mutual
def D.draws:D→Nat
 | .tup ds=>D.drawsL ds+1
 | _=>1
def D.drawsL:List D→Nat
 | []=>0
 | d::ds=>D.draws d+D.drawsL ds
end
theorem D.hashL_app:∀ a b:List D,D.hashL (a++b)=D.hashL a++D.hashL b
 | [],b=>by simp only [List.nil_append,D.hashL]
 | d::a,b=>by simp only [List.cons_append,D.hashL,D.hashL_app a b]
theorem D.drawsL_app:∀ a b:List D,D.drawsL (a++b)=D.drawsL a+D.drawsL b
 | [],b=>by simp only [List.nil_append,D.drawsL,Nat.zero_add]
 | d::a,b=>by simp only [List.cons_append,D.drawsL,D.drawsL_app a b,Nat.add_assoc]
theorem HdL.length {h:Heap}:∀ {ds:List D} {vs:List Value},HdL h ds vs→ds.length=vs.length
 | [],_,h=>by simp only [HdL] at h;subst h;rfl
 | d::ds,_,h=>by
  simp only [HdL] at h
  obtain ⟨v,r,rfl,_,q⟩:=h
  rw [List.length_cons,List.length_cons,HdL.length q]
theorem HdL.get {h:Heap}:∀ {ds:List D} {vs:List Value} {i:Nat} {d:D},HdL h ds vs→ds[i]?=some d→∃ v,vs[i]?=some v∧Hd h d v
 | [],_,_,_,_,e=>by simp at e
 | d::ds,_,0,_,h,e=>by
  simp only [HdL] at h
  obtain ⟨v,r,rfl,q,_⟩:=h
  simp at e;subst e
  exact ⟨v,rfl,q⟩
 | d::ds,_,i+1,d',h,e=>by
  simp only [HdL] at h
  obtain ⟨v,r,rfl,_,q⟩:=h
  obtain ⟨v',h1,h2⟩:=HdL.get (i:=i) q (by simpa using e)
  exact ⟨v',by simpa using h1,h2⟩
mutual
theorem Hd.keep {h h':Heap} (k:∀ a o its n,h.get? a=some o→o.cls=.type "tuple"→o.data=.seq its n→h'.get? a=some o):∀ {d:D} {v:Value},Hd h d v→Hd h' d v
 | .int _,_,q=>by simp only [Hd] at q ⊢;exact q
 | .tup ds,_,q=>by
  simp only [Hd] at q ⊢
  obtain ⟨a,o,its,n,e,h1,h2,h3,h4⟩:=q
  exact ⟨a,o,its,n,e,k a o its n h1 h2 h3,h2,h3,HdL.keep k h4⟩
 | .non,_,q=>by simp only [Hd] at q
 | .bl _,_,q=>by simp only [Hd] at q
 | .str _,_,q=>by simp only [Hd] at q
 | .lst _,_,q=>by simp only [Hd] at q
theorem HdL.keep {h h':Heap} (k:∀ a o its n,h.get? a=some o→o.cls=.type "tuple"→o.data=.seq its n→h'.get? a=some o):∀ {ds:List D} {vs:List Value},HdL h ds vs→HdL h' ds vs
 | [],_,q=>by simp only [HdL] at q ⊢;exact q
 | d::ds,_,q=>by
  simp only [HdL] at q ⊢
  obtain ⟨v,r,e,q1,q2⟩:=q
  exact ⟨v,r,e,Hd.keep k q1,HdL.keep k q2⟩
end
mutual
theorem Hd.inj {h:Heap}:∀ {d e:D} {v:Value},Hd h d v→Hd h e v→d=e
 | .int _,e,v,p,q=>by
  simp only [Hd] at p
  obtain ⟨t,rfl⟩:=p
  cases e<;>simp only [Hd] at q
  ·obtain ⟨t',e⟩:=q;injection e with e;rw [e]
  ·obtain ⟨a,_,_,_,e,_⟩:=q;cases e
 | .tup ds,e,v,p,q=>by
  simp only [Hd] at p
  obtain ⟨a,o,its,n,rfl,h1,h2,h3,h4⟩:=p
  cases e<;>simp only [Hd] at q
  ·obtain ⟨t',e⟩:=q;cases e
  ·obtain ⟨b,o',its',n',e,g1,g2,g3,g4⟩:=q
   cases e
   rw [h1] at g1;cases g1
   rw [h3] at g3;injection g3 with e1 _;subst e1
   rw [HdL.inj h4 g4]
 | .non,_,_,q,_=>by simp only [Hd] at q
 | .bl _,_,_,q,_=>by simp only [Hd] at q
 | .str _,_,_,q,_=>by simp only [Hd] at q
 | .lst _,_,_,q,_=>by simp only [Hd] at q
theorem HdL.inj {h:Heap}:∀ {ds es:List D} {vs:List Value},HdL h ds vs→HdL h es vs→ds=es
 | [],[],_,_,_=>rfl
 | [],_::_,_,p,q=>by
  simp only [HdL] at p q
  obtain ⟨_,_,e,_⟩:=q;rw [p] at e;cases e
 | _::_,[],_,p,q=>by
  simp only [HdL] at p q
  obtain ⟨_,_,e,_⟩:=p;rw [q] at e;cases e
 | d::ds,e::es,_,p,q=>by
  simp only [HdL] at p q
  obtain ⟨v,r,rfl,p1,p2⟩:=p
  obtain ⟨u,w,eq,q1,q2⟩:=q
  cases eq
  rw [Hd.inj p1 q1,HdL.inj p2 q2]
end
section
variable {prog:Program} {w:World}
theorem hash_data:∀ (n:Nat) {A:Around} {E:Value→Shared→Prop} {s:Shared} {d:D} {v:Value} {Q:Int→Shared→Prop},D.dep d≤n→A.units+n < cLine→Hd s.heap d v→Q (D.hash d) { s with toks:=s.toks+D.draws d }→wpAny (model prog w) A (pyHash v) Q E s:=by
 intro n
 induction n with
 | zero =>
  intro A E s d v Q hd hu hv h
  cases d<;>simp only [Hd] at hv<;>simp only [D.dep,Nat.le_zero,Nat.add_eq_zero_iff,Nat.one_ne_zero,and_false] at hd
  obtain ⟨t,rfl⟩:=hv
  exact wpAny_pyHash_int h
 | succ n ih =>
  intro A E s d v Q hd hu hv h
  cases d with
  | int i =>
   simp only [Hd] at hv
   obtain ⟨t,rfl⟩:=hv
   exact wpAny_pyHash_int h
  | tup ds =>
   simp only [Hd] at hv
   simp only [D.dep] at hd
   obtain ⟨a,o,its,m,rfl,ho,hc,hdd,hi⟩:=hv
   have hT:s.TypeIs (.ref a) "tuple":=⟨o,ho,hc⟩
   have hin:A.in1.units+n < cLine:=by show A.units+1+n < cLine;omega
   unfold pyHash
   first | unfold pyHashByItsType | skip
   first | refine wpAny_bind (wpAny_cRoomFor_or (.inr (show A.units < cLine by omega)) ?_) | skip
   refine wpAny_bind (wpAny_specialOf hT F.slot_tuple_hash.lookup ?_)
   show wpAny _ _ (if (some (Value.builtin "tuple.__hash__") == some Value.none)=true
    then _ else _) Q E s
   rw [if_neg (by rw [beq_builtin_none];exact Bool.false_ne_true)]
   refine wpAny_bind (wpAny_specialOf hT F.slot_tuple_hash.lookup ?_)
   show wpAny _ _ (callSpecialIfBoundUnlessNone? (.ref a) "__hash__" _
    >>= _) Q E s
   refine wpAny_bind (wpAny_callSpecialIfBoundUnlessNone?_slot hT F.slot_tuple_hash (wpAny_call_entry F.slot_tuple_hash
    hT F.entry_tuple_hash ?_ (F.args_tuple_hash_1 _)))
   show wpAny _ _ (Builtin.Tuple.tupleItemsOf (.ref a) >>= _) _ _ s
   refine wpAny_bind (wpAny_tupleItemsOf ho hdd (wpAny_bind ?_))
   rw [←Array.forIn_toList]
   refine wpAny_forIn_list _ (fun rest (b:Array Int) s'=>∃ done left,ds=done++left∧HdL s.heap left rest∧b.toList=D.hashL done∧s'={ s with toks:=s.toks+D.drawsL done }) _ ?_ ?_ _ _ ⟨[],ds,rfl,hi,by simp only [D.hashL],by simp only [D.drawsL,Nat.add_zero]⟩
   ·rintro x rest b s' ⟨done,left,e,hl,hb,rfl⟩
    cases left with
    | nil=>simp only [HdL] at hl;cases hl
    | cons k ks =>
     simp only [HdL] at hl
     obtain ⟨v',r,ev,q1,q2⟩:=hl
     cases ev
     have hk:D.dep k≤n:=by
      have z:ds[done.length]?=some k:=by rw [e];simp
      have:=D.depL_get z
      omega
     refine wpAny_bind (ih hk hin q1 ?_)
     have fin:∃ done' left',ds=done'++left'∧HdL s.heap left' rest∧(b.push (D.hash k)).toList=D.hashL done'∧({ s with toks:=s.toks+D.drawsL done+D.draws k }:Shared)={ s with toks:=s.toks+D.drawsL done' } :=
      ⟨done++[k],ks,by rw [e];simp,q2,by rw [D.hashL_app,←hb];simp [D.hashL],by rw [D.drawsL_app];simp only [D.drawsL,Nat.add_zero,Nat.add_assoc]⟩
     first
      | exact wpAny_pure fin
      | exact wpAny_bind (wpAny_pure (wpAny_pure fin))
   ·rintro b s' ⟨done,left,e,hl,hb,rfl⟩
    cases left with
    | cons k ks=>simp only [HdL] at hl;obtain ⟨_,_,e,_⟩:=hl;cases e
    | nil =>
     rw [List.append_nil] at e
     subst e
     show wpAny _ _ (retInt (Builtin.Tuple.tupleHashOf b.toList))
      _ _ _
     rw [hb]
     refine wpAny_ret_mkInt ?_
     show wpAny _ _ (if (decide (-(2:Int) ^ 63≤Builtin.Tuple.tupleHashOf (D.hashL ds)) && decide (Builtin.Tuple.tupleHashOf (D.hashL ds) < 2 ^ 63))=true then _ else _) Q E _
     simp only [D.hash] at h
     unfold reduceHash at h
     simp only [D.draws] at h
     by_cases hr:(decide (-(2:Int) ^ 63≤Builtin.Tuple.tupleHashOf (D.hashL ds)) && decide (Builtin.Tuple.tupleHashOf (D.hashL ds) < 2 ^ 63))=true
     ·rw [if_pos hr]
      rw [if_pos hr] at h
      exact wpAny_pure (by simpa [Nat.add_assoc] using h)
     ·rw [if_neg hr]
      rw [if_neg hr] at h
      exact wpAny_bind (wpAny_rule (wpAny_pure (by simpa [Nat.add_assoc] using h)))
  | non=>simp only [Hd] at hv
  | bl _=>simp only [Hd] at hv
  | str _=>simp only [Hd] at hv
  | lst _=>simp only [Hd] at hv
end
end L2

set_option Elab.async false
set_option linter.all false
set_option maxRecDepth 100000
set_option maxHeartbeats 4000000
namespace L2
open PySem PySem.Spec PyProof.Rows PySem.SeqAt
section
variable {prog:Program} {w:World}
theorem eq_data {s:Shared}:∀ (n:Nat) (A:Around) {d e:D} {v u:Value},D.dep d≤n→A.units+n < cLine→Hd s.heap d v→Hd s.heap e u→EqAt A s v u (D.eq d e):=by
 intro n
 induction n with
 | zero =>
  intro A d e v u hd hu hv hx
  cases d<;>simp only [Hd] at hv<;>simp only [D.dep,Nat.le_zero,Nat.add_eq_zero_iff,Nat.one_ne_zero,and_false] at hd
  obtain ⟨t,rfl⟩:=hv
  cases e<;>simp only [Hd] at hx
  ·obtain ⟨t',rfl⟩:=hx
   simp only [D.eq]
   exact EqAt.int_int _ _ _ _
  ·obtain ⟨a,o,its,m,rfl,ho,hc,hdd,hi⟩:=hx
   simp only [D.eq]
   exact EqAt.int_tuple _ _ (items:=its) ⟨o,ho,hc,m,hdd⟩ (by omega)
 | succ n ih =>
  intro A d e v u hd hu hv hx
  have hin:A.in1.units+n < cLine:=by show A.units+1+n < cLine;omega
  cases d with
  | int i=>exact ih A (Nat.zero_le _) (by omega) hv hx
  | tup ds =>
   simp only [Hd] at hv
   simp only [D.dep] at hd
   obtain ⟨a,o,its,m,rfl,ho,hc,hdd,hi⟩:=hv
   have ta:s.heap.IsTuple a its:=⟨o,ho,hc,m,hdd⟩
   cases e with
   | int j =>
    simp only [Hd] at hx
    obtain ⟨t',rfl⟩:=hx
    simp only [D.eq]
    exact EqAt.tuple_int _ _ ta (by omega)
   | tup es =>
    have inj:Value.ref a=u→D.tup ds=D.tup es:=fun z=>Hd.inj (h:=s.heap) (v:=u) (by rw [←z];simp only [Hd];exact ⟨a,o,its,m,rfl,ho,hc,hdd,hi⟩) hx
    simp only [Hd] at hx
    obtain ⟨b,o',its',m',rfl,ho',hc',hdd',hi'⟩:=hx
    have tb:s.heap.IsTuple b its':=⟨o',ho',hc',m',hdd'⟩
    have e1:its.size=ds.length:=by have:=hi.length;simp at this;omega
    have e2:its'.size=es.length:=by have:=hi'.length;simp at this;omega
    have z:=RcAt.tuples (A:=A) (e:=D.at_ ds es) ta tb (by omega) (fun j h1 h2=>by
     have g1:ds[j]?=some ds[j]:=List.getElem?_eq_getElem (by omega)
     have g2:es[j]?=some es[j]:=List.getElem?_eq_getElem (by omega)
     obtain ⟨x1,k1,q1⟩:=hi.get g1
     obtain ⟨x2,k2,q2⟩:=hi'.get g2
     have z1:x1=its[j]:=by simp [h1] at k1;exact k1.symm
     have z2:x2=its'[j]:=by simp [h2] at k2;exact k2.symm
     have z3:D.at_ ds es j=D.eq ds[j] es[j]:=by unfold D.at_;rw [g1,g2]
     rw [z3,←z1,←z2]
     exact ih A.in1 (Nat.le_trans (D.depL_get g1) (by omega)) hin q1 q2)
    rw [e1,e2,D.all_eqL] at z
    simp only [D.eq]
    by_cases hab:a=b
    ·have:=inj (by rw [hab])
     injection this with this
     subst this hab
     rw [D.eqL_refl]
     exact EqAt.same _
    ·exact EqAt.of_refs hab z
   | non=>simp only [Hd] at hx
   | bl _=>simp only [Hd] at hx
   | str _=>simp only [Hd] at hx
   | lst _=>simp only [Hd] at hx
  | non=>simp only [Hd] at hv
  | bl _=>simp only [Hd] at hv
  | str _=>simp only [Hd] at hv
  | lst _=>simp only [Hd] at hv
theorem quiet_data {A:Around} {E:Value→Shared→Prop} {s:Shared}:∀ (n:Nat) {d:D} {v:Value} {Q:Bool→Shared→Prop},D.dep d≤n→Hd s.heap d v→Q true s→wpAny (model prog w) A (eqIsQuiet n v) Q E s:=by
 have flat:∀ (n:Nat) {i:Int} {t:Tok} {Q:Bool→Shared→Prop},Q true s→wpAny (model prog w) A (eqIsQuiet n (.int i t)) Q E s:=fun n i t Q h=>by
  rw [eqIsQuiet_byValue n (v:=.int i t) rfl]
  exact wpAny_pure h
 intro n
 induction n with
 | zero =>
  intro d v Q hd hv h
  cases d<;>simp only [Hd] at hv<;>simp only [D.dep,Nat.le_zero,Nat.add_eq_zero_iff,Nat.one_ne_zero,and_false] at hd
  obtain ⟨t,rfl⟩:=hv
  exact flat 0 h
 | succ n ih =>
  intro d v Q hd hv h
  cases d with
  | int i =>
   simp only [Hd] at hv
   obtain ⟨t,rfl⟩:=hv
   exact flat _ h
  | tup ds =>
   simp only [Hd] at hv
   simp only [D.dep] at hd
   obtain ⟨a,o,its,m,rfl,ho,hc,hdd,hi⟩:=hv
   have hT:s.TypeIs (.ref a) "tuple":=⟨o,ho,hc⟩
   unfold eqIsQuiet
   refine wpAny_bind (wpAny_specialOf hT F.slot_tuple_eq.lookup ?_)
   show wpAny _ _ (isInstance (.ref a) (.type "tuple")
    >>= _) _ _ s
   refine wpAny_bind (wpAny_isInstance hT isSubtype_tuple_tuple ?_)
   simp only [Bool.not_true,Bool.false_eq_true,if_false]
   refine wpAny_bind (wpAny_seqItems ho hdd (wpAny_bind ?_))
   show wpAny _ _ (forIn its _ _) _ _ s
   rw [←Array.forIn_toList]
   refine wpAny_forIn_list _ (fun rest r s'=>r.1=none∧s'=s∧∃ left,HdL s.heap left rest∧D.depL left≤n) _ ?_ ?_ _ _ ⟨rfl,rfl,ds,hi,by omega⟩
   ·rintro x rest r s' ⟨hr,rfl,left,hl,hdl⟩
    cases left with
    | nil=>simp only [HdL] at hl;cases hl
    | cons k ks =>
     simp only [HdL] at hl
     simp only [D.depL] at hdl
     obtain ⟨v',q,ev,q1,q2⟩:=hl
     cases ev
     refine wpAny_bind (ih (by omega) q1 ?_)
     simp only [Bool.not_true,Bool.false_eq_true,if_false]
     exact wpAny_pure ⟨rfl,rfl,ks,q2,by omega⟩
   ·rintro ⟨r1,r2⟩ s' ⟨hr,rfl,_⟩
    simp only at hr
    subst hr
    exact wpAny_pure h
  | non=>simp only [Hd] at hv
  | bl _=>simp only [Hd] at hv
  | str _=>simp only [Hd] at hv
  | lst _=>simp only [Hd] at hv
def dataKind (prog:Program) (w:World):HeapKind prog w D where
 is:=fun h d a=>Hd h d (.ref a)∧D.dep d≤8
 hash:=D.hash
 draws:=D.draws
 room:=fun A=>A.units+8 < cLine
 inj:=fun hx hy=>Hd.inj hx.1 hy.1
 keeps:=fun {h h' k a d o es ep} hx ho hd hs=>⟨Hd.keep (fun b o' its n e c q=>(hs.2 b (by
  rintro rfl
  rw [ho] at e;cases e;rw [hd] at q;cases q)).trans e) hx.1,hx.2⟩
 pyHash:=fun hu hk h=>hash_data 8 hk.2 hu hk.1 h
 eqBool:=fun hu hx hy h=>by
  rw [D.dec] at h
  exact eq_data 8 _ hx.2 hu hx.1 hy.1 _ _ _ _ h
 quiet:=fun hk h=>quiet_data 8 hk.2 hk.1 h
end
mutual
def D.key:D→Prop
 | .int _=>True
 | .tup ds=>D.keyL ds
 | _=>False
def D.keyL:List D→Prop
 | []=>True
 | d::ds=>D.key d∧D.keyL ds
end
section
variable {P:Program} {w:World} {K:PySem.W.Frag} {H:Hp} {h:Heap}
mutual
theorem Dr.hd (ok:HOk P w H h):∀ {d:D} {v:V} {u:Value},D.key d→Dr K H d v→RelV v u→Hd h d u
 | .int i,v,u,_,q,r=>by
  simp only [Dr] at q
  subst q
  simp only [Hd]
  exact r
 | .tup ds,v,u,k,q,r=>by
  simp only [Dr] at q
  simp only [D.key] at k
  obtain ⟨a,vs,rfl,e,q⟩:=q
  cases r
  obtain ⟨_,its,n,rv,h1⟩:=ok a _ e
  simp only [Hd]
  exact ⟨a,_,its.toArray,n,rfl,h1,rfl,rfl,by simpa using DrL.hd ok k q rv⟩
 | .non,_,_,k,_,_=>by simp only [D.key] at k
 | .bl _,_,_,k,_,_=>by simp only [D.key] at k
 | .str _,_,_,k,_,_=>by simp only [D.key] at k
 | .lst _,_,_,k,_,_=>by simp only [D.key] at k
theorem DrL.hd (ok:HOk P w H h):∀ {ds:List D} {vs:List V} {us:List Value},D.keyL ds→DrL K H ds vs→Vals vs us→HdL h ds us
 | [],vs,us,_,q,r=>by
  simp only [DrL] at q
  subst q
  cases r
  simp only [HdL]
 | d::ds,vs,us,k,q,r=>by
  simp only [DrL] at q
  simp only [D.keyL] at k
  obtain ⟨v,z,rfl,q1,q2⟩:=q
  cases r with
  | cons r1 r2 =>
   simp only [HdL]
   exact ⟨_,_,rfl,Dr.hd ok k.1 q1 r1,DrL.hd ok k.2 q2 r2⟩
end
end
end L2

set_option Elab.async false
set_option linter.all false
set_option maxRecDepth 100000
set_option maxHeartbeats 4000000
namespace L2
open PySem PySem.Spec PyProof.Rows PySem.SeqAt

/-! ### a dict whose keys are tuples,at any depth -/
def dExt (P:Program) (w:World) (a:Addr) (xs:List (D × Addr × Value)):HO :=
 .ext fun h=>(a == sysModules)=false∧∃ o es ep,h.get? a=some o∧o.ExactDict∧o.data=.dict es ep∧es.toList=xs.map (entryOfKey (dataKind P w))
abbrev KDr (K:PySem.W.Frag) (H:Hp):List (D × V)→List (D × Addr × Value)→Prop:=Paired fun p q=>p.1=q.1∧(D.key p.1∧D.dep p.1≤8∧Dr K H p.1 (.ref q.2.1))∧RelV p.2 q.2.2
def DD (P:Program) (w:World) (K:PySem.W.Frag) (H:Hp) (a:Addr) (kvs:List (D × V)):Prop :=
 ∃ xs,H a=some (dExt P w a xs)∧KDr K H kvs xs∧(kvs.map (·.1)).Nodup∧kvs.length≤sizeLine
theorem KDr.val {K:PySem.W.Frag} {H:Hp} {kvs:List (D × V)} {xs:List (D × Addr × Value)} (r:KDr K H kvs xs) (k:D):RelO (valV kvs k) ((atKey xs k).map (·.2)):=by
 induction r with
 | nil=>exact True.intro
 | @cons p q ps qs h t ih =>
  obtain ⟨h1,_,h2⟩:=h
  by_cases e:p.1=k
  ·have e':q.1=k:=h1.symm.trans e
   have b:atKey (q::qs) k=some q.2:=by simp [atKey,List.find?_cons,e']
   rw [valV_pos e,b]
   exact h2
  ·have e':¬ q.1=k:=fun z=>e (h1.trans z)
   have b:atKey (q::qs) k=atKey qs k:=by simp [atKey,List.find?_cons,e']
   rw [valV_neg e,b]
   exact ih
theorem KDr.repl {K:PySem.W.Frag} {H:Hp} {kvs:List (D × V)} {xs:List (D × Addr × Value)} (r:KDr K H kvs xs) (k:D) {y:V} {u:Value} (ry:RelV y u) :
  KDr K H (kvs.map fun kv=>if kv.1=k then (kv.1,y) else kv) (xs.map (putAt k u)):=by
 induction r with
 | nil=>exact .nil
 | @cons p q ps qs h t ih =>
  rw [List.map_cons,List.map_cons]
  refine .cons ?_ ih
  obtain ⟨h1,h2,h3⟩:=h
  unfold putAt
  by_cases e:p.1=k
  ·rw [if_pos e,if_pos (h1.symm.trans e)]
   exact ⟨h1,h2,ry⟩
  ·rw [if_neg e,if_neg (fun z=>e (h1.trans z))]
   exact ⟨h1,h2,h3⟩
theorem KDr.put {K:PySem.W.Frag} {H:Hp} {kvs:List (D × V)} {xs:List (D × Addr × Value)} (r:KDr K H kvs xs) (k:D) {b:Addr} {y:V} {u:Value} (hb:D.key k∧D.dep k≤8∧Dr K H k (.ref b)) (ry:RelV y u) :
  KDr K H (putK kvs k y) (storedH xs k b u):=by
 have e:(kvs.any fun kv=>decide (kv.1=k))=(atKey xs k).isSome:=by
  rw [valV_any,(r.val k).isSome_eq,Option.isSome_map]
 unfold putK storedH
 rw [e]
 by_cases q:(atKey xs k).isSome=true
 ·rw [if_pos q,if_pos q]
  exact r.repl k ry
 ·rw [if_neg q,if_neg q]
  exact Paired.snoc r ⟨rfl,hb,ry⟩
theorem KDr.keys {K:PySem.W.Frag} {H:Hp} {kvs:List (D × V)} {xs:List (D × Addr × Value)} (r:KDr K H kvs xs):kvs.map (·.1)=xs.map (·.1):=by
 induction r with
 | nil=>rfl
 | @cons p q ps qs h t ih=>rw [List.map_cons,List.map_cons,ih,h.1]
theorem KDr.mono {K:PySem.W.Frag} {H H':Hp} {kvs:List (D × V)} {xs:List (D × Addr × Value)} (r:KDr K H kvs xs) (f:∀ d v,D.key d→Dr K H d v→Dr K H' d v):KDr K H' kvs xs :=
 Paired.mapP r fun _ _ z=>⟨z.1,⟨z.2.1.1,z.2.1.2.1,f _ _ z.2.1.1 z.2.1.2.2⟩,z.2.2⟩
theorem DD.mono {P:Program} {w:World} {K:PySem.W.Frag} {H H':Hp} {a:Addr} {kvs:List (D × V)} (h:DD P w K H a kvs) (s:Same H H'):DD P w K H' a kvs:=by
 obtain ⟨xs,e,r,n,z⟩:=h
 exact ⟨xs,s _ _ e,r.mono fun _ _ _ q=>q.mono s,n,z⟩
mutual
theorem Dr.keyed {K:PySem.W.Frag} {H H':Hp} (k:∀ b xs,H b=some (.tup xs)→H' b=some (.tup xs)):∀ {d:D} {v:V},D.key d→Dr K H d v→Dr K H' d v
 | .int _,_,_,h=>by simp only [Dr] at h ⊢;exact h
 | .tup ds,_,q,h=>by
  simp only [Dr] at h ⊢
  simp only [D.key] at q
  obtain ⟨a,vs,e,z,r⟩:=h
  exact ⟨a,vs,e,k _ _ z,DrL.keyed k q r⟩
 | .non,_,q,_=>by simp only [D.key] at q
 | .bl _,_,q,_=>by simp only [D.key] at q
 | .str _,_,q,_=>by simp only [D.key] at q
 | .lst _,_,q,_=>by simp only [D.key] at q
theorem DrL.keyed {K:PySem.W.Frag} {H H':Hp} (k:∀ b xs,H b=some (.tup xs)→H' b=some (.tup xs)):∀ {ds:List D} {vs:List V},D.keyL ds→DrL K H ds vs→DrL K H' ds vs
 | [],_,_,h=>by simp only [DrL] at h ⊢;exact h
 | d::ds,_,q,h=>by
  simp only [DrL] at h ⊢
  simp only [D.keyL] at q
  obtain ⟨v,r,e,q1,q2⟩:=h
  exact ⟨v,r,e,Dr.keyed k q.1 q1,DrL.keyed k q.2 q2⟩
end
section
variable {X:Cx} {pins:List (Addr × Obj)} {σ:St} {H:Hp} {s:Shared} {a:Addr} {kvs:List (D × V)} {K:PySem.W.Frag}
theorem DD.at (I:Inv X pins σ H s) (h:DD X.prog X.w K H a kvs):(a == sysModules)=false∧∃ xs,H a=some (dExt X.prog X.w a xs)∧KDr K H kvs xs∧s.heap.DictOfH (dataKind X.prog X.w) a xs:=by
 obtain ⟨xs,e,r,n,z⟩:=h
 obtain ⟨⟨hs,o,es,ep,h1,h2,h3,h4⟩,_,_⟩:=I.hok a _ e
 refine ⟨hs,xs,e,r,o,es,ep,h1,h2,h3,h4,?_,by rw [←r.keys];exact n⟩
 have all:∀ {l:List (D × V)} {m:List (D × Addr × Value)},KDr K H l m→∀ x∈m,(dataKind X.prog X.w).is s.heap x.1 x.2.1:=by
  intro l m q
  induction q with
  | nil=>intro x hx;exact nomatch hx
  | @cons p q ps qs hq t ih =>
   intro x hx
   rcases List.mem_cons.mp hx with e | hx
   ·subst e
    rw [←hq.1]
    exact ⟨Dr.hd I.hok hq.2.1.1 hq.2.1.2.2 rfl,hq.2.1.2.1⟩
   ·exact ih x hx
 exact all r
theorem key_at (I:Inv X pins σ H s) {d:D} {b:Addr} (k:D.key d) (hd:D.dep d≤8) (h:Dr K H d (.ref b)):(dataKind X.prog X.w).is s.heap d b:=⟨Dr.hd I.hok k h rfl,hd⟩
def KeyV (K:PySem.W.Frag) (H:Hp) (d:D) (y:V):Prop:=(∃ b,y=.ref b)∧D.key d∧D.dep d≤8∧Dr K H d y
variable {o i e f value:Expr} {pos pos' apos cpos:Pos} {td ty tv tx:TE}
def tGetD (P:Program) (w:World) (K:PySem.W.Frag) (td ty:TE):TE:=fun σ H Q=>td σ H fun x H1=>ty σ H1 fun y H2=>∃ a kvs d v,x=.ref a∧DD P w K H2 a kvs∧KeyV K H2 d y∧valV kvs d=some v∧Q v H2
theorem pe_getD (hu:X.A.units+9 < cLine) (ho:PE X o td) (hi:PE X i ty) (hs:NoSl i):PE X (.Subscript o i pos) (tGetD X.prog X.w K td ty):=by
 intro pins s σ H Q I h
 refine subD_of PySem.F.slot_dict_getitem.lookup hs (thn (ho pins s σ H _ I h) fun u s1 ⟨x,H1,I1,rx,q1⟩=>thn (hi pins s1 σ H1 _ I1 q1) fun iv s2 ⟨y,H2,I2,ry,a,kvs,d,v,ex,g,⟨⟨b,eb⟩,k1,k2,k3⟩,hv,q2⟩=>?_)
 subst ex eb
 obtain rfl:u=Value.ref a:=rx
 obtain rfl:iv=Value.ref b:=ry
 obtain ⟨hsm,xs,e,r,dd⟩:=g.at I2
 obtain ⟨w',hw,rw'⟩:=RelO.some_of (v:=v) (o:=(atKey xs d).map (·.2)) (by rw [←hv];exact r.val d)
 obtain ⟨p,hp,hp2⟩:=Option.map_eq_some_iff.mp hw
 refine ⟨dd.typeIs,wpAny_getItem_heap (show X.A.units+1+8 < cLine by omega) (key_at I2 k1 k2 k3) dd hp ?_⟩
 rw [hp2]
 exact ⟨v,H2,I2.tok _,rw',q2⟩
def sPutD (P:Program) (w:World) (K:PySem.W.Frag) (td ty tv:TE):TS:=fun Dd σ H=>tv σ H fun v H1=>td σ H1 fun x H2=>ty σ H2 fun y H3=>∃ a kvs d,x=.ref a∧DD P w K H3 a kvs∧KeyV K H3 d y∧kvs.length < sizeLine ∧
 ∀ ob,DD P w K (upd H3 a ob) a (putK kvs d v)→Dd.nx σ (upd H3 a ob)
theorem dd_notup {P:Program} {w:World} (h:DD P w K H a kvs):∀ b xs,H b=some (.tup xs)→b≠a:=fun b xs e z=>by
 obtain ⟨ys,q,_⟩:=h
 rw [z,q] at e
 cases e
theorem ps_putD (hu:X.A.units+9 < cLine) (ho:PE X o td) (hi:PE X i ty) (hv:PE X value tv) (hs:swapsWith value (some (.Subscript o i pos')) pos.line X.env=pure false:=by rfl) :
  PS X (.Assign [.Subscript o i pos'] value pos) (sPutD X.prog X.w K td ty tv):=by
 intro pins s σ H D I h
 refine wpAny_Assign_Subscript (thn (hv pins s σ H _ I h) fun r s1 ⟨v,H1,I1,rv,q1⟩=>thn (ho pins s1 σ H1 _ I1 q1) fun u s2 ⟨x,H2,I2,rx,q2⟩=>thn (hi pins s2 σ H2 _ I2 q2) fun iv s3 ⟨y,H3,I3,ry,a,kvs,d,ex,g,⟨⟨b,eb⟩,k1,k2,k3⟩,hz,q3⟩=>?_) hs
 subst ex eb
 obtain rfl:u=Value.ref a:=rx
 obtain rfl:iv=Value.ref b:=ry
 obtain ⟨hsm,xs,e,rr,dd⟩:=g.at I3
 have hlen:xs.length≤sizeLine:=by rw [←Paired.length rr];exact Nat.le_of_lt hz
 have hl:(putK kvs d v).length≤sizeLine:=by have:=length_putK kvs d v;omega
 refine wpAny_setItem_heap (hsz:=hlen) (show X.A.units+1+8 < cLine by omega) (key_at I3 k1 k2 k3) dd fun h' dd' hsb=>?_
 obtain ⟨q,es,ep,hq,h2,h3,h4,_,h5⟩:=dd'
 have Iw:Inv X pins σ (upd H3 a (dExt X.prog X.w a (storedH xs d b r))) { s3 with heap:=h',toks:=s3.toks+(dataKind X.prog X.w).draws d }:=by
  refine d_write I3 (by rw [e];exact True.intro) hsb ⟨q,hq⟩ ⟨⟨hsm,q,es,ep,hq,h2,h3,h4⟩,⟨q,hq⟩,fun h1 h2' p k=>?_⟩
  obtain ⟨p0,o1,es1,ep1,p1,p2,p3,p4⟩:=p
  exact ⟨p0,o1,es1,ep1,k _ p1,p2,p3,p4⟩
 have kt:∀ c ys,H3 c=some (.tup ys)→upd H3 a (dExt X.prog X.w a (storedH xs d b r)) c=some (.tup ys):=fun c ys ec=>by
  rw [upd_ne (dd_notup g c ys ec)];exact ec
 refine ⟨σ,_,Iw,q3 _ ⟨_,upd_same,(rr.put d ⟨k1,k2,k3⟩ rv).mono fun d' v' kd q=>q.keyed kt kd,?_,hl⟩⟩
 have nd:=h5
 have ek:=(rr.put d ⟨k1,k2,k3⟩ rv).keys
 rw [ek]
 exact nd
def tNewD (P:Program) (w:World) (K:PySem.W.Frag):TE:=fun _ H Q=>∀ p,H p=none→∀ ob,DD P w K (upd H p ob) p []→Q (.ref p) (upd H p ob)
theorem pe_newD:PE X (.Dict [] [] pos) (tNewD X.prog X.w K):=fun pins s σ H Q I h=>by
 have hb:(s.heap.objs.size == sysModules)=false:=beq_eq_false_iff_ne.mpr (Ne.symm (Nat.ne_of_lt I.big))
 refine wpAny_Dict_empty ⟨.ref s.heap.objs.size,_,I.laid (a:=s.heap.objs.size) (o:=dExt X.prog X.w s.heap.objs.size []) (t':=s.toks) (fun _ _ q=>Heap.get?_push_of_some _ q) (Nat.le_refl _) ⟨⟨hb,_,#[],0,Heap.get?_push_size _ rfl,⟨rfl,rfl,rfl⟩,rfl,rfl⟩,⟨_,Heap.get?_push_size _ rfl⟩,fun h1 h2 p k=>?_⟩,rfl,h _ I.fresh _ ⟨[],upd_same,.nil,List.nodup_nil,Nat.zero_le _⟩⟩
 obtain ⟨p0,o1,es1,ep1,p1,p2,p3,p4⟩:=p
 exact ⟨p0,o1,es1,ep1,k _ p1,p2,p3,p4⟩
def tGet2D (P:Program) (w:World) (K:PySem.W.Frag) (td ty tx:TE):TE:=fun σ H Q=>td σ H fun x H1=>∃ a kvs0,x=.ref a∧DD P w K H1 a kvs0∧ty σ H1 fun y H2=>tx σ H2 fun z H3=>∃ kvs d,DD P w K H3 a kvs∧KeyV K H3 d y∧Q ((valV kvs d).getD z) H3
theorem pe_get2D (hu:X.A.units+9 < cLine) (ho:PE X o td) (he:PE X e ty) (hf:PE X f tx) (m:M2 X o "get" apos e f cpos):PE X (.Call (.Attribute o "get" apos) [e,f] [] cpos) (tGet2D X.prog X.w K td ty tx):=by
 intro pins s σ H Q I h
 refine wpAny_Call_method m.base m.few m.line PySem.F.plainAttrs_dict PySem.F.slot_dict_get PySem.F.type_dict_get (thn (ho pins s σ H _ I h) fun u s1 ⟨x,H1,I1,rx,a,kvs0,ex,g0,q1⟩=>?_)
 subst ex
 obtain rfl:u=Value.ref a:=rx
 obtain ⟨hsm,xs0,_,_,dd0⟩:=g0.at I1
 refine ⟨dd0.typeIs,fun b q=>?_,?_⟩
 ·cases q
  obtain ⟨ob,_,_,h1,h2,_⟩:=dd0
  exact ⟨ob,h1,h2.2.1⟩
 rw [m.trees]
 refine Calls.callWith_builtin rfl (Calls.evalArgs_plain (Calls.spliced_cons (thn (he pins s1 σ H1 _ I1 q1) fun iv s2 ⟨y,H2,I2,ry,q2⟩ =>
  Calls.spliced_cons (thn (hf pins s2 σ H2 _ I2 q2) fun fv s3 ⟨z,H3,I3,rz,kvs,d,g,⟨⟨b,eb⟩,k1,k2,k3⟩,q3⟩=>Calls.spliced_nil ?_))))
 subst eb
 obtain rfl:iv=Value.ref b:=ry
 obtain ⟨_,xs,_,r,dd⟩:=g.at I3
 refine call_meetsIn PySem.F.slot_dict_get dd.typeIs PySem.F.entry_dict_get (PySem.F.args_dict_get_3 _ _ _) (meetsH_dict_get_default (dataKind X.prog X.w) a b hsm fv) ⟨show X.A.units+1+8 < cLine by omega,d,xs,key_at I3 k1 k2 k3,dd,?_⟩
 exact ⟨_,H3,I3.tok _,(r.val d).getD rz,q3⟩
end
end L2

set_option Elab.async false
set_option linter.all false
set_option maxRecDepth 100000
set_option maxHeartbeats 4000000
namespace L2
open PySem PySem.Spec PyProof.Rows PySem.SeqAt
open PySem.AutoSeq1 (wpAny_loadPart')
section
variable {X:Cx} (K:PySem.W.Frag)
theorem cLenD:CallR X (.builtin "len") (fun xs H Q=>∃ a kvs,xs=[V.ref a]∧DD X.prog X.w K H a kvs∧Q (.int kvs.length) H):=by
 intro pins s σ H xs us Q I r h
 obtain ⟨a,kvs,rfl,g,q⟩:=h
 obtain ⟨u,rfl,ru⟩:=vals1 r
 cases ru
 obtain ⟨hsm,xs,_,rr,dd⟩:=g.at I
 obtain ⟨o,es,ep,ho,hc,hdat,hes,_⟩:=id dd
 have hlen:es.size=kvs.length:=by
  have:es.toList.length=xs.length:=by rw [hes,List.length_map]
  rw [Paired.length rr,←this];simp
 have hz:kvs.length≤sizeLine:=by obtain ⟨_,_,_,_,z⟩:=g;exact z
 have hz2:(kvs.length:Int) < 2 ^ 63:=by have:=line63;omega
 refine Calls.call_function_entry kind_len plain_len entry_len (args_len1 _) ?_
 unfold Builtin.«len»
 refine wpAny_bind (m:=oneArg "len" _) (wpAny_pure ?_)
 refine wpAny_bind (m:=callSpecial? (.ref a) (Str.ofString "__len__")) (wpAny_callSpecial?_slot (name:=Str.ofString "__len__") dd.typeIs F.slot_dict_len
  (wpAny_call_entry F.slot_dict_len dd.typeIs F.entry_dict_len ?_ (F.args_dict_len_1 _)))
 show wpAny _ _ (dictSize a >>= _) _ _ s
 unfold dictSize
 refine wpAny_bind (wpAny_bind (wpAny_dictEntries ho hdat (wpAny_pure ?_)))
 show wpAny _ _ (Builtin.Dict.pendingCount a >>= _) _ _ s
 refine wpAny_bind (wpAny_pendingCount_other hsm ?_)
 refine wpAny_ret_mkInt ?_
 rw [Nat.add_zero,hlen]
 refine wpAny_bind (wpAny_holding (wpAny_pure ?_))
 refine wpAny_bind (wpAny_letGo ?_)
 show wpAny _ _ (if ((kvs.length:Nat):Int) < 0
  then _ else _) _ _ _
 rw [if_neg (by omega)]
 show wpAny _ _ (if ((kvs.length:Nat):Int) ≥ 2 ^ 63
  then _ else _) _ _ _
 rw [if_neg (by omega)]
 exact wpAny_bind (wpAny_mkInt (wpAny_pure ⟨_,rfl,.int kvs.length,H,I.tok _,⟨_,rfl⟩,q⟩))
end
end L2

set_option Elab.async false
set_option linter.all false
set_option maxRecDepth 100000
set_option maxHeartbeats 4000000
namespace L2
open PySem PySem.Spec PyProof.Rows PySem.SeqAt
open PySem.AutoSeq1 (wpAny_loadPart')
theorem ints_are:∀ {ns:List Int} {its:List Value},Vals (ns.map V.int) its→IntsAre its ns
 | [],_,r=>by rw [List.map_nil] at r;cases r;exact .nil
 | n::ns,_,r=>by
  rw [List.map_cons] at r
  cases r with
  | cons r rr =>
   obtain ⟨t,rfl⟩:=r
   exact .cons n t (ints_are rr)
theorem of_ints:∀ {ns:List Int} {its:List Value},IntsAre its ns→Vals (ns.map V.int) its
 | _,_,.nil=>.nil
 | _,_,.cons n t r=>.cons ⟨t,rfl⟩ (of_ints r)
section
variable {X:Cx} (K:PySem.W.Frag)
/-! ### a tuple so many times -/
end
section
variable {X:Cx} (P:Program) (w:World) (K:PySem.W.Frag) {o i e f value:Expr} {pos pos' apos cpos:Pos} {td ty tv tx:TE}
end
end L2

set_option Elab.async false
set_option linter.all false
set_option maxRecDepth 100000
set_option maxHeartbeats 4000000
namespace L2
open PySem PySem.Spec PyProof.Rows
/-! ### defs that raise nothing,whatever way exceptions lie behind calls -/
class NoE (CX:CXT):Prop where
 no:∀ {outer:List Env} {H:Hp} {s:Shared} {e:Value} {s':Shared},¬ CX outer H s E0 e s'
theorem passN {CX:CXT} [N:NoE CX] {X:Cx}:Passes CX X E0:=fun _ _ _ _ _ _ _ h=>absurd h N.no
theorem Fun.okc {CX:CXT} {P:Program} {w:World} {K:PySem.W.Frag} {mg:Str→Option Value} {base:Heap} {x qual:Str} {st:Stmt} {f:Addr} {fd:FuncData} {N ps:List Str} {k:Nat} {sp:Sp} (F:Fun K x qual st f fd) (S:FnScope N ps (defScope st)) (len:∀ vs H Q E,sp vs H Q E→vs.length=ps.length)
  (hbody:∀ (cdv:Value) (A:Around) (outer:List Env) (s:Shared) (H:Hp) (vs:List V) (Q:VK) (E:XK),Room k (A.deeper (envOfC qual (defScope st) s.heap.objs.size f cdv))→sp vs H Q E →
   ∃ t,PSs (cxOf CX P w K mg base N qual (defScope st) f cdv A outer s H E).nox (defBody st) t∧t { nx:=fun _ H'=>Q .non H',rt:=Q } (start N vs) H):FnOk P w K mg base CX (k+1) f fd ps sp:=by
 obtain ⟨oc,od,kV,doc,pm,an,cdv,ct,osl,rfl,lk,hcd⟩:=F.ex
 refine fn_of lk hcd S len fun A outer s H vs Q E hr hsp=>?_
 obtain ⟨t,h,q⟩:=hbody cdv A outer s H vs Q E hr hsp
 exact ⟨t,h.nox,q⟩
end L2

set_option Elab.async false
set_option linter.all false
set_option maxRecDepth 100000
set_option maxHeartbeats 4000000
namespace L2
open PySem PySem.Spec PyProof.Rows
/-! ### a plainer reading in the place of one -/
theorem PS.weak {X:Cx} {st:Stmt} {t:TS} (t':TS) (h:PS X st t) (k:∀ D σ H,t' D σ H→t D σ H):PS X st t':=fun pins s σ H D I hw=>h pins s σ H D I (k D σ H hw)
theorem PT.weak {X:Cx} {e:Expr} {t:TT} (t':TT) (h:PT X e t) (k:∀ σ H Q,t' σ H Q→t σ H Q):PT X e t':=fun pins s σ H Q I hw=>h pins s σ H Q I (k σ H Q hw)
def tAny (Pre:St→Hp→Prop):TT:=fun σ H Q=>Pre σ H∧∀ c:Bool,Q c H
end L2

set_option Elab.async false
set_option linter.all false
set_option maxRecDepth 100000
set_option maxHeartbeats 4000000
namespace Gu
open PySem L2
/-! ### first come,first numbered -/
section
variable {α:Type} [DecidableEq α]
def addN (o:List α) (g:α):List α:=if g∈o then o else o++[g]
def addAll (o:List α) (gs:List α):List α:=gs.foldl addN o
def uniq (ks:List α):List α:=addAll [] ks
def numb (ks:List α):List Int:=ks.map fun k=>(((uniq ks).idxOf k:Nat):Int)
theorem addN_mem {o:List α} {g:α} (h:g∈o):addN o g=o:=if_pos h
theorem addN_new {o:List α} {g:α} (h:g∉o):addN o g=o++[g]:=if_neg h
theorem addN_has (o:List α) (g:α):g∈addN o g:=by
 by_cases h:g∈o
 ·rw [addN_mem h];exact h
 ·rw [addN_new h];simp
theorem addN_sub (o:List α) (g:α):∃ m,addN o g=o++m:=by
 by_cases h:g∈o
 ·exact ⟨[],by rw [addN_mem h];simp⟩
 ·exact ⟨[g],addN_new h⟩
theorem addAll_sub:∀ (gs o:List α),∃ m,addAll o gs=o++m
 | [],o=>⟨[],by simp [addAll]⟩
 | g::gs,o=>by
  obtain ⟨m1,e1⟩:=addN_sub o g
  obtain ⟨m2,e2⟩:=addAll_sub gs (addN o g)
  refine ⟨m1++m2,?_⟩
  show addAll (addN o g) gs=_
  rw [e2,e1,List.append_assoc]
theorem addAll_snoc (o gs:List α) (g:α):addAll o (gs++[g])=addN (addAll o gs) g:=by
 unfold addAll
 rw [List.foldl_append]
 rfl
theorem addN_nodup {o:List α} {g:α} (h:o.Nodup):(addN o g).Nodup:=by
 by_cases hg:g∈o
 ·rw [addN_mem hg];exact h
 ·rw [addN_new hg]
  exact nd_snoc h hg
theorem addAll_nodup:∀ (gs o:List α),o.Nodup→(addAll o gs).Nodup
 | [],o,h=>h
 | g::gs,o,h=>addAll_nodup gs (addN o g) (addN_nodup h)
theorem addN_mem_iff {o:List α} {g x:α}:x∈addN o g↔x∈o∨x=g:=by
 by_cases hg:g∈o
 ·rw [addN_mem hg]
  constructor
  ·exact .inl
  ·rintro (h | rfl)
   ·exact h
   ·exact hg
 ·rw [addN_new hg];simp
theorem addAll_mem:∀ {gs o:List α} {x:α},x∈addAll o gs↔x∈o∨x∈gs
 | [],o,x=>by simp [addAll]
 | g::gs,o,x=>by
  have ih:=addAll_mem (gs:=gs) (o:=addN o g) (x:=x)
  show x∈addAll (addN o g) gs↔_
  rw [ih,addN_mem_iff,List.mem_cons]
  constructor
  ·rintro ((h | h) | h)
   ·exact .inl h
   ·exact .inr (.inl h)
   ·exact .inr (.inr h)
  ·rintro (h | h | h)
   ·exact .inl (.inl h)
   ·exact .inl (.inr h)
   ·exact .inr h
theorem addAll_len:∀ (gs o:List α),(addAll o gs).length≤o.length+gs.length
 | [],o=>by simp [addAll]
 | g::gs,o=>by
  have ih:=addAll_len gs (addN o g)
  have h1:(addN o g).length≤o.length+1:=by
   by_cases hg:g∈o
   ·rw [addN_mem hg];omega
   ·rw [addN_new hg];simp
  show (addAll (addN o g) gs).length≤_
  rw [List.length_cons];omega
theorem idxOf_app {o m:List α} {g:α} (h:g∈o):(o++m).idxOf g=o.idxOf g:=by
 rw [List.idxOf_append,if_pos h]
theorem nodup_nat:∀ (n:Nat) (o:List Nat),o.Nodup→(∀ x∈o,x < n)→o.length≤n
 | 0,o,_,h=>by
  cases o with
  | nil=>simp
  | cons a r=>exact absurd (h a (by simp)) (Nat.not_lt_zero _)
 | n+1,o,hn,h=>by
  by_cases hm:n∈o
  ·have ih:=nodup_nat n (o.erase n) (hn.erase n) fun x hx=>by
    have h1:=(hn.mem_erase_iff).mp hx
    have:=h x h1.2
    have:=h1.1
    omega
   rw [List.length_erase_of_mem hm] at ih
   omega
  ·have ih:=nodup_nat n o hn fun x hx=>by
    have:=h x hx
    have:x≠n:=fun e=>hm (e ▸ hx)
    omega
   omega
theorem nodup_len {n:Nat} {o:List Int} (h:o.Nodup) (hr:∀ x∈o,0≤x∧x < (n:Int)):o.length≤n:=by
 have h1:(o.map Int.toNat).Nodup:=by
  rw [List.nodup_iff_pairwise_ne,List.pairwise_map]
  refine List.Pairwise.imp_of_mem (fun {a b} ha hb hab e=>?_) (List.nodup_iff_pairwise_ne.mp h)
  have:=hr a ha
  have:=hr b hb
  exact hab (by omega)
 have h3:=nodup_nat n _ h1 fun x hx=>by
  obtain ⟨y,hy,rfl⟩:=List.mem_map.mp hx
  have:=hr y hy
  omega
 simpa using h3
end
/-! ### machines -/
abbrev Row:=List Int × List Int
def row (rows:List Row) (r:Int):Row:=rows.getD r.toNat ([],[])
structure GoodM (n:Nat) (rows:List Row):Prop where
 few:rows.length≤4000
 some:1≤rows.length
 perm:∀ r∈rows,IsP n r.1
 len:∀ r∈rows,r.2.length=n
 go:∀ r∈rows,∀ g∈r.2,0≤g∧g < (rows.length:Int)
def rowD (r:Row):D:=.tup [D.its r.1,D.its r.2]
def bfs (rows:List Row):Nat→Nat→List Int→List Int
 | 0,_,o=>o
 | f+1,i,o=>match o[i]? with
  | none=>o
  | some r=>bfs rows f (i+1) (addAll o (row rows r).2)
def order (rows:List Row):List Int:=bfs rows (rows.length+1) 0 [0]
theorem bfs_step {rows:List Row} {f i:Nat} {o:List Int} {r:Int} (e:o[i]?=some r):bfs rows (f+1) i o=bfs rows f (i+1) (addAll o (row rows r).2):=by
 show (match o[i]? with | none=>o | some r=>bfs rows f (i+1) (addAll o (row rows r).2))=_
 rw [e]
theorem bfs_stop {rows:List Row} {f i:Nat} {o:List Int} (e:o.length≤i):bfs rows f i o=o:=by
 cases f with
 | zero=>rfl
 | succ f =>
  show (match o[i]? with | none=>o | some r=>bfs rows f (i+1) (addAll o (row rows r).2))=_
  rw [List.getElem?_eq_none e]
theorem bfs_sub (rows:List Row):∀ (f i:Nat) (o:List Int),∃ m,bfs rows f i o=o++m
 | 0,i,o=>⟨[],by simp [bfs]⟩
 | f+1,i,o=>by
  unfold bfs
  cases e:o[i]? with
  | none=>exact ⟨[],by simp⟩
  | some r =>
   obtain ⟨m1,e1⟩:=addAll_sub (row rows r).2 o
   obtain ⟨m2,e2⟩:=bfs_sub rows f (i+1) (addAll o (row rows r).2)
   exact ⟨m1++m2,by show bfs rows f (i+1) (addAll o (row rows r).2)=_;rw [e2,e1,List.append_assoc]⟩
structure Line (rows:List Row) (o:List Int):Prop where
 nd:o.Nodup
 rg:∀ x∈o,0≤x∧x < (rows.length:Int)
 hd:∃ t,o=0::t
theorem row_mem {rows:List Row} {r:Int} (h0:0≤r) (h1:r < (rows.length:Int)):row rows r∈rows:=by
 unfold row
 have:r.toNat < rows.length:=by omega
 have e:rows.getD r.toNat ([],[])=rows[r.toNat]:=by simp [this]
 rw [e]
 exact List.getElem_mem this
theorem row_get {rows:List Row} {r:Int} (h0:0≤r) (h1:r < (rows.length:Int)):rows[r.toNat]?=some (row rows r):=by
 unfold row
 have:r.toNat < rows.length:=by omega
 simp [this]
theorem Line.add {n:Nat} {rows:List Row} {o:List Int} (G:GoodM n rows) (L:Line rows o) {r:Int} (h:r∈o):Line rows (addAll o (row rows r).2):=by
 refine ⟨addAll_nodup _ _ L.nd,fun x hx=>?_,?_⟩
 ·rcases addAll_mem.mp hx with hx | hx
  ·exact L.rg x hx
  ·exact G.go _ (row_mem (L.rg r h).1 (L.rg r h).2) x hx
 ·obtain ⟨t,e⟩:=L.hd
  obtain ⟨m,e2⟩:=addAll_sub (row rows r).2 o
  exact ⟨t++m,by rw [e2,e];rfl⟩
theorem Line.len {rows:List Row} {o:List Int} (L:Line rows o):o.length≤rows.length:=nodup_len L.nd L.rg
theorem line0 {n:Nat} {rows:List Row} (G:GoodM n rows):Line rows [0]:=by
 refine ⟨by simp,fun x hx=>?_,⟨[],rfl⟩⟩
 have:x=0:=by simpa using hx
 have:=G.some
 omega
theorem bfs_end {n:Nat} {rows:List Row} (G:GoodM n rows):∀ (f i:Nat) (o:List Int),Line rows o→i≤o.length→rows.length+1≤f+i→(∀ j r,j < i→o[j]?=some r→∀ g∈(row rows r).2,g∈o) →
  Line rows (bfs rows f i o)∧∀ r∈bfs rows f i o,∀ g∈(row rows r).2,g∈bfs rows f i o
 | 0,i,o,L,hi,hf,hc=>by
  have:=L.len
  omega
 | f+1,i,o,L,hi,hf,hc=>by
  cases e:o[i]? with
  | none =>
   rw [bfs_stop (List.getElem?_eq_none_iff.mp e)]
   refine ⟨L,fun r hr g hg=>?_⟩
   obtain ⟨j,hj,e2⟩:=List.getElem_of_mem hr
   have:o.length≤i:=List.getElem?_eq_none_iff.mp e
   exact hc j r (by omega) (by rw [List.getElem?_eq_getElem hj,e2]) g hg
  | some r =>
   rw [bfs_step e]
   have hr:r∈o:=List.mem_of_getElem? e
   have hil:i < o.length:=(List.getElem?_eq_some_iff.mp e).1
   obtain ⟨m,em⟩:=addAll_sub (row rows r).2 o
   refine bfs_end G f (i+1) _ (L.add G hr) (by rw [em,List.length_append];omega) (by omega) fun j r' hj er g hg=>?_
   have hjo:j < o.length:=by omega
   have er':o[j]?=some r':=by rw [em,List.getElem?_append_left hjo] at er;exact er
   by_cases hji:j=i
   ·subst hji
    rw [e] at er'
    cases er'
    exact addAll_mem.mpr (.inr hg)
   ·exact addAll_mem.mpr (.inl (hc j r' (by omega) er' g hg))
theorem order_line {n:Nat} {rows:List Row} (G:GoodM n rows):Line rows (order rows)∧∀ r∈order rows,∀ g∈(row rows r).2,g∈order rows :=
 bfs_end G (rows.length+1) 0 [0] (line0 G) (by simp) (by omega) fun j r hj=>absurd hj (Nat.not_lt_zero _)
def foundOf (rows:List Row) (o:List Int):List Row:=o.map fun r=>((row rows r).1,(row rows r).2.map fun g=>((o.idxOf g:Nat):Int))
def found (rows:List Row):List Row:=foundOf rows (order rows)
def stepK (ks:List Int) (rows:List Row):List (Int × List Int):=(ks.zip rows).map fun p=>(p.1,p.2.2.map fun g=>ks.getD g.toNat 0)
def cnt (ks:List Int):Int:=ks.foldl max 0+1
def kloop (rows:List Row):Nat→Int→List Int→List Int
 | 0,_,ks=>ks
 | f+1,c,ks=>if c < cnt ks then kloop rows f (cnt ks) (numb (stepK ks rows)) else ks
def kinds (rows:List Row):List Int:=kloop rows (rows.length+1) 0 (numb (rows.map (·.1)))
def leastOf (rows:List Row) (ks:List Int):List Row:=(rows.zip ks).foldl (fun l p=>if p.2=(l.length:Int) then l++[(p.1.1,p.1.2.map fun g=>ks.getD g.toNat 0)] else l) []
def least (rows:List Row):List Row:=leastOf (found rows) (kinds (found rows))
end Gu

set_option Elab.async false
set_option linter.all false
set_option maxRecDepth 100000
set_option maxHeartbeats 4000000
namespace Gu
open PySem L2
def csc (ns:List (Str × NameKind)):Scope:={ kind:=.function,names:=ns,isGenerator:=false,isCoroutine:=false,more:=[] }
def Gives (K:PySem.W.Frag) (H:Hp) (Q:VK) (d:D):Prop:=∀ v H',Same H H'→Dr K H' d v→Q v H'
theorem same_up {H H1:Hp} {p:Addr} {o:HO} (s:Same H H1) (h:H1 p=none):Same H (upd H1 p o):=fun b u e=>by
 have q:=s b u e
 rw [upd_ne (ne_of_none q h)];exact q
theorem same_over {H H1:Hp} {p:Addr} {o:HO} (s:Same H H1) (h:H p=none):Same H (upd H1 p o):=fun b u e=>by
 rw [upd_ne (ne_of_none e h)];exact s b u e
theorem take_snoc {α β:Type} {l:List α} {i:Nat} {x:α} (f:α→β) (h:l[i]?=some x):(l.take (i+1)).map f=(l.take i).map f++[f x]:=by
 rw [List.take_add_one,h,List.map_append];rfl
theorem small5 {n:Nat} (h:n≤4900):n < sizeLine:=Nat.lt_of_le_of_lt h (by decide)
theorem line_le {n:Nat} (h:n≤5000):n≤sizeLine:=Nat.le_trans h (by decide)
theorem atI_of {α:Type} {xs:List α} {k:Int} {v:α} (h0:0≤k) (h:xs[k.toNat]?=some v):atI xs k=some v:=by
 have q:=atI_nat h
 rwa [show ((k.toNat:Nat):Int)=k by omega] at q
theorem map_erase {α β:Type} (f:α→β):∀ (l:List α) (i:Nat),(l.map f).eraseIdx i=(l.eraseIdx i).map f
 | [],_=>rfl
 | _::_,0=>rfl
 | a::r,i+1=>by
  show f a::(r.map f).eraseIdx i=f a::(r.eraseIdx i).map f
  rw [map_erase f r i]
structure Blt (mg:Str→Option Value):Prop where
 len:mg "len"=none
 tup:mg "tuple"=none
 lst:mg "list"=none
 rng:mg "range"=none
 isi:mg "isinstance"=none
 int:mg "int"=none
 bl:mg "bool"=none
 str:mg "str"=none
 all:mg "all"=none
theorem its_dep (ns:List Int):D.dep (D.its ns)=1:=by simp only [D.dep,D.depL_ints]
theorem Dr.its_inv {K:PySem.W.Frag} {H:Hp} {ns:List Int} {v:V} (h:Dr K H (D.its ns) v):∃ a,v=.ref a∧H a=some (.tup (ns.map V.int)):=by
 simp only [Dr] at h
 obtain ⟨a,vs,rfl,s,r⟩:=h
 exact ⟨a,rfl,DrL.ints_inv r ▸ s⟩
def spLaw (K:PySem.W.Frag):Sp:=fun vs H Q _=>∃ (a:Addr) (ns:List Int),vs=[.ref a]∧SqL K H a (ns.map V.int)∧ns.length≤63∧∀ H',Q (.bl true) H'
def spCell (K:PySem.W.Frag):Sp:=fun vs H Q _=>∃ (a:Addr) (ns:List Int) (i:Nat),vs=[.ref a,.int i]∧SqL K H a (ns.map V.int)∧ns.length≤63∧i≤1000∧Q (.int (cell ns i)) H
def spLetters (K:PySem.W.Frag):Sp:=fun vs H Q _=>∃ (a:Addr) (ns:List Int) (i:Nat),vs=[.ref a,.int i]∧SqL K H a (ns.map V.int)∧ns.length≤63∧i≤1000∧Q (.int (letN ns i)) H
def spRear (K:PySem.W.Frag):Sp:=fun vs H Q _=>∃ (pick:Int) (n:Nat),vs=[.int pick,.int n]∧n≤1000∧Gives K H Q (D.its (rearr pick n))
def spWhole (K:PySem.W.Frag):Sp:=fun vs H Q _=>∃ i:Int,vs=[.int i]∧Q (.bl true) H
def spLike (K:PySem.W.Frag) (n:Nat):Sp:=fun vs H Q _=>∃ (a b:V) (d:D),vs=[a,b]∧Dr K H d a∧Dr K H d b∧D.dep d < n∧D.few d∧∀ H',Same H H'→Q (.bl true) H'
end Gu

set_option Elab.async false
set_option linter.all false
set_option maxRecDepth 100000
set_option maxHeartbeats 4000000
namespace Gu
open PySem L2
/-! ### a dict that numbers things as they come -/
section
variable {α κ:Type} [DecidableEq α] [DecidableEq κ]
def prsF (f:α→κ):Nat→List α→List (κ × V)
 | _,[]=>[]
 | n,a::r=>(f a,V.int (n:Int))::prsF f (n+1) r
abbrev prs (f:α→κ) (u:List α):List (κ × V):=prsF f 0 u
theorem prsF_len (f:α→κ):∀ (n:Nat) (u:List α),(prsF f n u).length=u.length
 | _,[]=>rfl
 | n,a::r=>by simp [prsF,prsF_len f (n+1) r]
theorem prsF_app (f:α→κ):∀ (n:Nat) (u:List α) (a:α),prsF f n (u++[a])=prsF f n u++[(f a,V.int ((n+u.length:Nat):Int))]
 | n,[],a=>by simp [prsF]
 | n,b::r,a=>by
  have ih:=prsF_app f (n+1) r a
  show (f b,V.int (n:Int))::prsF f (n+1) (r++[a])=(f b,V.int (n:Int))::(prsF f (n+1) r++_)
  have e:n+1+r.length=n+(b::r).length:=by rw [List.length_cons];omega
  rw [ih,e]
theorem prsF_val (f:α→κ) (hf:∀ x y,f x=f y→x=y):∀ (n:Nat) (u:List α) (a:α),valV (prsF f n u) (f a)=if a∈u then some (V.int ((n+u.idxOf a:Nat):Int)) else none
 | n,[],a=>by simp [prsF,valV]
 | n,b::r,a=>by
  have ih:=prsF_val f hf (n+1) r a
  show valV ((f b,V.int (n:Int))::prsF f (n+1) r) (f a)=_
  by_cases e:b=a
  ·subst e
   rw [valV_pos rfl,if_pos (by simp)]
   simp
  ·rw [valV_neg (p:=(f b,V.int (n:Int))) (fun z=>e (hf _ _ z)),ih]
   have e1:(b::r).idxOf a=r.idxOf a+1:=by
    rw [List.idxOf_cons]
    have hb:(b == a)=false:=by simpa using e
    rw [hb]
    rfl
   by_cases hm:a∈r
   ·have e2:n+1+r.idxOf a=n+(r.idxOf a+1):=by omega
    rw [if_pos hm,if_pos (by simp [hm]),e1,e2]
   ·rw [if_neg hm,if_neg (by simp [hm,Ne.symm e])]
theorem prs_val (f:α→κ) (hf:∀ x y,f x=f y→x=y) (u:List α) (a:α):valV (prs f u) (f a)=if a∈u then some (V.int ((u.idxOf a:Nat):Int)) else none:=by
 have:=prsF_val f hf 0 u a
 simpa using this
theorem prs_put (f:α→κ) (hf:∀ x y,f x=f y→x=y) {u:List α} {a:α} (h:a∉u):putK (prs f u) (f a) (V.int (u.length:Nat))=prs f (u++[a]):=by
 have e:=prsF_app f 0 u a
 rw [Nat.zero_add] at e
 rw [putK_new _ (by rw [prs_val f hf,if_neg h])]
 exact e.symm
end
def rowsD (rows:List Row):List D:=rows.map rowD
theorem its_key (ns:List Int):D.key (D.its ns):=by
 have:∀ l:List Int,D.keyL (l.map D.int):=by
  intro l
  induction l with
  | nil=>simp only [List.map_nil,D.keyL]
  | cons a r ih=>simp only [List.map_cons,D.keyL,D.key];exact ⟨trivial,ih⟩
 simp only [D.key]
 exact this ns
theorem keyV {K:PySem.W.Frag} {H:Hp} {d:D} {v:V} (h:D.key d∧D.dep d≤8∧∃ es,d=.tup es) (q:Dr K H d v):KeyV K H d v:=by
 obtain ⟨h1,h2,es,rfl⟩:=h
 refine ⟨?_,h1,h2,q⟩
 simp only [Dr] at q
 obtain ⟨a,vs,e,_⟩:=q
 exact ⟨a,e⟩
end Gu

set_option Elab.async false
set_option linter.all false
set_option maxRecDepth 100000
set_option maxHeartbeats 4000000
namespace Gu
open PySem L2
/-! ### tuples stay -/
def TupK (H H':Hp):Prop:=∀ b xs,H b=some (.tup xs)→H' b=some (.tup xs)
theorem TupK.of {H H':Hp} (s:Same H H'):TupK H H':=fun b xs e=>s _ _ e
theorem TupK.refl (H:Hp):TupK H H:=fun _ _ e=>e
theorem TupK.trans {H H1 H2:Hp} (a:TupK H H1) (b:TupK H1 H2):TupK H H2:=fun c xs e=>b c xs (a c xs e)
theorem TupK.up {H H1:Hp} {a:Addr} {o u:HO} (t:TupK H H1) (h:H1 a=some o) (n:∀ xs,o≠.tup xs):TupK H (upd H1 a u):=fun b xs e=>by
 have q:=t b xs e
 have:b≠a:=fun z=>by rw [z,h] at q;exact n xs (Option.some.inj q)
 rw [upd_ne this];exact q
theorem row_key (r:Row):D.key (rowD r):=by
 unfold rowD
 simp only [D.key,D.keyL]
 have h1:=its_key r.1
 have h2:=its_key r.2
 simp only [D.key] at h1 h2
 exact ⟨h1,h2,trivial⟩
theorem rows_key:∀ rs:List Row,D.keyL (rowsD rs)
 | []=>by unfold rowsD;simp only [List.map_nil,D.keyL]
 | r::rs=>by
  have:=rows_key rs
  unfold rowsD at this ⊢
  simp only [List.map_cons,D.keyL]
  exact ⟨row_key r,this⟩
theorem rowD_inv {K:PySem.W.Frag} {H:Hp} {r:Row} {v:V} (h:Dr K H (rowD r) v):∃ a b c,v=.ref a∧H a=some (.tup [.ref b,.ref c])∧H b=some (.tup (r.1.map V.int))∧H c=some (.tup (r.2.map V.int)):=by
 unfold rowD at h
 simp only [Dr,DrL] at h
 obtain ⟨a,vs,rfl,e,x,l,rfl,hx,y,l',rfl,hy,rfl⟩:=h
 obtain ⟨b,us,rfl,eb,rb⟩:=hx
 obtain ⟨c,ws,rfl,ec,rc⟩:=hy
 have e1:=DrL.ints_inv rb
 have e2:=DrL.ints_inv rc
 subst e1 e2
 exact ⟨a,b,c,rfl,e,eb,ec⟩
theorem rowD_mk {K:PySem.W.Frag} {H:Hp} {r:Row} {a b c:Addr} (h:H a=some (.tup [.ref b,.ref c])) (hb:H b=some (.tup (r.1.map V.int))) (hc:H c=some (.tup (r.2.map V.int))):Dr K H (rowD r) (.ref a):=by
 unfold rowD
 exact Dr.tup h (DrL.cons (Dr.tup hb (DrL.ints _)) (DrL.cons (Dr.tup hc (DrL.ints _)) DrL.nil))
theorem rows_at {K:PySem.W.Frag} {H:Hp} {rows:List Row} {us:List V} (h:DrL K H (rowsD rows) us) {i:Nat} {r:Row} (e:rows[i]?=some r):∃ v,us[i]?=some v∧Dr K H (rowD r) v :=
 h.get (by unfold rowsD;rw [List.getElem?_map,e];rfl)
/-! ### what the program's defs hand back -/
def spBreadth (K:PySem.W.Frag):Sp:=fun vs H Q _=>∃ (a:V) (r:Row) (rest:List D),vs=[a]∧Dr K H (D.tup (rowD r::rest)) a∧r.1.length≤1000∧∀ H',Same H H'→Q (.int r.1.length) H'
def RowsAt (K:PySem.W.Frag) (H:Hp) (a:Addr) (rows:List Row):Prop:=∃ us,H a=some (.lst us)∧DrL K H (rowsD rows) us
end Gu

set_option Elab.async false
set_option linter.all false
set_option maxRecDepth 100000
set_option maxHeartbeats 4000000
namespace Gu
open PySem L2
section
variable {α β:Type} [DecidableEq α] [DecidableEq β]
theorem numb_len (xs:List α):(numb xs).length=xs.length:=by unfold numb;rw [List.length_map]
theorem uniq_le (xs:List α):(uniq xs).length≤xs.length:=by have:=addAll_len xs [];unfold uniq;simpa using this
theorem numb_rg {xs:List α} {k:Int} (h:k∈numb xs):0≤k∧k < ((uniq xs).length:Int):=by
 unfold numb at h
 obtain ⟨x,hx,rfl⟩:=List.mem_map.mp h
 have:x∈uniq xs:=addAll_mem.mpr (.inr hx)
 have:=List.idxOf_lt_length_of_mem this
 omega
end
theorem max_le:∀ (ks:List Int) (m:Int),m≤ks.foldl max m∧∀ k∈ks,k≤ks.foldl max m
 | [],m=>⟨Int.le_refl _,fun k h=>by simp at h⟩
 | a::r,m=>by
  obtain ⟨h1,h2⟩:=max_le r (max m a)
  refine ⟨Int.le_trans (Int.le_max_left m a) h1,fun k hk=>?_⟩
  rcases List.mem_cons.mp hk with rfl | hk
  ·exact Int.le_trans (Int.le_max_right m k) h1
  ·exact h2 k hk
theorem max_mem:∀ (ks:List Int) (m:Int),ks.foldl max m=m∨ks.foldl max m∈ks
 | [],m=>.inl rfl
 | a::r,m=>by
  rcases max_mem r (max m a) with h | h
  ·rcases Int.le_total m a with z | z
   ·right
    show r.foldl max (max m a)∈a::r
    rw [h,Int.max_eq_right z];simp
   ·left
    show r.foldl max (max m a)=m
    rw [h,Int.max_eq_left z]
  ·right;exact List.mem_cons_of_mem _ h
theorem cnt_max {ks:List Int} (hne:ks≠[]) (h0:∀ k∈ks,0≤k):cnt ks - 1∈ks∧∀ k∈ks,k≤cnt ks - 1:=by
 unfold cnt
 have e:ks.foldl max 0+1 - 1=ks.foldl max 0:=by omega
 rw [e]
 refine ⟨?_,(max_le ks 0).2⟩
 rcases max_mem ks 0 with h | h
 ·rw [h]
  cases ks with
  | nil=>exact absurd rfl hne
  | cons a r =>
   have h1:=(max_le (a::r) 0).2 a (by simp)
   rw [h] at h1
   have h2:=h0 a (by simp)
   have:a=0:=by omega
   simp [this]
 ·exact h
structure GoodF (n:Nat) (rows:List Row):Prop where
 some:1≤rows.length
 few:rows.length≤4000
 perm:∀ r∈rows,IsP n r.1
 len:∀ r∈rows,r.2.length=n
 go:∀ r∈rows,∀ g∈r.2,0≤g∧g < (rows.length:Int)
theorem found_good {n:Nat} {rows:List Row} (G:GoodM n rows):GoodF n (found rows):=by
 obtain ⟨L,cl⟩:=order_line G
 have hl:=L.len
 have hm:∀ r∈found rows,∃ x∈order rows,r=((row rows x).1,(row rows x).2.map fun g=>(((order rows).idxOf g:Nat):Int)):=fun r hr=>by
  unfold found foundOf at hr
  obtain ⟨x,hx,e⟩:=List.mem_map.mp hr
  exact ⟨x,hx,e.symm⟩
 have fl:(found rows).length=(order rows).length:=by unfold found foundOf;rw [List.length_map]
 refine ⟨?_,by have:=G.few;omega,fun r hr=>?_,fun r hr=>?_,fun r hr g hg=>?_⟩
 ·obtain ⟨t,e⟩:=L.hd
  rw [fl,e];simp
 ·obtain ⟨x,hx,rfl⟩:=hm r hr
  exact G.perm (row rows x) (row_mem (L.rg x hx).1 (L.rg x hx).2)
 ·obtain ⟨x,hx,rfl⟩:=hm r hr
  show (List.map _ _).length=n
  rw [List.length_map]
  exact G.len _ (row_mem (L.rg x hx).1 (L.rg x hx).2)
 ·obtain ⟨x,hx,rfl⟩:=hm r hr
  obtain ⟨y,hy,rfl⟩:=List.mem_map.mp hg
  have:=List.idxOf_lt_length_of_mem (cl x hx y hy)
  omega
structure GoodK (rows:List Row) (ks:List Int):Prop where
 len:ks.length=rows.length
 rg:∀ k∈ks,0≤k∧k < (rows.length:Int)
theorem goodK0 {n:Nat} {rows:List Row} (G:GoodF n rows):GoodK rows (numb (rows.map (·.1))):=by
 refine ⟨by rw [numb_len,List.length_map],fun k hk=>?_⟩
 have:=numb_rg hk
 have:=uniq_le (rows.map (·.1))
 rw [List.length_map] at this
 omega
theorem stepK_len {rows:List Row} {ks:List Int} (h:GoodK rows ks):(stepK ks rows).length=rows.length:=by
 unfold stepK
 rw [List.length_map,List.length_zip,h.len];omega
theorem goodK1 {rows:List Row} {ks:List Int} (h:GoodK rows ks):GoodK rows (numb (stepK ks rows)):=by
 have hl:=stepK_len h
 refine ⟨by rw [numb_len,hl],fun k hk=>?_⟩
 have:=numb_rg hk
 have:=uniq_le (stepK ks rows)
 omega
theorem its_inj {a b:List Int} (e:D.its a=D.its b):a=b:=by
 injection e with e
 induction a generalizing b with
 | nil=>cases b with
  | nil=>rfl
  | cons _ _=>cases e
 | cons x r ih=>cases b with
  | nil=>cases e
  | cons y q =>
   rw [List.map_cons,List.map_cons] at e
   injection e with e1 e2
   injection e1 with e1
   rw [e1,ih e2]
end Gu

set_option Elab.async false
set_option linter.all false
set_option maxRecDepth 100000
set_option maxHeartbeats 4000000
namespace Gu
open PySem L2
theorem kloop_good {rows:List Row}:∀ (m:Nat) (c:Int) (ks:List Int),GoodK rows ks→GoodK rows (kloop rows m c ks)
 | 0,_,ks,h=>h
 | m+1,c,ks,h=>by
  unfold kloop
  by_cases hc:c < cnt ks
  ·rw [if_pos hc];exact kloop_good m _ _ (goodK1 h)
  ·rw [if_neg hc];exact h
theorem kinds_good {n:Nat} {rows:List Row} (G:GoodF n rows):GoodK rows (kinds rows):=kloop_good _ _ _ (goodK0 G)
def lstep (ks:List Int) (l:List Row) (p:Row × Int):List Row:=if p.2=(l.length:Int) then l++[(p.1.1,p.1.2.map fun g=>ks.getD g.toNat 0)] else l
def leastP (rows:List Row) (ks:List Int) (i:Nat):List Row:=((rows.zip ks).take i).foldl (lstep ks) []
theorem leastP_all {rows:List Row} {ks:List Int} (h:ks.length=rows.length):leastP rows ks rows.length=leastOf rows ks:=by
 unfold leastP leastOf
 rw [List.take_of_length_le (by rw [List.length_zip];omega)]
 rfl
theorem leastP_step {rows:List Row} {ks:List Int} {i:Nat} {r:Row} {k:Int} (e:rows[i]?=some r) (e':ks[i]?=some k):leastP rows ks (i+1)=lstep ks (leastP rows ks i) (r,k):=by
 unfold leastP
 rw [List.take_add_one,List.getElem?_zip_eq_some (z:=(r,k)) |>.mpr ⟨e,e'⟩,List.foldl_append]
 rfl
end Gu

set_option Elab.async false
set_option linter.all false
set_option maxRecDepth 100000
set_option maxHeartbeats 4000000
namespace Gu
open PySem L2
/-! ### drawn numbers,drawn machines -/
def Nums (m:Nat) (ns:List Int):Prop:=ns.length=m∧∀ x∈ns,0≤x∧x < 1009
def spNumbers (K:PySem.W.Frag):Sp:=fun vs H Q _=>∃ (c:Int) (m:Nat),vs=[.int c,.int m]∧m≤900∧∀ (r:Addr) (H':Hp) (ns:List Int),Same H H'→H' r=some (.lst (ns.map V.int))→Nums m ns→Q (.ref r) H'
theorem nums_snoc {ns:List Int} {x:Int} (h:∀ x∈ns,0≤x∧x < 1009) (hx:0≤x∧x < 1009):∀ y∈ns++[x],0≤y∧y < 1009:=by
 intro y hy
 rcases List.mem_append.mp hy with hy | hy
 ·exact h y hy
 ·rw [List.mem_singleton.mp hy];exact hx
theorem pmod {j:Int} (h:(0:Int) < j:=by decide):0 < j:=h
theorem mod1009 (x:Int):0≤x % 1009∧x % 1009 < 1009:=by omega
def spRows (K:PySem.W.Frag):Sp:=fun vs H Q _=>∃ (n:Nat) (c:Int),vs=[.int n,.int c]∧2≤n∧n≤5∧∀ (r:Addr) (H':Hp) (rows:List Row),Same H H'→RowsAt K H' r rows→GoodM n rows→rows.length≤8→Q (.ref r) H'
def GI (m:Nat) (H:Hp) (i:Nat) (ys:List V) (H2:Hp):Prop:=∃ gs:List Int,ys=gs.map V.int∧gs.length=i∧(∀ g∈gs,0≤g∧g < (m:Int))∧Same H H2
theorem GI.nil {m:Nat} {H:Hp} {l:Addr} (h:H l=none):GI m H 0 [] (upd H l (.lst [])):=⟨[],rfl,rfl,fun g hg=>by simp at hg,same_up (Same.refl H) h⟩
theorem GI.len {m:Nat} {H H2:Hp} {i:Nat} {ys:List V} (h:GI m H i ys H2):ys.length=i:=by
 obtain ⟨gs,rfl,e,_⟩:=h
 rw [List.length_map];exact e
theorem GI.snoc {m:Nat} {H H2:Hp} {i:Nat} {ys:List V} {l:Addr} {o:HO} (h:GI m H i ys H2) (hl:H l=none) {g:Int} (hg:0≤g∧g < (m:Int)):GI m H (i+1) (ys++[.int g]) (upd H2 l o):=by
 obtain ⟨gs,rfl,e,r,s⟩:=h
 refine ⟨gs++[g],by rw [List.map_append];rfl,by rw [List.length_append,e];rfl,fun x hx=>?_,same_over s hl⟩
 rcases List.mem_append.mp hx with hx | hx
 ·exact r x hx
 ·rw [List.mem_singleton.mp hx];exact hg
structure RIx (K:PySem.W.Frag) (n m:Nat) (c kd:Int) (j:Nat) (ln lr lp:Addr) (H0:Hp) (σ:St) (H:Hp):Prop where
 ex:∃ (b:V) (lg:Addr) (p gs:List Int),σ=[some (.int n),some (.int c),some (.ref ln),some (.int m),some (.int kd),some (.ref lr),some (.int j),some (.ref lp),some b,some (.ref lg)]∧Same H0 H∧Dr K H (D.its p) b∧IsP n p ∧
  H lg=some (.lst (gs.map V.int))∧gs.length=n∧∀ g∈gs,0≤g∧g < (m:Int)
structure RF (n m j:Nat) (ps:List Int) (lp:Addr) (H0:Hp):Prop where
 n2:2≤n
 n5:n≤5
 jm:j < m
 m8:m≤8
 lp:H0 lp=some (.lst (ps.map V.int))
 len:ps.length=6
 nn:∀ p∈ps,0≤p∧p < 1009
def tRI (K:PySem.W.Frag):TS:=fun D σ H=>∃ (n m:Nat) (c kd:Int) (j:Nat) (ln lr lp:Addr) (ps:List Int) (H0:Hp),RF n m j ps lp H0∧RIx K n m c kd j ln lr lp H0 σ H∧∀ σ' H',RIx K n m c kd j ln lr lp H0 σ' H'→D.nx σ' H'
def PreRI (K:PySem.W.Frag) (σ:St) (H:Hp):Prop:=∃ (n m:Nat) (c kd:Int) (j:Nat) (ln lr lp:Addr) (ps:List Int) (H0:Hp),RF n m j ps lp H0∧RIx K n m c kd j ln lr lp H0 σ H
def GR (n m:Nat) (rs:List Row):Prop:=∀ r∈rs,IsP n r.1∧r.2.length=n∧∀ g∈r.2,0≤g∧g < (m:Int)
theorem GR.snoc {n m:Nat} {rs:List Row} {r:Row} (h:GR n m rs) (hr:IsP n r.1∧r.2.length=n∧∀ g∈r.2,0≤g∧g < (m:Int)):GR n m (rs++[r]):=fun x hx=>by
 rcases List.mem_append.mp hx with hx | hx
 ·exact h x hx
 ·rw [List.mem_singleton.mp hx];exact hr
theorem GR.good {n m:Nat} {rs:List Row} (h:GR n m rs) (hl:rs.length=m) (h1:1≤m) (h4:m≤4000):GoodM n rs:=by
 subst hl
 exact ⟨h4,h1,fun r hr=>(h r hr).1,fun r hr=>(h r hr).2.1,fun r hr=>(h r hr).2.2⟩
theorem cut6 {ns:List Int} {i:Nat} (h:Nums 64 ns) (hi:i < 8):∃ ps:List Int,cutV (ns.map V.int) (some (2+6*(i:Int))) (some (8+6*(i:Int)))=ps.map V.int∧ps.length=6∧∀ p∈ps,0≤p∧p < 1009:=by
 have hl:=h.1
 refine ⟨(ns.drop (2+6*i)).take 6,?_,by rw [List.length_take,List.length_drop];omega,fun p hp=>h.2 p (List.mem_of_mem_drop (List.mem_of_mem_take hp))⟩
 have e1:(2+6*(i:Int))=((2+6*i:Nat):Int):=by omega
 have e2:(8+6*(i:Int))=((8+6*i:Nat):Int):=by omega
 unfold cutV
 rw [e1,e2,HT.sIx_nat,HT.sIx_nat,List.length_map,hl,Nat.min_eq_left (by omega),Nat.min_eq_left (by omega),show 8+6*i - (2+6*i)=6 by omega,List.map_take,List.map_drop]
theorem nat_of {x:Int} (h:0≤x):∃ m:Nat,x=(m:Int):=⟨x.toNat,by omega⟩
theorem flat1 (n:Nat) (j:Int):(List.replicate n [V.int j]).flatten=(List.replicate n j).map V.int:=by
 induction n with
 | zero=>rfl
 | succ n ih=>rw [List.replicate_succ,List.flatten_cons,ih,List.replicate_succ];rfl
theorem isP_iota (n:Nat):IsP n (iota n):=List.Perm.refl _
end Gu

set_option Elab.async false
set_option linter.all false
set_option maxRecDepth 100000
set_option maxHeartbeats 4000000
namespace Gu
open PySem L2
theorem inl_inj (x y:Int) (e:(Sum.inl x:Key)=Sum.inl y):x=y:=Sum.inl.inj e
theorem nd_take {o:List Int} (h:o.Nodup) {i:Nat} {r:Int} (e:o[i]?=some r):r∉o.take i:=fun z=>by
 have h':(o.take i++o.drop i).Nodup:=by rw [List.take_append_drop];exact h
 have hr:r∈o.drop i:=List.mem_of_getElem? (i:=0) (by rw [List.getElem?_drop];exact e)
 exact (List.nodup_append.mp h').2.2 r z r hr rfl
/-! ### a dict from rows to data -/
def mk (o:List Int) (vs:List V):List (Key × V):=(o.zip vs).map fun p=>(Sum.inl p.1,p.2)
def FK (f:Int→D):Prop:=∀ r,D.key (f r)∧D.dep (f r)≤3
theorem FK.keyL {f:Int→D} (h:FK f):∀ o:List Int,D.keyL (o.map f)
 | []=>by simp only [List.map_nil,D.keyL]
 | r::o=>by simp only [List.map_cons,D.keyL];exact ⟨(h r).1,FK.keyL h o⟩
theorem FK.depL {f:Int→D} (h:FK f):∀ o:List Int,D.depL (o.map f)≤3
 | []=>by simp only [List.map_nil,D.depL];omega
 | r::o=>by
  simp only [List.map_cons,D.depL]
  have:=(h r).2
  have:=FK.depL h o
  omega
theorem FK.its (rows:List Row):FK fun r=>D.its (row rows r).1:=fun r=>⟨its_key _,by rw [its_dep];decide⟩
theorem FK.int (k:Int→Int):FK fun r=>D.int (k r):=fun r=>⟨by simp only [D.key],by simp only [D.dep];decide⟩
def keyOf (rows:List Row) (f:Int→D) (r:Int):D:=.tup [f r,.tup ((row rows r).2.map f)]
theorem FK.key {rows:List Row} {f:Int→D} (h:FK f) (r:Int):D.key (keyOf rows f r)∧D.dep (keyOf rows f r)≤8∧∃ es,keyOf rows f r=.tup es:=by
 refine ⟨?_,?_,_,rfl⟩
 ·unfold keyOf
  simp only [D.key,D.keyL]
  exact ⟨(h r).1,h.keyL _,trivial⟩
 ·unfold keyOf
  simp only [D.dep,D.depL]
  have:=(h r).2
  have:=h.depL (row rows r).2
  omega
def skeys (rows:List Row) (o:List Int) (f:Int→D):List D:=o.map (keyOf rows f)
def sroundI (rows:List Row) (o:List Int) (f:Int→D) (r:Int):Int:=(((uniq (skeys rows o f)).idxOf (keyOf rows f r):Nat):Int)
def sround (rows:List Row) (o:List Int) (f:Int→D):Int→D:=fun r=>.int (sroundI rows o f r)
def scount (rows:List Row) (o:List Int) (f:Int→D):Nat:=(uniq (skeys rows o f)).length
theorem scount_le (rows:List Row) (o:List Int) (f:Int→D):scount rows o f≤o.length:=by
 have:=uniq_le (skeys rows o f)
 unfold scount skeys at *
 rw [List.length_map] at this
 exact this
def sloop (rows:List Row) (o:List Int):Nat→Nat→(Int→D)→(Int→D)
 | 0,_,f=>f
 | m+1,many,f=>if many < scount rows o f then sloop rows o m (scount rows o f) (sround rows o f) else sround rows o f
def smarks (rows:List Row):Int→D:=sloop rows (order rows) (rows.length+2) 0 fun r=>D.its (row rows r).1
/-! ### the rows in line -/
def hdStep (k:Int→Int) (hs:List Int) (r:Int):List Int:=if k r∈hs.map k then hs else hs++[r]
def heads (k:Int→Int) (o:List Int):List Int:=o.foldl (hdStep k) []
def inLine (rows:List Row) (k:Int→Int) (o:List Int):List Row:=(heads k o).map fun r=>((row rows r).1,(row rows r).2.map fun g=>((((heads k o).map k).idxOf (k g):Nat):Int))
theorem heads_snoc (k:Int→Int) (o:List Int) (r:Int):heads k (o++[r])=hdStep k (heads k o) r:=by
 unfold heads
 rw [List.foldl_append];rfl
theorem heads_has (k:Int→Int) (o:List Int):(∀ r∈o,k r∈(heads k o).map k)∧(∀ r∈heads k o,r∈o)∧(heads k o).length≤o.length:=by
 have:∀ (o hs:List Int),(∀ x∈hs.map k,x∈(o.foldl (hdStep k) hs).map k)∧(∀ r∈o,k r∈(o.foldl (hdStep k) hs).map k)∧(∀ r∈o.foldl (hdStep k) hs,r∈hs∨r∈o)∧(o.foldl (hdStep k) hs).length≤hs.length+o.length:=by
  intro o
  induction o with
  | nil=>intro hs;exact ⟨fun x h=>h,fun r h=>by simp at h,fun r h=>.inl h,by simp⟩
  | cons a o ih =>
   intro hs
   obtain ⟨i1,i2,i3,i4⟩:=ih (hdStep k hs a)
   rw [List.foldl_cons]
   have hsub:∀ x∈hs.map k,x∈(hdStep k hs a).map k:=fun x hx=>by
    unfold hdStep
    split
    ·exact hx
    ·rw [List.map_append];exact List.mem_append_left _ hx
   have ha:k a∈(hdStep k hs a).map k:=by
    unfold hdStep
    split
    ·assumption
    ·simp
   have hlen:(hdStep k hs a).length≤hs.length+1:=by
    unfold hdStep
    split
    ·omega
    ·simp
   refine ⟨fun x hx=>i1 x (hsub x hx),fun r hr=>?_,fun r hr=>?_,by rw [List.length_cons];omega⟩
   ·rcases List.mem_cons.mp hr with rfl | hr
    ·exact i1 _ ha
    ·exact i2 r hr
   ·rcases i3 r hr with h | h
    ·unfold hdStep at h
     split at h
     ·exact .inl h
     ·rcases List.mem_append.mp h with h | h
      ·exact .inl h
      ·exact .inr (by rw [List.mem_singleton.mp h];simp)
    ·exact .inr (List.mem_cons_of_mem _ h)
 obtain ⟨_,h2,h3,h4⟩:=this o []
 refine ⟨h2,fun r hr=>?_,by unfold heads;simpa using h4⟩
 rcases h3 r hr with h | h
 ·simp at h
 ·exact h
theorem heads_hd (k:Int→Int) (a:Int) (o:List Int):∃ t,heads k (a::o)=a::t:=by
 have:∀ (o hs:List Int),∃ t,o.foldl (hdStep k) hs=hs++t:=by
  intro o
  induction o with
  | nil=>intro hs;exact ⟨[],by simp⟩
  | cons a o ih =>
   intro hs
   obtain ⟨t,e⟩:=ih (hdStep k hs a)
   rw [List.foldl_cons,e]
   unfold hdStep
   split
   ·exact ⟨t,rfl⟩
   ·exact ⟨[a]++t,by rw [List.append_assoc]⟩
 unfold heads
 rw [List.foldl_cons]
 have e:hdStep k [] a=[a]:=by unfold hdStep;simp
 rw [e]
 obtain ⟨t,e⟩:=this o [a]
 exact ⟨t,e⟩
def sInt:D→Int
 | .int i=>i
 | _=>0
def kOf (rows:List Row) (r:Int):Int:=sInt (smarks rows r)
theorem sloop_int (rows:List Row) (o:List Int):∀ (m many:Nat) (f:Int→D),∃ k:Int→Int,sloop rows o (m+1) many f=fun r=>D.int (k r)
 | 0,many,f=>by
  unfold sloop
  split
  ·unfold sloop;exact ⟨sroundI rows o f,rfl⟩
  ·exact ⟨sroundI rows o f,rfl⟩
 | m+1,many,f=>by
  unfold sloop
  split
  ·exact sloop_int rows o m _ _
  ·exact ⟨sroundI rows o f,rfl⟩
theorem smarks_int (rows:List Row):smarks rows=fun r=>D.int (kOf rows r):=by
 obtain ⟨k,e⟩:=sloop_int rows (order rows) (rows.length+1) 0 fun r=>D.its (row rows r).1
 have e':smarks rows=fun r=>D.int (k r):=e
 funext r
 unfold kOf
 rw [e']
 rfl
def shr (rows:List Row):List Row:=inLine rows (kOf rows) (order rows)
theorem shr_hd {n:Nat} {rows:List Row} (G:GoodM n rows):∃ r t,shr rows=r::t∧IsP n r.1:=by
 obtain ⟨L,_⟩:=order_line G
 obtain ⟨t,e⟩:=L.hd
 obtain ⟨t',e'⟩:=heads_hd (kOf rows) 0 t
 unfold shr inLine
 rw [e,e',List.map_cons]
 have:=G.some
 exact ⟨_,_,rfl,G.perm (row rows 0) (row_mem (Int.le_refl 0) (show (0:Int) < (rows.length:Int) by omega))⟩
theorem DD.keyed {P:Program} {w:World} {K:PySem.W.Frag} {H H':Hp} {a:Addr} {kvs:List (D × V)} (h:DD P w K H a kvs) (k:TupK H H') (e:H' a=H a):DD P w K H' a kvs:=by
 obtain ⟨xs,e0,r,n,z⟩:=h
 exact ⟨xs,by rw [e];exact e0,r.mono fun _ _ q d=>d.keyed k q,n,z⟩
theorem prs_put_same {κ:Type} [DecidableEq κ]:∀ (n:Nat) (u:List κ) (a:κ),a∈u→u.Nodup→putK (prsF id n u) a (V.int ((n+u.idxOf a:Nat):Int))=prsF id n u:=by
 intro n u a ha hn
 have hv:valV (prsF id n u) a=some (V.int ((n+u.idxOf a:Nat):Int)):=by
  have:=prsF_val (κ:=κ) id (fun _ _ e=>e) n u a
  rw [if_pos ha] at this
  exact this
 unfold putK
 rw [valV_any,hv]
 rw [if_pos (show (some (V.int ((n+u.idxOf a:Nat):Int))).isSome=true from rfl)]
 clear hv
 induction u generalizing n with
 | nil=>rfl
 | cons b u ih =>
  show (if b=a then (b,_) else (b,V.int (n:Int)))::List.map _ (prsF id (n+1) u)=(b,V.int (n:Int))::prsF id (n+1) u
  have hnb:=(List.nodup_cons.mp hn).1
  have hnu:=(List.nodup_cons.mp hn).2
  by_cases e:b=a
  ·subst e
   rw [if_pos rfl]
   have e1:(b::u).idxOf b=0:=by simp
   rw [e1]
   congr 1
   have:∀ (m:Nat) (l:List κ),b∉l→List.map (fun kv:κ × V=>if kv.1=b then (kv.1,V.int ((n+0:Nat):Int)) else kv) (prsF id m l)=prsF id m l:=by
    intro m l
    induction l generalizing m with
    | nil=>intro _;rfl
    | cons c l ih2 =>
     intro hb
     show (if c=b then _ else (c,V.int (m:Int)))::List.map _ (prsF id (m+1) l)=(c,V.int (m:Int))::prsF id (m+1) l
     rw [if_neg (fun z=>hb (by rw [z];simp)),ih2 (m+1) (fun z=>hb (List.mem_cons_of_mem _ z))]
   exact this _ _ hnb
  ·rw [if_neg e]
   have ha':a∈u:=by rcases List.mem_cons.mp ha with z | z;exact absurd z.symm e;exact z
   have e1:(b::u).idxOf a=u.idxOf a+1:=by
    rw [List.idxOf_cons]
    have hb:(b == a)=false:=by simpa using e
    rw [hb];rfl
   rw [e1,show n+(u.idxOf a+1)=(n+1)+u.idxOf a by omega,ih (n+1) ha' hnu]
def spShrunk (K:PySem.W.Frag):Sp:=fun vs H Q _=>∃ (a:Addr) (n:Nat) (rows:List Row),vs=[.ref a,.int 0]∧RowsAt K H a rows∧GoodM n rows∧n≤60∧Gives K H Q (D.tup (rowsD (shr rows)))
end Gu

set_option Elab.async false
set_option linter.all false
set_option maxRecDepth 100000
set_option maxHeartbeats 4000000
namespace Gu
open PySem L2
theorem addAll_const {α:Type} [DecidableEq α] (x:α):∀ (xs:List α),(∀ y∈xs,y=x)→addAll [x] xs=[x]
 | [],_=>rfl
 | y::ys,h=>by
  have e:y=x:=h y (by simp)
  subst e
  show addAll (addN [y] y) ys=[y]
  rw [addN_mem (by simp)]
  exact addAll_const y ys fun z hz=>h z (List.mem_cons_of_mem _ hz)
theorem numb_const {α:Type} [DecidableEq α] (x:α) (xs:List α) (h:∀ y∈xs,y=x):numb xs=List.replicate xs.length 0:=by
 cases xs with
 | nil=>rfl
 | cons y ys =>
  have e:y=x:=h y (by simp)
  subst e
  have hu:uniq (y::ys)=[y]:=by
   show addAll (addN [] y) ys=[y]
   rw [addN_new (by simp)]
   exact addAll_const y ys fun z hz=>h z (List.mem_cons_of_mem _ hz)
  unfold numb
  rw [hu,List.eq_replicate_iff]
  refine ⟨by rw [List.length_map],fun b hb=>?_⟩
  obtain ⟨k,hk,rfl⟩:=List.mem_map.mp hb
  rw [h k hk]
  simp
theorem cnt_zeros (m:Nat):cnt (List.replicate m 0)=1:=by
 unfold cnt
 have:∀ m:Nat,(List.replicate m (0:Int)).foldl max 0=0:=by
  intro m
  induction m with
  | zero=>rfl
  | succ m ih=>rw [List.replicate_succ,List.foldl_cons];exact ih
 rw [this];rfl
theorem getD_zeros (m k:Nat):(List.replicate m (0:Int)).getD k 0=0:=by
 rw [List.getD_eq_getElem?_getD,List.getElem?_replicate]
 split<;>rfl
theorem calm_kinds {n:Nat} {rows:List Row} (G:GoodF n rows) (h:∀ r∈rows,r.1=iota n):kinds rows=List.replicate rows.length 0:=by
 have h0:numb (rows.map (·.1))=List.replicate rows.length 0:=by
  rw [numb_const (iota n) _ fun y hy=>by obtain ⟨r,hr,rfl⟩:=List.mem_map.mp hy;exact h r hr,List.length_map]
 have h1:numb (stepK (List.replicate rows.length 0) rows)=List.replicate rows.length 0:=by
  rw [numb_const ((0:Int),List.replicate n (0:Int)) _ fun y hy=>?_]
  ·congr 1
   unfold stepK
   rw [List.length_map,List.length_zip,List.length_replicate];omega
  ·unfold stepK at hy
   obtain ⟨p,hp,rfl⟩:=List.mem_map.mp hy
   obtain ⟨hp1,hp2⟩:=List.of_mem_zip hp
   have e1:p.1=0:=(List.mem_replicate.mp hp1).2
   refine Prod.ext e1 ?_
   show p.2.2.map _=_
   rw [List.eq_replicate_iff]
   refine ⟨by rw [List.length_map];exact G.len _ hp2,fun b hb=>?_⟩
   obtain ⟨g,_,rfl⟩:=List.mem_map.mp hb
   exact getD_zeros _ _
 unfold kinds
 rw [h0]
 have hs:=G.some
 obtain ⟨m,hm⟩:∃ m,rows.length=m+1:=⟨rows.length - 1,by omega⟩
 rw [show rows.length+1=(m+1)+1 by omega]
 show (if (0:Int) < cnt (List.replicate rows.length 0) then kloop rows (m+1) (cnt (List.replicate rows.length 0)) (numb (stepK (List.replicate rows.length 0) rows)) else List.replicate rows.length 0)=_
 rw [cnt_zeros,if_pos (by decide),h1]
 show (if (1:Int) < cnt (List.replicate rows.length 0) then _ else List.replicate rows.length 0)=_
 rw [cnt_zeros,if_neg (by decide)]
theorem calm_least {n:Nat} {rows:List Row} (G:GoodM n rows) (h:∀ r∈rows,r.1=iota n):least rows=[(iota n,List.replicate n 0)]:=by
 have GF:=found_good G
 have hf:∀ r∈found rows,r.1=iota n:=fun r hr=>by
  unfold found foundOf at hr
  obtain ⟨x,hx,rfl⟩:=List.mem_map.mp hr
  obtain ⟨x0,x1⟩:=(order_line G).1.rg x hx
  exact h (row rows x) (row_mem x0 x1)
 unfold least
 rw [calm_kinds GF hf]
 generalize found rows=fs at GF hf
 have hs:=GF.some
 cases fs with
 | nil=>simp at hs
 | cons r t =>
  unfold leastOf
  rw [List.length_cons,List.replicate_succ,List.zip_cons_cons,List.foldl_cons]
  have e0:(if (r,(0:Int)).2=(([]:List Row).length:Int) then []++[((r,(0:Int)).1.1,(r,(0:Int)).1.2.map fun g=>((0:Int)::List.replicate t.length 0).getD g.toNat 0)] else ([]:List Row))=[(iota n,List.replicate n 0)]:=by
   rw [if_pos (show (r,(0:Int)).2=(([]:List Row).length:Int) from rfl),List.nil_append]
   congr 1
   refine Prod.ext (hf r (by simp)) ?_
   show r.2.map _=_
   rw [List.eq_replicate_iff]
   refine ⟨by rw [List.length_map];exact GF.len _ (by simp),fun b hb=>?_⟩
   obtain ⟨g,_,rfl⟩:=List.mem_map.mp hb
   have:=getD_zeros (t.length+1) g.toNat
   rwa [List.replicate_succ] at this
  rw [e0]
  have:∀ (l:List (Row × Int)) (acc:List Row),acc.length=1→(∀ p∈l,p.2=0)→l.foldl (fun l p=>if p.2=(l.length:Int) then l++[(p.1.1,p.1.2.map fun g=>((0:Int)::List.replicate t.length 0).getD g.toNat 0)] else l) acc=acc:=by
   intro l
   induction l with
   | nil=>intro acc _ _;rfl
   | cons p l ih =>
    intro acc h1 hz
    rw [List.foldl_cons,if_neg (by rw [hz p (by simp),h1];decide)]
    exact ih acc h1 fun p hp=>hz p (List.mem_cons_of_mem _ hp)
  exact this _ _ rfl fun p hp=>(List.mem_replicate.mp (List.of_mem_zip hp).2).2
def spGuise (K:PySem.W.Frag):Sp:=fun vs H Q _=>∃ (n:Nat) (c:Int),vs=[.int n,.int c]∧2≤n∧n≤5∧∀ (v:V) (H':Hp) (rows:List Row),Same H H'→GoodM n rows→rows.length≤8→Dr K H' (D.tup (rowsD (shr rows))) v→Q v H'
end Gu

set_option Elab.async false
set_option linter.all false
set_option maxRecDepth 100000
set_option maxHeartbeats 4000000
namespace Gu
open PySem L2
/-! ### how many are unlike -/
section
variable {α β:Type} [DecidableEq α] [DecidableEq β]
theorem uniq_snoc (xs:List α) (x:α):uniq (xs++[x])=addN (uniq xs) x:=addAll_snoc [] xs x
theorem mem_uniq {xs:List α} {x:α}:x∈uniq xs↔x∈xs:=by
 unfold uniq
 rw [addAll_mem]
 simp
theorem uniq_nd (xs:List α):(uniq xs).Nodup:=addAll_nodup xs [] List.nodup_nil
theorem uniq_app (xs ys:List α):uniq (xs++ys)=addAll (uniq xs) ys:=by
 unfold uniq addAll
 rw [List.foldl_append]
theorem addAll_old:∀ {gs o:List α},(∀ g∈gs,g∈o)→addAll o gs=o
 | [],o,_=>rfl
 | g::gs,o,h=>by
  show addAll (addN o g) gs=o
  rw [addN_mem (h g (by simp))]
  exact addAll_old fun x hx=>h x (List.mem_cons_of_mem _ hx)
theorem addAll_fresh:∀ {gs o:List α},(o++gs).Nodup→addAll o gs=o++gs
 | [],o,_=>by simp [addAll]
 | g::gs,o,h=>by
  show addAll (addN o g) gs=_
  have hg:g∉o:=fun z=>(List.nodup_append.mp h).2.2 g z g (by simp) rfl
  rw [addN_new hg,addAll_fresh (by rw [List.append_assoc];exact h),List.append_assoc]
  rfl
theorem uniq_self {l:List α} (h:l.Nodup):uniq l=l:=by
 have:=addAll_fresh (o:=[]) (gs:=l) (by simpa using h)
 rw [List.nil_append] at this
 exact this
theorem count_rev (f:Int→α) (f':Int→β):∀ l:List Int,(∀ x∈l.reverse,∀ y∈l.reverse,f' x=f' y→f x=f y) →
  (uniq (l.reverse.map f)).length≤(uniq (l.reverse.map f')).length∧((uniq (l.reverse.map f')).length≤(uniq (l.reverse.map f)).length→∀ x∈l.reverse,∀ y∈l.reverse,f x=f y→f' x=f' y)
 | [],_=>⟨Nat.le_refl _,fun _ x hx=>by simp at hx⟩
 | z::l,h=>by
  rw [List.reverse_cons] at h ⊢
  obtain ⟨ih1,ih2⟩:=count_rev f f' l fun x hx y hy=>h x (List.mem_append_left _ hx) y (List.mem_append_left _ hy)
  have hz:z∈l.reverse++[z]:=by simp
  have hL:∀ x,x∈l.reverse→x∈l.reverse++[z]:=fun x hx=>List.mem_append_left _ hx
  rw [List.map_append,List.map_append,show List.map f [z]=[f z] from rfl,show List.map f' [z]=[f' z] from rfl,uniq_snoc,uniq_snoc]
  generalize l.reverse=o at *
  by_cases h1:f' z∈uniq (o.map f')
  ·obtain ⟨z',hz',ez⟩:=List.mem_map.mp (mem_uniq.mp h1)
   have ez2:f z'=f z:=h z' (hL _ hz') z hz ez
   have h2:f z∈uniq (o.map f):=mem_uniq.mpr (List.mem_map.mpr ⟨z',hz',ez2⟩)
   rw [addN_mem h1,addN_mem h2]
   refine ⟨ih1,fun hc x hx y hy e=>?_⟩
   have red:∀ x∈o++[z],∃ x'∈o,f x'=f x∧f' x'=f' x:=fun x hx=>by
    rcases List.mem_append.mp hx with hx | hx
    ·exact ⟨x,hx,rfl,rfl⟩
    ·rw [List.mem_singleton.mp hx];exact ⟨z',hz',ez2,ez⟩
   obtain ⟨x',hx',e1,e2⟩:=red x hx
   obtain ⟨y',hy',e3,e4⟩:=red y hy
   rw [←e2,←e4]
   exact ih2 hc x' hx' y' hy' (by rw [e1,e3,e])
  ·rw [addN_new h1]
   by_cases h2:f z∈uniq (o.map f)
   ·rw [addN_mem h2,List.length_append]
    refine ⟨by simp;omega,fun hc=>?_⟩
    simp at hc
    omega
   ·rw [addN_new h2,List.length_append,List.length_append]
    refine ⟨by simp;omega,fun hc x hx y hy e=>?_⟩
    have hc':(uniq (o.map f')).length≤(uniq (o.map f)).length:=by simp at hc;omega
    have no:∀ x∈o,f x≠f z:=fun x hx e=>h2 (mem_uniq.mpr (List.mem_map.mpr ⟨x,hx,e⟩))
    rcases List.mem_append.mp hx with hx | hx
    ·rcases List.mem_append.mp hy with hy | hy
     ·exact ih2 hc' x hx y hy e
     ·rw [List.mem_singleton.mp hy] at e
      exact absurd e (no x hx)
    ·rcases List.mem_append.mp hy with hy | hy
     ·rw [List.mem_singleton.mp hx] at e
      exact absurd e.symm (no y hy)
     ·rw [List.mem_singleton.mp hx,List.mem_singleton.mp hy]
theorem count_of (f:Int→α) (f':Int→β) (o:List Int) (h:∀ x∈o,∀ y∈o,f' x=f' y→f x=f y) :
  (uniq (o.map f)).length≤(uniq (o.map f')).length∧((uniq (o.map f')).length≤(uniq (o.map f)).length→∀ x∈o,∀ y∈o,f x=f y→f' x=f' y):=by
 have:=count_rev f f' o.reverse (by rw [List.reverse_reverse];exact h)
 rwa [List.reverse_reverse] at this
def nk (o:List Int) (key:Int→α) (x:Int):Int:=(((uniq (o.map key)).idxOf (key x):Nat):Int)
theorem idx_inj {l:List α} {a b:α} (ha:a∈l) (hb:b∈l) (e:l.idxOf a=l.idxOf b):a=b:=by
 have h1:=List.getElem_idxOf (List.idxOf_lt_length_of_mem ha)
 have h2:=List.getElem_idxOf (List.idxOf_lt_length_of_mem hb)
 rw [←h1,←h2]
 congr 1
theorem nk_eq {o:List Int} {key:Int→α} {x y:Int} (hx:x∈o) (hy:y∈o):nk o key x=nk o key y↔key x=key y:=by
 unfold nk
 constructor
 ·intro e
  exact idx_inj (mem_uniq.mpr (List.mem_map.mpr ⟨x,hx,rfl⟩)) (mem_uniq.mpr (List.mem_map.mpr ⟨y,hy,rfl⟩)) (by omega)
 ·intro e;rw [e]
theorem nk_count (o:List Int) (key:Int→α):(uniq (o.map (nk o key))).length=(uniq (o.map key)).length:=by
 have h1:=(count_of (nk o key) key o fun x hx y hy e=>(nk_eq hx hy).mpr e).1
 have h2:=(count_of key (nk o key) o fun x hx y hy e=>(nk_eq hx hy).mp e).1
 omega
theorem addAll_mapOn (f:α→β):∀ (gs o:List α),(∀ x∈o++gs,∀ y∈o++gs,f x=f y→x=y)→addAll (o.map f) (gs.map f)=(addAll o gs).map f
 | [],o,_=>rfl
 | g::gs,o,hf=>by
  have h1:addN (o.map f) (f g)=(addN o g).map f:=by
   by_cases h:g∈o
   ·rw [addN_mem h,addN_mem (List.mem_map.mpr ⟨g,h,rfl⟩)]
   ·have:f g∉o.map f:=fun z=>by
     obtain ⟨x,hx,e⟩:=List.mem_map.mp z
     exact h (hf x (List.mem_append_left _ hx) g (by simp) e ▸ hx)
    rw [addN_new h,addN_new this,List.map_append];rfl
  show addAll (addN (o.map f) (f g)) (gs.map f)=(addAll (addN o g) gs).map f
  rw [h1]
  refine addAll_mapOn f gs (addN o g) fun x hx y hy=>hf x ?_ y ?_
  ·rcases List.mem_append.mp hx with hx | hx
   ·rcases addN_mem_iff.mp hx with hx | hx
    ·exact List.mem_append_left _ hx
    ·rw [hx];simp
   ·exact List.mem_append_right _ (List.mem_cons_of_mem _ hx)
  ·rcases List.mem_append.mp hy with hy | hy
   ·rcases addN_mem_iff.mp hy with hy | hy
    ·exact List.mem_append_left _ hy
    ·rw [hy];simp
   ·exact List.mem_append_right _ (List.mem_cons_of_mem _ hy)
theorem idx_self {l:List α} (h:l.Nodup):l.map (fun x=>((l.idxOf x:Nat):Int))=iota l.length:=by
 refine List.ext_getElem (by rw [List.length_map,iota_len]) fun i h1 h2=>?_
 rw [List.length_map] at h1
 rw [List.getElem_map,h.idxOf_getElem i h1]
 have:=iota_get h1
 rw [List.getElem?_eq_getElem h2] at this
 exact (Option.some.inj this).symm
theorem nk_uniq (o:List Int) (key:Int→α):uniq (o.map (nk o key))=iota (uniq (o.map key)).length:=by
 have e:o.map (nk o key)=(o.map key).map (fun v=>(((uniq (o.map key)).idxOf v:Nat):Int)):=by
  rw [List.map_map];rfl
 rw [e]
 have:=addAll_mapOn (fun v=>(((uniq (o.map key)).idxOf v:Nat):Int)) (o.map key) [] fun x hx y hy q=>by
  rw [List.nil_append] at hx hy
  exact idx_inj (mem_uniq.mpr hx) (mem_uniq.mpr hy) (Int.ofNat.inj q)
 rw [List.map_nil] at this
 show addAll [] _=_
 rw [this]
 exact idx_self (uniq_nd (o.map key))
end
/-! ### what a row does -/
def run (M:List Row):Int→List Nat→Int
 | x,[]=>x
 | x,i::w=>run M ((row M x).2.getD i 0) w
def beh (M:List Row) (x:Int) (w:List Nat):List Int:=(row M (run M x w)).1
structure Cl (n:Nat) (M:List Row) (o:List Int):Prop where
 zero:0∈o
 cl:∀ r∈o,∀ g∈(row M r).2,g∈o
 len:∀ r∈o,(row M r).2.length=n
theorem Cl.go {n:Nat} {M:List Row} {o:List Int} (C:Cl n M o) {x:Int} (hx:x∈o) (i:Nat):(row M x).2.getD i 0∈o:=by
 by_cases h:i < (row M x).2.length
 ·rw [List.getD_eq_getElem?_getD,List.getElem?_eq_getElem h]
  exact C.cl x hx _ (List.getElem_mem h)
 ·rw [List.getD_eq_getElem?_getD,List.getElem?_eq_none (by omega)]
  exact C.zero
theorem order_cl {n:Nat} {rows:List Row} (G:GoodM n rows):Cl n rows (order rows):=by
 obtain ⟨L,cl⟩:=order_line G
 obtain ⟨t,e⟩:=L.hd
 exact ⟨by rw [e];simp,cl,fun r hr=>G.len _ (row_mem (L.rg r hr).1 (L.rg r hr).2)⟩
def Right {α:Type} (M:List Row) (o:List Int) (f:Int→α):Prop:=∀ x∈o,∀ y∈o,f x=f y↔beh M x=beh M y
structure Fair {α:Type} (M:List Row) (o:List Int) (f:Int→α):Prop where
 all:∀ x∈o,∀ y∈o,beh M x=beh M y→f x=f y
 fst:∀ x∈o,∀ y∈o,f x=f y→(row M x).1=(row M y).1
def Finer {α β:Type} (M:List Row) (o:List Int) (f:Int→α) (f':Int→β):Prop:=∀ x∈o,∀ y∈o,f' x=f' y↔(f x=f y∧(row M x).2.map f=(row M y).2.map f)
theorem Fair.next {α β:Type} {n:Nat} {M:List Row} {o:List Int} {f:Int→α} {f':Int→β} (C:Cl n M o) (F:Fair M o f) (S:Finer M o f f'):Fair M o f':=by
 refine ⟨fun x hx y hy e=>(S x hx y hy).mpr ⟨F.all x hx y hy e,?_⟩,fun x hx y hy e=>F.fst x hx y hy ((S x hx y hy).mp e).1⟩
 refine List.ext_getElem (by rw [List.length_map,List.length_map,C.len x hx,C.len y hy]) fun i h1 h2=>?_
 rw [List.length_map] at h1 h2
 rw [List.getElem_map,List.getElem_map]
 have a1:=C.go hx i
 have a2:=C.go hy i
 have b1:(row M x).2.getD i 0=(row M x).2[i]:=by rw [List.getD_eq_getElem?_getD,List.getElem?_eq_getElem h1];rfl
 have b2:(row M y).2.getD i 0=(row M y).2[i]:=by rw [List.getD_eq_getElem?_getD,List.getElem?_eq_getElem h2];rfl
 rw [←b1,←b2]
 exact F.all _ a1 _ a2 (funext fun w=>congrFun e (i::w))
theorem Fair.right {α β:Type} {n:Nat} {M:List Row} {o:List Int} {f:Int→α} {f':Int→β} (C:Cl n M o) (F:Fair M o f) (S:Finer M o f f') (hk:∀ x∈o,∀ y∈o,f x=f y→f' x=f' y):Right M o f':=by
 have key:∀ (w:List Nat) (x y:Int),x∈o→y∈o→f x=f y→beh M x w=beh M y w:=by
  intro w
  induction w with
  | nil=>intro x y hx hy e;exact F.fst x hx y hy e
  | cons i w ih =>
   intro x y hx hy e
   refine ih _ _ (C.go hx i) (C.go hy i) ?_
   have h:=((S x hx y hy).mp (hk x hx y hy e)).2
   have h':=congrArg (fun l=>l[i]?) h
   simp only [List.getElem?_map] at h'
   rw [List.getD_eq_getElem?_getD,List.getD_eq_getElem?_getD]
   cases e1:(row M x).2[i]? with
   | none =>
    rw [e1] at h'
    cases e2:(row M y).2[i]? with
    | none=>rfl
    | some b=>rw [e2] at h';cases h'
   | some a =>
    rw [e1] at h'
    cases e2:(row M y).2[i]? with
    | none=>rw [e2] at h';cases h'
    | some b=>rw [e2] at h';exact Option.some.inj h'
 intro x hx y hy
 refine ⟨fun e=>funext fun w=>key w x y hx hy ((S x hx y hy).mp e).1,fun e=>(F.next C S).all x hx y hy e⟩
end Gu

set_option Elab.async false
set_option linter.all false
set_option maxRecDepth 100000
set_option maxHeartbeats 4000000
namespace Gu
open PySem L2
/-! ### the law's marks are right -/
theorem sround_nk (rows:List Row) (o:List Int) (f:Int→D) (r:Int):sround rows o f r=D.int (nk o (keyOf rows f) r):=rfl
theorem keyOf_eq {rows:List Row} {f:Int→D} {x y:Int}:keyOf rows f x=keyOf rows f y↔(f x=f y∧(row rows x).2.map f=(row rows y).2.map f):=by
 unfold keyOf
 constructor
 ·intro e
  injection e with e
  injection e with e1 e2
  injection e2 with e2 _
  injection e2 with e2
  exact ⟨e1,e2⟩
 ·rintro ⟨e1,e2⟩
  rw [e1,e2]
theorem sround_finer (rows:List Row) (o:List Int) (f:Int→D):Finer rows o f (sround rows o f):=fun x hx y hy=>by
 rw [sround_nk,sround_nk]
 constructor
 ·intro e
  injection e with e
  exact keyOf_eq.mp ((nk_eq hx hy).mp e)
 ·intro e
  rw [(nk_eq hx hy).mpr (keyOf_eq.mpr e)]
theorem scount_is (rows:List Row) (o:List Int) (f:Int→D):scount rows o f=(uniq (o.map (sround rows o f))).length:=by
 have h1:scount rows o f=(uniq (o.map (keyOf rows f))).length:=rfl
 have h2:=(count_of (sround rows o f) (keyOf rows f) o fun x hx y hy e=>by rw [sround_nk,sround_nk,(nk_eq hx hy).mpr e]).1
 have h3:=(count_of (keyOf rows f) (sround rows o f) o fun x hx y hy e=>by
  rw [sround_nk,sround_nk] at e
  injection e with e
  exact (nk_eq hx hy).mp e).1
 omega
theorem sloop_right {n:Nat} {rows:List Row} {o:List Int} (C:Cl n rows o):∀ (m many:Nat) (f:Int→D),Fair rows o f→(many=0∨many=(uniq (o.map f)).length)→many≤o.length→o.length+1≤m+many→Right rows o (sloop rows o m many f)
 | 0,many,f,F,hm,hl,hf=>by omega
 | m+1,many,f,F,hm,hl,hf=>by
  unfold sloop
  have S:=sround_finer rows o f
  by_cases hc:many < scount rows o f
  ·rw [if_pos hc]
   refine sloop_right C m _ _ (F.next C S) (.inr (scount_is rows o f)) (scount_le rows o f) (by omega)
  ·rw [if_neg hc]
   have h1:1≤scount rows o f:=by
    have:keyOf rows f 0∈uniq (skeys rows o f):=mem_uniq.mpr (List.mem_map.mpr ⟨0,C.zero,rfl⟩)
    exact List.length_pos_of_mem this
   have h2:many=(uniq (o.map f)).length:=by rcases hm with h | h;omega;exact h
   have h3:=scount_is rows o f
   refine F.right C S ((count_of f (sround rows o f) o fun x hx y hy e=>((S x hx y hy).mp e).1).2 (by omega))
theorem fair0 (rows:List Row) (o:List Int):Fair rows o fun r=>D.its (row rows r).1 :=
 ⟨fun x hx y hy e=>by
  have:=congrFun e []
  show D.its _=D.its _
  rw [show (row rows x).1=(row rows y).1 from this],fun x hx y hy e=>its_inj e⟩
theorem kOf_right {n:Nat} {rows:List Row} (G:GoodM n rows):Right rows (order rows) (kOf rows):=by
 have hl:=(order_line G).1.len
 have h:=sloop_right (order_cl G) (rows.length+2) 0 _ (fair0 rows (order rows)) (.inl rfl) (by omega) (by omega)
 intro x hx y hy
 have:=h x hx y hy
 have e:sloop rows (order rows) (rows.length+2) 0 (fun r=>D.its (row rows r).1)=fun r=>D.int (kOf rows r):=smarks_int rows
 rw [e] at this
 rw [←this]
 exact ⟨fun q=>by show D.int _=D.int _;rw [q],fun q=>D.int.inj q⟩
/-! ### the program's kinds are right -/
def kf (ks:List Int) (x:Int):Int:=ks.getD x.toNat 0
theorem kf_numb {α:Type} [DecidableEq α] {L:Nat} {key:Int→α} {x:Int} (hx:x∈iota L):kf (numb ((iota L).map key)) x=nk (iota L) key x:=by
 have hx':=mem_iota.mp hx
 unfold kf numb nk
 have hl:x.toNat < L:=by omega
 rw [List.getD_eq_getElem?_getD,List.getElem?_map,List.getElem?_map,iota_get hl]
 have:((x.toNat:Nat):Int)=x:=by omega
 simp only [Option.map_some,Option.getD_some,this]
theorem rows_iota (fs:List Row) (g:Row→α):fs.map g=(iota fs.length).map fun x=>g (row fs x):=by
 refine List.ext_getElem? fun i=>?_
 rw [List.getElem?_map,List.getElem?_map]
 by_cases h:i < fs.length
 ·rw [iota_get h,List.getElem?_eq_getElem h]
  show some (g fs[i])=some (g (row fs (i:Int)))
  congr 2
  unfold row
  have:((i:Nat):Int).toNat=i:=by omega
  rw [this,List.getD_eq_getElem?_getD,List.getElem?_eq_getElem h];rfl
 ·rw [List.getElem?_eq_none (by omega),List.getElem?_eq_none (by rw [iota_len];omega)]
  rfl
def pkey (fs:List Row) (ks:List Int) (x:Int):Int × List Int:=(kf ks x,(row fs x).2.map (kf ks))
theorem stepK_iota {fs:List Row} {ks:List Int} (h:ks.length=fs.length):stepK ks fs=(iota fs.length).map (pkey fs ks):=by
 unfold stepK
 refine List.ext_getElem? fun i=>?_
 rw [List.getElem?_map,List.getElem?_map]
 by_cases hi:i < fs.length
 ·have e1:(ks.zip fs)[i]?=some (ks[i]'(by omega),fs[i]):=List.getElem?_zip_eq_some.mpr ⟨List.getElem?_eq_getElem (by omega),List.getElem?_eq_getElem hi⟩
  rw [iota_get hi,e1]
  simp only [Option.map_some]
  congr 1
  unfold pkey kf row
  have:((i:Nat):Int).toNat=i:=by omega
  rw [this,List.getD_eq_getElem?_getD,List.getElem?_eq_getElem (by omega:i < ks.length),List.getD_eq_getElem?_getD,List.getElem?_eq_getElem hi]
  rfl
 ·rw [List.getElem?_eq_none (by rw [List.length_zip];omega),List.getElem?_eq_none (by rw [iota_len];omega)]
  rfl
theorem cnt_numb {α:Type} [DecidableEq α] {xs:List α} (h:xs≠[]):cnt (numb xs)=((uniq xs).length:Int):=by
 have hne:numb xs≠[]:=fun z=>h (by
  have:=numb_len xs
  rw [z] at this
  exact List.eq_nil_of_length_eq_zero this.symm)
 obtain ⟨h1,h2⟩:=cnt_max hne fun k hk=>(numb_rg hk).1
 have h3:=(numb_rg h1).2
 have hpos:0 < (uniq xs).length:=by
  cases xs with
  | nil=>exact absurd rfl h
  | cons a r=>exact List.length_pos_of_mem (mem_uniq.mpr (show a∈a::r by simp))
 have hm:(uniq xs)[(uniq xs).length - 1]'(by omega)∈xs:=mem_uniq.mp (List.getElem_mem _)
 have h4:(((uniq xs).length - 1:Nat):Int)∈numb xs:=by
  unfold numb
  refine List.mem_map.mpr ⟨_,hm,?_⟩
  rw [(uniq_nd xs).idxOf_getElem]
 have:=h2 _ h4
 omega
theorem iota_ne {L:Nat} {α:Type} {g:Int→α} (h:1≤L):(iota L).map g≠[]:=fun z=>by
 have:=congrArg List.length z
 rw [List.length_map,iota_len] at this
 simp at this
 omega
theorem kf_uniq {α:Type} [DecidableEq α] {L:Nat} {key:Int→α}:(uniq ((iota L).map (kf (numb ((iota L).map key))))).length=(uniq ((iota L).map key)).length:=by
 rw [←nk_count (iota L) key]
 congr 2
 exact List.map_congr_left fun x hx=>kf_numb hx
theorem pkey_finer {fs:List Row} (hgo:∀ x∈iota fs.length,∀ g∈(row fs x).2,g∈iota fs.length) {ks:List Int}:Finer fs (iota fs.length) (kf ks) (kf (numb ((iota fs.length).map (pkey fs ks)))):=fun x hx y hy=>by
 rw [kf_numb hx,kf_numb hy,nk_eq hx hy]
 unfold pkey
 rw [Prod.mk.injEq]
theorem fs_cl {n:Nat} {fs:List Row} (G:GoodF n fs):Cl n fs (iota fs.length):=by
 refine ⟨mem_iota.mpr ⟨by omega,by have:=G.some;omega⟩,fun r hr g hg=>?_,fun r hr=>?_⟩
 ·have h:=mem_iota.mp hr
  exact mem_iota.mpr (G.go _ (row_mem h.1 h.2) g hg)
 ·have h:=mem_iota.mp hr
  exact G.len _ (row_mem h.1 h.2)
theorem kloop_right {n:Nat} {fs:List Row} (G:GoodF n fs):∀ (m:Nat) (c:Int) (ks:List Int),(∃ (α:Type) (_:DecidableEq α) (key:Int→α),ks=numb ((iota fs.length).map key))→Fair fs (iota fs.length) (kf ks) →
  (c=0∨∃ ks0:List Int,Fair fs (iota fs.length) (kf ks0)∧Finer fs (iota fs.length) (kf ks0) (kf ks)∧c=((uniq ((iota fs.length).map (kf ks0))).length:Int))→0≤c→c≤(fs.length:Int)→(fs.length:Int)+1≤m+c →
  Right fs (iota fs.length) (kf (kloop fs m c ks))∧∃ (α:Type) (_:DecidableEq α) (key:Int→α),kloop fs m c ks=numb ((iota fs.length).map key)
 | 0,c,ks,hk,F,hp,h0,h1,h2=>by omega
 | m+1,c,ks,hk,F,hp,h0,h1,h2=>by
  unfold kloop
  have C:=fs_cl G
  obtain ⟨α,ia,key,rfl⟩:=hk
  have hcn:=cnt_numb (iota_ne (g:=key) G.some)
  have hU:(uniq ((iota fs.length).map key)).length≤fs.length:=by
   have:=uniq_le ((iota fs.length).map key)
   rw [List.length_map,iota_len] at this
   exact this
  have hUp:1≤(uniq ((iota fs.length).map key)).length:=List.length_pos_of_mem (mem_uniq.mpr (List.mem_map.mpr ⟨0,C.zero,rfl⟩))
  by_cases hc:c < cnt (numb ((iota fs.length).map key))
  ·rw [if_pos hc,hcn,stepK_iota (by rw [numb_len,List.length_map,iota_len])]
   refine kloop_right G m _ _ ⟨_,_,_,rfl⟩ (F.next C (pkey_finer C.cl)) (.inr ⟨_,F,pkey_finer C.cl,?_⟩) (by omega) (by omega) (by rw [hcn] at hc;omega)
   rw [kf_uniq]
  ·rw [if_neg hc]
   refine ⟨?_,_,_,_,rfl⟩
   rcases hp with hp | ⟨ks0,F0,S0,hc0⟩
   ·rw [hcn] at hc;omega
   ·refine F0.right C S0 ((count_of _ _ _ fun x hx y hy e=>((S0 x hx y hy).mp e).1).2 ?_)
    rw [kf_uniq]
    rw [hcn] at hc
    omega
theorem kinds_right {n:Nat} {fs:List Row} (G:GoodF n fs):Right fs (iota fs.length) (kf (kinds fs))∧∃ (α:Type) (_:DecidableEq α) (key:Int→α),kinds fs=numb ((iota fs.length).map key):=by
 have C:=fs_cl G
 unfold kinds
 refine kloop_right G (fs.length+1) 0 _ ⟨List Int,inferInstance,fun x=>(row fs x).1,by rw [rows_iota fs (·.1)]⟩ ?_ (.inl rfl) (by omega) (by omega) (by omega)
 rw [rows_iota fs (·.1)]
 refine ⟨fun x hx y hy e=>?_,fun x hx y hy e=>?_⟩
 ·rw [kf_numb hx,kf_numb hy,nk_eq hx hy]
  exact congrFun e []
 ·rw [kf_numb hx,kf_numb hy,nk_eq hx hy] at e
  exact e
end Gu

set_option Elab.async false
set_option linter.all false
set_option maxRecDepth 100000
set_option maxHeartbeats 4000000
namespace Gu
open PySem L2
/-! ### the line of a machine,and of one that it is mapped to -/
inductive BF (M:List Row):Nat→List Int→List Int→Prop
 | stop {i:Nat} {o:List Int}:o.length≤i→BF M i o o
 | step {i:Nat} {o res:List Int} {r:Int}:o[i]?=some r→BF M (i+1) (addAll o (row M r).2) res→BF M i o res
theorem BF.det {M:List Row} {i:Nat} {o a b:List Int} (h:BF M i o a) (h':BF M i o b):a=b:=by
 induction h generalizing b with
 | stop hl =>
  cases h' with
  | stop _=>rfl
  | step e _=>rw [List.getElem?_eq_none hl] at e;cases e
 | step e _ ih =>
  cases h' with
  | stop hl=>rw [List.getElem?_eq_none hl] at e;cases e
  | step e' q =>
   rw [e] at e'
   cases e'
   exact ih q
theorem BF.sub {M:List Row} {i:Nat} {o a:List Int} (h:BF M i o a):∃ m,a=o++m:=by
 induction h with
 | stop _=>exact ⟨[],by simp⟩
 | @step i o res r e _ ih =>
  obtain ⟨m,em⟩:=ih
  obtain ⟨m',em'⟩:=addAll_sub (row M r).2 o
  exact ⟨m'++m,by rw [em,em',List.append_assoc]⟩
theorem bf_of {n:Nat} {rows:List Row} (G:GoodM n rows):∀ (f i:Nat) (o:List Int),Line rows o→i≤o.length→rows.length+1≤f+i→BF rows i o (bfs rows f i o)
 | 0,i,o,L,hi,hf=>by
  have:=L.len
  omega
 | f+1,i,o,L,hi,hf=>by
  cases e:o[i]? with
  | none =>
   rw [bfs_stop (List.getElem?_eq_none_iff.mp e)]
   exact .stop (List.getElem?_eq_none_iff.mp e)
  | some r =>
   rw [bfs_step e]
   have hr:r∈o:=List.mem_of_getElem? e
   have hil:i < o.length:=(List.getElem?_eq_some_iff.mp e).1
   obtain ⟨m,em⟩:=addAll_sub (row rows r).2 o
   exact .step e (bf_of G f (i+1) _ (L.add G hr) (by rw [em,List.length_append];omega) (by omega))
theorem order_bf {n:Nat} {rows:List Row} (G:GoodM n rows):BF rows 0 [0] (order rows):=bf_of G (rows.length+1) 0 [0] (line0 G) (by simp) (by omega)
theorem uniq_addAll {α β:Type} [DecidableEq α] [DecidableEq β] (h:α→β):∀ (gs o:List α),uniq ((addAll o gs).map h)=addAll (uniq (o.map h)) (gs.map h)
 | [],o=>rfl
 | g::gs,o=>by
  show uniq ((addAll (addN o g) gs).map h)=addAll (addN (uniq (o.map h)) (h g)) (gs.map h)
  rw [uniq_addAll h gs (addN o g)]
  congr 1
  by_cases hg:g∈o
  ·rw [addN_mem hg,addN_mem (mem_uniq.mpr (List.mem_map.mpr ⟨g,hg,rfl⟩))]
  ·rw [addN_new hg,List.map_append]
   exact uniq_snoc _ _
def Mor (M' M:List Row) (o':List Int) (h:Int→Int):Prop:=∀ x∈o',row M (h x)=((row M' x).1,(row M' x).2.map h)
theorem BF.map {M' M:List Row} {h:Int→Int} {i:Nat} {o res:List Int} (b:BF M' i o res):Mor M' M res h→(∀ j r,j < i→o[j]?=some r→∀ g∈(row M' r).2,g∈o)→i≤o.length →
  BF M (uniq ((o.take i).map h)).length (uniq (o.map h)) (uniq (res.map h)):=by
 induction b with
 | @stop i o hl =>
  intro _ _ _
  rw [List.take_of_length_le hl]
  exact .stop (Nat.le_refl _)
 | @step i o res r e b ih =>
  intro mo pc hi
  obtain ⟨m0,em0⟩:=b.sub
  obtain ⟨m,em⟩:=addAll_sub (row M' r).2 o
  have hil:i < o.length:=(List.getElem?_eq_some_iff.mp e).1
  have hro:r∈o:=List.mem_of_getElem? e
  have hr:=mo r (by rw [em0,em];exact List.mem_append_left _ (List.mem_append_left _ hro))
  have ih':=ih mo (fun j r' hj er g hg=>?_) (by rw [em,List.length_append];omega)
  ·have et:(addAll o (row M' r).2).take (i+1)=o.take i++[r]:=by
    rw [em,List.take_append_of_le_length (by omega),List.take_add_one,e];rfl
   rw [et,List.map_append,show List.map h [r]=[h r] from rfl,uniq_snoc,uniq_addAll] at ih'
   by_cases hm:h r∈uniq ((o.take i).map h)
   ·rw [addN_mem hm,addAll_old] at ih'
    ·exact ih'
    ·intro g hg
     obtain ⟨r',hr',er'⟩:=List.mem_map.mp (mem_uniq.mp hm)
     obtain ⟨j,hj,ej⟩:=List.getElem_of_mem hr'
     rw [List.length_take] at hj
     rw [List.getElem_take] at ej
     have hmo:=mo r' (by rw [em0,em];exact List.mem_append_left _ (List.mem_append_left _ (List.mem_of_mem_take hr')))
     rw [er',hr] at hmo
     have e2:(row M' r).2.map h=(row M' r').2.map h:=congrArg Prod.snd hmo
     rw [e2] at hg
     obtain ⟨g',hg',eg⟩:=List.mem_map.mp hg
     have:=pc j r' (by omega) (by rw [List.getElem?_eq_getElem (by omega),ej]) g' hg'
     exact mem_uniq.mpr (List.mem_map.mpr ⟨g',this,eg⟩)
   ·rw [addN_new hm,List.length_append] at ih'
    refine .step (r:=h r) ?_ ?_
    ·have eo:o=(o.take i++[r])++o.drop (i+1):=by
      have:o.take (i+1)=o.take i++[r]:=by rw [List.take_add_one,e];rfl
      rw [←this,List.take_append_drop]
     have e3:uniq (o.map h)=addAll (uniq ((o.take i).map h)++[h r]) ((o.drop (i+1)).map h):=by
      conv=>lhs;rw [eo]
      rw [List.map_append,uniq_app,List.map_append,show List.map h [r]=[h r] from rfl,uniq_snoc,addN_new hm]
     obtain ⟨m2,em2⟩:=addAll_sub ((o.drop (i+1)).map h) (uniq ((o.take i).map h)++[h r])
     rw [e3,em2,List.append_assoc,List.getElem?_append_right (Nat.le_refl _),Nat.sub_self]
     rfl
    ·rw [hr]
     exact ih'
  ·have hjo:j < o.length:=by omega
   have er':o[j]?=some r':=by rw [em,List.getElem?_append_left hjo] at er;exact er
   by_cases hji:j=i
   ·subst hji
    rw [e] at er'
    cases er'
    exact addAll_mem.mpr (.inr hg)
   ·exact addAll_mem.mpr (.inl (pc j r' (by omega) er' g hg))
theorem order_map {n n':Nat} {M' M:List Row} {h:Int→Int} (G':GoodM n' M') (G:GoodM n M) (h0:h 0=0) (mo:Mor M' M (order M') h):uniq ((order M').map h)=order M:=by
 have b:=(order_bf G').map mo (fun j r hj=>absurd hj (Nat.not_lt_zero _)) (by simp)
 have e:uniq ([(0:Int)].map h)=[0]:=by
  rw [show [(0:Int)].map h=[h 0] from rfl,h0];rfl
 rw [e] at b
 exact b.det (order_bf G)
/-! ### heads -/
theorem heads_uniq (k:Int→Int):∀ l:List Int,(heads k l.reverse).map k=uniq (l.reverse.map k)
 | []=>rfl
 | a::l=>by
  rw [List.reverse_cons,heads_snoc,List.map_append,show List.map k [a]=[k a] from rfl,uniq_snoc,←heads_uniq k l]
  unfold hdStep
  by_cases h:k a∈(heads k l.reverse).map k
  ·rw [if_pos h,addN_mem h]
  ·rw [if_neg h,addN_new h,List.map_append];rfl
theorem heads_map_uniq (k:Int→Int) (o:List Int):(heads k o).map k=uniq (o.map k):=by
 have:=heads_uniq k o.reverse
 rwa [List.reverse_reverse] at this
theorem heads_ker {k k':Int→Int}:∀ l:List Int,(∀ x∈l.reverse,∀ y∈l.reverse,k x=k y↔k' x=k' y)→heads k l.reverse=heads k' l.reverse
 | [],_=>rfl
 | a::l,h=>by
  rw [List.reverse_cons] at h ⊢
  rw [heads_snoc,heads_snoc,heads_ker l fun x hx y hy=>h x (List.mem_append_left _ hx) y (List.mem_append_left _ hy)]
  unfold hdStep
  have hin:=(heads_has k' l.reverse).2.1
  have:k a∈(heads k' l.reverse).map k↔k' a∈(heads k' l.reverse).map k':=by
   constructor
   ·intro hm
    obtain ⟨x,hx,e⟩:=List.mem_map.mp hm
    exact List.mem_map.mpr ⟨x,hx,(h x (List.mem_append_left _ (hin x hx)) a (by simp)).mp e⟩
   ·intro hm
    obtain ⟨x,hx,e⟩:=List.mem_map.mp hm
    exact List.mem_map.mpr ⟨x,hx,(h x (List.mem_append_left _ (hin x hx)) a (by simp)).mpr e⟩
  by_cases hm:k a∈(heads k' l.reverse).map k
  ·rw [if_pos hm,if_pos (this.mp hm)]
  ·rw [if_neg hm,if_neg (fun z=>hm (this.mpr z))]
theorem heads_ker' {k k':Int→Int} {o:List Int} (h:∀ x∈o,∀ y∈o,k x=k y↔k' x=k' y):heads k o=heads k' o:=by
 have:=heads_ker (k:=k) (k':=k') o.reverse (by rw [List.reverse_reverse];exact h)
 rwa [List.reverse_reverse] at this
theorem heads_comp (k h:Int→Int):∀ l:List Int,(heads (fun x=>k (h x)) l.reverse).map h=heads k (uniq (l.reverse.map h))
 | []=>rfl
 | a::l=>by
  rw [List.reverse_cons,heads_snoc,List.map_append,show List.map h [a]=[h a] from rfl,uniq_snoc]
  have ih:=heads_comp k h l
  have e:(heads (fun x=>k (h x)) l.reverse).map (fun x=>k (h x))=(heads k (uniq (l.reverse.map h))).map k:=by
   rw [←ih,List.map_map];rfl
  unfold hdStep
  by_cases hm:h a∈uniq (l.reverse.map h)
  ·have hk:k (h a)∈(heads (fun x=>k (h x)) l.reverse).map (fun x=>k (h x)):=by
    rw [e]
    exact (heads_has k _).1 _ hm
   rw [if_pos hk,addN_mem hm];exact ih
  ·rw [addN_new hm,heads_snoc]
   unfold hdStep
   by_cases hk:k (h a)∈(heads (fun x=>k (h x)) l.reverse).map (fun x=>k (h x))
   ·rw [if_pos hk,if_pos (by rw [←e];exact hk)];exact ih
   ·rw [if_neg hk,if_neg (by rw [←e];exact hk),List.map_append,ih];rfl
theorem heads_comp' (k h:Int→Int) (o:List Int):(heads (fun x=>k (h x)) o).map h=heads k (uniq (o.map h)):=by
 have:=heads_comp k h o.reverse
 rwa [List.reverse_reverse] at this
theorem idx_ker {k k':Int→Int} {x:Int}:∀ {l:List Int},(∀ y∈l,k y=k x↔k' y=k' x)→(l.map k).idxOf (k x)=(l.map k').idxOf (k' x)
 | [],_=>rfl
 | b::l,h=>by
  rw [List.map_cons,List.map_cons,List.idxOf_cons,List.idxOf_cons,idx_ker fun y hy=>h y (List.mem_cons_of_mem _ hy)]
  have:=h b (by simp)
  have e:(k b == k x)=(k' b == k' x):=by
   rw [Bool.eq_iff_iff,beq_iff_eq,beq_iff_eq];exact this
  rw [e]
theorem run_mor {n:Nat} {M' M:List Row} {o':List Int} {h:Int→Int} (C:Cl n M' o') (h0:h 0=0) (mo:Mor M' M o' h):∀ (w:List Nat) (x:Int),x∈o'→h (run M' x w)=run M (h x) w∧run M' x w∈o'
 | [],x,hx=>⟨rfl,hx⟩
 | i::w,x,hx=>by
  have e:(row M (h x)).2.getD i 0=h ((row M' x).2.getD i 0):=by
   rw [mo x hx,List.getD_eq_getElem?_getD,List.getD_eq_getElem?_getD,List.getElem?_map]
   cases (row M' x).2[i]? with
   | none=>exact h0.symm
   | some a=>rfl
  obtain ⟨h1,h2⟩:=run_mor C h0 mo w _ (C.go hx i)
  refine ⟨?_,h2⟩
  show h (run M' ((row M' x).2.getD i 0) w)=run M ((row M (h x)).2.getD i 0) w
  rw [e];exact h1
theorem inLine_mor {n n':Nat} {M' M:List Row} {h k k':Int→Int} (G':GoodM n' M') (G:GoodM n M) (h0:h 0=0) (mo:Mor M' M (order M') h) (R:Right M (order M) k) (R':Right M' (order M') k') :
  inLine M' k' (order M')=inLine M k (order M):=by
 have C':=order_cl G'
 have eo:=order_map G' G h0 mo
 have hin:∀ x∈order M',h x∈order M:=fun x hx=>by rw [←eo];exact mem_uniq.mpr (List.mem_map.mpr ⟨x,hx,rfl⟩)
 have hb:∀ x∈order M',beh M' x=beh M (h x):=fun x hx=>funext fun w=>by
  obtain ⟨h1,h2⟩:=run_mor C' h0 mo w x hx
  show (row M' (run M' x w)).1=(row M (run M (h x) w)).1
  rw [←h1,mo _ h2]
 have ker:∀ x∈order M',∀ y∈order M',k' x=k' y↔k (h x)=k (h y):=fun x hx y hy=>by
  rw [R' x hx y hy,R _ (hin x hx) _ (hin y hy),hb x hx,hb y hy]
 have hh:heads k' (order M')=heads (fun x=>k (h x)) (order M'):=heads_ker' ker
 have hm:(heads (fun x=>k (h x)) (order M')).map h=heads k (order M):=by rw [heads_comp',eo]
 have hsub:∀ r∈heads (fun x=>k (h x)) (order M'),r∈order M':=(heads_has _ _).2.1
 unfold inLine
 rw [hh,←hm,List.map_map]
 refine List.map_congr_left fun r hr=>?_
 have hro:=hsub r hr
 show _=((row M (h r)).1,(row M (h r)).2.map _)
 rw [mo r hro]
 refine Prod.ext rfl ?_
 show List.map _ _=List.map _ (List.map h (row M' r).2)
 rw [List.map_map]
 refine List.map_congr_left fun g hg=>?_
 have hgo:=C'.cl r hro g hg
 show (((List.map k' (heads (fun x=>k (h x)) (order M'))).idxOf (k' g):Nat):Int)=((((heads (fun x=>k (h x)) (order M')).map h).map k).idxOf (k (h g)):Nat)
 rw [List.map_map]
 have:=idx_ker (k:=k') (k':=fun x=>k (h x)) (x:=g) (l:=heads (fun x=>k (h x)) (order M')) fun y hy=>ker y (hsub y hy) g hgo
 rw [this]
 rfl
theorem shr_mor {n n':Nat} {M' M:List Row} {h:Int→Int} (G':GoodM n' M') (G:GoodM n M) (h0:h 0=0) (mo:Mor M' M (order M') h):shr M'=shr M :=
 inLine_mor G' G h0 mo (kOf_right G) (kOf_right G')
/-! ### the program's least machine is the law's -/
theorem GoodF.m {n:Nat} {fs:List Row} (G:GoodF n fs):GoodM n fs:=⟨G.few,G.some,G.perm,G.len,G.go⟩
theorem found_row {n:Nat} {rows:List Row} (G:GoodM n rows) {x:Int} (hx:x∈order rows):row (found rows) ((((order rows).idxOf x:Nat):Int))=((row rows x).1,(row rows x).2.map fun g=>(((order rows).idxOf g:Nat):Int)):=by
 have hl:=List.idxOf_lt_length_of_mem hx
 unfold row found foundOf
 have:((((order rows).idxOf x:Nat):Int)).toNat=(order rows).idxOf x:=by omega
 rw [this,List.getD_eq_getElem?_getD,List.getElem?_map,List.getElem?_eq_getElem hl,List.getElem_idxOf hl]
 rfl
theorem found_len (rows:List Row):(found rows).length=(order rows).length:=by unfold found foundOf;rw [List.length_map]
theorem found_order {n:Nat} {rows:List Row} (G:GoodM n rows):order (found rows)=iota (found rows).length:=by
 obtain ⟨L,cl⟩:=order_line G
 obtain ⟨t,e⟩:=L.hd
 have h0:(((order rows).idxOf 0:Nat):Int)=0:=by rw [e];simp
 have h:=order_map (h:=fun x=>(((order rows).idxOf x:Nat):Int)) G (found_good G).m h0 fun x hx=>found_row G hx
 rw [←h,idx_self L.nd,found_len]
 exact uniq_self (iota_nodup _)
theorem found_mor {n:Nat} {rows:List Row} (G:GoodM n rows):Mor (found rows) rows (order (found rows)) fun i=>(order rows).getD i.toNat 0:=by
 obtain ⟨L,cl⟩:=order_line G
 intro i hi
 rw [found_order G,found_len] at hi
 obtain ⟨i0,i1⟩:=mem_iota.mp hi
 have hl:i.toNat < (order rows).length:=by omega
 have e1:(order rows).getD i.toNat 0=(order rows)[i.toNat]:=by rw [List.getD_eq_getElem?_getD,List.getElem?_eq_getElem hl];rfl
 have hx:(order rows)[i.toNat]∈order rows:=List.getElem_mem hl
 have e2:(((order rows).idxOf (order rows)[i.toNat]:Nat):Int)=i:=by rw [L.nd.idxOf_getElem];omega
 have e3:=found_row G hx
 rw [e2] at e3
 show row rows ((order rows).getD i.toNat 0)=_
 rw [e1,e3]
 refine Prod.ext rfl ?_
 show (row rows (order rows)[i.toNat]).2=List.map _ (List.map _ _)
 rw [List.map_map]
 conv=>lhs;rw [←List.map_id (row rows (order rows)[i.toNat]).2]
 refine List.map_congr_left fun g hg=>?_
 have hg':=cl _ hx g hg
 have hl':=List.idxOf_lt_length_of_mem hg'
 show g=(order rows).getD ((((order rows).idxOf g:Nat):Int)).toNat 0
 have:((((order rows).idxOf g:Nat):Int)).toNat=(order rows).idxOf g:=by omega
 rw [this,List.getD_eq_getElem?_getD,List.getElem?_eq_getElem hl',List.getElem_idxOf hl']
 rfl
theorem iota_take {L i:Nat} (h:i≤L):(iota L).take i=iota i:=by
 refine List.ext_getElem? fun j=>?_
 by_cases hj:j < i
 ·rw [List.getElem?_take_of_lt hj,iota_get (by omega),iota_get hj]
 ·rw [List.getElem?_eq_none (by rw [List.length_take,iota_len];omega),List.getElem?_eq_none (by rw [iota_len];omega)]
theorem iota_app {c:Nat} {u m:List Int} (e:u++m=iota c):u=iota u.length:=by
 have hl:u.length≤c:=by have:=congrArg List.length e;rw [List.length_append,iota_len] at this;omega
 have:=congrArg (List.take u.length) e
 rw [List.take_append_of_le_length (Nat.le_refl _),List.take_length,iota_take hl] at this
 exact this
theorem iota_succ (j:Nat):iota (j+1)=iota j++[(j:Int)]:=by
 unfold iota
 rw [List.range_succ,List.map_append];rfl
theorem least_inLine {fs:List Row} {ks:List Int} (hl:ks.length=fs.length) (hn:∃ (α:Type) (_:DecidableEq α) (key:Int→α),ks=numb ((iota fs.length).map key)) (hgo:∀ r∈fs,∀ g∈r.2,0≤g∧g < (fs.length:Int)) :
  leastOf fs ks=inLine fs (kf ks) (iota fs.length):=by
 obtain ⟨α,ia,key,ek⟩:=hn
 have hU:uniq ((iota fs.length).map (kf ks))=iota (uniq ((iota fs.length).map key)).length:=by
  have e:(iota fs.length).map (kf ks)=(iota fs.length).map (nk (iota fs.length) key):=List.map_congr_left fun x hx=>by rw [ek];exact kf_numb hx
  rw [e]
  exact nk_uniq (iota fs.length) key
 generalize hc:(uniq ((iota fs.length).map key)).length=c at hU
 have hpre:∀ i,i≤fs.length→uniq ((iota i).map (kf ks))=iota (uniq ((iota i).map (kf ks))).length:=fun i hi=>by
  have e1:iota fs.length=iota i++(iota fs.length).drop i:=by
   conv=>lhs;rw [←List.take_append_drop i (iota fs.length)]
   rw [iota_take hi]
  rw [e1,List.map_append,uniq_app] at hU
  obtain ⟨m,em⟩:=addAll_sub (((iota fs.length).drop i).map (kf ks)) (uniq ((iota i).map (kf ks)))
  rw [em] at hU
  exact iota_app hU
 have main:∀ i,i≤fs.length→leastP fs ks i=(heads (kf ks) (iota i)).map fun r=>((row fs r).1,(row fs r).2.map (kf ks)):=by
  intro i
  induction i with
  | zero=>intro _;rfl
  | succ i ih =>
   intro hi
   have ih:=ih (by omega)
   have hif:i < fs.length:=by omega
   have hik:i < ks.length:=by omega
   rw [leastP_step (r:=fs[i]) (k:=ks[i]) (List.getElem?_eq_getElem hif) (List.getElem?_eq_getElem hik),ih,iota_succ,heads_snoc]
   have p1:=hpre i (by omega)
   have p2:=hpre (i+1) hi
   rw [iota_succ,List.map_append,show List.map (kf ks) [(i:Int)]=[kf ks i] from rfl,uniq_snoc] at p2
   have hm:=heads_map_uniq (kf ks) (iota i)
   have hlen:(heads (kf ks) (iota i)).length=(uniq ((iota i).map (kf ks))).length:=by rw [←hm,List.length_map]
   have ek:ks[i]=kf ks (i:Int):=by
    unfold kf
    have:((i:Nat):Int).toNat=i:=by omega
    rw [this,List.getD_eq_getElem?_getD,List.getElem?_eq_getElem hik];rfl
   have er:fs[i]=row fs (i:Int):=by
    unfold row
    have:((i:Nat):Int).toNat=i:=by omega
    rw [this,List.getD_eq_getElem?_getD,List.getElem?_eq_getElem hif];rfl
   unfold lstep hdStep
   rw [hm,List.length_map,hlen]
   by_cases hin:kf ks i∈uniq ((iota i).map (kf ks))
   ·rw [if_pos hin,if_neg]
    show ¬ ks[i]=_
    rw [ek]
    rw [p1] at hin
    have:=mem_iota.mp hin
    omega
   ·rw [if_neg hin,if_pos]
    ·rw [List.map_append,er]
     rfl
    ·show ks[i]=_
     rw [ek]
     rw [addN_new hin,List.length_append] at p2
     have e3:iota ((uniq ((iota i).map (kf ks))).length+[kf ks (i:Int)].length)=iota (uniq ((iota i).map (kf ks))).length++[((uniq ((iota i).map (kf ks))).length:Int)]:=iota_succ _
     rw [e3,←p1] at p2
     have:=List.append_cancel_left p2
     simpa using this
 rw [←leastP_all hl,main fs.length (Nat.le_refl _)]
 unfold inLine
 refine List.map_congr_left fun r hr=>?_
 refine Prod.ext rfl ?_
 refine List.map_congr_left fun g hg=>?_
 have hr':=mem_iota.mp ((heads_has (kf ks) (iota fs.length)).2.1 r hr)
 have hg':=hgo _ (row_mem hr'.1 hr'.2) g hg
 have hin:kf ks g∈uniq ((iota fs.length).map (kf ks)):=mem_uniq.mpr (List.mem_map.mpr ⟨g,mem_iota.mpr hg',rfl⟩)
 rw [heads_map_uniq]
 have hl':=List.idxOf_lt_length_of_mem hin
 have e:=List.getElem_idxOf hl'
 rw [hU] at hin hl' ⊢
 have h1:=mem_iota.mp hin
 have e2:(iota c)[(iota c).idxOf (kf ks g)]'hl'=kf ks g:=List.getElem_idxOf hl'
 have e3:=iota_get (n:=c) (i:=(iota c).idxOf (kf ks g)) (by rw [iota_len] at hl';exact hl')
 rw [List.getElem?_eq_getElem hl',e2] at e3
 exact Option.some.inj e3
theorem least_shr {n:Nat} {rows:List Row} (G:GoodM n rows):least rows=shr rows:=by
 have GF:=found_good G
 obtain ⟨R,N⟩:=kinds_right GF
 obtain ⟨L,cl⟩:=order_line G
 obtain ⟨t,e⟩:=L.hd
 unfold least
 rw [least_inLine (kinds_good GF).len N GF.go]
 have h0:(fun i:Int=>(order rows).getD i.toNat 0) 0=0:=by
  show (order rows).getD (0:Int).toNat 0=0
  rw [e];rfl
 have R':Right (found rows) (order (found rows)) (kf (kinds (found rows))):=by rw [found_order G];exact R
 have:=inLine_mor (h:=fun i=>(order rows).getD i.toNat 0) GF.m G h0 (found_mor G) (kOf_right G) R'
 rw [found_order G] at this
 exact this
end Gu

set_option Elab.async false
set_option linter.all false
set_option maxRecDepth 100000
set_option maxHeartbeats 4000000
namespace L2
open PySem PySem.Spec PyProof.Rows
/-! ### d.setdefault(k,x) -/
section
variable {X:Cx} {pins:List (Addr × Obj)} {σ:St} {H:Hp} {s:Shared} {a:Addr} {kvs:List (Key × V)} {k:Key} {u:Value} {A:Around} {E:Value→Shared→Prop}
end
section
variable {X:Cx} {o e f:Expr} {apos cpos:Pos} {td ty tx:TE}
end
end L2

set_option Elab.async false
set_option linter.all false
set_option maxRecDepth 100000
set_option maxHeartbeats 4000000
namespace HT
open PySem PySem.Spec PyProof.Rows
section
variable {prog:Program} {w:World} {A:Around} {E:Value→Shared→Prop} {s:Shared}
theorem fm_rev {α:Type} (xs:List α):∀ k,k≤xs.length→(List.range k).filterMap (fun (m:Nat)=>xs[xs.length - 1 - m]?)=xs.reverse.take k
 | 0,_=>by simp
 | k+1,h=>by
  rw [List.range_succ,List.filterMap_append,fm_rev xs k (by omega),List.take_add_one]
  congr 1
  have hk:k < xs.length:=by omega
  rw [List.getElem?_reverse hk]
  have:xs.length - 1 - k < xs.length:=by omega
  rw [List.filterMap_cons,List.getElem?_eq_getElem this]
  rfl
theorem fm_congr {α β:Type} {f g:α→Option β}:∀ {l:List α},(∀ a∈l,f a=g a)→l.filterMap f=l.filterMap g
 | [],_=>rfl
 | a::l,h=>by
  rw [List.filterMap_cons,List.filterMap_cons,h a (by simp),fm_congr fun b hb=>h b (List.mem_cons_of_mem _ hb)]
end
end HT
namespace L2
open PySem PySem.Spec PyProof.Rows
section
variable {X:Cx} {e st:Expr} {te ts:TE} {pos p2:Pos}
end
end L2

set_option Elab.async false
set_option linter.all false
set_option maxRecDepth 100000
set_option maxHeartbeats 4000000
namespace L2
open PySem PySem.Spec PyProof.Rows
/-! ### enumerate over a list -/
def Itel (K:PySem.W.Frag) (a:Addr):It :=
 ⟨fun i H=>∃ xs x,SqL K H a xs∧xs[i]?=some x,fun i H x H'=>∃ p y,x=.ref p∧H p=none∧(∀ xs,SqL K H a xs→xs[i]?=some y)∧H'=upd H p (.tup [.int i,y]),fun i H=>∃ xs,SqL K H a xs∧xs.length≤i⟩
theorem turn_enumL {P:Program} {w:World} {K:PySem.W.Frag} {elts:List Expr} {k:Nat} {tp:Pos} (a it e:Addr) (hne:e≠it) :
  Turn P w K (.Tuple elts k tp) (Itel K a) [e,it] e (fun i h=>(∃ old,IsEnum h e it i old)∧h.IsListIter it a i) where
 mem:=by simp
 obj:=fun i h st b hb=>by
  obtain ⟨⟨old,he⟩,⟨o,ho,hc,hd⟩⟩:=st
  rcases List.mem_cons.mp hb with z | z
  ·subst z;exact ⟨_,he,fun v z=>by cases z⟩
  ·have z:=List.mem_singleton.mp z
   subst z;exact ⟨o,ho,fun v z=>by rw [hd] at z;cases z⟩
 keep:=fun i h h' st k=>by
  obtain ⟨⟨old,he⟩,⟨o,ho,c⟩⟩:=st
  exact ⟨⟨old,k e (by simp) _ he⟩,⟨o,k it (by simp) _ ho,c⟩⟩
 item:=by
  intro X hP hw hK hc i pins s σ H E I hf st hg
  subst hP hw hK
  obtain ⟨xs,x,hq,hx⟩:=hg
  obtain ⟨its,rv,p,hz⟩:=I.list hq
  obtain ⟨u,hu,ru⟩:=rv.get hx
  obtain ⟨⟨old,he⟩,hit⟩:=st
  have hai:a≠it:=fun z=>by
   obtain ⟨o,e1,c1,_⟩:=id p.isList
   obtain ⟨o2,e2,c2,_⟩:=id hit
   rw [z,e2] at e1;cases e1;rw [c2] at c1;exact absurd c1 (by intro h;injection h with h;exact absurd h (by decide))
  have hae:a≠e:=fun z=>by
   obtain ⟨o,e1,c1,_⟩:=id p.isList
   rw [z,he] at e1;cases e1;exact absurd c1 (by intro h;injection h with h;exact absurd h (by decide))
  have lt:i < its.toArray.size:=by
   have:=(List.getElem?_eq_some_iff.mp hu).1
   simpa using this
  have D:=Draws.list (prog:=X.prog) (w:=X.w) (A:=X.A.in1) (I.ok.hd hc) it a hai its.toArray
  refine wpAny_pyNext_enum_itemD D he ⟨hit,p.isList⟩ lt hne (by simp [hne,Ne.symm hae]) fun y h' tk hy ho hst hT hsz hk=>?_
  have hyu:y=u:=by
   have e1:its.toArray[i]?=some u:=by simpa using hu
   rw [e1] at hy;exact (Option.some.inj hy).symm
  subst hyu
  refine ⟨_,rfl,?_⟩
  refine wpAny_letOwnedTupleGo_enum ho fun h2 he2 hs2=>?_
  have hp0:H s.heap.objs.size=none:=I.fresh
  have elt:e < s.heap.objs.size:=Heap.lt_size he
  have ilt:it < s.heap.objs.size:=by obtain ⟨o,e2,_⟩:=hit;exact Heap.lt_size e2
  have kk:∀ b o,b≠e→b≠it→s.heap.get? b=some o→h2.get? b=some o:=fun b o h1 h3 q=>(hs2.2 b h1).trans (hk b o h1 h3 q)
  obtain ⟨e0,e1,e2,e3,e4,e5⟩:=hf e (by simp)
  obtain ⟨i0,i1,i2,i3,i4,i5⟩:=hf it (by simp)
  have I1:Inv X pins σ (upd H s.heap.objs.size (.tup [.int i,x])) { s with heap:=h2,toks:=tk+1 }:=by
   refine I.turnedNew (ch:=[e,it]) (fun b u hb q=>kk b u (fun z=>hb (by simp [z])) (fun z=>hb (by simp [z])) q) (Nat.le_refl _) ?_ (fun b hb=>hf b hb)
   have nT:s.heap.objs.size≠e:=Nat.ne_of_gt elt
   exact ⟨by show 2≤sizeLine;decide,[.int i tk,y],0,.cons ⟨tk,rfl⟩ (.cons ru .nil),(hs2.2 _ nT).trans hT⟩
  refine ⟨.ref s.heap.objs.size,_,I1,rfl,⟨s.heap.objs.size,x,rfl,hp0,fun ys hy=>by rw [I.list_inj hy hq];exact hx,rfl⟩,⟨⟨y,by simpa using he2⟩,?_⟩,fun b hb=>?_⟩
  ·obtain ⟨⟨o,e9,c9⟩,_⟩:=hst
   exact ⟨o,(hs2.2 it (Ne.symm hne)).trans e9,c9⟩
  ·have hb0:=(hf b hb).1
   have:b≠s.heap.objs.size:=by
    rcases List.mem_cons.mp hb with z | z
    ·rw [z];exact Nat.ne_of_lt elt
    ·rw [List.mem_singleton.mp z];exact Nat.ne_of_lt ilt
   rw [upd_ne this];exact hb0
 done:=by
  intro X hP hw hK hc i pins s σ H E I hf st hg
  subst hP hw hK
  obtain ⟨xs,hq,hx⟩:=hg
  obtain ⟨its,rv,p,hz⟩:=I.list hq
  obtain ⟨⟨old,he⟩,hit⟩:=st
  have hlen:=rv.length
  have hT:s.TypeIs (.ref e) "enumerate":=⟨_,he,rfl⟩
  unfold pyNext
  refine wpAny_bind (wpAny_attempt (wpAny_callSpecial?_slot (name:=Str.ofString "__next__") hT F.slot_enumerate_next
   (wpAny_call_entry F.slot_enumerate_next hT F.entry_enumerate_next ?_ (F.args_enumerate_next_1 _))))
  show wpAny _ _ (field (.ref e) 2 >>= _) _ _ _
  refine wpAny_bind (wpAny_field he rfl (x:=.ref it) rfl ?_)
  refine wpAny_bind (wpAny_nextOf_list_end (show X.A.in1.handled=none from I.ok.hd hc) hit p.isList (by simp;omega) fun h' x he' hx'=>?_)
  obtain ⟨o,ho,hcl⟩:=hx'
  refine wpAny_bind (wpAny_isInstance (T:="StopIteration") (b:=true) ⟨o,ho,hcl⟩ isSubtype_stop ?_)
  refine wpAny_pure ⟨rfl,?_⟩
  exact I.turnedL (ch:=[it]) (t':=s.toks) (fun b u hb q=>he' b u (fun z=>hb (by simp [z])) q) (fun b hb=>hf b (by rw [List.mem_singleton.mp hb];simp))
 self:=fun A i s Q E st h=>by
  obtain ⟨⟨old,he⟩,_⟩:=st
  exact wpAny_pyIter_enum he h
theorem for_enumL {K:PySem.W.Frag} {a:Addr} {xs:List V} {g:TG} {tb:TS} {D:Ends} {σ:St} {H:Hp} (Pv:Nat→St→Hp→Prop) (h0:Pv 0 σ H) (hl:∀ i σ H,i≤xs.length→Pv i σ H→SqL K H a xs)
  (hs:∀ i x p σ H,xs[i]?=some x→Pv i σ H→H p=none→g (.ref p) σ (upd H p (.tup [.int (i:Nat),x])) fun σ2 H2=>tb { D with nx:=Pv (i+1),ct:=Pv (i+1),bk:=D.nx } σ2 H2) (hd:∀ σ H,Pv xs.length σ H→D.nx σ H) :
  ∃ W:Nat→Nat→St→Hp→Prop,(∃ m,W 0 m σ H)∧∀ i m σ H,W i m σ H →
   ((Itel K a).stop i H∧D.nx σ H)∨((Itel K a).go i H∧∃ N:St→Hp→Prop,(∀ σ' H',N σ' H'→∃ m',m' < m∧W (i+1) m' σ' H')∧∀ x H',(Itel K a).yld i H x H'→g x σ H' fun σ2 H2=>tb { D with nx:=N,ct:=N,bk:=D.nx } σ2 H2):=by
 refine ⟨fun i m σ H=>m=xs.length - i∧i≤xs.length∧Pv i σ H,⟨xs.length,by simp,Nat.zero_le _,h0⟩,?_⟩
 rintro i m σ H ⟨rfl,hi,p⟩
 have q:=hl i σ H hi p
 by_cases hlt:i < xs.length
 ·refine .inr ⟨⟨xs,xs[i],q,by simp [hlt]⟩,Pv (i+1),fun σ' H' p'=>⟨xs.length - (i+1),by omega,rfl,hlt,p'⟩,fun x H' y=>?_⟩
  obtain ⟨b,z,rfl,hb,hz,rfl⟩:=y
  exact hs i z b σ H (hz xs q) p hb
 ·have e:i=xs.length:=by omega
  subst e
  exact .inl ⟨⟨xs,q,Nat.le_refl _⟩,hd σ H p⟩
section
variable {X:Cx} {elts:List Expr} {tk:Nat} {tp:Pos}
def iEnumL (K:PySem.W.Frag) (ta:TA):TI:=fun σ H R=>ta σ H fun vs H1=>∃ a:Addr,vs=[.ref a]∧(∃ xs,SqL K H1 a xs)∧R (Itel K a) H1
theorem pi_enumL {a:Expr} {ta:TA} {p pos:Pos} (hg:Gl X "enumerate") (hm:X.mg "enumerate"=none) (ha:PA X [a] ta) (hs:starEach [a] X.env=[(false,eval a X.env)]:=by rfl) :
  PI X (.Tuple elts tk tp) (.Call (.Name "enumerate" p) [a] [] pos) (iEnumL X.K ta):=by
 intro pins s σ H R I h
 refine Call_ (ld_blt I hg hm boot_enumerate (PyProof.Rows.callWith_type1 (thn (ha pos pins s σ H _ I h) fun us s1 ⟨vs,H1,I1,r1,q1⟩=>?_) hs rfl))
 obtain ⟨a,e,⟨xs,hq⟩,q⟩:=q1
 subst e
 obtain ⟨u,rfl,ru⟩:=vals1 r1
 cases ru
 obtain ⟨its,rv,pl,hz⟩:=I1.list hq
 refine call_enumerate_list pl.isList fun h' he hit hsz hk=>wpAny_pyIter_enum he ?_
 have I2:Inv X pins σ H1 { s1 with heap:=h' }:=I1.kept (t':=s1.toks) hk
 refine ⟨s1.heap.objs.size+1,[s1.heap.objs.size+1,s1.heap.objs.size],_,_,H1,rfl,I2,turn_enumL a s1.heap.objs.size (s1.heap.objs.size+1) (show @Ne Nat _ _ by omega),⟨⟨_,he⟩,hit⟩,fun b hb=>?_,q⟩
 have hb':s1.heap.objs.size≤b:=by
  rcases List.mem_cons.mp hb with z | z
  ·have z:@Eq Nat b (s1.heap.objs.size+1):=z
   omega
  ·rw [List.mem_singleton.mp z];exact Nat.le_refl _
 exact I1.fpOk hb' (I1.hok.fresh hb')
end
end L2

set_option Elab.async false
set_option linter.all false
set_option maxRecDepth 100000
set_option maxHeartbeats 4000000
namespace L2
open PySem PySem.Spec PyProof.Rows
section
variable {X:Cx}
end
end L2

set_option Elab.async false
set_option linter.all false
set_option maxRecDepth 100000
set_option maxHeartbeats 4000000
namespace Gu
open PySem L2
/-! ### a machine blown up -/
def tw (T S:List Int) (i:Nat):Int:=T.getD (S.getD i 0).toNat 0
theorem BF.all {M:List Row} {i:Nat} {o res:List Int} {C:Int→Prop} (b:BF M i o res) (hc:∀ x,C x→∀ g∈(row M x).2,C g):(∀ x∈o,C x)→∀ x∈res,C x:=by
 induction b with
 | stop _=>exact fun h=>h
 | @step i o res r e b ih =>
  intro h
  refine ih fun x hx=>?_
  rcases addAll_mem.mp hx with hx | hx
  ·exact h x hx
  ·exact hc r (h r (List.mem_of_getElem? e)) x hx
end Gu
namespace Gu
open PySem L2
theorem iota_hd (k:Nat):(0:Int)::((List.range k).map fun i:Nat=>(1:Int)+(i:Int))=iota (k+1):=by
 unfold iota
 rw [List.range_succ_eq_map,List.map_cons,List.map_map]
 congr 1
 refine List.map_congr_left fun i _=>?_
 show (1:Int)+(i:Int)=((i+1:Nat):Int)
 omega
end Gu
namespace Gu
open PySem L2
def GB (T S gs0:List Int) (H:Hp) (j:Nat) (ys:List V) (H2:Hp):Prop:=∃ gs:List Int,ys=gs.map V.int∧gs.length=j∧(∀ g∈gs,0≤g∧g < (T.length:Int))∧gs.map (fun g=>tw T S g.toNat)=gs0.take j∧Same H H2
end Gu
namespace Gu
open PySem L2
end Gu

set_option Elab.async false
set_option linter.all false
set_option maxRecDepth 100000
set_option maxHeartbeats 4000000
namespace L2
open PySem PySem.Spec PyProof.Rows
/-! ### an exception in flight -/
def Fly (h0:Heap) (H:Hp) (h:Heap) (ea C:Addr):Prop:=h0.get? ea=none∧H ea=none∧∃ a0 oe vs T oT ts,h.get? ea=some oe∧(oe.cls=.ref C∧vs[0]?=some a0)∧oe.data=.fields vs∧vs[1]?=some (.ref T)∧T≠ea∧h0.get? T=none∧H T=none∧h.get? T=some oT∧oT.data=.fields ts∧ts[3]?=some .none
def Fresh (h0:Heap) (H:Hp) (h:Heap) (ea C:Addr):Prop:=h0.get? ea=none∧H ea=none∧∃ a0 oe vs,h.get? ea=some oe∧(oe.cls=.ref C∧vs[0]?=some a0)∧oe.data=.fields vs∧vs[1]?=some .none
theorem funFrames_at {h base:Heap}:∀ {l:List Env},h.FunFrames base l→∀ b∈frs l,∃ o,h.get? b=some o∧∀ vs,o.data≠.fields vs
 | [],_,b,hb=>by simp [frs] at hb
 | env::r,hl,b,hb=>by
  obtain ⟨hk,⟨L,o,hf,hn,ho,hd⟩,hr⟩:=hl
  unfold frs at hb
  rw [List.filterMap_cons,hf] at hb
  rcases List.mem_cons.mp hb with z | z
  ·rw [z];exact ⟨o,ho,hd⟩
  ·exact funFrames_at hr b z
theorem funFrames_base {h base base':Heap}:∀ {l:List Env},h.FunFrames base l→(∀ b∈frs l,base'.get? b=none)→h.FunFrames base' l
 | [],_,_=>trivial
 | env::r,hl,hb=>by
  obtain ⟨hk,⟨L,o,hf,hn,ho,hd⟩,hr⟩:=hl
  have e:frs (env::r)=L::frs r:=by unfold frs;rw [List.filterMap_cons,hf]
  exact ⟨hk,⟨L,o,hf,hb L (by rw [e];simp),ho,hd⟩,funFrames_base hr fun b hb'=>hb b (by rw [e];exact List.mem_cons_of_mem _ hb')⟩
section
variable {P:Program} {w:World}
theorem objThere {H:Hp} {h:Heap} {a:Addr} {o:HO} (x:ObjOk P w H h a o):∃ ob,h.get? a=some ob:=by
 cases o with
 | lst xs=>obtain ⟨_,_,_,_,e⟩:=x;exact ⟨_,e⟩
 | tup xs=>obtain ⟨_,_,_,_,e⟩:=x;exact ⟨_,e⟩
 | dK kvs=>obtain ⟨_,_,_,_,o,_,_,e,_⟩:=x;exact ⟨_,e⟩
 | dT kvs=>obtain ⟨_,_,_,_,o,_,_,e,_⟩:=x;exact ⟨_,e⟩
 | set S n=>obtain ⟨o,_,_,_,e,_⟩:=x;exact ⟨_,e⟩
 | ins C dx fs=>obtain ⟨_,_,_,e,_⟩:=x;exact ⟨_,e⟩
 | own y=>obtain ⟨_,e⟩:=x;exact ⟨_,e⟩
 | xd fs=>obtain ⟨_,⟨_,_,_,e,_⟩,_⟩:=x;exact ⟨_,e⟩
 | rng lo hi=>obtain ⟨_,_,_,e⟩:=x;exact ⟨_,e⟩
 | frz ob u=>obtain ⟨e,_⟩:=x;exact ⟨_,e⟩
 | tbl ps=>exact ⟨_,show h.get? a=some _ from x⟩
 | met f y=>exact ⟨_,show h.get? a=some _ from x⟩
 | ext φ=>obtain ⟨_,⟨_,e⟩,_⟩:=x;exact ⟨_,e⟩
theorem left_ok {fr:List Addr} {H1 H':Hp} {h1 h h':Heap} {env:Env} {outer:List Env} {ea C:Addr} {a0:Value} {base:Heap} {hid:List Addr} (FF:h.FunFrames base (env::outer)) (u:Un fr [] H1 H' h1 h) (hok:HOk P w H' h)
  (hfr:∀ b∈frs (env::outer),H' b=none∧(b∈fr∨h1.get? b=none)) (hfr2:∀ b∈fr,b∈frs (env::outer)) (he1:h1.get? ea=none) (heH:H' ea=none) (hid1:∀ b∈hid,h1.get? b=none∧H' b=none)
  (lf:(PySem.W.hideAll h (ea::(hid++frs (env::outer)))).LeftW (env::outer) ea (.ref C) a0 h h') :
  Un fr [] H1 H' h1 h'∧HOk P w H' h'∧Fly h1 H' h' ea C:=by
 obtain ⟨st,ff,tr,sl⟩:=lf
 have keep:∀ b o,h.get? b=some o→b≠ea→b∉hid→b∉frs (env::outer)→h'.get? b=some o:=fun b o e n1 n2 n3 =>
  st b o (PySem.W.hideAll_get _ e fun z=>by
   rcases List.mem_cons.mp z with z | z
   ·exact n1 z
   ·rcases List.mem_append.mp z with z | z
    ·exact n2 z
    ·exact n3 z)
 have slot:∀ b o,h.get? b=some o→b∈frs (env::outer)→∃ s,h'.get? b=some { o with slots:=s }:=fun b o e hb=>by
  obtain ⟨o',e',hd⟩:=funFrames_at FF b hb
  rw [e] at e'
  cases e'
  exact sl b o e hd
 have nh:∀ b o,h1.get? b=some o→b≠ea∧b∉hid:=fun b o e=>⟨fun z=>(by rw [z,he1] at e;cases e),fun z=>(by rw [(hid1 b z).1] at e;cases e)⟩
 refine ⟨⟨fun b o e n hb hx=>?_,fun b o e n hb hx=>?_,u.free,fun b o e hx=>?_,u.tups,u.frzs,u.tbls⟩,fun a o e=>?_,he1,heH,?_⟩
 ·have e2:=u.keep b o e n hb hx
  refine keep b o e2 (nh b o e).1 (nh b o e).2 fun z=>?_
  rcases (hfr b z).2 with z | z
  ·exact hb z
  ·rw [z] at e;cases e
 ·obtain ⟨s1,e2⟩:=u.slot b o e n hb hx
  obtain ⟨s2,e3⟩:=slot b _ e2 (hfr2 b hb)
  exact ⟨s2,e3⟩
 ·obtain ⟨o',e2⟩:=u.there b o e hx
  by_cases hb:b∈frs (env::outer)
  ·obtain ⟨s2,e3⟩:=slot b _ e2 hb
   exact ⟨_,e3⟩
  ·exact ⟨o',keep b o' e2 (nh b o e).1 (nh b o e).2 hb⟩
 ·refine (hok a o e).stay (fun b v hb q=>?_) (fun _ q=>q) fun _ _ q=>q
  have hbs:∃ ob,H' b=some ob:=by
   rcases hb with z | z
   ·rw [z];exact ⟨_,e⟩
   ·exact ⟨_,z⟩
  obtain ⟨ob,hob⟩:=hbs
  refine keep b v q (fun z=>?_) (fun z=>?_) fun z=>?_
  ·rw [z,heH] at hob;cases hob
  ·rw [(hid1 b z).2] at hob;cases hob
  ·rw [(hfr b z).1] at hob;cases hob
 ·obtain ⟨oe,vs,T,oT,ts,g1,g2,g3,g4,g5,g6,g7,g8,g9⟩:=tr
  have hT:h1.get? T=none∧H' T=none:=by
   cases eT:h.get? T with
   | none =>
    refine ⟨?_,?_⟩
    ·cases q:h1.get? T with
     | none=>rfl
     | some o =>
      obtain ⟨o',e2⟩:=u.there T o q (by simp)
      rw [eT] at e2;cases e2
    ·cases q:H' T with
     | none=>rfl
     | some o =>
      obtain ⟨ob,hob⟩:=objThere (hok T o q)
      rw [eT] at hob;cases hob
   | some oT' =>
    have hm:T∈ea::(hid++frs (env::outer)):=Classical.byContradiction fun nm=>by
     rw [PySem.W.hideAll_get _ eT nm] at g5;cases g5
    rcases List.mem_cons.mp hm with z | z
    ·exact absurd z g6
    ·rcases List.mem_append.mp z with z | z
     ·exact hid1 T z
     ·obtain ⟨o',e',hd⟩:=funFrames_at ff T z
      rw [g7] at e'
      cases e'
      exact absurd g8 (hd ts)
  exact ⟨a0,oe,vs,T,oT,ts,g1,g2,g3,g4,g6,hT.1,hT.2,g7,g8,g9⟩
theorem leave_ok {M:Model} {A:Around} {E:Value→Shared→Prop} {Q:Unit→Shared→Prop} {s:Shared} {fr:List Addr} {H1 H':Hp} {h1:Heap} {env:Env} {outer:List Env} {L ea C:Addr} {base:Heap} (hA:A.frames=some (env::outer)) (hL:env.frame=some L) (FF:s.heap.FunFrames base (env::outer)) (u:Un fr [] H1 H' h1 s.heap) (hok:HOk P w H' s.heap)
  (hfr:∀ b∈frs (env::outer),H' b=none∧(b∈fr∨h1.get? b=none)) (hfr2:∀ b∈fr,b∈frs (env::outer)) (hf:Fresh h1 H' s.heap ea C∨Fly h1 H' s.heap ea C)
  (k:∀ h',Un fr [] H1 H' h1 h'→HOk P w H' h'→Fly h1 H' h' ea C→Q () { s with heap:=h' }):wpAny M A (leaving env (.ref ea)) Q E s:=by
 rcases hf with ⟨he1,heH,a0,oe,vs,g1,⟨g2,g20⟩,g3,g4⟩ | ⟨he1,heH,a0,oe,vs,T,oT,ts,g1,g2,g3,g4,g5,g6,g7,g8,g9,g10⟩
 ·have FF':s.heap.FunFrames (PySem.W.hideAll s.heap (ea::([]++frs (env::outer)))) (env::outer):=funFrames_base FF fun b hb=>PySem.W.hideAll_none _ (by simp [hb])
  refine wpAny_leaving_firstW hA FF' hL g1 (fun b o e=>PySem.W.of_hideAll _ e) (PySem.W.hideAll_none _ (by simp)) g3 g4 g20 fun h' lf=>?_
  rw [g2] at lf
  obtain ⟨a,b,c⟩:=left_ok (hid:=[]) FF u hok hfr hfr2 he1 heH (fun b hb=>by simp at hb) lf
  exact k h' a b c
 ·have FF':s.heap.FunFrames (PySem.W.hideAll s.heap (ea::([T]++frs (env::outer)))) (env::outer):=funFrames_base FF fun b hb=>PySem.W.hideAll_none _ (by simp [hb])
  refine wpAny_leaving_nextW hA FF' hL ⟨oe,vs,T,oT,ts,g1,g2,g3,g4,PySem.W.hideAll_none _ (by simp),g5,g8,g9,g10⟩ (fun b o e=>PySem.W.of_hideAll _ e) (PySem.W.hideAll_none _ (by simp)) fun h' lf=>?_
  obtain ⟨a,b,c⟩:=left_ok (hid:=[T]) FF u hok hfr hfr2 he1 heH (fun b hb=>by rw [List.mem_singleton.mp hb];exact ⟨g6,g7⟩) lf
  exact k h' a b c
def CXx (P:Program) (w:World):CXT:=fun outer H s E e s'=>∃ (ea C:Addr) (H':Hp),e=.ref ea∧s'.os=s.os∧AllBare s'.gens∧Un (frs outer) [] H H' s.heap s'.heap∧HOk P w H' s'.heap∧Fly s.heap H' s'.heap ea C∧E (.ref ea) (some C) H'
instance:NoE (CXx P w):=⟨fun ⟨_,_,_,_,_,_,_,_,_,h⟩=>h⟩
theorem xe_of {K:PySem.W.Frag} {mg:Str→Option Value} {base:Heap} {N:List Str} {qual:Str} {scope:Scope} {f:Addr} {cd:Value} {A:Around} {outer:List Env} {s:Shared} {H:Hp} {E:XK} {pins:List (Addr × Obj)} {σ:St} {H':Hp} {s':Shared} {ea C:Addr}
  (J:Inv (cxOf (CXx P w) P w K mg base N qual scope f cd A outer s H E) pins σ H' s') (hf:Fresh s.heap H' s'.heap ea C∨Fly s.heap H' s'.heap ea C) (hE:E (.ref ea) (some C) H'):(cxOf (CXx P w) P w K mg base N qual scope f cd A outer s H E).xe (.ref ea) s':=by
 have hsub:=J.stkSub
 have hfree:=J.stkFree
 have hst:=J.stack
 have hfrm:=J.ok.frames
 show wpAny (model P w) (A.deeper (envOfC qual scope s.heap.objs.size f cd)) (leaving (envOfC qual scope s.heap.objs.size f cd) (.ref ea)) (fun _ s''=>CXx P w outer H s E (.ref ea) s'') (fun e' s''=>CXx P w outer H s E e' s'') s'
 refine leave_ok (P:=P) (w:=w) (fr:=frs outer) (H1:=H) (H':=H') (h1:=s.heap) (base:=base) hfrm rfl hst J.base J.hok (fun b hb=>⟨hfree b hb,?_⟩) (fun b hb=>List.mem_cons_of_mem _ hb) hf fun h' a b c=>?_
 ·rcases List.mem_cons.mp (hsub b hb) with z | z
  ·right
   rw [z]
   exact Heap.get?_none_of_le (Nat.le_refl _)
  ·exact .inl z
 ·exact ⟨ea,C,H',rfl,J.os,J.bare,a,b,c,hE⟩
theorem passX {K:PySem.W.Frag} {mg:Str→Option Value} {base:Heap} {N:List Str} {qual:Str} {scope:Scope} {f:Addr} {cd:Value} {A:Around} {outer:List Env} {s:Shared} {H:Hp} {E E':XK} (hE:∀ e C H',E' e C H'→E e C H') :
  Passes (CXx P w) (cxOf (CXx P w) P w K mg base N qual scope f cd A outer s H E) E':=by
 intro pins σ H1 s1 e s' I hx
 obtain ⟨ea,C,H',rfl,os,bare,un,hok,fly,q⟩:=hx
 have J:=I.call' (ch:=[]) os un hok bare (fun b z=>absurd z (by simp))
 refine xe_of J (.inr ?_) (hE _ _ _ q)
 have up:∀ b,s1.heap.get? b=none→s.heap.get? b=none:=fun b z=>by
  cases q:s.heap.get? b with
  | none=>rfl
  | some o =>
   obtain ⟨o',e⟩:=I.base.there b o q (by simp [cxOf])
   rw [z] at e;cases e
 obtain ⟨a1,a2,a0,oe,vs,T,oT,ts,g1,g2,g3,g4,g5,g6,r⟩:=fly
 exact ⟨up _ a1,a2,a0,oe,vs,T,oT,ts,g1,g2,g3,g4,g5,up _ g6,r⟩
end
end L2

set_option Elab.async false
set_option linter.all false
set_option maxRecDepth 100000
set_option maxHeartbeats 4000000
namespace L2
open PySem PySem.Spec PyProof.Rows
theorem exc_obj {K:PySem.W.Frag} {h:Heap} {C:Addr} {bmB:List Value} {newId:String} (X:K.In h) (e:PySem.W.excIn K C bmB newId=true):∃ bm N nm q bs hdct sn sub ab col dd k0 k1 k2 k3 k5 mN,
  h.get? C=some (excClassObj nm q C N bs bm hdct sn sub ab col dd k0 k1 k2 k3 k5 newId)∧h.Ns N mN∧mN "__init__"=none∧OwnTail h bmB bm:=by
 unfold PySem.W.excIn at e
 split at e
 ·rename_i dict cd sl hl
  split at e
  ·rename_i C' bm a0 a1 a2 a3 n a5 hm hs
   simp only [Bool.and_eq_true,beq_iff_eq,Bool.not_eq_true'] at e
   obtain ⟨⟨⟨⟨⟨e1,e2⟩,e3⟩,e4⟩,e5⟩,e6⟩:=e
   have hC:=X C _ hl
   subst e1 e2
   have hsl:sl=#[a0,a1,a2,a3,some (Value.builtin n),a5]:=by rw [←Array.toArray_toList (xs:=sl),hs]
   obtain ⟨nm,bs,mro,ns,q,hd,sn,sub,ab,col,hdel⟩:=cd
   simp only at hm e3 e5 e6
   subst hm e3 hsl
   exact ⟨bm,ns,nm,q,bs,hd,sn,sub,ab,col,dict,a0,a1,a2,a3,a5,h.nsMap ns,hC,Heap.Ns.of_isNs (PySem.W.isNs_of_in X e5),PySem.W.nsMap_none_of_in X e5 e6,PySem.W.tail_of_in X e4⟩
  ·cases e
 ·cases e
theorem tail_has {h:Heap} {bmB bm:List Value} {v:Value} (t:OwnTail h bmB bm) (hb:bmB.contains v=true):bm.contains v=true:=by
 induction t with
 | base=>exact hb
 | own _ _ _ _ ih=>rw [List.contains_cons,ih];simp
section
variable {P:Program} {w:World} {K:PySem.W.Frag} {mg:Str→Option Value} {base:Heap} {N:List Str} {qual:Str} {scope:Scope} {f:Addr} {cd:Value} {A:Around} {outer:List Env} {s0:Shared} {H0:Hp} {E:XK}
theorem ps_raise {x:Str} {C:Addr} {B newId initId:String} {bmB:List Value} {arg:Expr} {ta:TE} {np cpos pos:Pos} (hx:mg x=some (.ref C)) (hg:Gl (cxOf (CXx P w) P w K mg base N qual scope f cd A outer s0 H0 E) x) (he:PySem.W.excIn K C bmB newId=true) (hB:ExcBaseFacts B newId initId bmB)
  (ha:PE (cxOf (CXx P w) P w K mg base N qual scope f cd A outer s0 H0 E) arg ta)
  (htr:backTo cpos (starEach [arg] (cxOf (CXx P w) P w K mg base N qual scope f cd A outer s0 H0 E).env)=[(false,eval arg (cxOf (CXx P w) P w K mg base N qual scope f cd A outer s0 H0 E).env)]:=by rfl) (hdb:(x == ("__debug__":Str))=false:=by decide) :
  PS (cxOf (CXx P w) P w K mg base N qual scope f cd A outer s0 H0 E) (.Raise (some (.Call (.Name x np) [arg] [] cpos)) none pos) (fun D σ H=>ta σ H fun v H1=>∀ ea,E (.ref ea) (some C) H1):=by
 intro pins s σ H D I h
 obtain ⟨bm,NN,nm,q,bs,hd,sn,sub,ab,col,dict,a0,a1,a2,a3,a5,mN,hC,hN,hi,ht⟩:=exc_obj I.ok.mod.kin he
 refine wpAny_Raise_call_subT (nm:=nm) (q:=q) (N:=NN) (bs:=bs) (hdct:=hd) (sn:=sn) (sub:=sub) (ab:=ab) (col:=col) (dd:=dict) (k0:=a0) (k1:=a1) (k2:=a2) (k3:=a3) (k5:=a5) hB (tail_has ht hB.hasBase) (I.ok.hd rfl) (by rw [htr];rfl) hi (ld_glob I hg hx ⟨rfl,?_⟩ hdb)
 rw [htr]
 refine Calls.evalArgs_plain (Calls.spliced_cons (thn (ha pins s σ H _ I h) fun u s2 ⟨v,H2,I2,r2,q2⟩=>Calls.spliced_nil ?_))
 have bk:=I2.bk
 refine ⟨rfl,by show 1≤sizeLine;decide,bk _ _ hC,hN.keeps bk,ht.keeps bk,fun h' e me=>?_⟩
 obtain ⟨kp,nw,t,g1,g2,g3⟩:=me
 have J:=I2.kept (h':=h') (t':=s2.toks) kp
 refine xe_of J (.inl ⟨?_,?_,_,_,_,g1,⟨rfl,rfl⟩,rfl,rfl⟩) (q2 e)
 ·cases z:s0.heap.get? e with
  | none=>rfl
  | some o =>
   obtain ⟨o',e'⟩:=I2.base.there e o z (by simp [cxOf])
   rw [nw] at e';cases e'
 ·cases z:H2 e with
  | none=>rfl
  | some o =>
   obtain ⟨ob,hob⟩:=objThere (I2.hok e o z)
   rw [nw] at hob;cases hob
end
end L2

set_option Elab.async false
set_option linter.all false
set_option maxRecDepth 100000
set_option maxHeartbeats 4000000
namespace L2
open PySem PySem.Spec PyProof.Rows
section
variable {P:Program} {w:World}
theorem again_ok {M:Model} {A:Around} {E:Value→Shared→Prop} {Q:Unit→Shared→Prop} {s:Shared} {fr:List Addr} {H1 H':Hp} {h1:Heap} {env:Env} {outer:List Env} {ea C:Addr} {base:Heap} (FF:s.heap.FunFrames base (env::outer)) (u:Un fr [] H1 H' h1 s.heap) (hok:HOk P w H' s.heap)
  (hfr:∀ b∈frs (env::outer),H' b=none∧(b∈fr∨h1.get? b=none)) (hfr2:∀ b∈fr,b∈frs (env::outer)) (hf:Fly h1 H' s.heap ea C)
  (k:∀ h',Un fr [] H1 H' h1 h'→HOk P w H' h'→Fly h1 H' h' ea C→Q () { s with heap:=h' }):wpAny M A (setFlight (.ref ea) none) Q E s:=by
 obtain ⟨he1,heH,a0,oe,vs,T,oT,ts,g1,g2,g3,g4,g5,g6,g7,g8,g9,g10⟩:=hf
 have FF':s.heap.FunFrames (PySem.W.hideAll s.heap (ea::([T]++frs (env::outer)))) (env::outer):=funFrames_base FF fun b hb=>PySem.W.hideAll_none _ (by simp [hb])
 refine lands_againW (base:=PySem.W.hideAll s.heap (ea::([T]++frs (env::outer)))) (l:=env::outer) (cls:=.ref C) (a0:=a0) ⟨fun b o e=>PySem.W.of_hideAll _ e,PySem.W.hideAll_none _ (by simp),FF',oe,vs,T,oT,ts,g1,g2,g3,g4,PySem.W.hideAll_none _ (by simp),g5,g8,g9,g10⟩ fun h' fl up=>?_
 obtain ⟨f1,f2,f3,f4⟩:=fl
 obtain ⟨a,b,c⟩:=left_ok (hid:=[T]) FF u hok hfr hfr2 he1 heH (fun b hb=>by rw [List.mem_singleton.mp hb];exact ⟨g6,g7⟩) ⟨f1,f3,f4,up⟩
 exact k h' a b c
theorem land_ok {M:Model} {A:Around} {E:Value→Shared→Prop} {Q:Unit→Shared→Prop} {s:Shared} {fr:List Addr} {H1 H':Hp} {h1:Heap} {env:Env} {outer:List Env} {L ea C:Addr} {base:Heap} (hA:A.frames=some (env::outer)) (hL:env.frame=some L) (FF:s.heap.FunFrames base (env::outer)) (u:Un fr [] H1 H' h1 s.heap) (hok:HOk P w H' s.heap)
  (hfr:∀ b∈frs (env::outer),H' b=none∧(b∈fr∨h1.get? b=none)) (hfr2:∀ b∈fr,b∈frs (env::outer)) (hf:Fly h1 H' s.heap ea C)
  (k:∀ h',Un fr [] H1 H' h1 h'→HOk P w H' h'→Fly h1 H' h' ea C→Q () { s with heap:=h' }):wpAny M A (noteFrame (.ref ea) env) (fun _ s2=>wpAny M A (setFlight (.ref ea) none) Q E s2) E s:=by
 obtain ⟨he1,heH,a0,oe,vs,T,oT,ts,g1,g2,g3,g4,g5,g6,g7,g8,g9,g10⟩:=hf
 have FF':s.heap.FunFrames (PySem.W.hideAll s.heap (ea::([T]++frs (env::outer)))) (env::outer):=funFrames_base FF fun b hb=>PySem.W.hideAll_none _ (by simp [hb])
 refine wpAny_noteFrame_onW hA FF' hL ⟨oe,vs,T,oT,ts,g1,g2,g3,g4,PySem.W.hideAll_none _ (by simp),g5,g8,g9,g10⟩ (fun b o e=>PySem.W.of_hideAll _ e) (PySem.W.hideAll_none _ (by simp)) fun h2 nt=>?_
 obtain ⟨n1,n2,n3,n4⟩:=nt
 refine wpAny_landsW (L:=L) ⟨n1,PySem.W.hideAll_none _ (by simp),n2,n3⟩ fun h' fl up=>?_
 obtain ⟨f1,f2,f3,f4⟩:=fl
 have lw:(PySem.W.hideAll s.heap (ea::([T]++frs (env::outer)))).LeftW (env::outer) ea (.ref C) a0 s.heap h':=⟨f1,f3,f4,fun b o e hd=>by
  obtain ⟨s1,e1⟩:=n4 b o e hd
  obtain ⟨s2,e2⟩:=up b _ e1 hd
  exact ⟨s2,e2⟩⟩
 obtain ⟨a,b,c⟩:=left_ok (hid:=[T]) FF u hok hfr hfr2 he1 heH (fun b hb=>by rw [List.mem_singleton.mp hb];exact ⟨g6,g7⟩) lw
 exact k h' a b c
end
abbrev Cx.sup (X:Cx) (e:Addr):Cx:={ X with A:=X.A.mark (some (.ref e)),calm:=false,xe:=fun _ _=>False }
abbrev Cx.tried (X:Cx) (pn:List (Addr × Obj)) (E:Value→Shared→Prop):Cx:={ X with pn:=pn,xe:=E }
theorem Cx.Ok.sup {X:Cx} (ok:X.Ok) (e:Addr):(X.sup e).Ok :=
 ⟨ok.mod,ok.kind,ok.glob,ok.blt,ok.above,ok.inj,ok.has,ok.cab,fun z=>(by cases z),ok.frames,ok.stk,ok.exf,ok.bs,ok.bsz,ok.noex,ok.exfs,ok.funs,ok.frf⟩
theorem Cx.Ok.tried {X:Cx} (ok:X.Ok) (pn:List (Addr × Obj)) (E:Value→Shared→Prop):(X.tried pn E).Ok :=
 ⟨ok.mod,ok.kind,ok.glob,ok.blt,ok.above,ok.inj,ok.has,ok.cab,ok.hd,ok.frames,ok.stk,ok.exf,ok.bs,ok.bsz,ok.noex,ok.exfs,ok.funs,ok.frf⟩
end L2

set_option Elab.async false
set_option linter.all false
set_option maxRecDepth 100000
set_option maxHeartbeats 4000000
namespace L2
open PySem PySem.Spec PyProof.Rows PySem.SeqAt
theorem vals_refs:∀ {us:List V} {its itt:List Value},(∀ v∈us,∃ c,v=V.ref c)→Vals us its→Vals us itt→its=itt
 | [],_,_,_,.nil,.nil=>rfl
 | v::us,_,_,h,.cons r rr,.cons q qq=>by
  obtain ⟨c,rfl⟩:=h v (by simp)
  cases r
  cases q
  rw [vals_refs (fun v hv=>h v (List.mem_cons_of_mem _ hv)) rr qq]
section
variable {X:Cx}
theorem op_neL (hu:X.A.units < cLine):OpR X (compareOp .NotEq) (fun x y H Q=>∃ (a b:Addr) (us:List V),x=.ref a∧y=.ref b∧SqL X.K H a us∧SqL X.K H b us∧(∀ v∈us,∃ c,v=V.ref c)∧Q (.bl false) H):=by
 intro pins s σ H x y v u Q I rx ry h
 obtain ⟨a,b,us,rfl,rfl,ha,hb,hr,q⟩:=h
 cases rx
 cases ry
 obtain ⟨its,rv,pl,_⟩:=I.list ha
 obtain ⟨itt,rv',pl',_⟩:=I.list hb
 have e:=vals_refs hr rv rv'
 subst e
 have R:=RcNeAt.lists (A:=X.A) (e:=fun _=>true) pl.isList pl'.isList rfl hu (fun j h1 h2=>EqAt.same _)
 have e2:(!(List.range its.toArray.size).all fun _=>true)=false:=by simp
 rw [e2] at R
 exact R _ _ _ _ ⟨.bl false,H,I,rfl,q⟩
end
end L2

set_option Elab.async false
set_option linter.all false
set_option maxRecDepth 100000
set_option maxHeartbeats 4000000
namespace Gu
open PySem L2
theorem shr_le {n:Nat} {rows:List Row} (G:GoodM n rows):(shr rows).length≤rows.length:=by
 obtain ⟨L,cl⟩:=order_line G
 have hl:=L.len
 have hh:=(heads_has (kOf rows) (order rows)).2.2
 unfold shr inLine
 rw [List.length_map]
 omega
theorem shr_good {n:Nat} {rows:List Row} (G:GoodM n rows):GoodM n (shr rows):=by
 obtain ⟨L,cl⟩:=order_line G
 obtain ⟨h1,h2,h3⟩:=heads_has (kOf rows) (order rows)
 have hl:=shr_le G
 have hf:=G.few
 obtain ⟨r0,t0,e0,_⟩:=shr_hd G
 have hm:∀ r∈shr rows,∃ x∈order rows,r=((row rows x).1,(row rows x).2.map fun g=>((((heads (kOf rows) (order rows)).map (kOf rows)).idxOf (kOf rows g):Nat):Int)):=fun r hr=>by
  unfold shr inLine at hr
  obtain ⟨x,hx,e⟩:=List.mem_map.mp hr
  exact ⟨x,h2 x hx,e.symm⟩
 refine ⟨by omega,by rw [e0];simp,fun r hr=>?_,fun r hr=>?_,fun r hr g hg=>?_⟩
 ·obtain ⟨x,hx,rfl⟩:=hm r hr
  exact G.perm (row rows x) (row_mem (L.rg x hx).1 (L.rg x hx).2)
 ·obtain ⟨x,hx,rfl⟩:=hm r hr
  show (List.map _ _).length=n
  rw [List.length_map]
  exact G.len _ (row_mem (L.rg x hx).1 (L.rg x hx).2)
 ·obtain ⟨x,hx,rfl⟩:=hm r hr
  obtain ⟨y,hy,rfl⟩:=List.mem_map.mp hg
  have:=List.idxOf_lt_length_of_mem (h1 y (cl x hx y hy))
  rw [List.length_map] at this
  unfold shr inLine
  rw [List.length_map]
  omega
/-! ### what raises -/
def TMx (Ct:Addr) (E:XK) (H:Hp):Prop:=∀ (ea:Addr) (H':Hp),Same H H'→E (.ref ea) (some Ct) H'
end Gu
namespace L2
open PySem PySem.Spec PyProof.Rows
theorem Fun.okx {CX:CXT} {P:Program} {w:World} {K:PySem.W.Frag} {mg:Str→Option Value} {base:Heap} {x qual:Str} {st:Stmt} {f:Addr} {fd:FuncData} {N ps:List Str} {k:Nat} {sp:Sp} (F:Fun K x qual st f fd) (S:FnScope N ps (defScope st)) (len:∀ vs H Q E,sp vs H Q E→vs.length=ps.length)
  (hbody:∀ (cdv:Value) (A:Around) (outer:List Env) (s:Shared) (H:Hp) (vs:List V) (Q:VK) (E:XK),Room k (A.deeper (envOfC qual (defScope st) s.heap.objs.size f cdv))→sp vs H Q E →
   ∃ t,PSs (cxOf CX P w K mg base N qual (defScope st) f cdv A outer s H E) (defBody st) t∧t { nx:=fun _ H'=>Q .non H',rt:=Q } (start N vs) H):FnOk P w K mg base CX (k+1) f fd ps sp:=by
 obtain ⟨oc,od,kV,doc,pm,an,cdv,ct,osl,rfl,lk,hcd⟩:=F.ex
 exact fn_of lk hcd S len fun A outer s H vs Q E hr hsp=>hbody cdv A outer s H vs Q E hr hsp
end L2

set_option Elab.async false
set_option linter.all false
set_option maxRecDepth 100000
set_option maxHeartbeats 4000000
namespace L2
open PySem PySem.Spec PyProof.Rows PySem.SeqAt
section
variable {X:Cx}
theorem op_catU:OpR X (binaryOp .Add) (fun x y H Q=>∃ (a b:Addr) (xs ys:List V),x=.ref a∧y=.ref b∧H a=some (.tup xs)∧H b=some (.tup ys)∧xs.length+ys.length≤sizeLine ∧
  ∀ (p:Addr) (H':Hp),Same H H'→H' p=some (.tup (xs++ys))→Q (.ref p) H'):=by
 intro pins s σ H x y v u Q I rx ry h
 obtain ⟨a,b,xs,ys,rfl,rfl,ha,hb,hz,q⟩:=h
 by_cases hx:xs=[]
 ·subst hx
  cases rx
  cases ry
  obtain ⟨its,r1,p1,_⟩:=I.tuple (SqT.of ha)
  obtain ⟨its2,r2,p2,_⟩:=I.tuple (SqT.of hb)
  cases r1
  obtain ⟨⟨cls,dd,data,sl⟩,ho,hc,n,hd⟩:=id p1
  obtain ⟨⟨cls2,dd2,data2,sl2⟩,ho2,hc2,n2,hd2⟩:=id p2
  simp only at hc hd hc2 hd2
  subst hc hd hc2 hd2
  exact concat_meets ⟨_,ho,rfl⟩ ⟨_,ho2,rfl⟩ noFill_tuple_add seq_tuple_add PySem.F.slot_tuple_add PySem.F.entry_tuple_add (PySem.F.args_tuple_add_2 _ _)
   (tuple_addW0 a b _ _ n n2 dd dd2 sl sl2 (by simp)) ⟨ho,ho2,⟨.ref b,H,I,rfl,q b H (Same.refl H) hb⟩⟩
 ·exact op_catT pins s σ H _ _ v u Q I rx ry ⟨a,b,xs,ys,rfl,rfl,SqT.of ha,SqT.of hb,hx,hz,fun e=>by subst e;exact q a H (Same.refl H) (by rw [List.append_nil];exact ha),fun _ p hp=>q p _ (Gu.same_up (Same.refl H) hp) upd_same⟩
/-! ### t*k -/
/-! ### t != u of ints -/
end
end L2

set_option Elab.async false
set_option linter.all false
set_option maxRecDepth 100000
set_option maxHeartbeats 4000000
namespace Gu
/-! ### endless words: a beginning and a ring -/
theorem getD_of {l:List Int} {i:Nat} (h:i < l.length):l.getD i 0=l[i]:=by rw [List.getD_eq_getElem?_getD,List.getElem?_eq_getElem h];rfl
/-! ### the least ring -/
end Gu

set_option Elab.async false
set_option linter.all false
set_option maxRecDepth 100000
set_option maxHeartbeats 4000000
namespace Gu
open PySem L2
/-! ### cuts of lists of ints -/
end Gu

set_option Elab.async false
set_option linter.all false
set_option maxRecDepth 100000
set_option maxHeartbeats 4000000
namespace Gu
open PySem L2
end Gu
namespace Gu
open PySem L2
end Gu

set_option Elab.async false
set_option linter.all false
set_option maxRecDepth 100000
set_option maxHeartbeats 4000000
namespace L2
open PySem PySem.Spec PyProof.Rows
/-! ### a thing that stays as it is -/
section
variable {P:Program} {w:World} {H H1:Hp} {h:Heap} {a:Addr} {o:Obj}
end
end L2

set_option Elab.async false
set_option linter.all false
set_option maxRecDepth 100000
set_option maxHeartbeats 4000000
namespace L2
open PySem PySem.Spec PyProof.Rows
section
variable {X:Cx} {CX:CXT} {k:Nat} {x:Str} {p pos:Pos} {e:Expr} {es:List Expr} {t:TA}
end
end L2

set_option Elab.async false
set_option linter.all false
set_option maxRecDepth 100000
set_option maxHeartbeats 4000000
namespace L2
open PySem PySem.Spec PyProof.Rows
/-! ### code tables: where a def's lambda lies,and the code that was made of it -/
structure Tb where
 at_:Addr
 pos:Pos
 qual:Str
class NT (o:HO):Prop where
 no:∀ ps,o≠.tbl ps
instance NT.lst {xs:List V}:NT (.lst xs):=⟨fun _ z=>by cases z⟩
instance NT.tup {xs:List V}:NT (.tup xs):=⟨fun _ z=>by cases z⟩
instance NT.dK {xs:List (Key × V)}:NT (.dK xs):=⟨fun _ z=>by cases z⟩
instance NT.ext {f:Heap→Prop}:NT (.ext f):=⟨fun _ z=>by cases z⟩
instance NT.frz {o:Obj} {u:HO}:NT (.frz o u):=⟨fun _ z=>by cases z⟩
/-! ### a def is called with things tracked that the body around keeps to itself -/
section
variable {X:Cx} {pins:List (Addr × Obj)} {σ:St} {H:Hp} {s s':Shared} {cs:List Addr} {ob:Addr→Obj}
end
end L2

set_option Elab.async false
set_option linter.all false
set_option maxRecDepth 100000
set_option maxHeartbeats 4000000
namespace L2
open PySem PySem.Spec PyProof.Rows
section
variable {X:Cx} {N:List Str} {ix:List (Option Nat)} {params:Arguments} {body:Expr} {lsc:Scope} {lpos:Pos} {c:Addr} {T:Tb} {Ts:List Tb}
/-! ### g(e,lambda ..) -/
variable {k:Nat} {g:Addr} {gd:FuncData} {ps:List Str} {sp:Sp} {E:XK} {x:Str} {p pos:Pos} {e0:Expr} {t0:TE}
end
end L2

set_option Elab.async false
set_option linter.all false
set_option maxRecDepth 100000
set_option maxHeartbeats 4000000
namespace L2
open PySem PySem.Spec PyProof.Rows
/-! ### data stay where frozen things are hidden -/
end L2

set_option Elab.async false
set_option linter.all false
set_option maxRecDepth 100000
set_option maxHeartbeats 4000000
namespace Gu
open PySem L2
/-! ### machines whose rows are told by a function,under names -/
abbrev nV (nm:Int→Int) (i:Int):V:=.int (nm i)
abbrev kN (nm:Int→Int) (i:Int):Key:=Sum.inl (nm i)
def rowN (nm:Int→Int) (r:Row):Row:=(r.1,r.2.map nm)
theorem rowN_id (r:Row):rowN (fun i=>i) r=r:=by unfold rowN;rw [List.map_id']
section
variable (P:Program) (w:World) (K:PySem.W.Frag) (mg:Str→Option Value) (base:Heap) (CX:CXT) (k:Nat)
end
/-! ### what a def hands back that makes lambdas -/
end Gu

set_option Elab.async false
set_option linter.all false
set_option maxRecDepth 100000
set_option maxHeartbeats 4000000
namespace L2
open PySem PySem.Spec PyProof.Rows
end L2

set_option Elab.async false
set_option linter.all false
set_option maxRecDepth 100000
set_option maxHeartbeats 4000000
namespace L2
open PySem PySem.Spec PyProof.Rows
/-! ### a list or a tuple -/
def SqS (K:PySem.W.Frag) (H:Hp) (a:Addr) (xs:List V):Prop:=SqL K H a xs∨SqT K H a xs
theorem SqS.mono {K:PySem.W.Frag} {H H':Hp} {a:Addr} {xs:List V} (h:SqS K H a xs) (s:Same H H'):SqS K H' a xs:=by
 rcases h with h | h
 ·exact .inl (s.seq h)
 ·refine .inr ?_
  rcases h with (h | ⟨o,h⟩) | h
  ·exact .inl (.inl (s _ _ h))
  ·exact .inl (.inr ⟨o,s _ _ h⟩)
  ·exact .inr h
def rIxQ (K:PySem.W.Frag):R2:=fun x y H Q=>∃ p xs i v,x=.ref p∧y=.int i∧SqS K H p xs∧atI xs i=some v∧Q v H
theorem ixQ {X:Cx} (K:PySem.W.Frag) (h:X.K=K):IxR X (rIxQ K):=by
 subst h
 intro value slice pins s σ H x y v u Q I rx ry q hs
 obtain ⟨p,xs,i,z,e1,e2,hq,e3,q⟩:=q
 rcases hq with hq | hq
 ·exact ix_list value slice pins s σ H x y v u Q I rx ry ⟨p,xs,i,z,e1,e2,hq,e3,q⟩ hs
 ·exact ix_tup value slice pins s σ H x y v u Q I rx ry ⟨p,xs,i,z,e1,e2,hq,e3,q⟩ hs
end L2
namespace Gu
open PySem L2
def RowsN (K:PySem.W.Frag) (H:Hp) (us:List V) (rows:List Row) (nm:Int→Int):Prop:=∀ i:Int,0≤i→i < (rows.length:Int)→0≤nm i∧∃ v,us[(nm i).toNat]?=some v∧Dr K H (rowD (rowN nm (row rows i))) v
theorem RowsN.mono {K:PySem.W.Frag} {H H':Hp} {us:List V} {rows:List Row} {nm:Int→Int} (h:RowsN K H us rows nm) (s:Same H H'):RowsN K H' us rows nm:=fun i h0 h1=>by
 obtain ⟨a,v,e,d⟩:=h i h0 h1
 exact ⟨a,v,e,d.mono s⟩
theorem RowsN.of {K:PySem.W.Frag} {H:Hp} {us:List V} {rows:List Row} (h:DrL K H (rowsD rows) us):RowsN K H us rows (fun i=>i):=fun i h0 h1=>by
 obtain ⟨v,ev,dv⟩:=rows_at h (row_get h0 h1)
 exact ⟨h0,v,ev,by rw [rowN_id];exact dv⟩
/-! ### a dict from named rows to data -/
section
variable {K:PySem.W.Frag} {H H':Hp} {f:Int→D} {r:Int} {nm:Int→Int}
def MkN (nm:Int→Int) (K:PySem.W.Frag) (H:Hp) (o:List Int) (f:Int→D) (kvs:List (Key × V)):Prop:=∃ vs,kvs=mk (o.map nm) vs∧DrL K H (o.map f) vs
theorem MkN.nil:MkN nm K H [] f []:=⟨[],rfl,DrL.nil⟩
theorem MkN.get (ni:∀ x y,nm x=nm y→x=y):∀ {o:List Int} {kvs:List (Key × V)},MkN nm K H o f kvs→r∈o→∃ v,valV kvs (kN nm r)=some v∧Dr K H (f r) v
 | [],_,_,h=>by simp at h
 | b::o,_,⟨vs,rfl,d⟩,h=>by
  rw [List.map_cons] at d
  simp only [DrL] at d
  obtain ⟨v,r',rfl,d1,d2⟩:=d
  by_cases e:b=r
  ·subst e
   exact ⟨v,valV_pos (p:=(kN nm b,v)) rfl,d1⟩
  ·obtain ⟨v',h1,h2⟩:=MkN.get ni (o:=o) ⟨r',rfl,d2⟩ (by rcases List.mem_cons.mp h with z | z;exact absurd z.symm e;exact z)
   refine ⟨v',?_,h2⟩
   show valV ((kN nm b,v)::mk (o.map nm) r') (kN nm r)=_
   rw [valV_neg (p:=(kN nm b,v)) (fun z=>e (ni _ _ (Sum.inl.inj z)))]
   exact h1
theorem MkN.no (ni:∀ x y,nm x=nm y→x=y):∀ {o:List Int} {kvs:List (Key × V)},MkN nm K H o f kvs→r∉o→valV kvs (kN nm r)=none
 | [],_,⟨vs,rfl,d⟩,_=>rfl
 | b::o,_,⟨vs,rfl,d⟩,h=>by
  rw [List.map_cons] at d
  simp only [DrL] at d
  obtain ⟨v,r',rfl,d1,d2⟩:=d
  show valV ((kN nm b,v)::mk (o.map nm) r') (kN nm r)=_
  rw [valV_neg (p:=(kN nm b,v)) (fun z=>h (by rw [ni _ _ (Sum.inl.inj z)];simp))]
  exact MkN.no ni (o:=o) ⟨r',rfl,d2⟩ (fun z=>h (List.mem_cons_of_mem _ z))
theorem MkN.len {o:List Int} {kvs:List (Key × V)} (h:MkN nm K H o f kvs):kvs.length=o.length:=by
 obtain ⟨vs,rfl,d⟩:=h
 have:=d.length
 rw [List.length_map] at this
 unfold mk
 rw [List.length_map,List.length_zip,List.length_map];omega
theorem MkN.put (ni:∀ x y,nm x=nm y→x=y) {v:V} {o:List Int} {kvs:List (Key × V)} (h:MkN nm K H o f kvs) (hr:r∉o) (h':MkN nm K H' o f kvs) (dv:Dr K H' (f r) v):MkN nm K H' (o++[r]) f (putK kvs (kN nm r) v):=by
 rw [putK_new _ (h.no ni hr)]
 obtain ⟨vs,rfl,d⟩:=h'
 have hl:=d.length
 rw [List.length_map] at hl
 refine ⟨vs++[v],?_,by rw [List.map_append];exact DrL.append d (DrL.one dv)⟩
 unfold mk
 rw [List.map_append,List.zip_append (by rw [List.length_map];exact hl),List.map_append]
 rfl
theorem MkN.mono {o:List Int} {kvs:List (Key × V)} (h:MkN nm K H o f kvs) (s:Same H H'):MkN nm K H' o f kvs:=by
 obtain ⟨vs,e,d⟩:=h
 exact ⟨vs,e,d.mono s⟩
theorem MkN.keyed {o:List Int} {kvs:List (Key × V)} (h:MkN nm K H o f kvs) (k:TupK H H') (hf:FK f):MkN nm K H' o f kvs:=by
 obtain ⟨vs,e,d⟩:=h
 exact ⟨vs,e,d.keyed k (hf.keyL o)⟩
end
def spInLineN (K:PySem.W.Frag):Sp:=fun vs H Q _=>∃ (a l m:Addr) (n:Nat) (rows:List Row) (nm:Int→Int) (us:List V) (o:List Int) (k:Int→Int) (kvs:List (Key × V)),vs=[.ref a,.ref l,.ref m]∧SqS K H a us∧RowsN K H us rows nm∧(∀ x y,nm x=nm y→x=y)∧GoodM n rows∧n≤60∧H l=some (.lst (o.map (nV nm)))∧H m=some (.dK kvs) ∧
 MkN nm K H o (fun r=>D.int (k r)) kvs∧Line rows o∧(∀ r∈o,∀ g∈(row rows r).2,g∈o)∧Gives K H Q (D.tup (rowsD (inLine rows k o)))
def spShrunkN (K:PySem.W.Frag):Sp:=fun vs H Q _=>∃ (a:Addr) (n:Nat) (rows:List Row) (nm:Int→Int) (us:List V),vs=[.ref a,.int (nm 0)]∧SqS K H a us∧RowsN K H us rows nm∧(∀ x y,nm x=nm y→x=y)∧GoodM n rows∧n≤60∧Gives K H Q (D.tup (rowsD (shr rows)))
end Gu

set_option Elab.async false
set_option linter.all false
set_option maxRecDepth 100000
set_option maxHeartbeats 4000000
namespace Gu
open PySem L2
/-! ### the form and its machine -/
theorem shr_quot {n:Nat} {rows:List Row} (G:GoodM n rows):∃ h:Int→Int,h 0=0∧Mor rows (shr rows) (order rows) h:=by
 obtain ⟨L,cl⟩:=order_line G
 have C:=order_cl G
 have R:=kOf_right G
 obtain ⟨h1,h2,h3⟩:=heads_has (kOf rows) (order rows)
 obtain ⟨t,et⟩:=L.hd
 refine ⟨fun x=>((((heads (kOf rows) (order rows)).map (kOf rows)).idxOf (kOf rows x):Nat):Int),?_,fun x hx=>?_⟩
 ·obtain ⟨t',et'⟩:=heads_hd (kOf rows) 0 t
  show ((((heads (kOf rows) (order rows)).map (kOf rows)).idxOf (kOf rows 0):Nat):Int)=0
  rw [et,et',List.map_cons,List.idxOf_cons]
  simp
 ·have hy:∃ y,(heads (kOf rows) (order rows))[((heads (kOf rows) (order rows)).map (kOf rows)).idxOf (kOf rows x)]?=some y∧kOf rows y=kOf rows x:=by
   have hlt:=List.idxOf_lt_length_of_mem (h1 x hx)
   have hg:=List.getElem_idxOf hlt
   rw [List.length_map] at hlt
   rw [List.getElem_map] at hg
   exact ⟨_,List.getElem?_eq_getElem hlt,hg⟩
  show row (shr rows) ((((heads (kOf rows) (order rows)).map (kOf rows)).idxOf (kOf rows x):Nat):Int)=_
  generalize ((heads (kOf rows) (order rows)).map (kOf rows)).idxOf (kOf rows x)=j at hy ⊢
  obtain ⟨y,ey,hg⟩:=hy
  have hhd:y∈order rows:=h2 _ (List.mem_of_getElem? ey)
  have eb:=(R _ hhd x hx).mp hg
  have er:row (shr rows) ((j:Nat):Int)=((row rows y).1,(row rows y).2.map fun g=>((((heads (kOf rows) (order rows)).map (kOf rows)).idxOf (kOf rows g):Nat):Int)):=by
   unfold row shr inLine
   have:((j:Nat):Int).toNat=j:=by omega
   rw [this,List.getD_eq_getElem?_getD,List.getElem?_map,ey]
   rfl
  rw [er]
  refine Prod.ext ?_ ?_
  ·exact congrFun eb []
  ·show List.map _ _=List.map _ _
   refine List.ext_getElem (by rw [List.length_map,List.length_map,C.len y hhd,C.len x hx]) fun i i1 i2=>?_
   rw [List.length_map] at i1 i2
   rw [List.getElem_map,List.getElem_map]
   have b1:(row rows y).2.getD i 0=(row rows y).2[i]:=by rw [List.getD_eq_getElem?_getD,List.getElem?_eq_getElem i1];rfl
   have b2:(row rows x).2.getD i 0=(row rows x).2[i]:=by rw [List.getD_eq_getElem?_getD,List.getElem?_eq_getElem i2];rfl
   have a1:=C.go hhd i
   have a2:=C.go hx i
   rw [b1] at a1
   rw [b2] at a2
   have hb:beh rows (row rows y).2[i]=beh rows (row rows x).2[i]:=by
    rw [←b1,←b2]
    exact funext fun w=>congrFun eb (i::w)
   rw [(R _ a1 _ a2).mpr hb]
theorem quot_rg {n:Nat} {M F:List Row} {h:Int→Int} (G:GoodM n M) (GF:GoodM n F) (hz:h 0=0) (mo:Mor M F (order M) h) {x:Int} (hx:x∈order M):0≤h x∧h x < (F.length:Int):=by
 have hs:=GF.some
 have:=(order_bf G).all (C:=fun x=>x∈order M∧0≤h x∧h x < (F.length:Int)) (fun x hx g hg=>?_) (fun x hx=>?_) x hx
 ·exact this.2
 ·obtain ⟨hm,x0,x1⟩:=hx
  refine ⟨(order_cl G).cl x hm g hg,?_⟩
  refine GF.go _ (row_mem x0 x1) (h g) ?_
  rw [mo x hm]
  exact List.mem_map.mpr ⟨g,hg,rfl⟩
 ·rw [List.mem_singleton.mp hx]
  exact ⟨(order_cl G).zero,by rw [hz];omega⟩
/-! ### a machine begun at another row -/
def sw (s i:Int):Int:=if i=0 then s else if i=s then 0 else i
def swM (rows:List Row) (s:Int):List Row:=(iota rows.length).map fun i=>rowN (sw s) (row rows (sw s i))
theorem iota_getI {L:Nat} {i:Int} (h0:0≤i) (h1:i < (L:Int)):(iota L)[i.toNat]?=some i:=by
 unfold iota
 rw [List.getElem?_map,List.getElem?_range (by omega)]
 show some ((i.toNat:Nat):Int)=some i
 congr 1;omega
/-! ### words -/
def goW (M:List Row):Int→List Int→Int
 | x,[]=>x
 | x,l::w=>goW M ((row M x).2.getD l.toNat 0) w
theorem goW_app (M:List Row):∀ (w w':List Int) (x:Int),goW M x (w++w')=goW M (goW M x w) w'
 | [],_,_=>rfl
 | l::w,w',x=>goW_app M w w' _
def LW (n:Nat) (w:List Int):Prop:=∀ l∈w,0≤l∧l < (n:Int)
theorem LW.tail {n:Nat} {l:Int} {w:List Int} (h:LW n (l::w)):LW n w:=fun x hx=>h x (List.mem_cons_of_mem _ hx)
theorem goW_all {n:Nat} {M:List Row} {C:Int→Prop} (hl:∀ x,C x→(row M x).2.length=n) (hc:∀ x,C x→∀ g∈(row M x).2,C g):∀ (w:List Int) (x:Int),LW n w→C x→C (goW M x w)
 | [],_,_,h=>h
 | l::w,x,hw,h=>by
  obtain ⟨l0,l1⟩:=hw l List.mem_cons_self
  have hi:l.toNat < (row M x).2.length:=by rw [hl x h];omega
  refine goW_all hl hc w _ hw.tail ?_
  rw [List.getD_eq_getElem?_getD,List.getElem?_eq_getElem hi]
  exact hc x h _ (List.getElem_mem hi)
theorem goW_rg {n:Nat} {M:List Row} (G:GoodM n M) {w:List Int} {x:Int} (hw:LW n w) (h0:0≤x) (h1:x < (M.length:Int)):0≤goW M x w∧goW M x w < (M.length:Int) :=
 goW_all (n:=n) (C:=fun x=>0≤x∧x < (M.length:Int)) (fun x hx=>G.len _ (row_mem hx.1 hx.2)) (fun x hx=>G.go _ (row_mem hx.1 hx.2)) w x hw ⟨h0,h1⟩
end Gu

set_option Elab.async false
set_option linter.all false
set_option maxRecDepth 100000
set_option maxHeartbeats 4000000
namespace L2
open PySem PySem.Spec PyProof.Rows
theorem FnOk.sub {P:Program} {w:World} {K:PySem.W.Frag} {mg:Str→Option Value} {base:Heap} {CX:CXT} {k:Nat} {f:Addr} {fd:FuncData} {ps:List Str} {sp sp':Sp} (h:FnOk P w K mg base CX k f fd ps sp) (i:∀ vs H Q E,sp' vs H Q E→sp vs H Q E):FnOk P w K mg base CX k f fd ps sp' :=
 { h with len:=fun vs H Q E q=>h.len vs H Q E (i vs H Q E q),run:=fun A outer s H args us vs Q E hr e0 b r q=>h.run A outer s H args us vs Q E hr e0 b r (i vs H Q E q) }
end L2
namespace Gu
open PySem L2
theorem shrunk_sub {K:PySem.W.Frag} (vs:List V) (H:Hp) (Q:VK) (E:XK) (h:spShrunk K vs H Q E):spShrunkN K vs H Q E:=by
 obtain ⟨a,n,rows,rfl,⟨us,ea,da⟩,GM,hn,q⟩:=h
 exact ⟨a,n,rows,fun i=>i,us,rfl,.inl (SqL.of ea),RowsN.of da,fun _ _ e=>e,GM,hn,q⟩
instance LW.dec (n:Nat) (w:List Int):Decidable (LW n w):=by unfold LW;infer_instance
def spCheckW (K:PySem.W.Frag) (Ct:Addr):Sp:=fun vs H Q E=>∃ (n:Nat) (u:V) (w:List Int),vs=[.int n,u]∧Dr K H (D.its w) u∧w.length≤5000∧(LW n w→∀ H',Same H H'→Q .non H')∧(¬ LW n w→TMx Ct E H)
end Gu

set_option Elab.async false
set_option linter.all false
set_option maxRecDepth 100000
set_option maxHeartbeats 4000000
namespace Gu
open PySem L2
/-! ### branches put together -/
def GsAt (K:PySem.W.Frag) (H:Hp) (a:Addr) (gs:List (List Row)):Prop:=∃ us,H a=some (.lst us)∧DrL K H (gs.map fun g=>D.tup (rowsD g)) us
theorem gs_key:∀ gs:List (List Row),D.keyL (gs.map fun g=>D.tup (rowsD g))
 | []=>by simp only [List.map_nil,D.keyL]
 | g::gs=>by simp only [List.map_cons,D.keyL,D.key];exact ⟨rows_key g,gs_key gs⟩
end Gu

set_option Elab.async false
set_option linter.all false
set_option maxRecDepth 100000
set_option maxHeartbeats 4000000
namespace L2
open PySem PySem.Spec PyProof.Rows
section
variable {X:Cx} {K:PySem.W.Frag} {k v:Expr} {tk tv:TE} {pos:Pos}
end
end L2

set_option Elab.async false
set_option linter.all false
set_option maxRecDepth 100000
set_option maxHeartbeats 4000000
namespace L2
open PySem PySem.Spec PyProof.Rows
/-! ### zip over any two things that are drawn from -/
section
variable {prog:Program} {w:World} {A:Around} {E:Value→Shared→Prop} {s:Shared} {z TI TO i1 i2:Addr} {fp1 fp2:List Addr} {n1 n2:Nat} {P1 P2:Nat→Value→Prop} {S1 S2:Nat→Heap→Prop}
end
end L2

set_option Elab.async false
set_option linter.all false
set_option maxRecDepth 100000
set_option maxHeartbeats 4000000
namespace L2
open PySem PySem.Spec PyProof.Rows
section
variable {prog:Program} {w:World} {A:Around} {E:Value→Shared→Prop} {s:Shared}
end
/-! ### zip over two tuples -/
section
variable {X:Cx} {elts:List Expr} {tk:Nat} {tp:Pos}
end
end L2

set_option Elab.async false
set_option linter.all false
set_option maxRecDepth 100000
set_option maxHeartbeats 4000000
namespace Gu
open PySem L2
/-! ### rows under pairs of numbers -/
section
variable (P:Program) (w:World) (K:PySem.W.Frag) (mg:Str→Option Value) (base:Heap) (CX:CXT) (k:Nat)
end
end Gu

set_option Elab.async false
set_option linter.all false
set_option maxRecDepth 100000
set_option maxHeartbeats 4000000
namespace Gu
open PySem L2
/-! ### the one and then the other -/
def prow (m:Nat) (R S:Row):Row:=(turn R.1 S.1,(List.range R.1.length).map fun k=>R.2.getD k 0*(m:Int)+S.2.getD (R.1.getD k 0).toNat 0)
def prodM (one other:List Row):List Row:=(iota (one.length*other.length)).map fun i=>prow other.length (row one (i / (other.length:Int))) (row other (i % (other.length:Int)))
theorem prodM_len (one other:List Row):(prodM one other).length=one.length*other.length:=by unfold prodM;rw [List.length_map,iota_len]
theorem pix {one other:List Row} {i:Int} (h0:0≤i) (h1:i < ((one.length*other.length:Nat):Int)):(0≤i / (other.length:Int)∧i / (other.length:Int) < (one.length:Int))∧0≤i % (other.length:Int)∧i % (other.length:Int) < (other.length:Int):=by
 have hm:(0:Int) < (other.length:Int):=by
  rcases Nat.eq_zero_or_pos other.length with z | z
  ·rw [z,Nat.mul_zero] at h1;omega
  ·omega
 refine ⟨⟨Int.ediv_nonneg h0 (by omega),?_⟩,Int.emod_nonneg _ (by omega),Int.emod_lt_of_pos _ hm⟩
 refine Int.ediv_lt_of_lt_mul hm ?_
 rw [Int.natCast_mul] at h1
 exact h1
theorem prodM_row {one other:List Row} {i:Int} (h0:0≤i) (h1:i < ((one.length*other.length:Nat):Int)):row (prodM one other) i=prow other.length (row one (i / (other.length:Int))) (row other (i % (other.length:Int))):=by
 unfold prodM
 show (List.map _ _).getD _ _=_
 rw [List.getD_eq_getElem?_getD,List.getElem?_map,iota_getI h0 h1]
 rfl
theorem turn_isP {n:Nat} {p q:List Int} (hp:IsP n p) (hq:IsP n q):IsP n (turn p q):=by
 have h1:(turn p q).Perm (turn (iota n) q):=by
  unfold turn
  exact List.Perm.map _ hp
 have h2:turn (iota n) q=q:=by
  unfold turn iota
  rw [List.map_map]
  refine List.ext_getElem (by rw [List.length_map,List.length_range,hq.len]) fun i i1 i2=>?_
  rw [List.getElem_map,List.getElem_range]
  show q.getD ((i:Int)).toNat 0=q[i]
  rw [show ((i:Int)).toNat=i by omega,List.getD_eq_getElem?_getD,List.getElem?_eq_getElem i2]
  rfl
 rw [h2] at h1
 exact h1.trans hq
theorem prow_go {n m:Nat} {R S:Row} {N:Nat} (hR:IsP n R.1) (hRl:R.2.length=n) (hRg:∀ g∈R.2,0≤g∧g < (N:Int)) (hSl:S.2.length=n) (hSg:∀ g∈S.2,0≤g∧g < (m:Int)) {k:Nat} (hk:k < n) :
  ∃ (l:Nat) (g e:Int),R.1[k]?=some (l:Int)∧l < n∧R.2[k]?=some g∧S.2[l]?=some e∧R.2.getD k 0=g∧S.2.getD (R.1.getD k 0).toNat 0=e∧0≤g∧g < (N:Int)∧0≤e∧e < (m:Int):=by
 have hl:=hR.len
 have e1:R.1[k]?=some R.1[k]:=List.getElem?_eq_getElem (by omega)
 obtain ⟨l0,l1⟩:=mem_iota.mp (hR.mem_iff.mp (List.getElem_mem (show k < R.1.length by omega)))
 obtain ⟨l,hl'⟩:=nat_of l0
 have e2:R.2[k]?=some R.2[k]:=List.getElem?_eq_getElem (by omega)
 have ll:l < n:=by omega
 have e3:S.2[l]?=some S.2[l]:=List.getElem?_eq_getElem (by omega)
 obtain ⟨g0,g1⟩:=hRg _ (List.getElem_mem (show k < R.2.length by omega))
 obtain ⟨s0,s1⟩:=hSg _ (List.getElem_mem (show l < S.2.length by omega))
 refine ⟨l,R.2[k],S.2[l],by rw [e1,hl'],ll,e2,e3,?_,?_,g0,g1,s0,s1⟩
 ·rw [List.getD_eq_getElem?_getD,e2];rfl
 ·rw [List.getD_eq_getElem?_getD (l:=R.1),e1]
  show S.2.getD (R.1[k]).toNat 0=_
  rw [hl',show ((l:Int)).toNat=l by omega,List.getD_eq_getElem?_getD,e3];rfl
theorem mul_rg {g e:Int} {N m:Nat} (g0:0≤g) (g1:g < (N:Int)) (e0:0≤e) (e1:e < (m:Int)):0≤g*(m:Int)+e∧g*(m:Int)+e < ((N*m:Nat):Int):=by
 have h1:0≤g*(m:Int):=Int.mul_nonneg g0 (by omega)
 have h2:(g+1)*(m:Int)≤(N:Int)*(m:Int):=Int.mul_le_mul_of_nonneg_right (by omega) (by omega)
 rw [Int.add_mul,Int.one_mul] at h2
 rw [Int.natCast_mul]
 omega
theorem prodM_good {n:Nat} {one other:List Row} (G:GoodM n one) (G':GoodM n other) (h4:one.length*other.length≤4000):GoodM n (prodM one other):=by
 have h1:=G.some
 have h2:=G'.some
 have hm:∀ r∈prodM one other,∃ R∈one,∃ S∈other,r=prow other.length R S:=fun r hr=>by
  unfold prodM at hr
  obtain ⟨i,hi,e⟩:=List.mem_map.mp hr
  obtain ⟨i0,i1⟩:=mem_iota.mp hi
  obtain ⟨⟨a0,a1⟩,b0,b1⟩:=pix (one:=one) (other:=other) i0 i1
  exact ⟨_,row_mem a0 a1,_,row_mem b0 b1,e.symm⟩
 refine ⟨by rw [prodM_len];exact h4,by rw [prodM_len];exact Nat.mul_pos h1 h2,fun r hr=>?_,fun r hr=>?_,fun r hr g hg=>?_⟩
 ·obtain ⟨R,hR,S,hS,rfl⟩:=hm r hr
  exact turn_isP (G.perm R hR) (G'.perm S hS)
 ·obtain ⟨R,hR,S,hS,rfl⟩:=hm r hr
  show (List.map _ _).length=n
  rw [List.length_map,List.length_range,(G.perm R hR).len]
 ·obtain ⟨R,hR,S,hS,rfl⟩:=hm r hr
  obtain ⟨k,hk,rfl⟩:=List.mem_map.mp (show g∈(List.range R.1.length).map _ from hg)
  have hk':k < n:=by have:=List.mem_range.mp hk;rw [(G.perm R hR).len] at this;exact this
  obtain ⟨l,g',e,_,_,_,_,q1,q2,g0,g1,e0,e1⟩:=prow_go (m:=other.length) (N:=one.length) (G.perm R hR) (G.len R hR) (G.go R hR) (G'.len S hS) (G'.go S hS) hk'
  rw [q1,q2,prodM_len]
  exact mul_rg g0 g1 e0 e1
end Gu

set_option Elab.async false
set_option linter.all false
set_option maxRecDepth 100000
set_option maxHeartbeats 4000000
namespace Gu
open PySem L2
/-! ### the way back -/
theorem back_at {n:Nat} {p:List Int} (h:IsP n p) {k:Nat} (hk:k < n):∃ j:Nat,j < n∧(back p)[k]?=some (j:Int)∧p[j]?=some (k:Int):=by
 have hm:(k:Int)∈p:=h.mem_iff.mpr (mem_iota.mpr ⟨by omega,by omega⟩)
 have hlt:=List.idxOf_lt_length_of_mem hm
 refine ⟨p.idxOf (k:Int),by rw [h.len] at hlt;exact hlt,?_,?_⟩
 ·unfold back
  rw [List.getElem?_map,h.len]
  have:=iota_getI (L:=n) (i:=(k:Int)) (by omega) (by omega)
  rw [Int.toNat_natCast] at this
  rw [this]
  rfl
 ·rw [List.getElem?_eq_getElem hlt,List.getElem_idxOf hlt]
theorem back_isP {n:Nat} {p:List Int} (h:IsP n p):IsP n (back p):=by
 have e:=idx_self h.nodup
 rw [h.len] at e
 unfold back
 rw [h.len]
 have q:((iota n).map fun k=>((p.idxOf k:Nat):Int)).Perm (p.map fun k=>((p.idxOf k:Nat):Int)):=List.Perm.map _ (List.Perm.symm h)
 rw [e] at q
 exact q
def conR (r:Row):Row:=(back r.1,(back r.1).map fun l=>r.2.getD l.toNat 0)
def conM (rows:List Row):List Row:=rows.map conR
theorem conM_len (rows:List Row):(conM rows).length=rows.length:=List.length_map _
theorem conM_row {rows:List Row} {i:Int} (h0:0≤i) (h1:i < (rows.length:Int)):row (conM rows) i=conR (row rows i):=by
 have:=row_get h0 h1
 unfold conM row at *
 rw [List.getD_eq_getElem?_getD,List.getElem?_map,this]
 rfl
theorem conR_at {n:Nat} {r:Row} (hp:IsP n r.1) (hl:r.2.length=n) {k:Nat} (hk:k < n):∃ j:Nat,j < n∧(back r.1)[k]?=some (j:Int)∧r.1[j]?=some (k:Int)∧∃ g,r.2[j]?=some g∧(conR r).2[k]?=some g:=by
 obtain ⟨j,hj,e1,e2⟩:=back_at hp hk
 have e3:r.2[j]?=some r.2[j]:=List.getElem?_eq_getElem (by omega)
 refine ⟨j,hj,e1,e2,r.2[j],e3,?_⟩
 unfold conR
 rw [List.getElem?_map,e1]
 show some (r.2.getD ((j:Int)).toNat 0)=_
 rw [Int.toNat_natCast,List.getD_eq_getElem?_getD,e3]
 rfl
theorem conR_len {n:Nat} {r:Row} (hp:IsP n r.1):(conR r).2.length=n:=by
 show (List.map _ _).length=n
 rw [List.length_map,back_len,hp.len]
theorem conR_mem {n:Nat} {r:Row} (hp:IsP n r.1) (hl:r.2.length=n) {g:Int} (hg:g∈(conR r).2):g∈r.2:=by
 obtain ⟨k,hk,e⟩:=List.getElem_of_mem hg
 rw [conR_len hp] at hk
 obtain ⟨j,_,_,_,g',e3,e4⟩:=conR_at hp hl hk
 rw [List.getElem?_eq_getElem (by rw [conR_len hp];exact hk),e] at e4
 rw [Option.some.inj e4]
 exact List.mem_of_getElem? e3
theorem conM_good {n:Nat} {rows:List Row} (G:GoodM n rows):GoodM n (conM rows):=by
 refine ⟨by rw [conM_len];exact G.few,by rw [conM_len];exact G.some,fun r hr=>?_,fun r hr=>?_,fun r hr g hg=>?_⟩
 ·obtain ⟨q,hq,rfl⟩:=List.mem_map.mp hr
  exact back_isP (G.perm q hq)
 ·obtain ⟨q,hq,rfl⟩:=List.mem_map.mp hr
  exact conR_len (G.perm q hq)
 ·obtain ⟨q,hq,rfl⟩:=List.mem_map.mp hr
  rw [conM_len]
  exact G.go q hq g (conR_mem (G.perm q hq) (G.len q hq) hg)
/-! ### joined with the way back -/
theorem all_calm {n:Nat} {M:List Row} (G:GoodM n M) (h:∀ x∈order M,(row M x).1=iota n):shr M=[(iota n,List.replicate n 0)]:=by
 have GS:GoodM n [(iota n,List.replicate n (0:Int))]:=⟨by simp,by simp,fun r hr=>by rw [List.mem_singleton.mp hr];exact isP_iota n,fun r hr=>by rw [List.mem_singleton.mp hr];simp,fun r hr g hg=>by
  rw [List.mem_singleton.mp hr] at hg
  have:=(List.mem_replicate.mp (show g∈List.replicate n (0:Int) from hg)).2
  rw [this];simp⟩
 have e:=shr_mor (M':=M) (M:=[(iota n,List.replicate n (0:Int))]) (h:=fun _=>0) G GS rfl fun x hx=>?_
 ·rw [e,←least_shr GS]
  exact calm_least GS fun r hr=>by rw [List.mem_singleton.mp hr]
 ·obtain ⟨x0,x1⟩:=(order_line G).1.rg x hx
  show (iota n,List.replicate n (0:Int))=_
  rw [h x hx]
  refine Prod.ext rfl ?_
  show List.replicate n (0:Int)=(row M x).2.map fun _=>0
  rw [List.map_const',G.len _ (row_mem x0 x1)]
theorem join_back {n:Nat} {one:List Row} (G:GoodM n one) (h4:one.length*(shr (conM one)).length≤4000):shr (prodM one (shr (conM one)))=[(iota n,List.replicate n 0)]:=by
 have GA:=conM_good G
 have GF:=shr_good GA
 obtain ⟨h,hz,mo⟩:=shr_quot GA
 have GP:=prodM_good G GF h4
 have C:=order_cl GA
 have L:=(order_line GA).1
 have pt:∀ x∈order (conM one),∃ i0:0≤x*((shr (conM one)).length:Int)+h x,row (prodM one (shr (conM one))) (x*((shr (conM one)).length:Int)+h x)=prow (shr (conM one)).length (row one x) (row (shr (conM one)) (h x)):=fun x hx=>by
  obtain ⟨x0,x1⟩:=L.rg x hx
  rw [conM_len] at x1
  obtain ⟨f0,f1⟩:=quot_rg GA GF hz mo hx
  obtain ⟨i0,i1⟩:=mul_rg x0 x1 f0 f1
  refine ⟨i0,?_⟩
  rw [prodM_row i0 i1]
  have hm:(0:Int) < ((shr (conM one)).length:Int):=by omega
  have q1:(x*((shr (conM one)).length:Int)+h x) / ((shr (conM one)).length:Int)=x:=by
   rw [Int.add_comm,Int.add_mul_ediv_right _ _ (by omega),Int.ediv_eq_zero_of_lt f0 f1];omega
  have q2:(x*((shr (conM one)).length:Int)+h x) % ((shr (conM one)).length:Int)=h x:=by
   rw [Int.add_comm,Int.add_mul_emod_self_right,Int.emod_eq_of_lt f0 f1]
  rw [q1,q2]
 have cl:=(order_bf GP).all (C:=fun i=>∃ x∈order (conM one),i=x*((shr (conM one)).length:Int)+h x) (fun i hi g hg=>?_) (fun i hi=>?_)
 ·refine all_calm GP fun i hi=>?_
  obtain ⟨x,hx,rfl⟩:=cl i hi
  obtain ⟨_,e⟩:=pt x hx
  rw [e]
  obtain ⟨x0,x1⟩:=L.rg x hx
  rw [conM_len] at x1
  show turn (row one x).1 (row (shr (conM one)) (h x)).1=iota n
  rw [mo x hx,conM_row x0 x1]
  exact turn_back (G.perm _ (row_mem x0 x1))
 ·obtain ⟨x,hx,rfl⟩:=hi
  obtain ⟨_,e⟩:=pt x hx
  rw [e] at hg
  obtain ⟨x0,x1⟩:=L.rg x hx
  rw [conM_len] at x1
  have hr:=row_mem x0 x1
  have hp:=G.perm _ hr
  have hl:=G.len _ hr
  obtain ⟨k,hk,rfl⟩:=List.mem_map.mp (show g∈(List.range (row one x).1.length).map _ from hg)
  have hk':k < n:=by have:=List.mem_range.mp hk;rw [hp.len] at this;exact this
  have hpl:=hp.len
  have e1:(row one x).1[k]?=some (row one x).1[k]:=List.getElem?_eq_getElem (by rw [hp.len];exact hk')
  obtain ⟨l0,l1⟩:=mem_iota.mp (hp.mem_iff.mp (List.getElem_mem (show k < (row one x).1.length by rw [hp.len];exact hk')))
  obtain ⟨l,hl'⟩:=nat_of l0
  obtain ⟨j,_,e2,e3,y,e4,e5⟩:=conR_at hp hl (show l < n by omega)
  have hb:=back_get hp e1
  rw [hl',Int.toNat_natCast,e2] at hb
  have ejk:j=k:=by have:=Option.some.inj hb;omega
  subst ejk
  refine ⟨y,C.cl x hx y ?_,?_⟩
  ·rw [conM_row x0 x1];exact List.mem_of_getElem? e5
  ·rw [mo x hx,conM_row x0 x1]
   show (row one x).2.getD j 0*_+((conR (row one x)).2.map h).getD ((row one x).1.getD j 0).toNat 0=_
   rw [List.getD_eq_getElem?_getD (l:=(row one x).2),e4,List.getD_eq_getElem?_getD (l:=(row one x).1),e1]
   show y*_+((conR (row one x)).2.map h).getD ((row one x).1[j]).toNat 0=_
   rw [hl',Int.toNat_natCast,List.getD_eq_getElem?_getD,List.getElem?_map,e5]
   rfl
 ·rw [List.mem_singleton.mp hi]
  exact ⟨0,C.zero,by rw [hz];omega⟩
end Gu

set_option Elab.async false
set_option linter.all false
set_option maxRecDepth 100000
set_option maxHeartbeats 4000000
namespace Gu
open PySem L2
end Gu

set_option Elab.async false
set_option linter.all false
set_option maxRecDepth 100000
set_option maxHeartbeats 4000000
namespace Gu
open PySem L2
/-! ### what is made of a word -/
def outW (M:List Row):Int→List Int→List Int
 | _,[]=>[]
 | x,l::w=>(row M x).1.getD l.toNat 0::outW M ((row M x).2.getD l.toNat 0) w
theorem outW_len (M:List Row):∀ (w:List Int) (x:Int),(outW M x w).length=w.length
 | [],_=>rfl
 | _::w,x=>by show (outW M _ w).length+1=w.length+1;rw [outW_len M w]
theorem outW_app (M:List Row):∀ (w w':List Int) (x:Int),outW M x (w++w')=outW M x w++outW M (goW M x w) w'
 | [],_,_=>rfl
 | l::w,w',x=>by show _::outW M _ (w++w')=_::(outW M _ w++outW M (goW M _ w) w');rw [outW_app M w w']
theorem outW_lw {n:Nat} {M:List Row} (G:GoodM n M):∀ (w:List Int) (x:Int),LW n w→0≤x→x < (M.length:Int)→LW n (outW M x w)
 | [],_,_,_,_=>fun _ h=>by simp [outW] at h
 | l::w,x,hw,h0,h1=>fun y hy=>by
  obtain ⟨l0,l1⟩:=hw l List.mem_cons_self
  have hm:=row_mem h0 h1
  have hi:l.toNat < (row M x).2.length:=by rw [G.len _ hm];omega
  have hp:=G.perm _ hm
  have hi1:l.toNat < (row M x).1.length:=by rw [hp.len];omega
  rcases List.mem_cons.mp hy with rfl | hy
  ·rw [List.getD_eq_getElem?_getD,List.getElem?_eq_getElem hi1]
   exact mem_iota.mp (hp.mem_iff.mp (List.getElem_mem hi1))
  ·have hg:0≤(row M x).2.getD l.toNat 0∧(row M x).2.getD l.toNat 0 < (M.length:Int):=by
    rw [List.getD_eq_getElem?_getD,List.getElem?_eq_getElem hi]
    exact G.go _ hm _ (List.getElem_mem hi)
   exact outW_lw G w _ hw.tail hg.1 hg.2 y hy
def spReadF (K:PySem.W.Frag):Sp:=fun vs H Q _=>∃ (v u:V) (rows:List Row) (n:Nat) (w:List Int) (s:Int),vs=[v,.int s,u]∧Dr K H (D.tup (rowsD rows)) v∧Dr K H (D.its w) u∧GoodM n rows∧n≤60∧w.length≤4900∧LW n w∧0≤s∧s < (rows.length:Int) ∧
 ∀ (r t:Addr) (H':Hp),Same H H'→H' r=some (.tup [.ref t,.int (goW rows s w)])→H' t=some (.tup ((outW rows s w).map V.int))→Q (.ref r) H'
def spWorn (K:PySem.W.Frag) (Ct:Addr):Sp:=fun vs H Q E=>∃ (v u:V) (rows:List Row) (n:Nat) (w:List Int),vs=[v,u]∧Dr K H (D.tup (rowsD rows)) v∧Dr K H (D.its w) u∧GoodM n rows∧n≤60∧w.length≤4900∧(LW n w→∀ (t:Addr) (H':Hp),Same H H'→H' t=some (.tup ((outW rows 0 w).map V.int))→Q (.ref t) H')∧(¬ LW n w→TMx Ct E H)
def spReadO (K:PySem.W.Frag):Sp:=fun vs H Q _=>∃ (v u:V) (rows:List Row) (n:Nat) (w:List Int) (s:Int),vs=[v,.int s,u]∧Dr K H (D.tup (rowsD rows)) v∧Dr K H (D.its w) u∧GoodM n rows∧n≤60∧w.length≤4900∧LW n w∧0≤s∧s < (rows.length:Int) ∧
 ∀ (r t:Addr) (H':Hp),Same H H'→H' r=some (.tup [.ref t,.int (goW rows s w)])→H' t=some (.tup ((outW rows s w).map V.int))→Q (.ref r) H'
end Gu

set_option Elab.async false
set_option linter.all false
set_option maxRecDepth 100000
set_option maxHeartbeats 4000000
namespace L2
open PySem PySem.Spec PyProof.Rows
section
variable {M:Model} {A:Around} {E:Value→Shared→Prop}
variable {nm q:Str} {C N:Addr} {bs bm:List Value} {hdct:Bool} {sn:List Str} {sub:List Value} {ab:Bool} {col:Option Bool} {dd:Option Addr} {k0 k1 k2 k3 k5:Option Value} {newId:String}
variable {nm' q':Str} {C' N':Addr} {bs' bm':List Value} {hdct':Bool} {sn':List Str} {sub':List Value} {ab':Bool} {col':Option Bool} {dd':Option Addr} {k0' k1' k2' k3' k5':Option Value} {newId':String}
theorem exc_other {h:Heap} {g:Array GenState} {d:Drawn} {t:Nat} {os:OsState} {e:Addr} {oe:Obj} {Q:Bool→Shared→Prop}
  (hC:h.get? C=some (excClassObj nm q C N bs bm hdct sn sub ab col dd k0 k1 k2 k3 k5 newId)) (hC':h.get? C'=some (excClassObj nm' q' C' N' bs' bm' hdct' sn' sub' ab' col' dd' k0' k1' k2' k3' k5' newId')) (he:h.get? e=some oe) (hcls:oe.cls=.ref C) (hbase:bm'.contains (.type "BaseException")=true)
  (hno:(Value.ref C::bm).contains (.ref C')=false) (hq:Q false ⟨h,g,d,t,os⟩):wpAny M A (excMatches (.ref e) (.ref C')) Q E ⟨h,g,d,t,os⟩:=by
 have hcB:(Value.ref C'::bm').contains (.type "BaseException")=true:=by rw [List.contains_cons,hbase,Bool.or_true]
 have f:=tc_notTuple
 unfold excMatches
 repeat (first | (with_reducible refine wpAny_loadPart_at he ?_;rw [hcls]) | with_reducible refine wpAny_loadPart_at hC' ?_ | (with_reducible refine wpAny_isSubtype_exc hC' ?_;rw [hcB]) | (with_reducible refine wpAny_isSubtype_exc hC ?_;rw [hno]) | wp_step)
 exact hq
end
def apartIn (K:PySem.W.Frag) (C C':Addr):Bool:=match K.lookup C with
 | some ⟨_,_,.cls cd,_⟩=>!(cd.mro.contains (.ref C'))
 | _=>false
theorem exc_obj2 {K:PySem.W.Frag} {h:Heap} {C C':Addr} {bmB:List Value} {newId:String} (X:K.In h) (e:PySem.W.excIn K C bmB newId=true) (ap:apartIn K C C'=true):∃ bm N nm q bs hdct sn sub ab col dd k0 k1 k2 k3 k5 mN,
  h.get? C=some (excClassObj nm q C N bs bm hdct sn sub ab col dd k0 k1 k2 k3 k5 newId)∧h.Ns N mN∧mN "__init__"=none∧OwnTail h bmB bm∧(Value.ref C::bm).contains (.ref C')=false:=by
 obtain ⟨bm,N,nm,q,bs,hdct,sn,sub,ab,col,dd,k0,k1,k2,k3,k5,mN,hC,hN,hi,ht⟩:=exc_obj X e
 refine ⟨bm,N,nm,q,bs,hdct,sn,sub,ab,col,dd,k0,k1,k2,k3,k5,mN,hC,hN,hi,ht,?_⟩
 unfold apartIn at ap
 split at ap
 ·rename_i cls dd' cd sl hl
  have e1:=(X C _ hl).symm.trans hC
  have e2:cd.mro=.ref C::bm:=by
   have e3:=Option.some.inj e1
   unfold excClassObj at e3
   injection e3 with _ _ e4 _
   injection e4 with e5
   rw [e5]
  rw [e2] at ap
  simpa using ap
 ·cases ap
def XE2 (C C2:Addr) (n:Nat) (th th2:TS) (D:Ends):XK:=fun _ C' H'=>(C'=some C∧∀ σ:St,σ.length=n→th D σ H')∨(C'=some C2∧∀ σ:St,σ.length=n→th2 D σ H')
theorem ps_try2 {X:Cx} {x x2:Str} {C C2:Addr} {newId newId2:String} {bmB bmB2:List Value} {np hpos np2 hpos2 pos:Pos} {body suite suite2:List Stmt} {b₀ b₂:Stmt} {tb:Ends→TS} {th th2:TS} (hfr:X.env.frame=some X.env.locals) (hstk:X.stack=X.env::X.outer)
  (hx:X.mg x=some (.ref C)) (hg:Gl X x) (he:PySem.W.excIn X.K C bmB newId=true) (hB:bmB.contains (.type "BaseException")=true)
  (hx2:X.mg x2=some (.ref C2)) (hg2:Gl X x2) (he2:PySem.W.excIn X.K C2 bmB2 newId2=true) (hB2:bmB2.contains (.type "BaseException")=true) (hap:apartIn X.K C2 C=true)
  (hb:∀ pn E1 D,Passes (CXx X.prog X.w) (X.tried pn E1) (XE2 C C2 X.N.length th th2 D)→PSs (X.tried pn E1) body (tb D))
  (hs:∀ e,PSs (X.sup e) (b₀::suite) th) (hs2:∀ e,PSs (X.sup e) (b₂::suite2) th2) (hdb:(x == ("__debug__":Str))=false:=by decide) (hdb2:(x2 == ("__debug__":Str))=false:=by decide) :
  PS X (.Try body [.ExceptHandler (some (.Name x np)) none (b₀::suite) hpos,.ExceptHandler (some (.Name x2 np2)) none (b₂::suite2) hpos2] [] [] pos) (fun D σ H=>tb D D σ H):=by
 intro pins s σ H D I h
 refine wpAny_Try_except ?_
 have pass:Passes (CXx X.prog X.w) (X.tried (X.pn++pins) fun e s₁=>wpAny (model X.prog X.w) X.A (noteFrame e X.env) (fun _ s₂=>wpAny (model X.prog X.w) X.A (setFlight e none) (fun _ s₃=>wpAny (model X.prog X.w) X.A (handleBy e X.env [.ExceptHandler (some (.Name x np)) none (b₀::suite) hpos,.ExceptHandler (some (.Name x2 np2)) none (b₂::suite2) hpos2]) (SP X pins D) X.xe s₃) X.xe s₂) X.xe s₁) (XE2 C C2 X.N.length th th2 D):=by
  intro pins' σ' H1 s1 e s' I1 hx'
  obtain ⟨ea,Ce,H',rfl,os,bare,un,hok,fly,hE⟩:=hx'
  have J:=I1.call' (ch:=[]) os un hok bare (fun b z=>absurd z (by simp))
  have FF:s'.heap.FunFrames X.base (X.env::X.outer):=by have:=J.stack;rw [show (X.tried (X.pn++pins) _).stack=X.stack from rfl,hstk] at this;exact this
  have un':Un (frs (X.env::X.outer)) [] H1 H' s1.heap s'.heap:=by rw [←hstk];exact un
  have hfree:∀ b∈frs (X.env::X.outer),H' b=none∧(b∈frs (X.env::X.outer)∨s1.heap.get? b=none):=fun b hb=>⟨J.stkFree b (by show b∈frs X.stack;rw [hstk];exact hb),.inl hb⟩
  refine land_ok (P:=X.prog) (w:=X.w) (fr:=frs (X.env::X.outer)) (H1:=H1) (H':=H') (h1:=s1.heap) (base:=X.base) (outer:=X.outer) (L:=X.env.locals) (by rw [I.ok.frames,hstk]) hfr FF un' hok hfree (fun b hb=>hb) fly fun h2 u2 k2 f2=>?_
  have mk:∀ h3,Un (frs (X.env::X.outer)) [] H1 H' s1.heap h3→HOk X.prog X.w H' h3→Inv (X.sup ea) pins σ' H' { s' with heap:=h3 }:=fun h3 u3 k3=>by
   have J3:=I1.call' (s':={ s' with heap:=h3 }) (ch:=[]) os (by show Un (frs X.stack) [] H1 H' s1.heap h3;rw [hstk];exact u3) k3 bare (fun b z=>absurd z (by simp))
   exact ⟨I.ok.sup ea,J3.os,J3.bare,J3.base,J3.loc,J3.cell,J3.free,J3.freeC,fun p hp=>J3.pin p (List.mem_append_left _ hp),J3.hok,J3.len⟩
  have J2:=mk h2 u2 k2
  rcases hE with ⟨hC,hth⟩ | ⟨hC,hth⟩
  ·cases hC
   obtain ⟨bm,NN,nm,q,bs,hd,sn,sub,ab,col,dict,a0,a1,a2,a3,a5,mN,hC,hN,hi,ht⟩:=exc_obj J2.kIn he
   refine wpAny_handleBy_cons (codeAny_handlers_test (ld_glob J2 hg hx ?_ hdb)) (by intro z;cases z)
   obtain ⟨_,_,b0,oe,vs,T,oT,ts,g1,⟨g2,_⟩,_⟩:=id f2
   refine wpAny_excMatches_sub_self hC g1 g2 (tail_has ht hB) ?_
   refine codeAny_handlers_suite ?_
   refine again_ok (P:=X.prog) (w:=X.w) (fr:=frs (X.env::X.outer)) (H1:=H1) (H':=H') (h1:=s1.heap) (base:=X.base) (env:=X.env) (outer:=X.outer) (by have:=J2.stack;rw [show (X.sup ea).stack=X.stack from rfl,hstk] at this;exact this) u2 k2 hfree (fun b hb=>hb) f2 fun h3 u3 k3 f3=>?_
   have J3:=mk h3 u3 k3
   refine wpAny_mono (hs ea pins _ σ' H' D J3 (hth σ' J3.len)) (fun f s4 sp=>?_) fun _ _ z=>False.elim z
   have back:∀ {σ4 H4},Inv (X.sup ea) pins σ4 H4 s4→Inv X pins σ4 H4 s4:=fun K4=>⟨I.ok,K4.os,K4.bare,K4.base,K4.loc,K4.cell,K4.free,K4.freeC,K4.pin,K4.hok,K4.len⟩
   cases f with
   | next=>obtain ⟨σ4,H4,K4,q⟩:=sp;exact ⟨σ4,H4,back K4,q⟩
   | brk=>obtain ⟨σ4,H4,K4,q⟩:=sp;exact ⟨σ4,H4,back K4,q⟩
   | cont=>obtain ⟨σ4,H4,K4,q⟩:=sp;exact ⟨σ4,H4,back K4,q⟩
   | ret u=>obtain ⟨v,σ4,H4,K4,r,q⟩:=sp;exact ⟨v,σ4,H4,back K4,r,q⟩
  ·cases hC
   obtain ⟨bm,NN,nm,q,bs,hd,sn,sub,ab,col,dict,a0,a1,a2,a3,a5,mN,hC,hN,hi,ht⟩:=exc_obj J2.kIn he
   obtain ⟨bm',NN',nm',q',bs',hd',sn',sub',ab',col',dict',a0',a1',a2',a3',a5',mN',hC',hN',hi',ht',hno'⟩:=exc_obj2 J2.kIn he2 hap
   obtain ⟨_,_,b0',oe',vs',T',oT',ts',g1',⟨g2',_⟩,_⟩:=id f2
   refine wpAny_handleBy_cons (codeAny_handlers_test (ld_glob J2 hg hx ?_ hdb)) (by intro z;cases z)
   refine exc_other hC' hC g1' g2' (tail_has ht hB) hno' ?_
   refine wpAny_handleBy_cons (codeAny_handlers_test (ld_glob J2 hg2 hx2 ?_ hdb2)) (by intro z;cases z)
   obtain ⟨_,_,b0,oe,vs,T,oT,ts,g1,⟨g2,_⟩,_⟩:=id f2
   refine wpAny_excMatches_sub_self hC' g1 g2 (tail_has ht' hB2) ?_
   refine codeAny_handlers_suite ?_
   refine again_ok (P:=X.prog) (w:=X.w) (fr:=frs (X.env::X.outer)) (H1:=H1) (H':=H') (h1:=s1.heap) (base:=X.base) (env:=X.env) (outer:=X.outer) (by have:=J2.stack;rw [show (X.sup ea).stack=X.stack from rfl,hstk] at this;exact this) u2 k2 hfree (fun b hb=>hb) f2 fun h3 u3 k3 f3=>?_
   have J3:=mk h3 u3 k3
   refine wpAny_mono (hs2 ea pins _ σ' H' D J3 (hth σ' J3.len)) (fun f s4 sp=>?_) fun _ _ z=>False.elim z
   have back:∀ {σ4 H4},Inv (X.sup ea) pins σ4 H4 s4→Inv X pins σ4 H4 s4:=fun K4=>⟨I.ok,K4.os,K4.bare,K4.base,K4.loc,K4.cell,K4.free,K4.freeC,K4.pin,K4.hok,K4.len⟩
   cases f with
   | next=>obtain ⟨σ4,H4,K4,q⟩:=sp;exact ⟨σ4,H4,back K4,q⟩
   | brk=>obtain ⟨σ4,H4,K4,q⟩:=sp;exact ⟨σ4,H4,back K4,q⟩
   | cont=>obtain ⟨σ4,H4,K4,q⟩:=sp;exact ⟨σ4,H4,back K4,q⟩
   | ret u=>obtain ⟨v,σ4,H4,K4,r,q⟩:=sp;exact ⟨v,σ4,H4,back K4,r,q⟩
 have I0:∀ E,Inv (X.tried (X.pn++pins) E) [] σ H s:=fun E=>⟨I.ok.tried _ _,I.os,I.bare,I.base,I.loc,I.cell,I.free,I.freeC,fun p hp=>I.pin p (by rw [List.append_nil] at hp;exact hp),I.hok,I.len⟩
 refine wpAny_mono (hb (X.pn++pins) _ D pass [] s σ H D (I0 _) h) (fun f s1 sp=>?_) fun e s1 z=>z
 have back:∀ {E σ4 H4 s4},Inv (X.tried (X.pn++pins) E) [] σ4 H4 s4→Inv X pins σ4 H4 s4:=fun K4=>⟨I.ok,K4.os,K4.bare,K4.base,K4.loc,K4.cell,K4.free,K4.freeC,fun p hp=>K4.pin p (by rw [List.append_nil];exact hp),K4.hok,K4.len⟩
 cases f with
 | next=>obtain ⟨σ4,H4,K4,q⟩:=sp;exact wpAny_execs_nil ⟨σ4,H4,back K4,q⟩
 | brk=>obtain ⟨σ4,H4,K4,q⟩:=sp;exact ⟨σ4,H4,back K4,q⟩
 | cont=>obtain ⟨σ4,H4,K4,q⟩:=sp;exact ⟨σ4,H4,back K4,q⟩
 | ret u=>obtain ⟨v,σ4,H4,K4,r,q⟩:=sp;exact ⟨v,σ4,H4,back K4,r,q⟩
end L2

set_option Elab.async false
set_option linter.all false
set_option maxRecDepth 100000
set_option maxHeartbeats 4000000
namespace Gu
open PySem L2
theorem dvm {m:Nat} {g e:Int} (e0:0≤e) (e1:e < (m:Int)):(g*(m:Int)+e) / (m:Int)=g∧(g*(m:Int)+e) % (m:Int)=e:=by
 have hm:(0:Int) < (m:Int):=by omega
 constructor
 ·rw [Int.add_comm,Int.add_mul_ediv_right _ _ (by omega),Int.ediv_eq_zero_of_lt e0 e1];omega
 ·rw [Int.add_comm,Int.add_mul_emod_self_right,Int.emod_eq_of_lt e0 e1]
theorem getD_map {f:Int→Int} {l:List Int} {k:Nat} (h:k < l.length):(l.map f).getD k 0=f (l.getD k 0):=by
 rw [List.getD_eq_getElem?_getD,List.getD_eq_getElem?_getD,List.getElem?_map,List.getElem?_eq_getElem h]
 rfl
theorem perm_get {n:Nat} {p:List Int} (h:IsP n p) {k:Nat} (hk:k < n):0≤p.getD k 0∧p.getD k 0 < (n:Int):=by
 have hl:=h.len
 rw [List.getD_eq_getElem?_getD,List.getElem?_eq_getElem (by omega)]
 exact mem_iota.mp (h.mem_iff.mp (List.getElem_mem (show k < p.length by omega)))
def stillM (n:Nat):List Row:=[(iota n,List.replicate n 0)]
theorem turn_getD {p q:List Int} {k:Nat} (h:k < p.length):(turn p q).getD k 0=q.getD (p.getD k 0).toNat 0:=by
 unfold turn
 rw [getD_map (f:=fun x=>q.getD x.toNat 0) h]
theorem prow_getD {m:Nat} {R S:Row} {k:Nat} (h:k < R.1.length):(prow m R S).2.getD k 0=R.2.getD k 0*(m:Int)+S.2.getD (R.1.getD k 0).toNat 0:=by
 show (List.map _ (List.range R.1.length)).getD k 0=_
 rw [List.getD_eq_getElem?_getD,List.getElem?_map,List.getElem?_range h]
 rfl
theorem iotaN {L:Nat} {k:Nat} (h:k < L):(iota L)[k]?=some (k:Int):=by
 have:=iota_getI (L:=L) (i:=(k:Int)) (by omega) (by omega)
 rw [Int.toNat_natCast] at this
 exact this
end Gu

set_option Elab.async false
set_option linter.all false
set_option maxRecDepth 100000
set_option maxHeartbeats 4000000
namespace Gu
open PySem L2
/-! ### so many times -/
def pw (n:Nat) (one:List Row):Nat→List Row
 | 0=>stillM n
 | j+1=>shr (prodM (pw n one j) one)
end Gu

set_option Elab.async false
set_option linter.all false
set_option maxRecDepth 100000
set_option maxHeartbeats 4000000
namespace L2
open PySem PySem.Spec PyProof.Rows
/-! ### xs[::-1] of a list -/
theorem pick_revL (its:List Value):slicePick its.toArray none none (some (-1))=its.reverse.toArray:=by
 have eb:sliceBounds none none (some (-1)) its.toArray.size=((its.length:Int) - 1,-1,-1):=by
  simp only [sliceBounds,Option.getD_some,List.size_toArray]
  rfl
 unfold slicePick
 rw [eb]
 congr 1
 have h:=HT.fm_rev its its.length (Nat.le_refl _)
 rw [List.take_of_length_le (by rw [List.length_reverse];exact Nat.le_refl _)] at h
 rw [←h]
 have er:sliceRange ((its.length:Int) - 1) (-1) (-1)=(List.range its.length).map fun m=>its.length - 1 - m:=by
  have ec:(if ((its.length:Int) - 1) > -1 then (((its.length:Int) - 1) - -1 - -1 - 1) / (- -1) else 0)=(its.length:Int):=by
   by_cases hn:(its.length:Int) - 1 > -1
   ·rw [if_pos hn,show (- -1:Int)=1 by decide,Int.ediv_one];omega
   ·rw [if_neg hn];omega
  unfold sliceRange
  simp only [show ¬ ((-1:Int) > 0) by decide,if_false]
  rw [ec,Int.toNat_natCast]
  refine List.map_congr_left fun m hm=>?_
  omega
 show (sliceRange ((its.length:Int) - 1) (-1) (-1)).filterMap _=_
 rw [er,List.filterMap_map]
 refine HT.fm_congr fun m hm=>?_
 show its.toArray[its.length - 1 - m]?=_
 rw [List.getElem?_toArray]
section
variable {X:Cx} {e st:Expr} {te ts:TE} {pos p2:Pos}
def tRevL (K:PySem.W.Frag) (te ts:TE):TE:=fun σ H Q=>te σ H fun x H1=>ts σ H1 fun y H2=>y=.int (-1)∧∃ a xs,x=.ref a∧SqL K H2 a xs∧∀ p,H2 p=none→Q (.ref p) (upd H2 p (.lst xs.reverse))
theorem pe_revL (he:PE X e te) (hst:PE X st ts):PE X (.Subscript e (.Slice none none (some st) p2) pos) (tRevL X.K te ts):=by
 intro pins s σ H Q I h
 refine Subscript_ (thn (he pins s σ H _ I h) fun v s1 ⟨x,H1,I1,r1,q1⟩=>?_)
 refine wpAny_Slice ?_
 rw [evalPart_none]
 refine wpAny_pure (wpAny_pure ?_)
 rw [evalPart_some]
 refine thn (hst pins s1 σ H1 _ I1 q1) fun vt s2 ⟨y,H2,I2,ry,ey,a,xs,ex,hx,q⟩=>?_
 subst ey ex
 obtain ⟨t,rfl⟩:=ry
 cases r1
 have I4:Inv X pins σ H2 { s2 with heap:=s2.heap.push { cls:=.type "slice",data:=.fields #[.none,.none,.int (-1) t] } }:=I2.kept (t':=s2.toks) fun b ob q=>Heap.get?_push_of_some _ q
 generalize hs5:({ s2 with heap:=s2.heap.push { cls:=.type "slice",data:=.fields #[.none,.none,.int (-1) t] } }:Shared)=s5 at I4
 have hsl:s5.heap.IsSliceOf s2.heap.objs.size .none .none (.int (-1) t):=by rw [←hs5];exact Heap.IsSliceOf.new ..
 obtain ⟨its,r,ht,hz⟩:=I4.list hx
 have hlen:its.toArray.size=xs.length:=by rw [List.size_toArray];exact r.length.symm
 have hg:wpAny (model X.prog X.w) X.A (getItem (.ref a) (.ref s2.heap.objs.size)) (EP X pins σ Q) X.xe s5:=by
  refine wpAny_getItem_list_slice ht.isList hsl .none .none (.int _ _) (by simp) ?_ (by rw [hlen];exact hz)
  rw [pick_revL]
  refine ⟨.ref s5.heap.objs.size,_,I4.laid (t':=s5.toks) (o:=.lst xs.reverse) (fun b ob q=>Heap.get?_push_of_some _ q) (Nat.le_refl _) ?_,rfl,q _ (I4.hok.fresh (Nat.le_refl _))⟩
  exact ⟨by rw [List.length_reverse];exact hz,_,0,r.reverse,Heap.get?_push_size _ rfl⟩
 exact tail_any (ops:=[.ref a,.ref s2.heap.objs.size]) ht.isList.typeIs slot_list_getitem.lookup hg (by with_unfolding_all rfl)
end
end L2

set_option Elab.async false
set_option linter.all false
set_option maxRecDepth 100000
set_option maxHeartbeats 4000000
namespace Gu
open PySem L2
/-! ### numbers of words -/
def numW (n:Int) (w:List Int):Int:=w.foldl (fun a l=>a*n+l) 0
theorem numW_snoc (n:Int) (w:List Int) (l:Int):numW n (w++[l])=numW n w*n+l:=by
 unfold numW
 rw [List.foldl_append]
 rfl
def lit (n:Int):Nat→Int→List Int
 | 0,_=>[]
 | k+1,x=>x % n::lit n k (x / n)
def dvn (n:Int):Nat→Int→Int
 | 0,x=>x
 | k+1,x=>dvn n k (x / n)
theorem dvn_snoc (n:Int):∀ (k:Nat) (x:Int),dvn n (k+1) x=dvn n k x / n
 | 0,_=>rfl
 | k+1,x=>dvn_snoc n k (x / n)
theorem lit_snoc (n:Int):∀ (k:Nat) (x:Int),lit n (k+1) x=lit n k x++[dvn n k x % n]
 | 0,_=>rfl
 | k+1,x=>by
  show x % n::lit n (k+1) (x / n)=x % n::(lit n k (x / n)++[dvn n k (x / n) % n])
  rw [lit_snoc n k (x / n)]
theorem lit_len (n:Int):∀ (k:Nat) (x:Int),(lit n k x).length=k
 | 0,_=>rfl
 | k+1,x=>by show (lit n k (x / n)).length+1=k+1;rw [lit_len n k]
theorem dvn_zero {n:Int} (hn:0 < n):∀ (k:Nat) (x:Int),dvn n k x=0↔0≤x∧x < n ^ k
 | 0,x=>by
  show x=0↔_
  rw [Int.pow_zero]
  omega
 | k+1,x=>by
  show dvn n k (x / n)=0↔_
  rw [dvn_zero hn k (x / n),Int.pow_succ]
  constructor
  ·rintro ⟨h0,h1⟩
   refine ⟨?_,?_⟩
   ·rcases Int.lt_or_le x 0 with z | z
    ·have:=Int.ediv_neg_of_neg_of_pos z hn
     omega
    ·exact z
   ·exact (Int.ediv_lt_iff_lt_mul hn).mp h1
  ·rintro ⟨h0,h1⟩
   exact ⟨Int.ediv_nonneg h0 (by omega),(Int.ediv_lt_iff_lt_mul hn).mpr h1⟩
def figW (n:Int) (k:Nat) (x:Int):List Int:=(lit n k x).reverse
theorem figW_len (n:Int) (k:Nat) (x:Int):(figW n k x).length=k:=by unfold figW;rw [List.length_reverse,lit_len]
theorem figW_lw {n:Nat} (hn:0 < n) (k:Nat) (x:Int):LW n (figW n k x):=by
 have:∀ (k:Nat) (x:Int),LW n (lit n k x):=fun k=>by
  induction k with
  | zero=>exact fun x l h=>by simp [lit] at h
  | succ k ih =>
   intro x l h
   rcases List.mem_cons.mp h with rfl | h
   ·exact ⟨Int.emod_nonneg _ (by omega),Int.emod_lt_of_pos _ (by omega)⟩
   ·exact ih _ l h
 exact fun l h=>this k x l (List.mem_reverse.mp h)
theorem num_word {n:Nat} (hn:0 < n):∀ (r:List Int),LW n r.reverse→figW n r.length (numW n r.reverse)=r.reverse∧0≤numW n r.reverse∧numW n r.reverse < (n:Int) ^ r.length
 | [],_=>⟨rfl,by simp [numW],by simp [numW]⟩
 | l::r,h=>by
  rw [List.reverse_cons] at h ⊢
  obtain ⟨e,h0,h1⟩:=num_word hn r fun x hx=>h x (List.mem_append_left _ hx)
  obtain ⟨l0,l1⟩:=h l (by simp)
  rw [numW_snoc]
  have hm:(0:Int) < (n:Int):=by omega
  obtain ⟨q1,q2⟩:=dvm (m:=n) (g:=numW n r.reverse) l0 l1
  refine ⟨?_,?_,?_⟩
  ·show (lit n (r.length+1) _).reverse=_
   show ((numW n r.reverse*(n:Int)+l) % (n:Int)::lit n r.length ((numW n r.reverse*(n:Int)+l) / (n:Int))).reverse=_
   rw [q1,q2,List.reverse_cons]
   exact congrArg (·++[l]) e
  ·have:=Int.mul_nonneg h0 (Int.le_of_lt hm)
   omega
  ·rw [List.length_cons,Int.pow_succ]
   have h2:(numW n r.reverse+1)*(n:Int)≤(n:Int) ^ r.length*(n:Int):=Int.mul_le_mul_of_nonneg_right (by omega) (by omega)
   rw [Int.add_mul,Int.one_mul] at h2
   omega
theorem num_word' {n:Nat} (hn:0 < n) {w:List Int} (h:LW n w):figW n w.length (numW n w)=w∧0≤numW n w∧numW n w < (n:Int) ^ w.length:=by
 have:=num_word hn w.reverse (by rw [List.reverse_reverse];exact h)
 rw [List.reverse_reverse,List.length_reverse] at this
 exact this
def spNumOf (K:PySem.W.Frag) (Ct:Addr):Sp:=fun vs H Q E=>∃ (n:Nat) (u:V) (w:List Int),vs=[.int n,u]∧Dr K H (D.its w) u∧n≤60∧w.length≤4900∧(LW n w→∀ H',Same H H'→Q (.int (numW n w)) H')∧(¬ LW n w→TMx Ct E H)
def spNumL (K:PySem.W.Frag):Sp:=fun vs H Q _=>∃ (n:Nat) (u:V) (w:List Int),vs=[.int n,u]∧Dr K H (D.its w) u∧n≤60∧(∀ H',Same H H'→Q (.int (numW n w)) H')
def GoodX (n:Nat) (many x:Int):Prop:=0≤many∧many≤1000∧0≤x∧x < (n:Int) ^ many.toNat
def spWordOf (K:PySem.W.Frag) (Cb:Addr):Sp:=fun vs H Q E=>∃ (n:Nat) (many x:Int),vs=[.int n,.int many,.int x]∧0 < n∧n≤60∧(GoodX n many x→∀ (t:Addr) (H':Hp),Same H H'→H' t=some (.tup ((figW n many.toNat x).map V.int))→Q (.ref t) H')∧(¬ GoodX n many x→TMx Cb E H)
def spFigs (K:PySem.W.Frag):Sp:=fun vs H Q _=>∃ (n:Nat) (m:Nat) (x:Int),vs=[.int n,.int m,.int x]∧0 < n∧n≤60∧m≤1000∧(∀ (t:Addr) (H':Hp),Same H H'→H' t=some (.tup ((figW n m x).map V.int))→Q (.ref t) H')
def spFSize (K:PySem.W.Frag):Sp:=fun vs H Q _=>∃ (n:Nat) (m:Nat),vs=[.int n,.int m]∧0 < n∧n≤60∧m≤100000∧Q (.int ((n:Int) ^ m)) H
end Gu

set_option Elab.async false
set_option linter.all false
set_option maxRecDepth 100000
set_option maxHeartbeats 4000000
namespace Gu
open PySem L2
/-! ### floors -/
def tabW (n:Nat) (one:List Row) (m:Nat):List Int:=(iota (n ^ m)).map fun x=>numW n (outW one 0 (figW n m x))
theorem tabW_len (n:Nat) (one:List Row) (m:Nat):(tabW n one m).length=n ^ m:=by unfold tabW;rw [List.length_map,iota_len]
theorem iota_map_take {α:Type} (f:Int→α) (L i:Nat) (h:i < L):((iota L).map f).take (i+1)=((iota L).map f).take i++[f (i:Int)]:=by
 rw [List.take_add_one]
 congr 1
 rw [List.getElem?_map,iotaN h]
 rfl
theorem floor_few {n m:Nat} (n2:2≤n) (h:n ^ m≤1024):m≤10:=by
 rcases Nat.lt_or_ge 10 m with z | z
 ·have h1:2 ^ 11≤2 ^ m:=Nat.pow_le_pow_right (by decide) z
  have h2:2 ^ m≤n ^ m:=Nat.pow_le_pow_left n2 m
  have:(2:Nat) ^ 11=2048:=by decide
  omega
 ·exact z
def stor (n:Nat):Int:=if n=2 then 10 else if n=3 then 6 else if n=4 then 5 else 4
theorem stor_at {n:Nat} (n2:2≤n) (n5:n≤5):atI [V.int 10,V.int 6,V.int 5,V.int 4] ((n:Int) - 2)=some (V.int (stor n)):=by
 have cs:n=2∨n=3∨n=4∨n=5:=by omega
 rcases cs with rfl | rfl | rfl | rfl
 ·exact atI_nat (j:=0) rfl
 ·exact atI_nat (j:=1) rfl
 ·exact atI_nat (j:=2) rfl
 ·exact atI_nat (j:=3) rfl
theorem stor_iff {n:Nat} (n2:2≤n) (n5:n≤5) (m:Nat):(m:Int) > stor n↔1024 < n ^ m:=by
 have up:∀ (b k:Nat),1≤b→1024 < b ^ k→k≤m→1024 < b ^ m:=fun b k hb h hk=>Nat.lt_of_lt_of_le h (Nat.pow_le_pow_right hb hk)
 have dn:∀ (b k:Nat),1≤b→b ^ k≤1024→m≤k→¬ 1024 < b ^ m:=fun b k hb h hk=>by have:=Nat.pow_le_pow_right hb hk;omega
 have cs:n=2∨n=3∨n=4∨n=5:=by omega
 rcases cs with rfl | rfl | rfl | rfl
 ·show (m:Int) > 10↔_
  exact ⟨fun h=>up 2 11 (by decide) (by decide) (by omega),fun h=>Decidable.byContradiction fun z=>dn 2 10 (by decide) (by decide) (by omega) h⟩
 ·show (m:Int) > 6↔_
  exact ⟨fun h=>up 3 7 (by decide) (by decide) (by omega),fun h=>Decidable.byContradiction fun z=>dn 3 6 (by decide) (by decide) (by omega) h⟩
 ·show (m:Int) > 5↔_
  exact ⟨fun h=>up 4 6 (by decide) (by decide) (by omega),fun h=>Decidable.byContradiction fun z=>dn 4 5 (by decide) (by decide) (by omega) h⟩
 ·show (m:Int) > 4↔_
  exact ⟨fun h=>up 5 5 (by decide) (by decide) (by omega),fun h=>Decidable.byContradiction fun z=>dn 5 4 (by decide) (by decide) (by omega) h⟩
def spOnFloor (K:PySem.W.Frag) (Ct Cb:Addr):Sp:=fun vs H Q E=>∃ (n:Nat) (many:Int),vs=[.int n,.int many]∧2≤n∧n≤5∧many < 2 ^ 61∧(many < 0→TMx Cb E H)∧(0≤many→1024 < n ^ many.toNat→TMx Ct E H)∧(0≤many→n ^ many.toNat≤1024→Q (.int ((n ^ many.toNat:Nat):Int)) H)
def NewL (H:Hp) (Q:VK) (xs:List Int):Prop:=∀ (r:Addr) (H':Hp),Same H H'→H r=none→H' r=some (.lst (xs.map V.int))→Q (.ref r) H'
def spFloor (K:PySem.W.Frag) (Ct Cb:Addr):Sp:=fun vs H Q E=>∃ (v:V) (one:List Row) (n:Nat) (many:Int),vs=[v,.int many]∧Dr K H (D.tup (rowsD one)) v∧GoodM n one∧2≤n∧n≤5∧many < 2 ^ 61∧(many < 0→TMx Cb E H)∧(0≤many→1024 < n ^ many.toNat→TMx Ct E H)∧(0≤many→n ^ many.toNat≤1024→NewL H Q (tabW n one many.toNat))
def spStories (K:PySem.W.Frag):Sp:=fun vs H Q _=>∃ (n:Nat),vs=[.int n]∧2≤n∧n≤5∧∀ H',Same H H'→Q (.int (stor n)) H'
def spTable (K:PySem.W.Frag):Sp:=fun vs H Q E=>∃ (v:V) (one:List Row) (n m:Nat),vs=[v,.int m]∧Dr K H (D.tup (rowsD one)) v∧GoodM n one∧2≤n∧n≤5∧n ^ m≤1024∧NewL H Q (tabW n one m)
end Gu

set_option Elab.async false
set_option linter.all false
set_option maxRecDepth 100000
set_option maxHeartbeats 4000000
namespace Gu
open PySem L2
/-! ### rounds -/
theorem tab_at {n m:Nat} {M:List Row} {x:Int} (x0:0≤x) (x1:x < ((n ^ m:Nat):Int)):(tabW n M m)[x.toNat]?=some (numW n (outW M 0 (figW n m x))):=by
 unfold tabW
 rw [List.getElem?_map,iota_getI x0 x1]
 rfl
theorem num_rg {n:Nat} (n0:0 < n) {w:List Int} (h:LW n w):0≤numW n w∧numW n w < ((n ^ w.length:Nat):Int):=by
 obtain ⟨_,h0,h1⟩:=num_word' n0 h
 exact ⟨h0,by rw [Int.natCast_pow];exact h1⟩
end Gu

set_option Elab.async false
set_option linter.all false
set_option maxRecDepth 100000
set_option maxHeartbeats 4000000
namespace Gu
open PySem L2
/-! ### the way back of two joined -/
end Gu

set_option Elab.async false
set_option linter.all false
set_option maxRecDepth 100000
set_option maxHeartbeats 4000000
namespace Gu
open PySem L2
def fits (n:Nat) (one:List Row) (m:Nat):Prop:=∀ i,i≤m→(pw n one i).length≤60
end Gu

set_option Elab.async false
set_option linter.all false
set_option maxRecDepth 100000
set_option maxHeartbeats 4000000
namespace Gu
open PySem L2
/-! ### one promise for least_form,by numbers and by pairs -/
theorem len1 {α:Type} {us:List α} (h:us.length=1):∃ a,us=[a]:=by
 cases us with
 | nil=>cases h
 | cons a r =>
  cases r with
  | nil=>exact ⟨a,rfl⟩
  | cons _ _=>simp at h
theorem len2 {α:Type} {us:List α} (h:us.length=2):∃ a b,us=[a,b]:=by
 cases us with
 | nil=>cases h
 | cons a r =>
  obtain ⟨b,rfl⟩:=len1 (show r.length=1 by simpa using h)
  exact ⟨a,b,rfl⟩
theorem len3 {α:Type} {us:List α} (h:us.length=3):∃ a b c,us=[a,b,c]:=by
 cases us with
 | nil=>cases h
 | cons a r =>
  obtain ⟨b,c,rfl⟩:=len2 (show r.length=2 by simpa using h)
  exact ⟨a,b,c,rfl⟩
section
variable (P:Program) (w:World) (K:PySem.W.Frag) (mg:Str→Option Value) (base:Heap) (CX:CXT) (k:Nat)
end
section
variable {P:Program} {w:World} {K:PySem.W.Frag} {mg:Str→Option Value} {base:Heap} {CX:CXT} {k:Nat} {Ct:Addr}
end
end Gu

set_option Elab.async false
set_option linter.all false
set_option maxRecDepth 100000
set_option maxHeartbeats 4000000
namespace L2
open PySem PySem.Spec PyProof.Rows
/-! ### a comprehension of one clause and one test -/
section
variable {prog:Program} {w:World} {A:Around} {R:Result→Shared→Prop} {s:Shared}
end
section
variable {X:Cx} {pins:List (Addr × Obj)} {σ:St} {H:Hp} {s:Shared} {N:List Str} {ix:List (Option Nat)} {scope:Scope} {elt iter tg cx:Expr} {pos:Pos} {g:TG} {tt:TT} {te:TE} {E:Value→Shared→Prop}
end
end L2

set_option Elab.async false
set_option linter.all false
set_option maxRecDepth 100000
set_option maxHeartbeats 4000000
namespace L2
open PySem PySem.Spec PyProof.Rows
/-! ### a comprehension over a dict without keys -/
section
variable {X:Cx} {pins:List (Addr × Obj)} {σ:St} {H:Hp} {s:Shared} {N:List Str} {ix:List (Option Nat)} {scope:Scope} {elt iter tg cx:Expr} {pos:Pos} {te:TE} {E:Value→Shared→Prop}
end
end L2

set_option Elab.async false
set_option linter.all false
set_option maxRecDepth 100000
set_option maxHeartbeats 4000000
namespace L2
open PySem PySem.Spec PyProof.Rows
/-! ### an exception that leaves the frame's values as they stood (a try whose body binds nothing) -/
section
variable {X:Cx} {CX:CXT} {k:Nat} {f C:Addr} {fd:FuncData} {ps:List Str} {sp:Sp} {dvs:List V} {ds:List Value} {E:XK} {x m:Str} {p pos apos:Pos} {e o:Expr} {es:List Expr} {ta:TE} {t:TA} {σ0:St}
end
end L2

set_option Elab.async false
set_option linter.all false
set_option maxRecDepth 100000
set_option maxHeartbeats 4000000
namespace L2
open PySem PySem.Spec PyProof.Rows PySem.SeqAt
open PySem.AutoSeq1 (wpAny_loadPart')
section
variable {X:Cx} (K:PySem.W.Frag)
end
end L2

set_option Elab.async false
set_option linter.all false
set_option maxRecDepth 100000
set_option maxHeartbeats 4000000
namespace Gu
open PySem L2
/-! ### loops whose ends stay closed while a turn is read (the terms stay small) -/
theorem listO {K:PySem.W.Frag} {a:Addr} {xs:List V} {g:TG} {tb:TS} {D:Ends} {σ:St} {H:Hp} (Pv:Nat→St→Hp→Prop) (h0:Pv 0 σ H) (hl:∀ i σ H,i≤xs.length→Pv i σ H→SqL K H a xs)
  (hs:∀ i x σ H,xs[i]?=some x→Pv i σ H→∀ Ed:Ends,(∀ σ' H',Pv (i+1) σ' H'→Ed.nx σ' H')→g x σ H fun σ2 H2=>tb Ed σ2 H2) (hd:∀ σ H,Pv xs.length σ H→D.nx σ H) :
  ∃ W:Nat→Nat→St→Hp→Prop,(∃ m,W 0 m σ H)∧∀ i m σ H,W i m σ H →
   ((Itl K a).stop i H∧D.nx σ H)∨((Itl K a).go i H∧∃ N:St→Hp→Prop,(∀ σ' H',N σ' H'→∃ m',m' < m∧W (i+1) m' σ' H')∧∀ x H',(Itl K a).yld i H x H'→g x σ H' fun σ2 H2=>tb { D with nx:=N,ct:=N,bk:=D.nx } σ2 H2) :=
 for_list Pv h0 hl (fun i x σ H hx p=>hs i x σ H hx p _ fun _ _ z=>z) hd
theorem tupO {K:PySem.W.Frag} {a:Addr} {xs:List V} {g:TG} {tb:TS} {D:Ends} {σ:St} {H:Hp} (Pv:Nat→St→Hp→Prop) (h0:Pv 0 σ H) (hl:∀ i σ H,i≤xs.length→Pv i σ H→SqT K H a xs)
  (hs:∀ i x σ H,xs[i]?=some x→Pv i σ H→∀ Ed:Ends,(∀ σ' H',Pv (i+1) σ' H'→Ed.nx σ' H')→g x σ H fun σ2 H2=>tb Ed σ2 H2) (hd:∀ σ H,Pv xs.length σ H→D.nx σ H) :
  ∃ W:Nat→Nat→St→Hp→Prop,(∃ m,W 0 m σ H)∧∀ i m σ H,W i m σ H →
   ((Itt K a).stop i H∧D.nx σ H)∨((Itt K a).go i H∧∃ N:St→Hp→Prop,(∀ σ' H',N σ' H'→∃ m',m' < m∧W (i+1) m' σ' H')∧∀ x H',(Itt K a).yld i H x H'→g x σ H' fun σ2 H2=>tb { D with nx:=N,ct:=N,bk:=D.nx } σ2 H2) :=
 for_tup Pv h0 hl (fun i x σ H hx p=>hs i x σ H hx p _ fun _ _ z=>z) hd
theorem cutN {W:Nat→St→Hp→Prop} {m:Nat} {T:(St→Hp→Prop)→Prop} (h:∀ N:St→Hp→Prop,(∀ m' σ' H',m' < m→W m' σ' H'→N σ' H')→T N):∃ N:St→Hp→Prop,(∀ σ' H',N σ' H'→∃ m',m' < m∧W m' σ' H')∧T N :=
 ⟨fun σ' H'=>∃ m',m' < m∧W m' σ' H',fun _ _ z=>z,h _ fun m' σ' H' a b=>⟨m',a,b⟩⟩
theorem rangeO {lo:Int} {n:Nat} {g:TG} {tb:TS} {D:Ends} {σ:St} {H:Hp} (Pv:Nat→St→Hp→Prop) (h0:Pv 0 σ H)
  (hs:∀ i σ H,i < n→Pv i σ H→∀ Ed:Ends,(∀ σ' H',Pv (i+1) σ' H'→Ed.nx σ' H')→g (.int (lo+i)) σ H fun σ2 H2=>tb Ed σ2 H2) (hd:∀ σ H,Pv n σ H→D.nx σ H) :
  ∃ W:Nat→Nat→St→Hp→Prop,(∃ m,W 0 m σ H)∧∀ i m σ H,W i m σ H →
   ((Itr lo n).stop i H∧D.nx σ H)∨((Itr lo n).go i H∧∃ N:St→Hp→Prop,(∀ σ' H',N σ' H'→∃ m',m' < m∧W (i+1) m' σ' H')∧∀ x H',(Itr lo n).yld i H x H'→g x σ H' fun σ2 H2=>tb { D with nx:=N,ct:=N,bk:=D.nx } σ2 H2) :=
 for_range Pv h0 (fun i σ H hi p=>hs i σ H hi p _ fun _ _ z=>z) hd
theorem cutW {c:TT} {tb:TS} {D:Ends} {σ:St} {H:Hp} (Post:St→Hp→Prop) (h1:∀ Ed:Ends,(∀ σ' H',Post σ' H'→Ed.nx σ' H')→tWhile c tb Ed σ H) (h2:∀ σ' H',Post σ' H'→D.nx σ' H'):tWhile c tb D σ H:=h1 D h2
theorem cutQ {t1 t2:TS} {D:Ends} {σ:St} {H:Hp} (Post:St→Hp→Prop) (h1:∀ Ed:Ends,(∀ σ' H',Post σ' H'→Ed.nx σ' H')→t1 Ed σ H) (h2:∀ σ' H',Post σ' H'→t2 D σ' H'):tSeq t1 t2 D σ H:=h1 _ h2
theorem cutS {t1 t2:TS} {D:Ends} {σ:St} {H:Hp} (h1:∀ Ed:Ends,Ed.nx σ H→t1 Ed σ H) (h2:t2 D σ H):tSeq t1 t2 D σ H:=h1 _ h2
end Gu

set_option Elab.async false
set_option linter.all false
set_option maxRecDepth 100000
set_option maxHeartbeats 4000000
namespace Gu
open PySem L2
/-! ### what stands behind a word in a joined guise -/
theorem prod_at {n:Nat} {A B:List Row} (GA:GoodM n A) (GB:GoodM n B) {a b:Int} (a0:0≤a) (a1:a < (A.length:Int)) (b0:0≤b) (b1:b < (B.length:Int)):row (prodM A B) (a*(B.length:Int)+b)=prow B.length (row A a) (row B b):=by
 obtain ⟨v0,v1⟩:=mul_rg a0 a1 b0 b1
 rw [prodM_row v0 v1,(dvm b0 b1).1,(dvm b0 b1).2]
end Gu

set_option Elab.async false
set_option linter.all false
set_option maxRecDepth 100000
set_option maxHeartbeats 4000000
namespace L2
open PySem PySem.Spec PyProof.Rows PySem.SeqAt
section
variable {X:Cx} (K:PySem.W.Frag)
end
end L2

set_option Elab.async false
set_option linter.all false
set_option maxRecDepth 100000
set_option maxHeartbeats 4000000
namespace Gu
open PySem L2
/-! ### whole joining -/
end Gu

set_option Elab.async false
set_option linter.all false
set_option maxRecDepth 100000
set_option maxHeartbeats 4000000
namespace Gu
open PySem L2
/-! ### where two guises part -/
def fuL:List Int→List Int→Nat
 | a::as,b::bs=>if a=b then fuL as bs+1 else 0
 | _,_=>0
def pgo (m:Nat) (R S:Row):List Int:=(List.range R.2.length).map fun k=>R.2.getD k 0*(m:Int)+S.2.getD k 0
def prM (one other:List Row):List Row:=(iota (one.length*other.length)).map fun c=>((row one (c / (other.length:Int))).1,pgo other.length (row one (c / (other.length:Int))) (row other (c % (other.length:Int))))
def addWs (w:List Int):List Int→List (List Int)→Nat→List Int→List (List Int)
 | _,ws,_,[]=>ws
 | o,ws,k,g::gs=>if g∈o then addWs w o ws (k+1) gs else addWs w (o++[g]) (ws++[w++[(k:Int)]]) (k+1) gs
def pb (one other:List Row):Nat→List Int→List (List Int)→Nat→Option (List Int)
 | 0,_,_,_=>none
 | f+1,o,ws,i=>match o[i]?,ws[i]? with
  | some c,some w=>if (row one (c / (other.length:Int))).1=(row other (c % (other.length:Int))).1 then pb one other f (addAll o (row (prM one other) c).2) (addWs w o ws 0 (row (prM one other) c).2) (i+1)
   else some (w++[((fuL (row one (c / (other.length:Int))).1 (row other (c % (other.length:Int))).1:Nat):Int)])
  | _,_=>none
def parting (one other:List Row):Option (List Int):=pb one other (one.length*other.length+1) [0] [[]] 0
/-! the other way round -/
/-! none parts what is one,and what nothing parts is one -/
end Gu

set_option Elab.async false
set_option linter.all false
set_option maxRecDepth 100000
set_option maxHeartbeats 4000000
namespace L2
open PySem PySem.Spec PyProof.Rows
/-! ### enumerate over a zip: the zip's own tuple is held by a name,so the zip hands out fresh ones -/
section
variable {prog:Program} {w:World} {A:Around} {E:Value→Shared→Prop} {s:Shared} {z TI TO i1 i2:Addr} {fp1 fp2:List Addr} {n1 n2:Nat} {P1 P2:Nat→Value→Prop} {S1 S2:Nat→Heap→Prop}
end
end L2

set_option Elab.async false
set_option linter.all false
set_option maxRecDepth 100000
set_option maxHeartbeats 4000000
namespace L2
open PySem PySem.Spec PyProof.Rows
section
variable {X:Cx} {elts:List Expr} {tk:Nat} {tp:Pos}
end
end L2

set_option Elab.async false
set_option linter.all false
set_option maxRecDepth 100000
set_option maxHeartbeats 4000000
namespace Gu
open PySem L2
/-! ### parting words: what is promised -/
theorem fewL_ints:∀ w:List Int,D.fewL (w.map D.int)
 | []=>by simp only [List.map_nil,D.fewL]
 | _::w=>by simp only [List.map_cons,D.fewL,D.few];exact ⟨trivial,fewL_ints w⟩
end Gu

set_option Elab.async false
set_option linter.all false
set_option maxRecDepth 100000
set_option maxHeartbeats 4000000
namespace Gu
open PySem L2
/-! ### what the word that parts does -/
end Gu

set_option Elab.async false
set_option linter.all false
set_option maxRecDepth 100000
set_option maxHeartbeats 4000000
namespace L2
open PySem PySem.Spec PyProof.Rows
variable {X:Cx}
end L2

set_option Elab.async false
set_option linter.all false
set_option maxRecDepth 100000
set_option maxHeartbeats 4000000
namespace Gu
open PySem L2
end Gu

set_option Elab.async false
set_option linter.all false
set_option maxRecDepth 100000
set_option maxHeartbeats 4000000
namespace L2
open PySem PySem.Spec PyProof.Rows
/-! ### a comprehension of two clauses and no test -/
section
variable {prog:Program} {w:World} {A:Around} {R:Result→Shared→Prop} {s:Shared}
end
section
variable {X:Cx} {pins:List (Addr × Obj)} {σ:St} {H:Hp} {s:Shared} {N:List Str} {ix:List (Option Nat)} {scope:Scope} {elt iter tg iter2 tg2:Expr} {pos:Pos} {g g2:TG} {wi2:TI} {te:TE} {E:Value→Shared→Prop}
end
end L2

set_option Elab.async false
set_option linter.all false
set_option maxRecDepth 100000
set_option maxHeartbeats 4000000
namespace Gu
open PySem L2
/-! ### an endless word,worn -/
def lapA (M:List Row) (e:Row):Nat→Int
 | 0=>goW M 0 e.1
 | t+1=>goW M (lapA M e t) e.2
/-! two endless words are unlike where what is made of them is -/
theorem getD_inj {n:Nat} {p:List Int} (hp:IsP n p) {a b:Int} (a0:0≤a) (a1:a < (n:Int)) (b0:0≤b) (b1:b < (n:Int)) (e:p.getD a.toNat 0=p.getD b.toNat 0):a=b:=by
 have hl:=hp.len
 rw [getD_of (by omega),getD_of (by omega)] at e
 have:=(List.getElem_inj hp.nodup).mp e
 omega
/-! how far two words go together -/
end Gu

set_option Elab.async false
set_option linter.all false
set_option maxRecDepth 100000
set_option maxHeartbeats 4000000
namespace Gu
open PySem L2
theorem cutV_to (xs:List V) (k:Nat) (h:k≤xs.length):cutV xs none (some (k:Int))=xs.take k:=by
 unfold cutV
 rw [HT.sIx_none,HT.sIx_nat,List.drop_zero,Nat.sub_zero,Nat.min_eq_left h]
end Gu

set_option Elab.async false
set_option linter.all false
set_option maxRecDepth 100000
set_option maxHeartbeats 4000000
namespace L2
open PySem PySem.Spec PyProof.Rows PySem.SeqAt
/-! no list or tuple in it is very long -/
section
variable {X:Cx}
end
end L2

set_option Elab.async false
set_option linter.all false
set_option maxRecDepth 100000
set_option maxHeartbeats 4000000
namespace L2
open PySem PySem.Spec PyProof.Rows
open PySem.AutoSeq1 (wpAny_loadPart')
section
variable {X:Cx}
/-! ### t != u of ints -/
end
end L2

set_option Elab.async false
set_option linter.all false
set_option maxRecDepth 100000
set_option maxHeartbeats 4000000
namespace Gu
open PySem L2
/-! ### endless words worn,of great length,and refused -/
def kI:Int→Key:=fun a=>Sum.inl a
def seen (M:List Row) (e:Row) (t:Nat):List Int:=(List.range t).map (lapA M e)
end Gu

set_option Elab.async false
set_option linter.all false
set_option maxRecDepth 100000
set_option maxHeartbeats 4000000
namespace Gu
open PySem L2
/-! ### what guises make of words: of least forms,joined,turned back -/
theorem mor_out {n:Nat} {M' M:List Row} {o:List Int} {h:Int→Int} (mo:Mor M' M o h) (cl:∀ r∈o,∀ g∈(row M' r).2,g∈o) (hl:∀ r∈o,(row M' r).2.length=n):∀ (w:List Int) (x:Int),x∈o→LW n w→outW M (h x) w=outW M' x w
 | [],_,_,_=>rfl
 | l::w,x,hx,hw=>by
  obtain ⟨l0,l1⟩:=hw l List.mem_cons_self
  have hk:l.toNat < (row M' x).2.length:=by rw [hl x hx];omega
  show (row M (h x)).1.getD l.toNat 0::outW M ((row M (h x)).2.getD l.toNat 0) w=(row M' x).1.getD l.toNat 0::outW M' ((row M' x).2.getD l.toNat 0) w
  rw [mo x hx]
  show (row M' x).1.getD l.toNat 0::outW M (((row M' x).2.map h).getD l.toNat 0) w=_
  rw [getD_map hk,mor_out mo cl hl w _ (cl x hx _ (by rw [getD_of hk];exact List.getElem_mem hk)) hw.tail]
theorem shr_out {n:Nat} {M:List Row} (G:GoodM n M) {w:List Int} (hw:LW n w):outW (shr M) 0 w=outW M 0 w:=by
 obtain ⟨h,h0,mo⟩:=shr_quot G
 obtain ⟨L,cl⟩:=order_line G
 have:=mor_out mo cl (fun r hr=>G.len _ (row_mem (L.rg r hr).1 (L.rg r hr).2)) w 0 (by obtain ⟨t,ht⟩:=L.hd;rw [ht];exact List.mem_cons_self) hw
 rw [h0] at this
 exact this
theorem prod_out {n:Nat} {A B:List Row} (GA:GoodM n A) (GB:GoodM n B):∀ (w:List Int) (a b:Int),LW n w→0≤a→a < (A.length:Int)→0≤b→b < (B.length:Int)→outW (prodM A B) (a*(B.length:Int)+b) w=outW B b (outW A a w)
 | [],_,_,_,_,_,_,_=>rfl
 | l::w,a,b,hw,a0,a1,b0,b1=>by
  obtain ⟨l0,l1⟩:=hw l List.mem_cons_self
  have hR:=row_mem a0 a1
  have hS:=row_mem b0 b1
  obtain ⟨k,g,e,q1,q2,q3,q4,q5,q6,g0,g1,e0,e1⟩:=prow_go (m:=B.length) (N:=A.length) (GA.perm _ hR) (GA.len _ hR) (GA.go _ hR) (GB.len _ hS) (GB.go _ hS) (k:=l.toNat) (by omega)
  have hl:=(GA.perm _ hR).len
  show (row (prodM A B) (a*(B.length:Int)+b)).1.getD l.toNat 0::outW (prodM A B) ((row (prodM A B) (a*(B.length:Int)+b)).2.getD l.toNat 0) w=(row B b).1.getD ((row A a).1.getD l.toNat 0).toNat 0::outW B ((row B b).2.getD ((row A a).1.getD l.toNat 0).toNat 0) (outW A ((row A a).2.getD l.toNat 0) w)
  rw [prod_at GA GB a0 a1 b0 b1,prow_getD (by omega),q5,q6,prod_out GA GB w g e hw.tail g0 g1 e0 e1]
  congr 1
  show (turn (row A a).1 (row B b).1).getD l.toNat 0=_
  rw [turn_getD (by omega)]
theorem both_out {n:Nat} {A B:List Row} (GA:GoodM n A) (GB:GoodM n B) (h4:A.length*B.length≤4000) {w:List Int} (hw:LW n w):outW (shr (prodM A B)) 0 w=outW B 0 (outW A 0 w):=by
 rw [shr_out (prodM_good GA GB h4) hw]
 have:=prod_out GA GB w 0 0 hw (Int.le_refl 0) (by have:=GA.some;omega) (Int.le_refl 0) (by have:=GB.some;omega)
 rw [Int.zero_mul,Int.add_zero] at this
 exact this
theorem still_out {n:Nat}:∀ {w:List Int},LW n w→outW (stillM n) 0 w=w
 | [],_=>rfl
 | l::w,hw=>by
  obtain ⟨l0,l1⟩:=hw l List.mem_cons_self
  show (iota n).getD l.toNat 0::outW (stillM n) ((List.replicate n (0:Int)).getD l.toNat 0) w=l::w
  rw [List.getD_eq_getElem?_getD,iotaN (by omega),List.getD_eq_getElem?_getD,List.getElem?_replicate,if_pos (by omega)]
  show ((l.toNat:Int))::outW (stillM n) 0 w=l::w
  rw [still_out hw.tail,Int.toNat_of_nonneg l0]
theorem back_out {n:Nat} {A:List Row} (GA:GoodM n A) (h8:A.length≤8) {w:List Int} (hw:LW n w):outW (shr (conM A)) 0 (outW A 0 w)=w:=by
 have GC:=shr_good (conM_good GA)
 have hc:(shr (conM A)).length≤8:=by have:=shr_le (conM_good GA);rw [conM_len] at this;omega
 have h4:A.length*(shr (conM A)).length≤4000:=Nat.le_trans (Nat.mul_le_mul h8 hc) (by decide)
 rw [←both_out GA GC h4 hw,join_back GA h4]
 exact still_out hw
/-! ### the same of endless words -/
/-! ### the promises of endless words worn twice -/
end Gu
namespace Gu
open PySem L2
/-! the rest of a body,kept closed while a statement is read -/
end Gu

set_option Elab.async false
set_option linter.all false
set_option maxRecDepth 100000
set_option maxHeartbeats 4000000
namespace Gu
open PySem L2
/-! ### a guise worn so many times -/
end Gu

set_option Elab.async false
set_option linter.all false
set_option maxRecDepth 100000
set_option maxHeartbeats 4000000
namespace Gu
open PySem L2
/-! ### the rows of a form are unlike -/
/-! ### rows that leave all that follows -/
def StR (n:Nat) (M:List Row) (r:Int):Prop:=row M r=(iota n,List.replicate n r)
instance (n:Nat) (M:List Row) (r:Int):Decidable (StR n M r):=inferInstanceAs (Decidable (_=_))
end Gu

set_option Elab.async false
set_option linter.all false
set_option maxRecDepth 100000
set_option maxHeartbeats 4000000
namespace Gu
open PySem L2
/-! ### how deep a guise goes -/
def goneTo (M:List Row) (rs:List Int):List Int:=uniq (rs.flatMap fun r=>(row M r).2)
def mvF (n:Nat) (M:List Row) (rs:List Int):List Int:=rs.filter fun r=>!decide (StR n M r)
def mvs (n:Nat) (M:List Row):Nat→List Int
 | 0=>[0]
 | k+1=>goneTo M (mvF n M (mvs n M k))
def dlp (n:Nat) (M:List Row):Nat→Nat→Option Nat
 | 0,_=>none
 | f+1,k=>if mvF n M (mvs n M k)=[] then some k else dlp n M f (k+1)
def dep (n:Nat) (M:List Row):Option Nat:=dlp n M M.length 0
def Lp (n:Nat) (M:List Row) (r:Int):Prop:=∃ v,v≠[]∧LW n v∧goW M r v=r
end Gu

set_option Elab.async false
set_option linter.all false
set_option maxRecDepth 100000
set_option maxHeartbeats 4000000
namespace Gu
open PySem L2
/-! ### depths of sections,what lasts -/
noncomputable def lpB (n:Nat) (M:List Row) (j:Nat):Bool:=@decide (Lp n M (j:Int)) (Classical.propDecidable _)
noncomputable def lasts (n:Nat) (M:List Row) (i:Nat):List (List Row):=((List.range i).filter (lpB n M)).map fun (j:Nat)=>shr (swM M (j:Int))
end Gu

set_option Elab.async false
set_option linter.all false
set_option maxRecDepth 100000
set_option maxHeartbeats 4000000
namespace L2
open PySem PySem.Spec PyProof.Rows
section
variable {X:Cx}
theorem vals_by:∀ {xs:List V} {us:List Value},us.length=xs.length→(∀ (i:Nat) (u:Value),us[i]?=some u→∃ x,xs[i]?=some x∧RelV x u)→Vals xs us
 | [],[],_,_=>.nil
 | [],_::_,h,_=>by cases h
 | _::_,[],h,_=>by cases h
 | x::xs,u::us,h,f=>by
  obtain ⟨y,e,r⟩:=f 0 u rfl
  have e':x=y:=Option.some.inj e
  subst e'
  exact .cons r (vals_by (Nat.succ.inj h) fun i v hv=>f (i+1) v hv)
theorem paired_at {α β:Type} {F:α→β→Prop}:∀ {l:List α} {r:List β} {i:Nat} {a:α} {b:β},Paired F l r→l[i]?=some a→r[i]?=some b→F a b
 | _,_,0,_,_,.cons q _,ha,hb=>by
  have e1:=Option.some.inj ha
  have e2:=Option.some.inj hb
  rw [←e1,←e2];exact q
 | _,_,_+1,_,_,.cons _ t,ha,hb=>paired_at t ha hb
end
end L2

set_option Elab.async false
set_option linter.all false
set_option maxRecDepth 100000
set_option maxHeartbeats 4000000
namespace L2
open PySem PySem.Spec PyProof.Rows
/-! ### {k: v for x in ..} of one clause and no test,its keys whole numbers or texts -/
section
variable {prog:Program} {w:World} {A:Around} {R:Result→Shared→Prop} {s:Shared}
end
section
variable {X:Cx} {pins:List (Addr × Obj)} {σ:St} {H:Hp} {s:Shared} {N:List Str} {ix:List (Option Nat)} {scope:Scope} {kx vx iter tg:Expr} {pos:Pos} {g:TG} {tk tv:TE} {E:Value→Shared→Prop}
end
section
variable {X:Cx} {pins:List (Addr × Obj)} {σ:St} {H:Hp} {s:Shared} {N:List Str} {ix:List (Option Nat)} {scope:Scope} {elt iter tg cx:Expr} {pos:Pos} {g:TG} {tt:TT} {te:TE} {E:Value→Shared→Prop}
end
end L2
namespace L2
open PySem PySem.Spec PyProof.Rows PySem.SeqAt
section
variable {X:Cx} (K:PySem.W.Frag)
end
end L2

set_option Elab.async false
set_option linter.all false
set_option maxRecDepth 100000
set_option maxHeartbeats 4000000
namespace Gu
open PySem L2
end Gu

set_option Elab.async false
set_option linter.all false
set_option maxRecDepth 100000
set_option maxHeartbeats 4000000
namespace Gu
open PySem L2
/-! ### rows gone to,rows that come again,depths: their promises -/
def kvT (o:List Int):List (Key × V):=o.map fun r=>(Sum.inl r,V.bl true)
theorem kvT_len (o:List Int):(kvT o).length=o.length:=List.length_map _
theorem kvT_any (o:List Int) (g:Int):((kvT o).any fun kv=>decide (kv.1=Sum.inl g))=decide (g∈o):=by
 unfold kvT
 rw [List.any_map,Bool.eq_iff_iff]
 simp only [List.any_eq_true,Function.comp,decide_eq_true_eq]
 constructor
 ·rintro ⟨x,hx,e⟩
  rw [←Sum.inl.inj e];exact hx
 ·intro h
  exact ⟨g,h,rfl⟩
theorem kvT_put (o:List Int) (g:Int):putK (kvT o) (Sum.inl g) (V.bl true)=kvT (addN o g):=by
 unfold putK
 rw [kvT_any]
 by_cases h:g∈o
 ·rw [if_pos (decide_eq_true h),addN_mem h]
  unfold kvT
  rw [List.map_map]
  refine List.map_congr_left fun x _=>?_
  simp
 ·rw [if_neg (by simp [h]),addN_new h]
  unfold kvT
  rw [List.map_append]
  rfl
theorem kvT_val (o:List Int) (g:Int):(valV (kvT o) (Sum.inl g)).isSome=decide (g∈o):=by
 unfold valV
 rw [Option.isSome_map,←kvT_any,Bool.eq_iff_iff,List.find?_isSome,List.any_eq_true]
end Gu

set_option Elab.async false
set_option linter.all false
set_option maxRecDepth 100000
set_option maxHeartbeats 4000000
namespace L2
open PySem PySem.Spec PyProof.Rows
/-! ### a comprehension whose element raises -/
def FlyM (h0:Heap) (H:Hp) (h:Heap) (ea C:Addr) (fl:Value):Prop:=h0.get? ea=none∧H ea=none∧∃ a0 oe vs T oT ts,h.get? ea=some oe∧(oe.cls=.ref C∧vs[0]?=some a0)∧oe.data=.fields vs∧vs[1]?=some (.ref T)∧T≠ea∧h0.get? T=none∧H T=none∧h.get? T=some oT∧oT.data=.fields ts∧ts[3]?=some fl
section
variable {P:Program} {w:World}
theorem left_okM {fl:Value} {fr:List Addr} {H1 H':Hp} {h1 h h':Heap} {env:Env} {outer:List Env} {ea C:Addr} {a0:Value} {base:Heap} {hid:List Addr} (FF:h.FunFrames base (env::outer)) (u:Un fr [] H1 H' h1 h) (hok:HOk P w H' h)
  (hfr:∀ b∈frs (env::outer),H' b=none∧(b∈fr∨h1.get? b=none)) (hfr2:∀ b∈fr,b∈frs (env::outer)) (he1:h1.get? ea=none) (heH:H' ea=none) (hid1:∀ b∈hid,h1.get? b=none∧H' b=none)
  (lf:(PySem.W.hideAll h (ea::(hid++frs (env::outer)))).NotedW (env::outer) ea (.ref C) a0 fl h h') :
  Un fr [] H1 H' h1 h'∧HOk P w H' h'∧FlyM h1 H' h' ea C fl:=by
 obtain ⟨st,ff,tr,sl⟩:=lf
 have keep:∀ b o,h.get? b=some o→b≠ea→b∉hid→b∉frs (env::outer)→h'.get? b=some o:=fun b o e n1 n2 n3 =>
  st b o (PySem.W.hideAll_get _ e fun z=>by
   rcases List.mem_cons.mp z with z | z
   ·exact n1 z
   ·rcases List.mem_append.mp z with z | z
    ·exact n2 z
    ·exact n3 z)
 have slot:∀ b o,h.get? b=some o→b∈frs (env::outer)→∃ s,h'.get? b=some { o with slots:=s }:=fun b o e hb=>by
  obtain ⟨o',e',hd⟩:=funFrames_at FF b hb
  rw [e] at e'
  cases e'
  exact sl b o e hd
 have nh:∀ b o,h1.get? b=some o→b≠ea∧b∉hid:=fun b o e=>⟨fun z=>(by rw [z,he1] at e;cases e),fun z=>(by rw [(hid1 b z).1] at e;cases e)⟩
 refine ⟨⟨fun b o e n hb hx=>?_,fun b o e n hb hx=>?_,u.free,fun b o e hx=>?_,u.tups,u.frzs,u.tbls⟩,fun a o e=>?_,he1,heH,?_⟩
 ·have e2:=u.keep b o e n hb hx
  refine keep b o e2 (nh b o e).1 (nh b o e).2 fun z=>?_
  rcases (hfr b z).2 with z | z
  ·exact hb z
  ·rw [z] at e;cases e
 ·obtain ⟨s1,e2⟩:=u.slot b o e n hb hx
  obtain ⟨s2,e3⟩:=slot b _ e2 (hfr2 b hb)
  exact ⟨s2,e3⟩
 ·obtain ⟨o',e2⟩:=u.there b o e hx
  by_cases hb:b∈frs (env::outer)
  ·obtain ⟨s2,e3⟩:=slot b _ e2 hb
   exact ⟨_,e3⟩
  ·exact ⟨o',keep b o' e2 (nh b o e).1 (nh b o e).2 hb⟩
 ·refine (hok a o e).stay (fun b v hb q=>?_) (fun _ q=>q) fun _ _ q=>q
  have hbs:∃ ob,H' b=some ob:=by
   rcases hb with z | z
   ·rw [z];exact ⟨_,e⟩
   ·exact ⟨_,z⟩
  obtain ⟨ob,hob⟩:=hbs
  refine keep b v q (fun z=>?_) (fun z=>?_) fun z=>?_
  ·rw [z,heH] at hob;cases hob
  ·rw [(hid1 b z).2] at hob;cases hob
  ·rw [(hfr b z).1] at hob;cases hob
 ·obtain ⟨oe,vs,T,oT,ts,g1,g2,g3,g4,g5,g6,g7,g8,g9⟩:=tr
  have hT:h1.get? T=none∧H' T=none:=by
   cases eT:h.get? T with
   | none =>
    refine ⟨?_,?_⟩
    ·cases q:h1.get? T with
     | none=>rfl
     | some o =>
      obtain ⟨o',e2⟩:=u.there T o q (by simp)
      rw [eT] at e2;cases e2
    ·cases q:H' T with
     | none=>rfl
     | some o =>
      obtain ⟨ob,hob⟩:=objThere (hok T o q)
      rw [eT] at hob;cases hob
   | some oT' =>
    have hm:T∈ea::(hid++frs (env::outer)):=Classical.byContradiction fun nm=>by
     rw [PySem.W.hideAll_get _ eT nm] at g5;cases g5
    rcases List.mem_cons.mp hm with z | z
    ·exact absurd z g6
    ·rcases List.mem_append.mp z with z | z
     ·exact hid1 T z
     ·obtain ⟨o',e',hd⟩:=funFrames_at ff T z
      rw [g7] at e'
      cases e'
      exact absurd g8 (hd ts)
  exact ⟨a0,oe,vs,T,oT,ts,g1,g2,g3,g4,g6,hT.1,hT.2,g7,g8,g9⟩
theorem leave_at {M:Model} {A:Around} {E:Value→Shared→Prop} {s:Shared} {base:Heap} {env:Env} {outer:List Env} {L e:Addr} {cls a0 v:Value} {Q:Unit→Shared→Prop} (hA:A.frames=some (env::outer)) (hl:s.heap.FunFrames base (env::outer)) (hL:env.frame=some L)
  (ht:s.heap.TracedAtW base e cls a0 v) (hb:base.StaysIn s.heap) (he0:base.get? e=none) (k:∀ h',Heap.LeftW base (env::outer) e cls a0 s.heap h'→Q () { s with heap:=h' }):wpAny M A (leaving env (.ref e)) Q E s:=by
 obtain ⟨oe,vs,T,oT,ts,g1,⟨g2,g20⟩,g3,g4,g5,g6,g7,g8,g9⟩:=id ht
 subst g2
 unfold leaving
 refine wpAny_bind ?_
 unfold noteFrame
 simp only [hL]
 refine wpAny_bind (wpAny_field g1 g3 g4 ?_)
 rw [if_pos (show (Value.ref T != .none)=true by simp)]
 refine wpAny_bind (wpAny_field g7 g8 g9 ?_)
 cases hv:v == rawInt L with
 | true =>
  rw [if_pos rfl]
  refine wpAny_pure (wpAny_setFlight_noneW hb hl ht fun h' k1 k2 k3 k4=>k h' ⟨k1,k2,k3,fun b o q hn=>⟨o.slots,k4 b o q hn⟩⟩)
 | false =>
  rw [if_neg (by simp)]
  refine wpAny_bind (wpAny_setField g7 g8 (Array.getElem?_eq_some_iff.mp g9).1 ?_)
  have oth:∀ b,b≠T→(s.heap.update T (Obj.mapFields fun z=>z.setIfInBounds 3 Value.none)).get? b=s.heap.get? b:=fun b hb'=>Heap.get?_update_other _ _ (Ne.symm hb')
  have nT:∀ b o,s.heap.get? b=some o→(∀ z,o.data≠.fields z)→b≠T:=fun b o q hn z=>by
   rw [z,g7] at q;cases q;exact hn ts g8
  refine wpAny_newEntryW hA (hl.of_keeps fun b o q hn=>⟨o,(oth b (nT b o q hn)).trans q,rfl⟩) hL ((oth e (Ne.symm g6)).trans g1) (fun b o q=>(oth b fun z=>(by rw [z,g5] at q;cases q)).trans (hb b o q)) he0 g3 (Array.getElem?_eq_some_iff.mp g4).1 g20 fun h' x=>k h' ⟨x.1,x.2.1,x.2.2.1,fun b o q hn=>x.2.2.2 b o ((oth b (nT b o q hn)).trans q) hn⟩
section
variable {M:Model} {A:Around} {E:Value→Shared→Prop} {Q:Unit→Shared→Prop} {s:Shared} {fr:List Addr} {H1 H':Hp} {h1:Heap} {env:Env} {outer:List Env} {L ea C:Addr} {base:Heap} {fl:Value}
theorem noted_ok (hA:A.frames=some (env::outer)) (hL:env.frame=some L) (FF:s.heap.FunFrames base (env::outer)) (u:Un fr [] H1 H' h1 s.heap) (hok:HOk P w H' s.heap)
  (hfr:∀ b∈frs (env::outer),H' b=none∧(b∈fr∨h1.get? b=none)) (hfr2:∀ b∈fr,b∈frs (env::outer)) (hf:Fly h1 H' s.heap ea C)
  (k:∀ h',Un fr [] H1 H' h1 h'→HOk P w H' h'→FlyM h1 H' h' ea C (rawInt L)→s.heap.UpToSlots h'→Q () { s with heap:=h' }):wpAny M A (noteFrame (.ref ea) env) Q E s:=by
 obtain ⟨he1,heH,a0,oe,vs,T,oT,ts,g1,g2,g3,g4,g5,g6,g7,g8,g9,g10⟩:=hf
 have FF':s.heap.FunFrames (PySem.W.hideAll s.heap (ea::([T]++frs (env::outer)))) (env::outer):=funFrames_base FF fun b hb=>PySem.W.hideAll_none _ (by simp [hb])
 refine wpAny_noteFrame_onW hA FF' hL ⟨oe,vs,T,oT,ts,g1,g2,g3,g4,PySem.W.hideAll_none _ (by simp),g5,g8,g9,g10⟩ (fun b o e=>PySem.W.of_hideAll _ e) (PySem.W.hideAll_none _ (by simp)) fun h2 nt=>?_
 obtain ⟨a,b,c⟩:=left_okM (hid:=[T]) FF u hok hfr hfr2 he1 heH (fun b hb=>by rw [List.mem_singleton.mp hb];exact ⟨g6,g7⟩) nt
 exact k h2 a b c nt.2.2.2
theorem pass_leave {what:String} {cenv:Env} (hA:A.frames=some (env::outer)) (hL:env.frame=some L) (FF:s.heap.FunFrames base (env::outer)) (u:Un fr [] H1 H' h1 s.heap) (hok:HOk P w H' s.heap)
  (hfr:∀ b∈frs (env::outer),H' b=none∧(b∈fr∨h1.get? b=none)) (hfr2:∀ b∈fr,b∈frs (env::outer)) (hf:FlyM h1 H' s.heap ea C fl)
  (k:∀ h',Un fr [] H1 H' h1 h'→HOk P w H' h'→Fly h1 H' h' ea C→Q () { s with heap:=h' }):wpAny M A (PySem.passOn what (.ref ea) cenv:Sem Value) (fun _ _=>False) (fun e s'=>e=.ref ea∧wpAny M A (leaving env (.ref ea)) Q E s') s:=by
 obtain ⟨he1,heH,a0,oe,vs,T,oT,ts,g1,⟨g2,g20⟩,g3,g4,g5,g6,g7,g8,g9,g10⟩:=hf
 have FF':s.heap.FunFrames (PySem.W.hideAll s.heap (ea::([T]++frs (env::outer)))) (env::outer):=funFrames_base FF fun b hb=>PySem.W.hideAll_none _ (by simp [hb])
 unfold PySem.passOn setFlight
 refine wpAny_bind (wpAny_field g1 g3 g4 ?_)
 rw [if_neg (show ¬ ((Value.ref T == .none)=true) by simp)]
 refine wpAny_bind (wpAny_bind (wpAny_field g1 g3 g4 ?_))
 rw [if_pos (show (Value.ref T != .none)=true by simp)]
 refine wpAny_setField g8 g9 (Array.getElem?_eq_some_iff.mp g10).1 (wpAny_throw ⟨rfl,?_⟩)
 have oth:∀ b,b≠T→(s.heap.update T (Obj.mapFields fun z=>z.setIfInBounds 3 (cenv.frame.elim Value.none fun f=>rawInt f))).get? b=s.heap.get? b:=fun b hb'=>Heap.get?_update_other _ _ (Ne.symm hb')
 have nT:∀ b o,s.heap.get? b=some o→(∀ z,o.data≠.fields z)→b≠T:=fun b o q hn z=>by
  rw [z,g8] at q;cases q;exact hn ts g9
 have sz:3 < ts.size:=(Array.getElem?_eq_some_iff.mp g10).1
 refine leave_at (base:=PySem.W.hideAll s.heap (ea::([T]++frs (env::outer)))) (cls:=.ref C) (a0:=a0) (v:=cenv.frame.elim Value.none fun f=>rawInt f) hA (FF'.of_keeps fun b o q hn=>⟨o,(oth b (nT b o q hn)).trans q,rfl⟩) hL
  ⟨oe,vs,T,_,_,(oth ea (Ne.symm g5)).trans g1,⟨g2,g20⟩,g3,g4,PySem.W.hideAll_none _ (by simp),g5,Heap.get?_update_self _ g8 (Obj.isFreed_of_fields (Obj.data_mapFields g9 _)),Obj.data_mapFields g9 _,by simp [sz]⟩
  (fun b o q=>(oth b fun z=>(by rw [z,PySem.W.hideAll_none _ (by simp)] at q;cases q)).trans (PySem.W.of_hideAll _ q)) (PySem.W.hideAll_none _ (by simp)) fun h' x=>?_
 obtain ⟨a,b,c⟩:=left_ok (h':=h') (C:=C) (a0:=a0) (hid:=[T]) FF u hok hfr hfr2 he1 heH (fun b hb=>by rw [List.mem_singleton.mp hb];exact ⟨g6,g7⟩) ⟨x.1,x.2.1,x.2.2.1,fun b o q hn=>x.2.2.2 b o ((oth b (nT b o q hn)).trans q) hn⟩
 exact k h' a b c
end
end
def PassA (X:Cx) (E:XK):Prop:=∀ (pins:List (Addr × Obj)) (σ:St) (H':Hp) (s':Shared) (ea C:Addr) (fl:Value) (cenv:Env),Inv X pins σ H' s'→FlyM X.s₀.heap H' s'.heap ea C fl→E (.ref ea) (some C) H' →
 wpAny (model X.prog X.w) X.A (PySem.passOn "comprehension.variables-let-go" (.ref ea) cenv:Sem Value) (fun _ _=>False) X.xe s'
theorem passA {P:Program} {w:World} {K:PySem.W.Frag} {mg:Str→Option Value} {base:Heap} {N:List Str} {qual:Str} {scope:Scope} {f:Addr} {cd:Value} {A:Around} {outer:List Env} {s:Shared} {H:Hp} {E:XK}:PassA (cxOf (CXx P w) P w K mg base N qual scope f cd A outer s H E) E:=by
 intro pins σ H' s' ea C fl cenv J hf hE
 have hsub:=J.stkSub
 have hfree:=J.stkFree
 have hst:=J.stack
 have hfrm:=J.ok.frames
 refine wpAny_mono (pass_leave (P:=P) (w:=w) (fr:=frs outer) (H1:=H) (H':=H') (h1:=s.heap) (base:=base) (E:=fun e' s''=>CXx P w outer H s E e' s'') (Q:=fun _ s''=>CXx P w outer H s E (.ref ea) s'') (env:=envOfC qual scope s.heap.objs.size f cd) (outer:=outer) hfrm rfl hst J.base J.hok (fun b hb=>⟨hfree b hb,?_⟩) (fun b hb=>List.mem_cons_of_mem _ hb) hf fun h' a b c=>?_) (fun _ _ z=>z) fun e s2 z=>?_
 ·rcases List.mem_cons.mp (hsub b hb) with z | z
  ·right
   rw [z]
   exact Heap.get?_none_of_le (Nat.le_refl _)
  ·exact .inl z
 ·exact ⟨ea,C,H',rfl,J.os,J.bare,a,b,c,hE⟩
 ·obtain ⟨rfl,z⟩:=z
  exact z
def cxCompE (X:Cx) (N:List Str) (scope:Scope) (cl:List (Str × Addr)) (C:Addr) (ex:List Addr) (s:Shared) (H:Hp) (E:XK):Cx :=
 { cxComp X N scope cl C ex s H with xe:=fun e s'=>∃ (pins:List (Addr × Obj)) (σ:St) (H1:Hp) (s1:Shared),Inv (cxComp X N scope cl C ex s H) pins σ H1 s1∧CXx X.prog X.w X.stack H1 s1 E e s' }
section
variable {X:Cx} {N:List Str} {scope:Scope} {cl:List (Str × Addr)} {C:Addr} {ex:List Addr} {s:Shared} {H:Hp} {E:XK} {pins:List (Addr × Obj)} {σ:St} {H':Hp} {s':Shared}
theorem Inv.unE (I:Inv (cxCompE X N scope cl C ex s H E) pins σ H' s'):Inv (cxComp X N scope cl C ex s H) pins σ H' s' :=
 ⟨⟨I.ok.mod,I.ok.kind,I.ok.glob,I.ok.blt,I.ok.above,I.ok.inj,I.ok.has,I.ok.cab,I.ok.hd,I.ok.frames,I.ok.stk,I.ok.exf,I.ok.bs,I.ok.bsz,I.ok.noex,I.ok.exfs,I.ok.funs,I.ok.frf⟩,I.os,I.bare,I.base,I.loc,I.cell,I.free,I.freeC,I.pin,I.hok,I.len⟩
theorem Inv.toE (I:Inv (cxComp X N scope cl C ex s H) pins σ H' s'):Inv (cxCompE X N scope cl C ex s H E) pins σ H' s' :=
 ⟨⟨I.ok.mod,I.ok.kind,I.ok.glob,I.ok.blt,I.ok.above,I.ok.inj,I.ok.has,I.ok.cab,I.ok.hd,I.ok.frames,I.ok.stk,I.ok.exf,I.ok.bs,I.ok.bsz,I.ok.noex,I.ok.exfs,I.ok.funs,I.ok.frf⟩,I.os,I.bare,I.base,I.loc,I.cell,I.free,I.freeC,I.pin,I.hok,I.len⟩
theorem passE:Passes (CXx X.prog X.w) (cxCompE X N scope cl C ex s H E) E:=fun pins σ H1 s1 e s' I hx=>⟨pins,σ,H1,s1,I.unE,hx⟩
end
section
variable {prog:Program} {w:World} {A:Around} {R:Result→Shared→Prop} {s:Shared}
theorem comp_turnsX {elt tg iter:Expr} {scope:Scope} {pos:Pos} {it acc:Value} {env:Env} {EE:Value→Shared→Prop} (hE:∀ e s',EE e s'→notedBy (model prog w) A env (fun x s''=>R (.error x) s'') e s') (I:Nat→Shared→Prop)
  (turn:∀ n s,I n s→wpAny (model prog w) A (pyNext it) (fun r s1=>match r with
   | none=>R (.ok .next) s1
   | some v=>wpAny (model prog w) A (letOwnedTupleGo tg it v) (fun _ s2=>wpAny (model prog w) A (assign tg env v) (fun _ s3=>wpAny (model prog w) A (eval elt env) (fun x s4 =>
     wpAny (model prog w) A (call (.builtin "list.append") [acc,x]) (fun _ s5=>∃ m,m < n∧I m s5) EE s4) EE s3) EE s2) noE s1) noE s)
  (n:Nat) (h:I n s):codeAny (model prog w) A (.compLoop (.ListComp elt [⟨tg,iter,[],0⟩] scope pos) 0 it acc env) R s:=by
 have no:∀ (P:Value→Shared→Prop) (a:Value) (b:Shared),noE a b→P a b:=fun _ _ _ z=>False.elim z
 refine codeAny_loop rfl I (fun n s hI=>?_) n h
 show wpAny _ _ ((compTurn (.ListComp elt [⟨tg,iter,[],0⟩] scope pos) 0 it acc env).onRaise
  (fun x=>do noteFrame x env;theTreesLotGoes x)) _ _ s
 refine wpAny_noted ?_
 rw [compTurn_list1]
 refine wpAny_bind (wpAny_standAt (wpAny_bind (wpAny_mono (turn n s hI) (fun r s1 h1=>?_) (no _))))
 cases r with
 | none=>exact wpAny_pure h1
 | some v =>
  refine wpAny_bind (wpAny_mono h1 (fun _ s2 h2=>?_) (no _))
  refine wpAny_bind (wpAny_mono h2 (fun _ s3 h3=>?_) hE)
  refine wpAny_bind (wpAny_bind (wpAny_mono h3 (fun x s4 h4=>?_) hE))
  exact wpAny_bind (wpAny_mono h4 (fun _ s5 h5=>wpAny_pure (wpAny_pure ⟨rfl,h5⟩)) hE)
end
section
variable {X:Cx} {pins:List (Addr × Obj)} {σ:St} {H:Hp} {s:Shared} {N:List Str} {ix:List (Option Nat)} {scope:Scope} {elt iter tg:Expr} {pos:Pos} {g:TG} {te:TE} {E:Value→Shared→Prop}
theorem comp_blockX {E0:XK} {it:Addr} {fp:List Addr} {tn:Nat→Heap→Prop} {J:It} {Qe:Addr→Hp→Prop} {RR:Value→Addr→Result→Shared→Prop} (hc:X.calm=true) (S:CompS X.N X.env.scope N ix scope)
  (hfr:X.env.frame=some X.env.locals) (hstk:X.stack=X.env::X.outer) (hex:X.ex=[]) (hg:∀ cl C ex s H,PG (cxCompE X N scope cl C ex s H E0) tg g) (he:∀ cl C ex s H,PE (cxCompE X N scope cl C ex s H E0) elt te)
  (I:Inv X pins σ H s) (T:Turn X.prog X.w X.K tg J fp it tn) (st:tn 0 s.heap) (hf:∀ b∈fp,FpOk X pins H b)
  (hw:∀ l,H l=none→compW ix J g te σ l (upd H l (.lst [])) (Qe l))
  (hRR:∀ l C s' H' m,s'.heap.Ns C m→Inv X pins σ H' s'→FpOk X pins H' C→Qe l H'→RR (.ref l) C (.ok .next) s')
  (hRX:∀ l C s' H' m ea Ce,s'.heap.Ns C m→Inv X pins σ H' s'→FpOk X pins H' C→FlyM X.s₀.heap H' s'.heap ea Ce (rawInt X.env.locals)→E0 (.ref ea) (some Ce) H'→RR (.ref l) C (.error (.ref ea)) s') :
  wpAny (model X.prog X.w) X.A (newList []) (fun acc s3=>wpAny (model X.prog X.w) X.A (newFunctionEnv scope X.env.globals (closeL X.env.cells scope.names []) [] X.env.qual none .none (some X.env)) (fun cenv s4 =>
   codeAny (model X.prog X.w) X.A (.compStart (.ListComp elt [⟨tg,iter,[],0⟩] scope pos) 0 (.ref it) acc { cenv with scope:=relabel scope X.env }) (RR acc cenv.locals) s4) E s3) E s:=by
 have hlt:∀ b∈fp,b < s.heap.objs.size:=fun b hb=>by
  obtain ⟨o,e,_⟩:=T.obj 0 s.heap st b hb
  exact Heap.lt_size e
 have hl0:H s.heap.objs.size=none:=I.fresh
 obtain ⟨W,⟨m0,w0⟩,turn⟩:=hw s.heap.objs.size hl0
 refine wpAny_newObj_type ?_
 generalize hs3:({ s with heap:=s.heap.push { cls:=.type "list",dict:=none,data:=.seq ([]:List Value).toArray } }:Shared)=s3
 have I3:Inv X pins σ (upd H s.heap.objs.size (.lst [])) s3:=by
  rw [←hs3]
  exact I.lnew (its:=[]) (t':=s.toks) .nil (Nat.zero_le _)
 have k3:∀ b o,s.heap.get? b=some o→s3.heap.get? b=some o:=fun b o e=>by
  rw [←hs3];exact Heap.get?_push_of_some _ e
 have sz3:s3.heap.objs.size=s.heap.objs.size+1:=by rw [←hs3];exact Heap.size_push ..
 have lnfp:s.heap.objs.size∉fp:=fun hb=>Nat.lt_irrefl _ (hlt _ hb)
 have st3:tn 0 s3.heap:=T.keep 0 _ _ st fun b _ o e=>k3 b o e
 have hf3:∀ b∈fp,FpOk X pins (upd H s.heap.objs.size (.lst [])) b:=fun b hb=>by
  obtain ⟨f0,f⟩:=hf b hb
  have nb:b≠s.heap.objs.size:=fun e=>lnfp (by rw [←e];exact hb)
  exact ⟨by rw [upd_ne nb];exact f0,f⟩
 have hlt3:∀ b∈fp,b < s3.heap.objs.size:=fun b hb=>by rw [sz3];exact Nat.lt_succ_of_lt (hlt b hb)
 clear hs3
 refine wpAny_newFunctionEnv S.nocell (by intro y hy;simp at hy) (fun h1 hn1 hb1=>?_) S.kind
 have hk1:∀ b o,s3.heap.get? b=some o→h1.get? b=some o:=fun b o e =>
  (hb1.2 b (Nat.ne_of_lt (Heap.lt_size e))).trans (Heap.get?_push_of_some _ e)
 have J0:Inv (cxCompE X N scope (closeL X.env.cells scope.names []) s3.heap.objs.size fp s3 (upd H s.heap.objs.size (.lst [])) E0) [] (compSt ix σ) (upd H s.heap.objs.size (.lst [])) { s3 with heap:=h1,toks:=s3.toks+([]:List (Str × Value)).length } :=
  (comp_inv I3 S rfl hf3 hlt3 hn1 hk1).toE
 have st1:tn 0 h1:=T.keep 0 _ _ st3 fun b _ o e=>hk1 b o e
 have fpY:∀ {Hc:Hp},(∀ b∈fp,Hc b=none)→∀ b∈fp,FpOk (cxCompE X N scope (closeL X.env.cells scope.names []) s3.heap.objs.size fp s3 (upd H s.heap.objs.size (.lst [])) E0) [] Hc b:=fun {Hc} hn b hb=>by
  obtain ⟨_,f1,f2,_,f4,_⟩:=hf3 b hb
  refine ⟨hn b hb,Nat.ne_of_lt (hlt3 b hb),fun hb2=>(List.mem_cons.mp (I3.stkSub b hb2)).elim f1 f2,.inl hb,fun x c e=>f4 x c (comp_look I3 S e),fun p hp=>absurd (show p∈([]:List (Addr × Obj)) from hp) (by simp)⟩
 have loop:∀ s4:Shared,s4=({ s3 with heap:=h1,toks:=s3.toks+([]:List (Str × Value)).length }:Shared)→codeAny (model X.prog X.w) X.A (.compLoop (.ListComp elt [⟨tg,iter,[],0⟩] scope pos) 0 (.ref it) (.ref s.heap.objs.size)
   (compEnvC scope (closeL X.env.cells scope.names []) s3.heap.objs.size X.env)) (RR (.ref s.heap.objs.size) s3.heap.objs.size) s4:=by
  intro s4 hs4
  subst hs4
  refine comp_turnsX (EE:=(cxCompE X N scope (closeL X.env.cells scope.names []) s3.heap.objs.size fp s3 (upd H s.heap.objs.size (.lst [])) E0).xe) (fun e s' z=>?_) (fun n s'=>∃ i ys Hc,Inv (cxCompE X N scope (closeL X.env.cells scope.names []) s3.heap.objs.size fp s3 (upd H s.heap.objs.size (.lst [])) E0) [] (compSt ix σ) Hc s'∧tn i s'.heap∧(∀ b∈fp,Hc b=none)∧Hc s.heap.objs.size=some (.lst ys)∧W i n ys Hc) ?_ m0 ⟨0,[],_,J0,st1,fun b hb=>(hf3 b hb).1,upd_same,w0⟩
  ·obtain ⟨pins',σ',H1,s1,J1,ea,Ce,H',rfl,os,bare,un,hok,fly,hEE⟩:=z
   have J:=J1.call' (ch:=[]) os un hok bare (fun b z=>absurd z (by simp))
   have FF:s'.heap.FunFrames X.base (X.env::X.outer):=by rw [←hstk];exact J.stack
   have un':Un (frs (X.env::X.outer)) [] H1 H' s1.heap s'.heap:=by rw [←hstk];exact un
   have hfree:∀ b∈frs (X.env::X.outer),H' b=none∧(b∈frs (X.env::X.outer)∨s1.heap.get? b=none):=fun b hb=>⟨J.stkFree b (by show b∈frs X.stack;rw [hstk];exact hb),.inl hb⟩
   show wpAny (model X.prog X.w) X.A (noteFrame (.ref ea) X.env) _ _ s'
   refine noted_ok (P:=X.prog) (w:=X.w) (fr:=frs (X.env::X.outer)) (H1:=H1) (H':=H') (h1:=s1.heap) (base:=X.base) (outer:=X.outer) (L:=X.env.locals) (by rw [I.ok.frames,hstk]) hfr FF un' hok hfree (fun b hb=>hb) fly fun h2 u2 k2 f2 _=>?_
   have J2:=J1.call' (s':={ s' with heap:=h2 }) (ch:=[]) os (by show Un (frs X.stack) [] H1 H' s1.heap h2;rw [hstk];exact u2) k2 bare (fun b z=>absurd z (by simp))
   have I6:Inv X pins σ H' { s' with heap:=h2 }:=I3.call' (ch:=fp) J2.os J2.base J2.hok J2.bare fun b hb=>by
    obtain ⟨_,f1,f2,f3,f4,f5⟩:=hf3 b hb
    exact ⟨f3,f1,f4,f5⟩
   obtain ⟨m6,hn6,_⟩:=J2.loc
   have up:∀ b,s1.heap.get? b=none→X.s₀.heap.get? b=none:=fun b z=>by
    cases q:X.s₀.heap.get? b with
    | none=>rfl
    | some o =>
     obtain ⟨o3,e3⟩:=I3.base.there b o q (by rw [hex];simp)
     obtain ⟨o4,e4⟩:=J1.base.there b o3 e3 (fun hb=>by
      obtain ⟨_,_,_,f3,_⟩:=hf3 b hb
      rcases f3 with f3 | f3
      ·rw [hex] at f3;cases f3
      ·exact absurd (Nat.lt_of_lt_of_le (Heap.lt_size q) f3) (Nat.lt_irrefl _))
     rw [z] at e4;cases e4
   obtain ⟨a1,a2,a0,oe,vs,T,oT,ts,g1,g2,g3,g4,g5,g6,r⟩:=f2
   exact hRX _ _ _ H' m6 ea Ce hn6 I6 (I3.fpOk (Nat.le_refl _) J2.free) ⟨up _ a1,a2,a0,oe,vs,T,oT,ts,g1,g2,g3,g4,g5,up _ g6,r⟩ hEE
  rintro n s5 ⟨i,ys,Hc,J5,st5,fr5,hl5,w5⟩
  rcases turn i n ys Hc w5 hl5 with ⟨stop,qe⟩ | ⟨go,hz,NN,hNN,step⟩
  ·refine thn (T.done (cxCompE X N scope (closeL X.env.cells scope.names []) s3.heap.objs.size fp s3 (upd H s.heap.objs.size (.lst [])) E0) rfl rfl rfl hc i [] s5 _ Hc noE J5 (fpY fr5) st5 stop) fun r s6 ⟨hr,J6⟩=>?_
   subst hr
   have I6:Inv X pins σ Hc s6:=I3.call' (ch:=fp) J6.os J6.base J6.hok J6.bare fun b hb=>by
    obtain ⟨_,f1,f2,f3,f4,f5⟩:=hf3 b hb
    exact ⟨f3,f1,f4,f5⟩
   obtain ⟨m6,hn6,_⟩:=J6.loc
   exact hRR _ _ s6 Hc m6 hn6 I6 (I3.fpOk (Nat.le_refl _) J6.free) qe
  ·refine thn (T.item (cxCompE X N scope (closeL X.env.cells scope.names []) s3.heap.objs.size fp s3 (upd H s.heap.objs.size (.lst [])) E0) rfl rfl rfl hc i [] s5 _ Hc noE J5 (fpY fr5) st5 go) fun r s6 ⟨u,hr,h6⟩=>?_
   subst hr
   refine thn h6 fun _ s7 ⟨x,H7,J7,r7,y7,st7,fr7⟩=>?_
   have J7':=J7.pinned (fpY fr7) (T.obj _ _ st7)
   refine thn (hg _ _ _ _ _ _ s7 _ H7 x u _ J7' r7 (step x H7 y7)) fun _ s8 ⟨σ8,H8,J8,q8⟩=>?_
   refine wpAny_mono (he _ _ _ _ _ _ s8 σ8 H8 _ J8 q8) (fun y s9 ⟨v,H9,J9,r9,hl9,n9⟩=>?_) fun _ _ z=>z
   obtain ⟨m',hm',w9⟩:=hNN _ _ n9
   refine thn (mt_append (X:=cxCompE X N scope (closeL X.env.cells scope.names []) s3.heap.objs.size fp s3 (upd H s.heap.objs.size (.lst [])) E0) _ s9 σ8 H9 (.ref s.heap.objs.size) [v] (.ref s.heap.objs.size) [y]
    (fun z Hz=>z=.non∧Hz=upd H9 s.heap.objs.size (.lst (ys++[v]))) J9 rfl (.cons r9 .nil) ⟨_,ys,v,rfl,rfl,hl9,hz,rfl,rfl⟩) fun _ s10 ⟨_,H10,J10,_,_,e10⟩=>?_
   subst e10
   have len8:(compSt ix σ).length=σ8.length:=by
    rw [J10.len]
    unfold compSt
    rw [List.length_map]
    exact S.len
   refine ⟨m',hm',i+1,ys++[v],_,?_,T.keep _ _ _ st7 fun b hb o e=>(J10.pin (b,o) (List.mem_append_right _ (List.mem_append_right _ (mem_pinsAt hb e)))).1,fun b hb=>?_,upd_same,w9⟩
   ·exact (comp_again I3 S J10.unE).toE
   ·obtain ⟨o,e,d⟩:=T.obj _ _ st7 b hb
    exact (J10.pin (b,o) (List.mem_append_right _ (List.mem_append_right _ (mem_pinsAt hb e)))).2.1
 exact codeAny_compStart_list (loop _ rfl) (T.self _ 0 _ _ _ st1 (loop _ rfl))
theorem ps_compX {E0:XK} {wi:TI} {i:Nat} {x:Str} {spos pos':Pos} (hc:X.calm=true) (S:CompS X.N X.env.scope N ix scope) (hi:PI X tg iter wi) (hfr:X.env.frame=some X.env.locals) (hstk:X.stack=X.env::X.outer) (hex:X.ex=[]) (hpa:PassA X E0)
  (hg:∀ cl C ex s H,PG (cxCompE X N scope cl C ex s H E0) tg g) (he:∀ cl C ex s H,PE (cxCompE X N scope cl C ex s H E0) elt te)
  (hN:X.N.Nodup) (hx:X.N[i]?=some x) (hl:X.env.scope.names.lookup x=some .local)
  (hsw:swapsWith (.ListComp elt [⟨tg,iter,[],0⟩] scope pos) (some (.Name x pos')) spos.line X.env=pure true:=by rfl)
  (hs:∀ x,foldedSetIterable iter X.env x=pure x:=by intro _;rfl):PS X (.Assign [.Name x pos'] (.ListComp elt [⟨tg,iter,[],0⟩] scope pos) spos) (tAsg (tComp ix wi g te) (gName i)):=by
 intro pins s σ H D I h
 rw [exec_Assign_Name_used _ _ _ _ hsw]
 refine wpAny_bind (wpAny_standAt (wpAny_bind ?_))
 show wpAny _ _ (comprehension (.ListComp elt [⟨tg,iter,[],0⟩] scope pos) scope X.env _ (newList []) false (eval iter X.env) (some (assign (.Name x pos') X.env)) >>= fun _=>pure ()) _ _ s
 refine wpAny_bind (wpAny_mono (wpAny_comprehension_free (use:=some (assign (.Name x pos') X.env)) (Q:=fun _ s'=>SP X pins D .next s') rfl hs (closureFor_run (comp_cells I S)) S.kind S.names
  (thn (hi pins s σ H _ I h) fun v s1 h1=>thn h1 fun itv s2 h2=>?_)) (fun _ s' q=>wpAny_pure (wpAny_pure q)) fun _ _ e=>e)
 obtain ⟨it,fp,tn,J,H2,e,I2,T,st2,f2,hw⟩:=h2
 subst e
 refine comp_blockX (RR:=fun acc C=>compPost (model X.prog X.w) X.A X.xe (some (assign (.Name x pos') X.env)) (fun _ s'=>SP X pins D .next s') acc C) hc S hfr hstk hex hg he I2 T st2 f2 hw (fun l C s' H' m hn I' fC q=>?_) fun l C s' H' m ea Ce hn I' fC fly hE=>⟨m,hn,fun h' hs' cenv _=>?_⟩
 ·obtain ⟨c0,c1,c2,c3,c4,c5⟩:=fC
  show wpAny _ _ (assign (.Name x pos') X.env (.ref l)) _ _ _
  refine wpAny_assign_Name (store_ok2 I' hN hx (.inl hl) (v:=.ref l) rfl (fun s'' I'' ⟨a,sb,ha⟩=>?_) (.inr hl))
  have haC:C≠a:=by
   rcases ha with ha | ha
   ·rw [ha];exact c1
   ·exact fun z=>c4 x a ha z.symm
  refine ⟨m,hn.sameBut sb haC,fun h' hs'=>?_⟩
  exact ⟨_,H',I''.turned (t':=s''.toks) (fun b o hb e=>(hs'.2 b hb).trans e) c0 c1 c3 c4 c5,q⟩
 ·obtain ⟨c0,c1,c2,c3,c4,c5⟩:=fC
  have I2':=I'.turned (t':=s'.toks) (h':=h') (fun b o hb e=>(hs'.2 b hb).trans e) c0 c1 c3 c4 c5
  obtain ⟨oC,_,_,eC,dC,_⟩:=hn
  have nC:∀ b o vs,s'.heap.get? b=some o→o.data=.fields vs→b≠C:=fun b o vs e d z=>by
   rw [z,eC] at e;cases e;rw [dC] at d;cases d
  obtain ⟨a1,a2,a0,oe,vs,T,oT,ts,g1,g2,g3,g4,g5,g6,g7,g8,g9,g10⟩:=fly
  exact hpa pins σ H' { s' with heap:=h' } ea Ce _ cenv I2' ⟨a1,a2,a0,oe,vs,T,oT,ts,(hs'.2 _ (nC _ _ _ g1 g3)).trans g1,g2,g3,g4,g5,g6,g7,(hs'.2 _ (nC _ _ _ g8 g9)).trans g8,g9,g10⟩ hE
end
end L2

set_option Elab.async false
set_option linter.all false
set_option maxRecDepth 100000
set_option maxHeartbeats 4000000
namespace L2
open PySem PySem.Spec PyProof.Rows
/-! ### the table of a set: its places rise,the walk goes through all of them -/
def Ris (xs:Array Nat):Prop:=xs.toList.Pairwise (· < ·)
section
variable {M:Model} {A:Around} {E:Value→Shared→Prop}
end
end L2

set_option Elab.async false
set_option linter.all false
set_option maxRecDepth 100000
set_option maxHeartbeats 4000000
namespace L2
open PySem PySem.Spec PyProof.Rows
/-! ### a set of ints by the list of its members -/
def led0 (w:World):Bool:=!w.params.followText "set-order"
structure Sit (prog:Program) (w:World) (es:Array (Int × Value)) (t:SetTable) (ks:List Int):Prop where
 elems:ElemsOf (intKind prog w) es.toList
 keysI:IntsAre (es.toList.map (·.2)) ks
 fits:t.fits es.size=true
 led:t.led=led0 w
 ris:Ris t.place
def SetI (prog:Program) (w:World) (h:Heap) (a:Addr) (ks:List Int):Prop :=
 ∃ o es ep t,h.get? a=some o∧o.ExactSet∧o.data=.set es ep t∧Sit prog w es t ks
section
variable {prog:Program} {w:World} {A:Around} {E:Value→Shared→Prop} {s:Shared}
end
section
variable {prog:Program} {w:World} {A:Around} {R:Result→Shared→Prop} {I:Addr} {fp wr:List Addr} {G:Array GenState→Array GenState→Prop} {n:Nat} {P:Nat→Value→Prop} {St:Nat→Shared→Prop}
end
section
variable {prog:Program} {w:World} {A:Around} {E:Value→Shared→Prop} {s:Shared}
end
end L2

set_option Elab.async false
set_option linter.all false
set_option maxRecDepth 100000
set_option maxHeartbeats 4000000
namespace L2
open PySem PySem.Spec PyProof.Rows
/-! ### a set is walked through -/
namespace SF
end SF
section
variable {prog:Program} {w:World} {A:Around} {E:Value→Shared→Prop} {s:Shared} {it a:Addr} {es:Array (Int × Value)} {ep:Nat} {t:SetTable} {i:Nat}
end
end L2

set_option Elab.async false
set_option linter.all false
set_option maxRecDepth 100000
set_option maxHeartbeats 4000000
namespace L2
open PySem PySem.Spec PyProof.Rows
section
variable {prog:Program} {w:World} {A:Around} {E:Value→Shared→Prop} {s:Shared} {it a:Addr} {es:Array (Int × Value)} {ep:Nat} {t:SetTable} {i:Nat}
end
/-! the iteration of a set,by its roads -/
section
variable {prog:Program} {w:World} {A:Around} {es:Array (Int × Value)} {ep:Nat} {t:SetTable}
end
section
variable {prog:Program} {w:World} {A:Around} {E:Value→Shared→Prop} {s:Shared} {it a:Addr} {es:Array (Int × Value)} {ep:Nat} {t:SetTable} {i:Nat}
end
end L2

set_option Elab.async false
set_option linter.all false
set_option maxRecDepth 100000
set_option maxHeartbeats 4000000
namespace L2
open PySem PySem.Spec PyProof.Rows
section
variable {prog:Program} {w:World} {A:Around} {E:Value→Shared→Prop} {s:Shared} {a:Nat} {es:Array (Int × Value)} {ep:Nat} {t:SetTable}
end
end L2

set_option Elab.async false
set_option linter.all false
set_option maxRecDepth 100000
set_option maxHeartbeats 4000000
namespace L2
open PySem PySem.Spec PyProof.Rows PySem.SeqAt
open PySem.AutoSeq1 (wpAny_loadPart')
/-! ### set(list of ints),sorted(set) -/
def SetO (P:Program) (w:World) (a:Addr) (ks:List Int):HO:=.ext fun h=>SetI P w h a ks
section
variable {X:Cx} (K:PySem.W.Frag)
end
end L2

set_option Elab.async false
set_option linter.all false
set_option maxRecDepth 100000
set_option maxHeartbeats 4000000
namespace Gu
open PySem L2
/-! ### machines that go round;the rows behind all words of a length -/
/-! promises -/
end Gu
namespace L2
open PySem PySem.Spec PyProof.Rows
end L2
namespace L2
open PySem PySem.Spec PyProof.Rows
end L2
namespace Gu
open PySem L2
end Gu

set_option Elab.async false
set_option linter.all false
set_option maxRecDepth 100000
set_option maxHeartbeats 4000000
namespace L2
open PySem PyProof.Rows
/-! ### the whole sort: any count of things,any order -/
structure SOrd {α:Type} (lt:α→α→Bool):Prop where
 asy:∀ a b,lt a b=true→lt b a=false
 tr:∀ a b c,lt b a=false→lt c b=false→lt c a=false
 an:∀ a b,lt a b=false→lt b a=false→a=b
theorem SOrd.refl {α:Type} {lt:α→α→Bool} (h:SOrd lt) (a:α):lt a a=false:=by
 cases e:lt a a with
 | false=>rfl
 | true=>rw [h.asy a a e] at e;cases e
def Asks {α:Type} (prog:Program) (w:World) (A:Around) (E:Value→Shared→Prop) (s:Shared) (kd:SortKind) (S:List Keyed) (kf:Keyed→α) (lt:α→α→Bool):Prop :=
 ∀ (st:SortSt) (x y:Keyed) (Q:Option Bool→SortSt→Prop),kindOf st=kd→x∈S→y∈S→Q (some (lt (kf x) (kf y))) st→wpS (model prog w) A E s (lt' x y) Q st
def gallop':Bool→Keyed→Array Keyed→Nat→Nat→Nat→StateT SortSt Sem (Option Nat):=sortPriv% PySem.Builtin.gallop
section
variable {prog:Program} {w:World} {A:Around} {E:Value→Shared→Prop} {s:Shared} {α:Type} {kf:Keyed→α} {lt:α→α→Bool} {kd:SortKind} {S:List Keyed}
def bey (kf:Keyed→α) (lt:α→α→Bool) (left:Bool) (key x:Keyed):Bool:=if left then lt (kf x) (kf key) else !lt (kf key) (kf x)
theorem wpS_bey (hA:Asks prog w A E s kd S kf lt) {st:SortSt} (hk:kindOf st=kd) {left:Bool} {key x:Keyed} {arr:Array Keyed} {i:Nat} (hx:arr[i]?=some x) (hxS:x∈S) (hkS:key∈S) {Q:Option Bool→SortSt→Prop} (h:Q (some (bey kf lt left key x)) st) :
  wpS (model prog w) A E s (elem' arr i >>= fun x=>ite (left=true) (lt' x key) (lt' key x >>= fun r=>pure (r.map not))) Q st:=by
 rw [elem'_eq,hx]
 refine wpS_bind (wpS_pure ?_)
 cases left with
 | true =>
  simp only [if_true]
  exact hA st x key Q hk hxS hkS h
 | false =>
  simp only [Bool.false_eq_true,if_false]
  exact wpS_bind (hA st key x _ hk hkS hxS (wpS_pure h))
theorem wpS_gallop (hA:Asks prog w A E s kd S kf lt) {st:SortSt} (hk:kindOf st=kd) {left:Bool} {key:Keyed} {arr:Array Keyed} {base n hint:Nat} (hkS:key∈S)
  (hx:∀ i,i < n→∃ x,arr[base+i]?=some x∧x∈S) (P:Nat→Bool) (hP:∀ i x,i < n→arr[base+i]?=some x→bey kf lt left key x=P i)
  (mono:∀ i j,i≤j→j < n→P j=true→P i=true) (hh:hint < n) {Q:Option Nat→SortSt→Prop}
  (h:∀ k,k≤n→(∀ i,i < k→P i=true)→(∀ i,k≤i→i < n→P i=false)→Q (some k) st) :
  wpS (model prog w) A E s (gallop' left key arr base n hint) Q st:=by
 have nmono:∀ i j,i≤j→j < n→P i=false→P j=false:=fun i j hij hj hi=>by
  cases e:P j with
  | false=>rfl
  | true=>rw [mono i j hij hj e] at hi;cases hi
 have ask:∀ i,i < n→∀ {st':SortSt},st'=st→∀ {Q:Option Bool→SortSt→Prop},Q (some (P i)) st→wpS (model prog w) A E s (elem' arr (base+i) >>= fun x=>ite (left=true) (lt' x key) (lt' key x >>= fun r=>pure (r.map not))) Q st':=fun i hi st' e Q hq=>by
  subst e
  obtain ⟨x,e1,e2⟩:=hx i hi
  exact wpS_bey hA hk e1 e2 hkS (by rw [hP i x hi e1];exact hq)
 refine wpS_bind (ask hint hh rfl ?_)
 dsimp only
 cases eh:P hint
 rotate_left
 focus
  simp only [if_true]
  refine wpS_bind (wpS_mono (wpS_forRange (I:=fun x c st'=>st'=st∧∃ lo ofs,c=(none,lo,ofs)∧lo < ofs∧hint+lo < n∧P (hint+lo)=true∧x < ofs)
   (Q:=fun c st'=>st'=st∧∃ lo ofs,c=(none,lo,ofs)∧lo < ofs∧hint+lo < n∧P (hint+lo)=true∧(ofs ≥ n - hint∨P (hint+ofs)=false)) ?s1 ?f1 ⟨rfl,0,1,rfl,by omega,by omega,eh,by omega⟩) ?p1)
  case f1 =>
   rintro c st' ⟨rfl,lo,ofs,rfl,a1,a2,a3,a4⟩
   exact ⟨rfl,lo,ofs,rfl,a1,a2,a3,.inl (by omega)⟩
  case s1 =>
   rintro x c st' _ hxn ⟨rfl,lo,ofs,rfl,a1,a2,a3,a4⟩
   dsimp only
   by_cases c1:ofs ≥ n - hint
   ·rw [if_pos c1]
    exact wpS_pure ⟨rfl,lo,ofs,rfl,a1,a2,a3,.inl c1⟩
   ·rw [if_neg c1]
    refine wpS_bind (ask (hint+ofs) (by omega) rfl ?_)
    dsimp only
    cases e:P (hint+ofs) with
    | true =>
     simp only [Bool.not_true,Bool.false_eq_true,if_false]
     exact wpS_pure ⟨rfl,ofs,2*ofs+1,rfl,by omega,by omega,e,by omega⟩
    | false =>
     simp only [Bool.not_false,if_true]
     exact wpS_pure ⟨rfl,lo,ofs,rfl,a1,a2,a3,.inr e⟩
  rintro c st9 ⟨h9,lo,ofs,rfl,a1,a2,a3,a4⟩
  rw [h9]
  have q1:hint+lo+1≤hint+min ofs (n - hint):=by omega
  have q2:hint+min ofs (n - hint)≤n:=by omega
  have q3:∀ i,i < hint+lo+1→P i=true:=fun i hi=>mono i (hint+lo) (by omega) a2 a3
  have q4:∀ i,hint+min ofs (n - hint)≤i→i < n→P i=false:=fun i h1 h2=>by
   rcases a4 with a4 | a4
   ·omega
   ·exact nmono (hint+ofs) i (by omega) h2 a4
  dsimp only
 rotate_left
 focus
  simp only [Bool.false_eq_true,if_false]
  refine wpS_bind (wpS_mono (wpS_forRange (I:=fun x c st'=>st'=st∧∃ lo ofs,c=(none,lo,ofs)∧lo < ofs∧lo≤hint∧P (hint - lo)=false∧x < ofs)
   (Q:=fun c st'=>st'=st∧∃ lo ofs,c=(none,lo,ofs)∧lo < ofs∧lo≤hint∧P (hint - lo)=false∧(ofs ≥ hint+1∨P (hint - ofs)=true)) ?s2 ?f2 ⟨rfl,0,1,rfl,by omega,by omega,eh,by omega⟩) ?p2)
  case f2 =>
   rintro c st' ⟨rfl,lo,ofs,rfl,a1,a2,a3,a4⟩
   exact ⟨rfl,lo,ofs,rfl,a1,a2,a3,.inl (by omega)⟩
  case s2 =>
   rintro x c st' _ hxn ⟨rfl,lo,ofs,rfl,a1,a2,a3,a4⟩
   dsimp only
   by_cases c1:ofs ≥ hint+1
   ·rw [if_pos c1]
    exact wpS_pure ⟨rfl,lo,ofs,rfl,a1,a2,a3,.inl c1⟩
   ·rw [if_neg c1]
    refine wpS_bind (ask (hint - ofs) (by omega) rfl ?_)
    dsimp only
    cases e:P (hint - ofs) with
    | true =>
     simp only [if_true]
     exact wpS_pure ⟨rfl,lo,ofs,rfl,a1,a2,a3,.inr e⟩
    | false =>
     simp only [Bool.false_eq_true,if_false]
     exact wpS_pure ⟨rfl,ofs,2*ofs+1,rfl,by omega,by omega,e,by omega⟩
  rintro c st9 ⟨h9,lo,ofs,rfl,a1,a2,a3,a4⟩
  rw [h9]
  have q1:hint+1 - min ofs (hint+1)≤hint - lo:=by omega
  have q2:hint - lo≤n:=by omega
  have q3:∀ i,i < hint+1 - min ofs (hint+1)→P i=true:=fun i hi=>by
   rcases a4 with a4 | a4
   ·omega
   ·exact mono i (hint - ofs) (by omega) (by omega) a4
  have q4:∀ i,hint - lo≤i→i < n→P i=false:=fun i h1 h2=>nmono (hint - lo) i (by omega) h2 a3
  dsimp only
 all_goals
  refine wpS_bind (wpS_mono (wpS_forRange (I:=fun x c st'=>st'=st∧∃ lo hi,c=(none,lo,hi)∧lo≤hi∧hi≤n∧(∀ i,i < lo→P i=true)∧(∀ i,hi≤i→i < n→P i=false)∧hi - lo≤n - x)
   (Q:=fun c st'=>st'=st∧∃ k,c=(none,k,k)∧k≤n∧(∀ i,i < k→P i=true)∧(∀ i,k≤i→i < n→P i=false)) ?step ?fin' ⟨rfl,_,_,rfl,q1,q2,q3,q4,by omega⟩) ?post)
  case fin' =>
   rintro c st' ⟨rfl,lo,hi,rfl,a1,a2,a3,a4,a5⟩
   have:lo=hi:=by omega
   subst this
   exact ⟨rfl,lo,rfl,a2,a3,a4⟩
  case post =>
   rintro c st' ⟨rfl,k,rfl,a1,a2,a3⟩
   exact wpS_pure (h k a1 a2 a3)
  case step =>
   rintro x c st' _ hxn ⟨rfl,lo,hi,rfl,a1,a2,a3,a4,a5⟩
   dsimp only
   by_cases c1:lo ≥ hi
   ·rw [if_pos c1]
    have:lo=hi:=by omega
    subst this
    exact wpS_pure ⟨rfl,lo,rfl,a2,a3,a4⟩
   ·rw [if_neg c1]
    have hm:lo+(hi - lo) / 2 < hi:=by omega
    have hml:lo≤lo+(hi - lo) / 2:=Nat.le_add_right _ _
    have hmh:hi - (lo+(hi - lo) / 2+1)+1≤hi - lo∧lo+(hi - lo) / 2 - lo+1≤hi - lo:=by omega
    generalize lo+(hi - lo) / 2=m at hm hml hmh ⊢
    refine wpS_bind (ask m (by omega) rfl ?_)
    dsimp only
    cases e:P m with
    | true =>
     simp only [if_true]
     exact wpS_pure ⟨rfl,m+1,hi,rfl,by omega,a2,fun i hi'=>mono i m (by omega) (by omega) e,a4,by omega⟩
    | false =>
     simp only [Bool.false_eq_true,if_false]
     exact wpS_pure ⟨rfl,lo,m,rfl,hml,by omega,a3,fun i h1 h2=>nmono m i h1 h2 e,by omega⟩
end
end L2

set_option Elab.async false
set_option linter.all false
set_option maxRecDepth 100000
set_option maxHeartbeats 4000000
namespace L2
open PySem PyProof.Rows
def setMinGallop':Nat→StateT SortSt Sem Unit:=sortPriv% PySem.Builtin.setMinGallop
def mergeLo':Array Keyed→Array Keyed→StateT SortSt Sem (Array Keyed):=sortPriv% PySem.Builtin.mergeLo
section
variable {α:Type} (kf:Keyed→α) (lt:α→α→Bool)
def Sl (l:List Keyed):Prop:=l.Pairwise fun x y=>lt (kf y) (kf x)=false
structure MI (a b:Array Keyed) (out:Array Keyed) (ia ib:Nat):Prop where
 la:ia≤a.size
 lb:ib≤b.size
 so:Sl kf lt out.toList
 le:∀ x∈out.toList,∀ y∈a.toList.drop ia++b.toList.drop ib,lt (kf y) (kf x)=false
 pm:(out.toList++(a.toList.drop ia++b.toList.drop ib)).Perm (a.toList++b.toList)
end
section
variable {α:Type} {kf:Keyed→α} {lt:α→α→Bool}
theorem drop_cons {a:Array Keyed} {i:Nat} (h:i < a.size):a.toList.drop i=a[i]::a.toList.drop (i+1):=by
 rw [List.drop_eq_getElem_cons (by simpa using h)];simp
theorem MI.size {a b out:Array Keyed} {ia ib:Nat} (h:MI kf lt a b out ia ib):out.size=ia+ib:=by
 have:=h.pm.length_eq
 have h1:=h.la
 have h2:=h.lb
 simp at this
 omega
theorem sl_head {l:List Keyed} {i:Nat} {x:Keyed} (h:Sl kf lt l) (hx:l[i]?=some x):∀ y∈l.drop (i+1),lt (kf y) (kf x)=false:=fun y hy=>by
 obtain ⟨j,hj,e⟩:=List.mem_iff_getElem.mp hy
 rw [List.getElem_drop] at e
 obtain ⟨hi,ei⟩:=List.getElem?_eq_some_iff.mp hx
 have hj':i+1+j < l.length:=by simp at hj;omega
 have:=List.pairwise_iff_getElem.mp h i (i+1+j) hi hj' (by omega)
 rw [ei,e] at this
 exact this
theorem sl_drop {l:List Keyed} (h:Sl kf lt l) (i:Nat):Sl kf lt (l.drop i):=h.sublist (List.drop_sublist _ _)
theorem sl_le_drop (T:SOrd lt) {l:List Keyed} {i:Nat} {x y:Keyed} (h:Sl kf lt l) (hx:l[i]?=some x) (hy:lt (kf x) (kf y)=false):∀ z∈l.drop i,lt (kf z) (kf y)=false:=fun z hz=>by
 obtain ⟨hi,ei⟩:=List.getElem?_eq_some_iff.mp hx
 rw [List.drop_eq_getElem_cons hi,ei] at hz
 rcases List.mem_cons.mp hz with rfl | hz
 ·exact hy
 ·exact T.tr (kf y) (kf x) (kf z) hy (sl_head h hx z hz)
theorem MI.pushA {a b out:Array Keyed} {ia ib:Nat} (h:MI kf lt a b out ia ib) (sa:Sl kf lt a.toList) (hi:ia < a.size) (hle:∀ y∈b.toList.drop ib,lt (kf y) (kf a[ia])=false):MI kf lt a b (out.push a[ia]) (ia+1) ib:=by
 have e:=drop_cons hi
 have hx:a.toList[ia]?=some a[ia]:=by rw [Array.getElem?_toList,Array.getElem?_eq_getElem hi]
 refine ⟨hi,h.lb,?_,fun x hx' y hy=>?_,?_⟩
 ·rw [Array.toList_push]
  refine List.pairwise_append.mpr ⟨h.so,List.pairwise_singleton _ _,fun x hx' y hy=>?_⟩
  rw [List.mem_singleton.mp hy]
  exact h.le x hx' a[ia] (by rw [e];simp)
 ·rw [Array.toList_push,List.mem_append,List.mem_singleton] at hx'
  rcases hx' with hx' | rfl
  ·exact h.le x hx' y (by
    rcases List.mem_append.mp hy with z | z
    ·rw [e];simp [z]
    ·simp [z])
  ·rcases List.mem_append.mp hy with z | z
   ·exact sl_head sa hx y z
   ·exact hle y z
 ·have:=h.pm
  rw [e] at this
  rw [Array.toList_push,List.append_assoc]
  exact this
theorem MI.pushB {a b out:Array Keyed} {ia ib:Nat} (h:MI kf lt a b out ia ib) (sb:Sl kf lt b.toList) (hi:ib < b.size) (hle:∀ y∈a.toList.drop ia,lt (kf y) (kf b[ib])=false):MI kf lt a b (out.push b[ib]) ia (ib+1):=by
 have e:=drop_cons hi
 have hx:b.toList[ib]?=some b[ib]:=by rw [Array.getElem?_toList,Array.getElem?_eq_getElem hi]
 refine ⟨h.la,hi,?_,fun x hx' y hy=>?_,?_⟩
 ·rw [Array.toList_push]
  refine List.pairwise_append.mpr ⟨h.so,List.pairwise_singleton _ _,fun x hx' y hy=>?_⟩
  rw [List.mem_singleton.mp hy]
  exact h.le x hx' b[ib] (by rw [e];simp)
 ·rw [Array.toList_push,List.mem_append,List.mem_singleton] at hx'
  rcases hx' with hx' | rfl
  ·exact h.le x hx' y (by
    rcases List.mem_append.mp hy with z | z
    ·simp [z]
    ·rw [e];simp [z])
  ·rcases List.mem_append.mp hy with z | z
   ·exact hle y z
   ·exact sl_head sb hx y z
 ·have:=h.pm
  rw [e] at this
  rw [Array.toList_push,List.append_assoc]
  refine List.Perm.trans ?_ this
  refine List.Perm.append_left _ ?_
  rw [List.singleton_append]
  exact (List.perm_middle).symm
theorem MI.chunkA {a b out:Array Keyed} {ia ib:Nat} (sa:Sl kf lt a.toList) (h:MI kf lt a b out ia ib):∀ (k:Nat),ia+k≤a.size→(∀ i (hi:i < a.size),ia≤i→i < ia+k→∀ y∈b.toList.drop ib,lt (kf y) (kf a[i])=false)→MI kf lt a b (out++a.extract ia (ia+k)) (ia+k) ib
 | 0,_,_=>by
  have:a.extract ia (ia+0)=#[]:=by simp;omega
  rw [this,Array.append_empty]
  exact h
 | k+1,hk,hle=>by
  have ih:=MI.chunkA sa h k (by omega) fun i hi h1 h2=>hle i hi h1 (by omega)
  have:=ih.pushA sa (by omega:ia+k < a.size) (hle (ia+k) (by omega) (by omega) (by omega))
  have e:out++a.extract ia (ia+(k+1))=(out++a.extract ia (ia+k)).push a[ia+k]:=by
   have e1:=Array.push_extract_getElem (as:=a) (i:=ia) (j:=ia+k) (by omega)
   rw [Nat.min_eq_left (by omega)] at e1
   rw [←Array.append_push,show ia+(k+1)=(ia+k)+1 by omega,e1]
  rw [e]
  exact this
theorem MI.swap {a b out:Array Keyed} {ia ib:Nat} (h:MI kf lt a b out ia ib):MI kf lt b a out ib ia:=by
 refine ⟨h.lb,h.la,h.so,fun x hx y hy=>h.le x hx y ?_,?_⟩
 ·rcases List.mem_append.mp hy with z | z
  ·exact List.mem_append_right _ z
  ·exact List.mem_append_left _ z
 ·exact ((List.Perm.append_left _ List.perm_append_comm).trans h.pm).trans List.perm_append_comm
theorem MI.chunkB {a b out:Array Keyed} {ia ib:Nat} (sb:Sl kf lt b.toList) (h:MI kf lt a b out ia ib) (k:Nat) (hk:ib+k≤b.size) (hle:∀ i (hi:i < b.size),ib≤i→i < ib+k→∀ y∈a.toList.drop ia,lt (kf y) (kf b[i])=false):MI kf lt a b (out++b.extract ib (ib+k)) ia (ib+k) :=
 (MI.chunkA sb h.swap k hk hle).swap
def Mgd (kf:Keyed→α) (lt:α→α→Bool) (a b r:Array Keyed):Prop:=Sl kf lt r.toList∧r.toList.Perm (a.toList++b.toList)
theorem toList_ext (a:Array Keyed) (i:Nat):(a.extract i a.size).toList=a.toList.drop i:=by
 rw [Array.toList_extract,List.extract_eq_take_drop]
 exact List.take_of_length_le (by simp)
theorem MI.doneB {a b out:Array Keyed} {ia:Nat} (sa:Sl kf lt a.toList) (h:MI kf lt a b out ia b.size):Mgd kf lt a b (out++a.extract ia a.size++b.extract b.size b.size):=by
 have e:b.toList.drop b.size=[]:=List.drop_of_length_le (by simp)
 have e2:(out++a.extract ia a.size++b.extract b.size b.size).toList=out.toList++a.toList.drop ia:=by
  rw [Array.toList_append,Array.toList_append,toList_ext,toList_ext,e,List.append_nil]
 unfold Mgd
 rw [e2]
 refine ⟨List.pairwise_append.mpr ⟨h.so,sl_drop sa ia,fun x hx y hy=>h.le x hx y (by simp [hy])⟩,?_⟩
 have:=h.pm
 rw [e,List.append_nil] at this
 exact this
theorem MI.doneA {a b out:Array Keyed} {ib:Nat} (sb:Sl kf lt b.toList) (h:MI kf lt a b out a.size ib):Mgd kf lt a b (out++a.extract a.size a.size++b.extract ib b.size):=by
 have e:a.toList.drop a.size=[]:=List.drop_of_length_le (by simp)
 have e2:(out++a.extract a.size a.size++b.extract ib b.size).toList=out.toList++b.toList.drop ib:=by
  rw [Array.toList_append,Array.toList_append,toList_ext,toList_ext,e,List.append_nil]
 unfold Mgd
 rw [e2]
 refine ⟨List.pairwise_append.mpr ⟨h.so,sl_drop sb ib,fun x hx y hy=>h.le x hx y (by simp [hy])⟩,?_⟩
 have:=h.pm
 rw [e,List.nil_append] at this
 exact this
theorem MI.lastA {a b out:Array Keyed} {ia ib:Nat} (sb:Sl kf lt b.toList) (h:MI kf lt a b out ia ib) (hia:ia+1=a.size) (hl:∀ y∈b.toList,∀ z,a[a.size - 1]?=some z→lt (kf z) (kf y)=false):Mgd kf lt a b (out++b.extract ib b.size++a.extract ia a.size):=by
 have hi:ia < a.size:=by omega
 have e:a.toList.drop ia=[a[ia]]:=by
  rw [drop_cons hi,List.drop_of_length_le (by simp;omega)]
 have e2:(out++b.extract ib b.size++a.extract ia a.size).toList=out.toList++(b.toList.drop ib++[a[ia]]):=by
  rw [Array.toList_append,Array.toList_append,toList_ext,toList_ext,e,List.append_assoc]
 have hz:a[a.size - 1]?=some a[ia]:=by
  rw [show a.size - 1=ia by omega,Array.getElem?_eq_getElem hi]
 unfold Mgd
 rw [e2]
 refine ⟨List.pairwise_append.mpr ⟨h.so,List.pairwise_append.mpr ⟨sl_drop sb ib,List.pairwise_singleton _ _,fun x hx y hy=>?_⟩,fun x hx y hy=>h.le x hx y ?_⟩,?_⟩
 ·rw [List.mem_singleton.mp hy]
  exact hl x (List.mem_of_mem_drop hx) _ hz
 ·rw [e]
  rcases List.mem_append.mp hy with z | z
  ·exact List.mem_append_right _ z
  ·exact List.mem_append_left _ z
 ·have:=h.pm
  rw [e] at this
  exact (List.Perm.append_left _ List.perm_append_comm).trans this
end
section
variable {prog:Program} {w:World} {A:Around} {E:Value→Shared→Prop} {s:Shared} {α:Type} {kf:Keyed→α} {lt:α→α→Bool} {kd:SortKind} {S:List Keyed}
theorem wpS_elem {st:SortSt} {arr:Array Keyed} {i:Nat} {x:Keyed} {Q:Keyed→SortSt→Prop} (h:arr[i]?=some x) (q:Q x st):wpS (model prog w) A E s (elem' arr i) Q st:=by
 rw [elem'_eq,h];exact wpS_pure q
theorem wpS_gal (T:SOrd lt) (hA:Asks prog w A E s kd S kf lt) {st:SortSt} (hk:kindOf st=kd) {left:Bool} {key:Keyed} {arr:Array Keyed} {base n hint:Nat} (hkS:key∈S) (hbn:base+n≤arr.size)
  (hS:∀ i (hi:i < arr.size),base≤i→i < base+n→arr[i]∈S) (seg:∀ i j (hi:i < arr.size) (hj:j < arr.size),base≤i→i≤j→j < base+n→lt (kf arr[j]) (kf arr[i])=false) (hh:hint < n) {Q:Option Nat→SortSt→Prop}
  (h:∀ k,k≤n→(∀ i (hi:i < arr.size),base≤i→i < base+k→bey kf lt left key arr[i]=true)→(∀ i (hi:i < arr.size),base+k≤i→i < base+n→bey kf lt left key arr[i]=false)→Q (some k) st) :
  wpS (model prog w) A E s (gallop' left key arr base n hint) Q st:=by
 refine wpS_gallop hA hk hkS (fun i hi=>⟨arr[base+i],Array.getElem?_eq_getElem (by omega),hS _ (by omega) (by omega) (by omega)⟩) (fun i=>bey kf lt left key (arr[base+i]?.getD key)) (fun i x hi hx=>by rw [hx];rfl) (fun i j hij hj hp=>?_) hh fun k hk1 h1 h2=>?_
 ·have ei:arr[base+i]?=some arr[base+i]:=Array.getElem?_eq_getElem (by omega)
  have ej:arr[base+j]?=some arr[base+j]:=Array.getElem?_eq_getElem (by omega)
  have sg:=seg (base+i) (base+j) (by omega) (by omega) (by omega) (by omega) (by omega)
  simp only [ej,Option.getD_some] at hp
  simp only [ei,Option.getD_some]
  unfold bey at hp ⊢
  cases left with
  | true =>
   simp only [if_true] at hp ⊢
   cases e:lt (kf arr[base+i]) (kf key) with
   | true=>rfl
   | false=>rw [T.tr _ _ _ e sg] at hp;cases hp
  | false =>
   simp only [Bool.false_eq_true,if_false,Bool.not_eq_true'] at hp ⊢
   exact T.tr _ _ _ sg hp
 ·refine h k hk1 (fun i hi a1 a2=>?_) (fun i hi a1 a2=>?_)
  ·have:=h1 (i - base) (by omega)
   rw [show base+(i - base)=i by omega,Array.getElem?_eq_getElem hi] at this
   exact this
  ·have:=h2 (i - base) (by omega) (by omega)
   rw [show base+(i - base)=i by omega,Array.getElem?_eq_getElem hi] at this
   exact this
theorem seg_of {arr:Array Keyed} (T:SOrd lt) (h:Sl kf lt arr.toList) {base n:Nat}:∀ i j (hi:i < arr.size) (hj:j < arr.size),base≤i→i≤j→j < base+n→lt (kf arr[j]) (kf arr[i])=false:=fun i j hi hj _ hij _=>by
 rcases Nat.lt_or_ge i j with q | q
 ·have:=List.pairwise_iff_getElem.mp h i j (by simpa using hi) (by simpa using hj) q
  simpa using this
 ·have:i=j:=by omega
  subst this
  exact T.refl _
def StG (st st':SortSt):Prop:=∃ g,st'=SortSt.mk' (kindOf st) (arrOf st) (pendingOf st) g (failedOf st)
theorem StG.refl (st:SortSt):StG st st:=⟨gallopOf st,rfl⟩
theorem StG.set {st st':SortSt} (h:StG st st') (g:Nat):StG st (SortSt.mk' (kindOf st') (arrOf st') (pendingOf st') g (failedOf st')):=by
 obtain ⟨g',rfl⟩:=h
 exact ⟨g,rfl⟩
theorem wpS_modG {M:Model} {A:Around} {E:Value→Shared→Prop} {s:Shared} {st st2:SortSt} (hG:StG st st2) {g:Nat} {Q:PUnit→SortSt→Prop} (h:∀ st3,StG st st3→Q ⟨⟩ st3):wpS M A E s (setMinGallop' g) Q st2:=wpS_modify (h _ (hG.set g))
theorem StG.kind {st st':SortSt} (h:StG st st'):kindOf st'=kindOf st:=by obtain ⟨g,rfl⟩:=h;rfl
set_option maxHeartbeats 8000000 in
theorem wpS_mergeLo (T:SOrd lt) (hA:Asks prog w A E s kd S kf lt) {st:SortSt} (hk:kindOf st=kd) {a b:Array Keyed} (haS:∀ x∈a.toList,x∈S) (hbS:∀ x∈b.toList,x∈S) (sa:Sl kf lt a.toList) (sb:Sl kf lt b.toList)
  (ha:0 < a.size) (hb:0 < b.size) (hfirst:lt (kf b[0]) (kf a[0])=true) (hl:∀ y∈b.toList,∀ z,a[a.size - 1]?=some z→lt (kf z) (kf y)=false) {Q:Array Keyed→SortSt→Prop}
  (h:∀ r st',StG st st'→Mgd kf lt a b r→Q r st') :
  wpS (model prog w) A E s (mergeLo' a b) Q st:=by
 have M0:MI kf lt a b #[] 0 0:=⟨by omega,by omega,List.Pairwise.nil,fun x hx=>by simp at hx,by simp⟩
 have eb0:b[0]?=some b[0]:=Array.getElem?_eq_getElem hb
 have M1:MI kf lt a b #[b[0]] 0 1:=M0.pushB sb hb (fun y hy=>sl_le_drop T sa (i:=0) (x:=a[0]) (by simp [ha]) (T.asy _ _ hfirst) y hy)
 have hSa:∀ i (hi:i < a.size),a[i]∈S:=fun i hi=>haS _ (by simp)
 have hSb:∀ i (hi:i < b.size),b[i]∈S:=fun i hi=>hbS _ (by simp)
 have ea:∀ i (hi:i < a.size),a[i]?=some a[i]:=fun i hi=>Array.getElem?_eq_getElem hi
 have eb:∀ i (hi:i < b.size),b[i]?=some b[i]:=fun i hi=>Array.getElem?_eq_getElem hi
 have leA:∀ i (hi:i < a.size) (y:Keyed),lt (kf a[i]) (kf y)=false→∀ z∈a.toList.drop i,lt (kf z) (kf y)=false:=fun i hi y q=>sl_le_drop T sa (by simp [hi]) q
 have leB:∀ i (hi:i < b.size) (y:Keyed),lt (kf b[i]) (kf y)=false→∀ z∈b.toList.drop i,lt (kf z) (kf y)=false:=fun i hi y q=>sl_le_drop T sb (by simp [hi]) q
 refine wpS_bind (wpS_lift (wpAny_rule ⟨rfl,?_⟩))
 refine wpS_bind (wpS_elem eb0 ?_)
 dsimp only
 by_cases c1:1=b.size
 ·rw [if_pos (by simpa using c1)]
  refine wpS_pure (h _ _ (StG.refl st) ?_)
  rw [c1] at M1
  have:=M1.doneB sa
  rw [←c1] at this
  rw [←c1]
  exact this
 rw [if_neg (by simpa using c1)]
 by_cases c2:0+1=a.size
 ·rw [if_pos (by simpa using c2)]
  exact wpS_pure (h _ _ (StG.refl st) (M1.lastA sb (by omega) hl))
 rw [if_neg (by simpa using c2)]
 refine wpS_bind (wpS_get ?_)
 refine wpS_bind (wpS_mono (wpS_forRange (I:=fun x c st'=>StG st st'∧∃ out ia ib mg,c=(none,out,ia,ib,mg)∧MI kf lt a b out ia ib∧ia+1 < a.size∧ib < b.size∧x < out.size)
  (Q:=fun c st'=>StG st st'∧∃ r,c.1=some r∧Mgd kf lt a b r) ?step ?fin ⟨StG.refl st,_,_,_,_,rfl,M1,by omega,by omega,by simp⟩) ?post)
 case fin =>
  rintro c st' ⟨hG,out,ia,ib,mg,rfl,M,q1,q2,q3⟩
  have:=M.size
  omega
 case post =>
  rintro ⟨c1,c2⟩ st' ⟨hG,r,e,hr⟩
  dsimp only at e ⊢
  subst e
  exact wpS_pure (h r st' hG hr)
 case step =>
  rintro x c st1 _ hx ⟨hG,out,ia,ib,mg,rfl,M,q1,q2,q3⟩
  dsimp only
  refine wpS_bind (wpS_mono (wpS_forRange (I:=fun y c st'=>st'=st1∧∃ out ia ib ac bc,c=(none,out,ia,ib,ac,bc)∧MI kf lt a b out ia ib∧ia+1 < a.size∧ib < b.size∧x+y < out.size)
   (Q:=fun c st'=>st'=st1∧((∃ r,c.1=some r∧Mgd kf lt a b r)∨∃ out ia ib ac bc,c=(none,out,ia,ib,ac,bc)∧MI kf lt a b out ia ib∧ia+1 < a.size∧ib < b.size∧x+1 < out.size)) ?istep ?ifin ⟨rfl,_,_,_,_,_,rfl,M,q1,q2,by omega⟩) ?ipost)
  case ifin =>
   rintro c st' ⟨rfl,out,ia,ib,ac,bc,rfl,M,q1,q2,q3⟩
   exact ⟨rfl,.inr ⟨out,ia,ib,ac,bc,rfl,M,q1,q2,by omega⟩⟩
  case istep =>
   rintro y c st' _ hy ⟨rfl,out,ia,ib,ac,bc,rfl,M,q1,q2,q3⟩
   dsimp only
   refine wpS_bind (wpS_elem (eb ib q2) ?_)
   refine wpS_bind (wpS_elem (ea ia (by omega)) ?_)
   refine wpS_bind (hA _ _ _ _ (hG.kind.trans hk) (hSb ib q2) (hSa ia (by omega)) ?_)
   dsimp only
   cases e:lt (kf b[ib]) (kf a[ia]) with
   | true =>
    simp only [if_true]
    refine wpS_bind (wpS_elem (eb ib q2) ?_)
    have M':=M.pushB sb q2 (leA ia (by omega) _ (T.asy _ _ e))
    have hs:(out.push b[ib]).size=out.size+1:=Array.size_push ..
    by_cases d1:ib+1=b.size
    ·rw [if_pos (by simpa using d1)]
     refine wpS_pure ⟨rfl,.inl ⟨_,rfl,?_⟩⟩
     rw [d1] at M' ⊢
     exact M'.doneB sa
    rw [if_neg (by simpa using d1)]
    split
    ·exact wpS_pure ⟨rfl,.inr ⟨_,_,_,_,_,rfl,M',q1,by omega,by omega⟩⟩
    ·exact wpS_pure ⟨rfl,_,_,_,_,_,rfl,M',q1,by omega,by omega⟩
   | false =>
    simp only [Bool.false_eq_true,if_false]
    refine wpS_bind (wpS_elem (ea ia (by omega)) ?_)
    have M':=M.pushA sa (by omega:ia < a.size) (leB ib q2 _ e)
    have hs:(out.push a[ia]).size=out.size+1:=Array.size_push ..
    by_cases d1:ia+1+1=a.size
    ·rw [if_pos (by simpa using d1)]
     exact wpS_pure ⟨rfl,.inl ⟨_,rfl,M'.lastA sb d1 hl⟩⟩
    rw [if_neg (by simpa using d1)]
    split
    ·exact wpS_pure ⟨rfl,.inr ⟨_,_,_,_,_,rfl,M',by omega,q2,by omega⟩⟩
    ·exact wpS_pure ⟨rfl,_,_,_,_,_,rfl,M',by omega,q2,by omega⟩
  case ipost =>
   rintro c st' ⟨h9,hc⟩
   rw [h9]
   rcases hc with ⟨r,e,hr⟩ | ⟨out,ia,ib,ac,bc,rfl,M,q1,q2,q3⟩
   ·obtain ⟨c1,c2⟩:=c
    dsimp only at e ⊢
    subst e
    exact wpS_pure ⟨hG,r,rfl,hr⟩
   dsimp only
   refine wpS_bind (wpS_lift (wpAny_rule ⟨rfl,?_⟩))
   refine wpS_bind (wpS_mono (wpS_forRange (I:=fun y c st'=>StG st st'∧∃ out ia ib mg ac bc,c=(none,out,ia,ib,mg,ac,bc)∧MI kf lt a b out ia ib∧ia+1 < a.size∧ib < b.size∧x+1 < out.size)
    (Q:=fun c st'=>StG st st'∧((∃ r,c.1=some r∧Mgd kf lt a b r)∨∃ out ia ib mg ac bc,c=(none,out,ia,ib,mg,ac,bc)∧MI kf lt a b out ia ib∧ia+1 < a.size∧ib < b.size∧x+1 < out.size)) ?gstep ?gfin ⟨hG,_,_,_,_,_,_,rfl,M,q1,q2,q3⟩) ?gpost)
   case gfin =>
    rintro c st' ⟨hG,out,ia,ib,mg,ac,bc,rfl,M,q1,q2,q3⟩
    exact ⟨hG,.inr ⟨out,ia,ib,mg,ac,bc,rfl,M,q1,q2,q3⟩⟩
   case gpost =>
    rintro c st' ⟨hG,hc⟩
    rcases hc with ⟨r,e,hr⟩ | ⟨out,ia,ib,mg,ac,bc,rfl,M,q1,q2,q3⟩
    ·obtain ⟨c1,c2⟩:=c
     dsimp only at e ⊢
     subst e
     exact wpS_pure ⟨hG,r,rfl,hr⟩
    dsimp only
    refine wpS_bind (wpS_modG hG fun st3 hG2=>?_)
    exact wpS_pure ⟨hG2,out,ia,ib,_,rfl,M,q1,q2,q3⟩
   case gstep =>
    rintro y c st2 _ hy ⟨hG,out,ia,ib,mg,ac,bc,rfl,M,q1,q2,q3⟩
    dsimp only
    by_cases d0:mg > 1
    all_goals
     first | rw [if_pos d0] | rw [if_neg d0]
     refine wpS_bind (wpS_modG hG fun st3 hG2=>?_)
     refine wpS_bind (wpS_elem (eb ib q2) ?_)
     refine wpS_bind (wpS_gal T hA (hG2.kind.trans hk) (hSb ib q2) (by omega) (fun i hi _ _=>hSa i hi) (seg_of T sa) (by omega) fun k hk1 f1 f2=>?_)
     have f1':∀ i (hi:i < a.size),ia≤i→i < ia+k→lt (kf b[ib]) (kf a[i])=false:=fun i hi u1 u2=>by have:=f1 i hi u1 u2;unfold bey at this;simpa using this
     have f2':∀ i (hi:i < a.size),ia+k≤i→lt (kf b[ib]) (kf a[i])=true:=fun i hi u1=>by have:=f2 i hi u1 (by omega);unfold bey at this;simpa using this
     dsimp only
     have hs0:=M.size
     by_cases d1:k > 0
     focus
      rw [if_pos d1]
      have M2:=M.chunkA sa k (by omega) (fun i hi u1 u2=>leB ib q2 _ (f1' i hi u1 u2))
      by_cases d2:ia+k+1=a.size
      ·rw [if_pos (by simpa using d2)]
       exact wpS_pure ⟨hG2,.inl ⟨_,rfl,M2.lastA sb d2 hl⟩⟩
      rw [if_neg (by simpa using d2)]
      by_cases d2':ia+k=a.size
      ·rw [if_pos (by simpa using d2')]
       refine wpS_pure ⟨hG2,.inl ⟨_,rfl,?_⟩⟩
       rw [d2'] at M2 ⊢
       exact M2.doneA sb
      rw [if_neg (by simpa using d2')]
      have u2:ia+k+1 < a.size:=by omega
      have f3:=f2' (ia+k) (by omega) (Nat.le_refl _)
     rotate_left
     focus
      rw [if_neg d1]
      have hk0:k=0:=by omega
      subst hk0
      have M2:=M
      have u2:=q1
      have f3:=f2' ia (by omega) (by omega)
     all_goals
      refine wpS_bind (wpS_elem (eb ib q2) ?_)
      have u3:=Nat.lt_of_succ_lt u2
      have M3:=M2.pushB sb q2 (leA _ u3 _ (T.asy _ _ f3))
      by_cases d3:ib+1=b.size
      ·rw [if_pos (by simpa using d3)]
       refine wpS_pure ⟨hG2,.inl ⟨_,rfl,?_⟩⟩
       rw [d3] at M3 ⊢
       exact M3.doneB sa
      rw [if_neg (by simpa using d3)]
      refine wpS_bind (wpS_elem (ea _ u3) ?_)
      refine wpS_bind (wpS_gal T hA (hG2.kind.trans hk) (hSa _ u3) (by omega) (fun i hi _ _=>hSb i hi) (seg_of T sb) (by omega) fun k1 hk1 g1 g2=>?_)
      dsimp only
      by_cases d4:k1 > 0
      focus
       rw [if_pos d4]
       have M4:=M3.chunkB sb k1 (by omega) (fun i hi u1 u2=>leA _ u3 _ (T.asy _ _ (g1 i hi u1 u2)))
       by_cases d5:ib+1+k1=b.size
       ·rw [if_pos (by simpa using d5)]
        refine wpS_pure ⟨hG2,.inl ⟨_,rfl,?_⟩⟩
        rw [d5] at M4 ⊢
        exact M4.doneB sa
       rw [if_neg (by simpa using d5)]
       have u4:ib+1+k1 < b.size:=by omega
       have g3:=g2 (ib+1+k1) u4 (Nat.le_refl _) (by omega)
      rotate_left
      focus
       rw [if_neg d4]
       have hk0:k1=0:=by omega
       subst hk0
       have M4:=M3
       have u4:ib+1 < b.size:=by omega
       have g3:=g2 (ib+1) u4 (by omega) (by omega)
      all_goals
       refine wpS_bind (wpS_elem (ea _ u3) ?_)
       have M5:=M4.pushA sa u3 (leB _ u4 _ g3)
       have hs5:=M5.size
       split
       ·rename_i d6
        exact wpS_pure ⟨hG2,.inl ⟨_,rfl,M5.lastA sb (by simpa using d6) hl⟩⟩
       rename_i d6
       rw [beq_iff_eq] at d6
       split
       ·exact wpS_pure ⟨hG2,.inr ⟨_,_,_,_,_,_,rfl,M5,by omega,by omega,by omega⟩⟩
       ·exact wpS_pure ⟨hG2,_,_,_,_,_,_,rfl,M5,by omega,by omega,by omega⟩
end
end L2

set_option Elab.async false
set_option linter.all false
set_option maxRecDepth 100000
set_option maxHeartbeats 4000000
namespace L2
open PySem PyProof.Rows
def mergeHi':Array Keyed→Array Keyed→StateT SortSt Sem (Array Keyed):=sortPriv% PySem.Builtin.mergeHi
section
variable {α:Type} (kf:Keyed→α) (lt:α→α→Bool)
structure MH (a b:Array Keyed) (out:Array Keyed) (na nb:Nat):Prop where
 la:na≤a.size
 lb:nb≤b.size
 so:Sl kf lt out.toList.reverse
 le:∀ y∈out.toList,∀ x∈a.toList.take na++b.toList.take nb,lt (kf y) (kf x)=false
 pm:((a.toList.take na++b.toList.take nb)++out.toList.reverse).Perm (a.toList++b.toList)
end
section
variable {α:Type} {kf:Keyed→α} {lt:α→α→Bool}
theorem take_snocK {a:Array Keyed} {i:Nat} (h:i < a.size):a.toList.take (i+1)=a.toList.take i++[a[i]]:=by
 rw [List.take_add_one,show a.toList[i]?=some a[i] by rw [Array.getElem?_toList,Array.getElem?_eq_getElem h]];rfl
theorem MH.size {a b out:Array Keyed} {na nb:Nat} (h:MH kf lt a b out na nb):out.size+na+nb=a.size+b.size:=by
 have:=h.pm.length_eq
 have h1:=h.la
 have h2:=h.lb
 simp at this
 omega
theorem sl_le_take (T:SOrd lt) {l:List Keyed} {i:Nat} {x y:Keyed} (h:Sl kf lt l) (hx:l[i]?=some x) (hy:lt (kf y) (kf x)=false):∀ z∈l.take (i+1),lt (kf y) (kf z)=false:=fun z hz=>by
 obtain ⟨j,hj,e⟩:=List.mem_iff_getElem.mp hz
 rw [List.getElem_take] at e
 obtain ⟨hi,ei⟩:=List.getElem?_eq_some_iff.mp hx
 have hji:j≤i:=by simp at hj;omega
 rcases Nat.lt_or_ge j i with q | q
 ·have:=List.pairwise_iff_getElem.mp h j i (by omega) hi q
  rw [e,ei] at this
  exact T.tr (kf z) (kf x) (kf y) this hy
 ·have:j=i:=by omega
  subst this
  rw [←e,ei]
  exact hy
theorem MH.pushA {a b out:Array Keyed} {na nb:Nat} (h:MH kf lt a b out (na+1) nb) (sa:Sl kf lt a.toList) (T:SOrd lt) (hi:na < a.size) (hle:∀ x∈b.toList.take nb,lt (kf a[na]) (kf x)=false):MH kf lt a b (out.push a[na]) na nb:=by
 have e:=take_snocK hi
 have hx:a.toList[na]?=some a[na]:=by rw [Array.getElem?_toList,Array.getElem?_eq_getElem hi]
 have hin:∀ x∈a.toList.take na++b.toList.take nb,x∈a.toList.take (na+1)++b.toList.take nb:=fun x hx=>by
  rcases List.mem_append.mp hx with z | z
  ·rw [e];simp [z]
  ·simp [z]
 refine ⟨by have:=h.la;omega,h.lb,?_,fun y hy x hx'=>?_,?_⟩
 ·rw [Array.toList_push,List.reverse_append]
  refine List.pairwise_append.mpr ⟨List.pairwise_singleton _ _,h.so,fun x hx' y hy=>?_⟩
  have hx'':x=a[na]:=by simpa using hx'
  subst hx''
  exact h.le y (by simpa using hy) a[na] (by rw [e];simp)
 ·rw [Array.toList_push,List.mem_append,List.mem_singleton] at hy
  rcases hy with hy | rfl
  ·exact h.le y hy x (hin x hx')
  ·rcases List.mem_append.mp hx' with z | z
   ·exact sl_le_take T sa hx (T.refl _) x (by rw [e];simp [z])
   ·exact hle x z
 ·have:=h.pm
  rw [e] at this
  rw [Array.toList_push,List.reverse_append]
  refine List.Perm.trans ?_ this
  show ((a.toList.take na++b.toList.take nb)++([a[na]]++out.toList.reverse)).Perm ((a.toList.take na++[a[na]]++b.toList.take nb)++out.toList.reverse)
  rw [←List.append_assoc]
  refine List.Perm.append_right _ ?_
  rw [List.append_assoc,List.append_assoc]
  exact List.Perm.append_left _ List.perm_append_comm
theorem MH.swap {a b out:Array Keyed} {na nb:Nat} (h:MH kf lt a b out na nb):MH kf lt b a out nb na:=by
 refine ⟨h.lb,h.la,h.so,fun y hy x hx=>h.le y hy x ?_,?_⟩
 ·rcases List.mem_append.mp hx with z | z
  ·exact List.mem_append_right _ z
  ·exact List.mem_append_left _ z
 ·exact ((List.Perm.append_right _ List.perm_append_comm).trans h.pm).trans List.perm_append_comm
theorem MH.pushB {a b out:Array Keyed} {na nb:Nat} (h:MH kf lt a b out na (nb+1)) (sb:Sl kf lt b.toList) (T:SOrd lt) (hi:nb < b.size) (hle:∀ x∈a.toList.take na,lt (kf b[nb]) (kf x)=false):MH kf lt a b (out.push b[nb]) na nb :=
 (MH.pushA h.swap sb T hi hle).swap
theorem MH.chunkA {a b:Array Keyed} {nb at_:Nat} (sa:Sl kf lt a.toList) (T:SOrd lt):∀ (na:Nat) (out:Array Keyed),at_≤na→MH kf lt a b out na nb→(∀ i (hi:i < a.size),at_≤i→i < na→∀ x∈b.toList.take nb,lt (kf a[i]) (kf x)=false)→MH kf lt a b (out++(a.extract at_ na).reverse) at_ nb
 | 0,out,h0,h,_=>by
  have:at_=0:=by omega
  subst this
  simpa using h
 | na+1,out,h0,h,hle=>by
  by_cases e:at_=na+1
  ·subst e
   have:(a.extract (na+1) (na+1)).reverse=#[]:=by simp;omega
   rw [this,Array.append_empty]
   exact h
  ·have hi:na < a.size:=by have:=h.la;omega
   have:=MH.chunkA sa T na (out.push a[na]) (by omega) (h.pushA sa T hi (hle na hi (by omega) (by omega))) fun i hi' u1 u2=>hle i hi' u1 (by omega)
   have e2:out++(a.extract at_ (na+1)).reverse=out.push a[na]++(a.extract at_ na).reverse:=by
    have e1:=Array.push_extract_getElem (as:=a) (i:=at_) (j:=na) hi
    rw [Nat.min_eq_left (by omega)] at e1
    rw [←e1,Array.reverse_push]
    simp
   rw [e2]
   exact this
theorem MH.chunkB {a b:Array Keyed} {na at_:Nat} (sb:Sl kf lt b.toList) (T:SOrd lt) (nb:Nat) (out:Array Keyed) (h0:at_≤nb) (h:MH kf lt a b out na nb) (hle:∀ i (hi:i < b.size),at_≤i→i < nb→∀ x∈a.toList.take na,lt (kf b[i]) (kf x)=false):MH kf lt a b (out++(b.extract at_ nb).reverse) na at_ :=
 (MH.chunkA sb T nb out h0 h.swap hle).swap
theorem toList_ext0 (a:Array Keyed) (n:Nat):(a.extract 0 n).toList=a.toList.take n:=by
 rw [Array.toList_extract,List.extract_eq_take_drop];simp
theorem MH.doneA {a b out:Array Keyed} {nb:Nat} (sb:Sl kf lt b.toList) (h:MH kf lt a b out 0 nb):Mgd kf lt a b (a.extract 0 0++b.extract 0 nb++out.reverse):=by
 have e2:(a.extract 0 0++b.extract 0 nb++out.reverse).toList=b.toList.take nb++out.toList.reverse:=by
  rw [Array.toList_append,Array.toList_append,toList_ext0,toList_ext0,Array.toList_reverse];simp
 unfold Mgd
 rw [e2]
 refine ⟨List.pairwise_append.mpr ⟨sb.sublist (List.take_sublist _ _),h.so,fun x hx y hy=>h.le y (by simpa using hy) x (by simp [hx])⟩,?_⟩
 have:=h.pm
 simpa using this
theorem MH.doneB {a b out:Array Keyed} {na:Nat} (sa:Sl kf lt a.toList) (h:MH kf lt a b out na 0):Mgd kf lt a b (a.extract 0 na++b.extract 0 0++out.reverse):=by
 have e2:(a.extract 0 na++b.extract 0 0++out.reverse).toList=a.toList.take na++out.toList.reverse:=by
  rw [Array.toList_append,Array.toList_append,toList_ext0,toList_ext0,Array.toList_reverse];simp
 unfold Mgd
 rw [e2]
 refine ⟨List.pairwise_append.mpr ⟨sa.sublist (List.take_sublist _ _),h.so,fun x hx y hy=>h.le y (by simpa using hy) x (by simp [hx])⟩,?_⟩
 have:=h.pm
 simpa using this
theorem MH.firstB {a b out:Array Keyed} {na:Nat} (sa:Sl kf lt a.toList) (hb:0 < b.size) (h:MH kf lt a b out na 1) (hf:∀ y∈a.toList,lt (kf y) (kf b[0])=false):Mgd kf lt a b (b.extract 0 1++a.extract 0 na++out.reverse):=by
 have e1:b.toList.take 1=[b[0]]:=by
  have:=take_snocK (a:=b) (i:=0) hb
  simpa using this
 have e2:(b.extract 0 1++a.extract 0 na++out.reverse).toList=[b[0]]++a.toList.take na++out.toList.reverse:=by
  rw [Array.toList_append,Array.toList_append,toList_ext0,toList_ext0,Array.toList_reverse,e1]
 unfold Mgd
 rw [e2]
 refine ⟨List.pairwise_append.mpr ⟨List.pairwise_append.mpr ⟨List.pairwise_singleton _ _,sa.sublist (List.take_sublist _ _),fun x hx y hy=>?_⟩,h.so,fun x hx y hy=>h.le y (by simpa using hy) x ?_⟩,?_⟩
 ·rw [List.mem_singleton.mp hx]
  exact hf y (List.mem_of_mem_take hy)
 ·rw [e1]
  rcases List.mem_append.mp hx with z | z
  ·exact List.mem_append_right _ z
  ·exact List.mem_append_left _ z
 ·have:=h.pm
  rw [e1] at this
  exact (List.Perm.append_right _ List.perm_append_comm).trans this
end
section
variable {prog:Program} {w:World} {A:Around} {E:Value→Shared→Prop} {s:Shared} {α:Type} {kf:Keyed→α} {lt:α→α→Bool} {kd:SortKind} {S:List Keyed}
set_option maxHeartbeats 8000000 in
theorem wpS_mergeHi (T:SOrd lt) (hA:Asks prog w A E s kd S kf lt) {st:SortSt} (hk:kindOf st=kd) {a b:Array Keyed} (haS:∀ x∈a.toList,x∈S) (hbS:∀ x∈b.toList,x∈S) (sa:Sl kf lt a.toList) (sb:Sl kf lt b.toList)
  (ha:0 < a.size) (hb:0 < b.size) (hfirst:lt (kf b[0]) (kf a[0])=true) (hl:∀ y∈b.toList,∀ z,a[a.size - 1]?=some z→lt (kf z) (kf y)=false) {Q:Array Keyed→SortSt→Prop}
  (h:∀ r st',StG st st'→Mgd kf lt a b r→Q r st') :
  wpS (model prog w) A E s (mergeHi' a b) Q st:=by
 have hSa:∀ i (hi:i < a.size),a[i]∈S:=fun i hi=>haS _ (by simp)
 have hSb:∀ i (hi:i < b.size),b[i]∈S:=fun i hi=>hbS _ (by simp)
 have ea:∀ i (hi:i < a.size),a[i]?=some a[i]:=fun i hi=>Array.getElem?_eq_getElem hi
 have eb:∀ i (hi:i < b.size),b[i]?=some b[i]:=fun i hi=>Array.getElem?_eq_getElem hi
 have hf:∀ y∈a.toList,lt (kf y) (kf b[0])=false:=fun y hy=>sl_le_drop T sa (i:=0) (x:=a[0]) (by simp [ha]) (T.asy _ _ hfirst) y (by simpa using hy)
 have leA:∀ i (hi:i < a.size) (y:Keyed),lt (kf y) (kf a[i])=false→∀ z∈a.toList.take (i+1),lt (kf y) (kf z)=false:=fun i hi y q=>sl_le_take T sa (by simp [hi]) q
 have leB:∀ i (hi:i < b.size) (y:Keyed),lt (kf y) (kf b[i])=false→∀ z∈b.toList.take (i+1),lt (kf y) (kf z)=false:=fun i hi y q=>sl_le_take T sb (by simp [hi]) q
 obtain ⟨m,hm⟩:∃ m,a.size=m+1:=⟨a.size - 1,by omega⟩
 have hm1:a.size - 1=m:=by omega
 have M0:MH kf lt a b #[] (m+1) b.size:=⟨by omega,Nat.le_refl _,List.Pairwise.nil,fun y hy=>by simp at hy,by rw [←hm,List.take_of_length_le (by simp),List.take_of_length_le (by simp)];simp⟩
 have M1:MH kf lt a b #[a[m]] m b.size:=M0.pushA sa T (by omega) (fun x hx=>hl x (List.mem_of_mem_take hx) _ (by rw [hm1];exact ea m (by omega)))
 refine wpS_bind (wpS_lift (wpAny_rule ⟨rfl,?_⟩))
 rw [hm1]
 refine wpS_bind (wpS_elem (ea m (by omega)) ?_)
 dsimp only
 by_cases c1:m=0
 ·rw [if_pos (by simpa using c1)]
  refine wpS_pure (h _ _ (StG.refl st) ?_)
  subst c1
  exact M1.doneA sb
 rw [if_neg (by simpa using c1)]
 by_cases c2:b.size=1
 ·rw [if_pos (by simpa using c2)]
  refine wpS_pure (h _ _ (StG.refl st) ?_)
  rw [c2] at M1
  have:=M1.firstB sa hb hf
  rw [←c2] at this
  exact this
 rw [if_neg (by simpa using c2)]
 refine wpS_bind (wpS_get ?_)
 refine wpS_bind (wpS_mono (wpS_forRange (I:=fun x c st'=>StG st st'∧∃ na nb out mg,c=(none,na,nb,out,mg)∧MH kf lt a b out na nb∧1≤na∧2≤nb∧x < out.size)
  (Q:=fun c st'=>StG st st'∧∃ r,c.1=some r∧Mgd kf lt a b r) ?step ?fin ⟨StG.refl st,_,_,_,_,rfl,M1,by omega,by omega,by simp⟩) ?post)
 case fin =>
  rintro c st' ⟨hG,na,nb,out,mg,rfl,M,q1,q2,q3⟩
  have:=M.size
  omega
 case post =>
  rintro ⟨c1,c2⟩ st' ⟨hG,r,e,hr⟩
  dsimp only at e ⊢
  subst e
  exact wpS_pure (h r st' hG hr)
 case step =>
  rintro x c st1 _ hx ⟨hG,na,nb,out,mg,rfl,M,q1,q2,q3⟩
  dsimp only
  refine wpS_bind (wpS_mono (wpS_forRange (I:=fun y c st'=>st'=st1∧∃ na nb out ac bc,c=(none,na,nb,out,ac,bc)∧MH kf lt a b out na nb∧1≤na∧2≤nb∧x+y < out.size)
   (Q:=fun c st'=>st'=st1∧((∃ r,c.1=some r∧Mgd kf lt a b r)∨∃ na nb out ac bc,c=(none,na,nb,out,ac,bc)∧MH kf lt a b out na nb∧1≤na∧2≤nb∧x+1 < out.size)) ?istep ?ifin ⟨rfl,_,_,_,_,_,rfl,M,q1,q2,by omega⟩) ?ipost)
  case ifin =>
   rintro c st' ⟨rfl,na,nb,out,ac,bc,rfl,M,q1,q2,q3⟩
   exact ⟨rfl,.inr ⟨na,nb,out,ac,bc,rfl,M,q1,q2,by omega⟩⟩
  case istep =>
   rintro y c st' _ hy ⟨rfl,na,nb,out,ac,bc,rfl,M,q1,q2,q3⟩
   obtain ⟨p,rfl⟩:∃ p,na=p+1:=⟨na - 1,by omega⟩
   obtain ⟨r,rfl⟩:∃ r,nb=r+2:=⟨nb - 2,by omega⟩
   have hp:p < a.size:=by have:=M.la;omega
   have hr:r+1 < b.size:=by have:=M.lb;omega
   have z1:p+1 - 1=p:=rfl
   have z2:r+2 - 1=r+1:=rfl
   dsimp only
   simp only [z1,z2]
   refine wpS_bind (wpS_elem (eb (r+1) hr) ?_)
   refine wpS_bind (wpS_elem (ea p hp) ?_)
   refine wpS_bind (hA _ _ _ _ (hG.kind.trans hk) (hSb (r+1) hr) (hSa p hp) ?_)
   dsimp only
   cases e:lt (kf b[r+1]) (kf a[p]) with
   | true =>
    simp only [if_true]
    refine wpS_bind (wpS_elem (ea p hp) ?_)
    have M':=M.pushA sa T hp (leB (r+1) hr _ (T.asy _ _ e))
    have hs:(out.push a[p]).size=out.size+1:=Array.size_push ..
    by_cases d1:p=0
    ·rw [if_pos (by simpa using d1)]
     refine wpS_pure ⟨rfl,.inl ⟨_,rfl,?_⟩⟩
     subst d1
     exact M'.doneA sb
    rw [if_neg (by simpa using d1)]
    split
    ·exact wpS_pure ⟨rfl,.inr ⟨_,_,_,_,_,rfl,M',by omega,by omega,by omega⟩⟩
    ·exact wpS_pure ⟨rfl,_,_,_,_,_,rfl,M',by omega,by omega,by omega⟩
   | false =>
    simp only [Bool.false_eq_true,if_false]
    refine wpS_bind (wpS_elem (eb (r+1) hr) ?_)
    have M':=M.pushB sb T hr (leA p hp _ e)
    have hs:(out.push b[r+1]).size=out.size+1:=Array.size_push ..
    by_cases d1:r+1=1
    ·rw [if_pos (by simpa using d1)]
     refine wpS_pure ⟨rfl,.inl ⟨_,rfl,?_⟩⟩
     have d1':r=0:=by omega
     subst d1'
     exact M'.firstB sa hb hf
    rw [if_neg (by simpa using d1)]
    split
    ·exact wpS_pure ⟨rfl,.inr ⟨_,_,_,_,_,rfl,M',by omega,by omega,by omega⟩⟩
    ·exact wpS_pure ⟨rfl,_,_,_,_,_,rfl,M',by omega,by omega,by omega⟩
  case ipost =>
   rintro c st' ⟨h9,hc⟩
   rw [h9]
   rcases hc with ⟨r,e,hr⟩ | ⟨na,nb,out,ac,bc,rfl,M,q1,q2,q3⟩
   ·obtain ⟨c1,c2⟩:=c
    dsimp only at e ⊢
    subst e
    exact wpS_pure ⟨hG,r,rfl,hr⟩
   dsimp only
   refine wpS_bind (wpS_lift (wpAny_rule ⟨rfl,?_⟩))
   refine wpS_bind (wpS_mono (wpS_forRange (I:=fun y c st'=>StG st st'∧∃ na nb out mg ac bc,c=(none,na,nb,out,mg,ac,bc)∧MH kf lt a b out na nb∧1≤na∧2≤nb∧x+1 < out.size)
    (Q:=fun c st'=>StG st st'∧((∃ r,c.1=some r∧Mgd kf lt a b r)∨∃ na nb out mg ac bc,c=(none,na,nb,out,mg,ac,bc)∧MH kf lt a b out na nb∧1≤na∧2≤nb∧x+1 < out.size)) ?gstep ?gfin ⟨hG,_,_,_,_,_,_,rfl,M,q1,q2,q3⟩) ?gpost)
   case gfin =>
    rintro c st' ⟨hG,na,nb,out,mg,ac,bc,rfl,M,q1,q2,q3⟩
    exact ⟨hG,.inr ⟨na,nb,out,mg,ac,bc,rfl,M,q1,q2,q3⟩⟩
   case gpost =>
    rintro c st' ⟨hG,hc⟩
    rcases hc with ⟨r,e,hr⟩ | ⟨na,nb,out,mg,ac,bc,rfl,M,q1,q2,q3⟩
    ·obtain ⟨c1,c2⟩:=c
     dsimp only at e ⊢
     subst e
     exact wpS_pure ⟨hG,r,rfl,hr⟩
    dsimp only
    refine wpS_bind (wpS_modG hG fun st3 hG2=>?_)
    exact wpS_pure ⟨hG2,na,nb,out,_,rfl,M,q1,q2,q3⟩
   case gstep =>
    rintro y c st2 _ hy ⟨hG,na,nb,out,mg,ac,bc,rfl,M,q1,q2,q3⟩
    obtain ⟨p,rfl⟩:∃ p,na=p+1:=⟨na - 1,by omega⟩
    obtain ⟨r,rfl⟩:∃ r,nb=r+2:=⟨nb - 2,by omega⟩
    have hp:p < a.size:=by have:=M.la;omega
    have hr:r+1 < b.size:=by have:=M.lb;omega
    have z1:p+1 - 1=p:=rfl
    have z2:r+2 - 1=r+1:=rfl
    have z3:r+1 - 1=r:=rfl
    dsimp only
    simp only [z1,z2,z3]
    by_cases d0:mg > 1
    all_goals
     first | rw [if_pos d0] | rw [if_neg d0]
     refine wpS_bind (wpS_modG hG fun st3 hG2=>?_)
     refine wpS_bind (wpS_elem (eb (r+1) hr) ?_)
     refine wpS_bind (wpS_gal T hA (hG2.kind.trans hk) (hSb (r+1) hr) (by omega) (fun i hi _ _=>hSa i hi) (seg_of T sa) (by omega) fun a1 ha1 f1 f2=>?_)
     have f1':∀ i (hi:i < a.size),i < a1→lt (kf b[r+1]) (kf a[i])=false:=fun i hi u=>by have:=f1 i hi (Nat.zero_le _) (by omega);unfold bey at this;simpa using this
     have f2':∀ i (hi:i < a.size),a1≤i→i < p+1→lt (kf b[r+1]) (kf a[i])=true:=fun i hi u1 u2=>by have:=f2 i hi (by omega) (by omega);unfold bey at this;simpa using this
     have HA:∀ x∈a.toList.take a1,lt (kf b[r+1]) (kf x)=false:=fun x hx=>by
      obtain ⟨j,hj,e⟩:=List.mem_iff_getElem.mp hx
      rw [List.getElem_take] at e
      have hj':j < a1∧j < a.size:=by simp at hj;omega
      have:=f1' j hj'.2 hj'.1
      rw [←e]
      simpa using this
     dsimp only
     by_cases d1:p+1 - a1 > 0
     focus
      rw [if_pos d1]
      have M2:=MH.chunkA sa T (p+1) _ (by omega:a1≤p+1) M (fun i hi u1 u2=>leB (r+1) hr _ (T.asy _ _ (f2' i hi u1 u2)))
      by_cases d2:a1=0
      ·rw [if_pos (by simpa using d2)]
       refine wpS_pure ⟨hG2,.inl ⟨_,rfl,?_⟩⟩
       subst d2
       exact M2.doneA sb
      rw [if_neg (by simpa using d2)]
      obtain ⟨p1,rfl⟩:∃ p1,a1=p1+1:=⟨a1 - 1,by omega⟩
      have z4:p1+1 - 1=p1:=rfl
      simp only [z4]
     rotate_left
     focus
      rw [if_neg d1]
      have hk0:a1=p+1:=by omega
      subst hk0
      have M2:=M
      obtain ⟨p1,rfl⟩:∃ p1,p1=p:=⟨p,rfl⟩
     all_goals
      refine wpS_bind (wpS_elem (eb (r+1) hr) ?_)
      have M3:=M2.pushB sb T hr HA
      by_cases d3:r+1=1
      ·rw [if_pos (by simpa using d3)]
       refine wpS_pure ⟨hG2,.inl ⟨_,rfl,?_⟩⟩
       have d3':r=0:=by omega
       subst d3'
       exact M3.firstB sa hb hf
      rw [if_neg (by simpa using d3)]
      refine wpS_bind (wpS_elem (ea (p1) (by omega)) ?_)
      refine wpS_bind (wpS_gal T hA (hG2.kind.trans hk) (hSa (p1) (by omega)) (by omega) (fun i hi _ _=>hSb i hi) (seg_of T sb) (by omega) fun a2 ha2 g1 g2=>?_)
      have g1':∀ i (hi:i < b.size),i < a2→lt (kf b[i]) (kf a[p1])=true:=fun i hi u=>by have:=g1 i hi (Nat.zero_le _) (by omega);unfold bey at this;simpa using this
      have g2':∀ i (hi:i < b.size),a2≤i→i < r+1→lt (kf b[i]) (kf a[p1])=false:=fun i hi u1 u2=>by have:=g2 i hi (by omega) (by omega);unfold bey at this;simpa using this
      have HB:∀ x∈b.toList.take a2,lt (kf a[p1]) (kf x)=false:=fun x hx=>by
       obtain ⟨j,hj,e⟩:=List.mem_iff_getElem.mp hx
       rw [List.getElem_take] at e
       have hj':j < a2∧j < b.size:=by simp at hj;omega
       have:=T.asy _ _ (g1' j hj'.2 hj'.1)
       rw [←e]
       simpa using this
      dsimp only
      by_cases d4:r+1 - a2 > 0
      focus
       rw [if_pos d4]
       have MB:=MH.chunkB sb T (r+1) _ (by omega:a2≤r+1) M3 (fun i hi u1 u2=>leA (p1) (by omega) _ (g2' i hi u1 u2))
       by_cases d5:a2=1
       ·rw [if_pos (by simpa using d5)]
        refine wpS_pure ⟨hG2,.inl ⟨_,rfl,?_⟩⟩
        subst d5
        exact MB.firstB sa hb hf
       rw [if_neg (by simpa using d5)]
       by_cases d5':a2=0
       ·rw [if_pos (by simpa using d5')]
        refine wpS_pure ⟨hG2,.inl ⟨_,rfl,?_⟩⟩
        subst d5'
        exact MB.doneB sa
       rw [if_neg (by simpa using d5')]
      rotate_left
      focus
       rw [if_neg d4]
       have hk0:a2=r+1:=by omega
       subst hk0
       have MB:=M3
      all_goals
       refine wpS_bind (wpS_elem (ea (p1) (by omega)) ?_)
       have M5:=MB.pushA sa T (by omega:p1 < a.size) HB
       have hs5:=M5.size
       have hs0:=M.size
       by_cases d6:p1=0
       ·rw [if_pos (by simpa using d6)]
        refine wpS_pure ⟨hG2,.inl ⟨_,rfl,?_⟩⟩
        subst d6
        exact M5.doneA sb
       rw [if_neg (by simpa using d6)]
       split
       ·exact wpS_pure ⟨hG2,.inr ⟨_,_,_,_,_,_,rfl,M5,by omega,by omega,by omega⟩⟩
       ·exact wpS_pure ⟨hG2,_,_,_,_,_,_,rfl,M5,by omega,by omega,by omega⟩
end
end L2

set_option Elab.async false
set_option linter.all false
set_option maxRecDepth 100000
set_option maxHeartbeats 4000000
namespace L2
open PySem PyProof.Rows
section
variable {α:Type} (kf:Keyed→α) (lt:α→α→Bool)
def KA (xs:Array Keyed) (i:Nat):α:=kf (xs[i]?.getD (.none,.none))
def SdTo (xs:Array Keyed) (lo n:Nat):Prop:=∀ i j,i≤j→j < n→lt (KA kf xs (lo+j)) (KA kf xs (lo+i))=false
def NiTo (xs:Array Keyed) (lo n:Nat):Prop:=∀ i j,i≤j→j < n→lt (KA kf xs (lo+i)) (KA kf xs (lo+j))=false
end
structure SB (kd:SortKind) (p0:Array (Nat × Nat × Nat)) (a₀:Array Keyed) (lo hi:Nat) (st:SortSt):Prop where
 perm:(arrOf st).Perm a₀
 kind:kindOf st=kd
 failed:failedOf st=none
 pend:pendingOf st=p0
 out:∀ k:Nat,k < lo∨hi≤k→(arrOf st)[k]?=a₀[k]?
section
variable {α:Type} {kf:Keyed→α} {lt:α→α→Bool} {kd:SortKind} {p0:Array (Nat × Nat × Nat)} {a₀:Array Keyed} {lo hi:Nat} {st:SortSt}
theorem SB.size (h:SB kd p0 a₀ lo hi st):(arrOf st).size=a₀.size:=h.perm.size_eq
theorem SB.arr (h:SB kd p0 a₀ lo hi st) {xs:Array Keyed} (hp:xs.Perm (arrOf st)) (ho:∀ k:Nat,k < lo∨hi≤k→xs[k]?=(arrOf st)[k]?):SB kd p0 a₀ lo hi (setArr st xs) :=
 ⟨hp.trans h.perm,h.kind,h.failed,h.pend,fun k hk=>(ho k hk).trans (h.out k hk)⟩
theorem KA_congr {xs ys:Array Keyed} {i j:Nat} (h:xs[i]?=ys[j]?):KA kf xs i=KA kf ys j:=by unfold KA;rw [h]
theorem KA_mirror {xs:Array Keyed} {i j:Nat} (hj:j≤xs.size) (k:Nat):KA kf (mirror xs i j ((j - i) / 2)) k=if i≤k∧k < j then KA kf xs (i+j - 1 - k) else KA kf xs k:=by
 have e:=getElem?_mirror_all (i:=i) hj k
 by_cases h1:i≤k∧k < j
 ·rw [if_pos h1] at e ⊢;exact KA_congr e
 ·rw [if_neg h1] at e ⊢;exact KA_congr e
theorem KA_mirror_equal {xs:Array Keyed} {i j:Nat} (hj:j≤xs.size) (heq:∀ k,i≤k→k < j→KA kf xs k=KA kf xs (j - 1)) (k:Nat):KA kf (mirror xs i j ((j - i) / 2)) k=KA kf xs k:=by
 rw [KA_mirror hj]
 split
 ·rw [heq _ (by omega) (by omega),heq k (by omega) (by omega)]
 ·rfl
theorem KA_bubble {xs:Array Keyed} {src d:Nat} (hs:src < xs.size) (hd:d≤src) (k:Nat):KA kf (bubble xs src d) k=if k=src - d then KA kf xs src else if src - d < k∧k≤src then KA kf xs (k - 1) else KA kf xs k:=by
 have e:=getElem?_bubble hs d hd k
 by_cases h1:k=src - d
 ·rw [if_pos h1] at e ⊢;exact KA_congr e
 ·rw [if_neg h1] at e ⊢
  by_cases h2:src - d < k∧k≤src
  ·rw [if_pos h2] at e ⊢;exact KA_congr e
  ·rw [if_neg h2] at e ⊢;exact KA_congr e
theorem mirror_out {xs:Array Keyed} {i j:Nat} (hj:j≤xs.size) {k:Nat} (hk:k < i∨j≤k):(mirror xs i j ((j - i) / 2))[k]?=xs[k]?:=by
 rw [getElem?_mirror_all hj,if_neg (by omega)]
theorem bubble_out {xs:Array Keyed} {src d:Nat} (hs:src < xs.size) (hd:d≤src) {k:Nat} (hk:k < src - d∨src < k):(bubble xs src d)[k]?=xs[k]?:=by
 rw [getElem?_bubble hs d hd,if_neg (by omega),if_neg (by omega)]
end
section
variable {prog:Program} {w:World} {A:Around} {E:Value→Shared→Prop} {s:Shared} {α:Type} {kf:Keyed→α} {lt:α→α→Bool} {kd:SortKind} {S:List Keyed} {p0:Array (Nat × Nat × Nat)} {a₀:Array Keyed} {lo hi:Nat}
theorem wpS_ltB (hA:Asks prog w A E s kd S kf lt) (h0:∀ x∈a₀.toList,x∈S) {st:SortSt} (hB:SB kd p0 a₀ lo hi st) {i j:Nat} (hi':i < a₀.size) (hj:j < a₀.size) {Q:Option Bool→SortSt→Prop}
  (h:Q (some (lt (KA kf (arrOf st) i) (KA kf (arrOf st) j))) st):wpS (model prog w) A E s (ltAt' i j) Q st:=by
 have e:∀ k,k < a₀.size→∃ x,(arrOf st)[k]?=some x∧x∈S∧KA kf (arrOf st) k=kf x:=fun k hk=>by
  have hk':k < (arrOf st).size:=by rw [hB.size];exact hk
  refine ⟨(arrOf st)[k],Array.getElem?_eq_getElem hk',h0 _ ((Array.perm_iff_toList_perm.mp hB.perm).mem_iff.mp (by simp)),?_⟩
  unfold KA;rw [Array.getElem?_eq_getElem hk'];rfl
 obtain ⟨x,e1,x1,x2⟩:=e i hi'
 obtain ⟨y,e2,y1,y2⟩:=e j hj
 rw [ltAt'_eq]
 refine wpS_bind (wpS_get ?_)
 show wpS _ _ _ _ (do let x ←elem' (arrOf st) i;let y ←elem' (arrOf st) j;lt' x y) Q st
 refine wpS_bind (wpS_elem e1 ?_)
 refine wpS_bind (wpS_elem e2 ?_)
 exact hA st x y Q hB.kind x1 y1 (by rw [←x2,←y2];exact h)
theorem wpS_binarySortG (T:SOrd lt) (hA:Asks prog w A E s kd S kf lt) (h0:∀ x∈a₀.toList,x∈S) {st:SortSt} {n ok:Nat} {Q:Bool→SortSt→Prop} (hn:lo+n≤a₀.size) (hhi:lo+n≤hi) (hok:ok≤n) (hB:SB kd p0 a₀ lo hi st) (hs:SdTo kf lt (arrOf st) lo ok)
  (h:∀ st',SB kd p0 a₀ lo hi st'→SdTo kf lt (arrOf st') lo n→Q true st'):wpS (model prog w) A E s (binarySort' lo n ok) Q st:=by
 rw [binarySort'_eq]
 refine wpS_bind (wpS_mono (wpS_forRange (I:=fun k c st'=>c=(none,())∧SB kd p0 a₀ lo hi st'∧SdTo kf lt (arrOf st') lo (min k n))
  (Q:=fun c st'=>c=(none,())∧SB kd p0 a₀ lo hi st'∧SdTo kf lt (arrOf st') lo n) ?step ?fin ?init) ?post)
 case post =>
  rintro c st' ⟨rfl,hB',hs'⟩
  exact wpS_pure (h st' hB' hs')
 case init =>
  refine ⟨rfl,hB,fun i j hij hj=>?_⟩
  by_cases h1:ok=0
  ·have:i=j:=by omega
   subst this;exact T.refl _
  ·exact hs i j hij (by omega)
 case fin =>
  rintro c st' ⟨hc,hB',hs'⟩
  refine ⟨hc,hB',?_⟩
  rwa [show min (max (max ok 1) n) n=n by omega] at hs'
 case step =>
  rintro k c st' hak hkn ⟨rfl,hB',hs'⟩
  rw [show min k n=k by omega] at hs'
  have hk:lo+k < a₀.size:=by omega
  refine wpS_bind (wpS_mono (wpS_forRange (I:=fun x c st''=>st''=st'∧∃ l r,c=(none,l,r)∧l≤r∧r≤k∧r - l≤k - x ∧
    (∀ i,i < l→lt (KA kf (arrOf st') (lo+k)) (KA kf (arrOf st') (lo+i))=false)∧(∀ i,r≤i→i < k→lt (KA kf (arrOf st') (lo+k)) (KA kf (arrOf st') (lo+i))=true))
   (Q:=fun c st''=>st''=st'∧∃ l r,c=(none,l,r)∧l≤k ∧
    (∀ i,i < l→lt (KA kf (arrOf st') (lo+k)) (KA kf (arrOf st') (lo+i))=false)∧(∀ i,l≤i→i < k→lt (KA kf (arrOf st') (lo+k)) (KA kf (arrOf st') (lo+i))=true)) ?istep ?ifin ?iinit) ?ipost)
  case iinit=>exact ⟨rfl,0,k,rfl,by omega,by omega,by omega,fun i hi=>by omega,fun i h1 h2=>by omega⟩
  case ifin =>
   rintro c st'' ⟨rfl,l,r,rfl,hlr,hrk,hm,hlo,hhi⟩
   have:l=r:=by omega
   subst this
   exact ⟨rfl,l,l,rfl,hrk,hlo,hhi⟩
  case istep =>
   rintro x c st'' _ hxk ⟨rfl,l,r,rfl,hlr,hrk,hm,hlo,hhi⟩
   dsimp only
   by_cases hge:l ≥ r
   ·rw [if_pos hge]
    have:l=r:=by omega
    subst this
    exact wpS_pure ⟨rfl,l,l,rfl,hrk,hlo,hhi⟩
   ·rw [if_neg hge]
    refine wpS_bind (wpS_ltB hA h0 hB' hk (by omega) ?_)
    cases hless:lt (KA kf (arrOf st'') (lo+k)) (KA kf (arrOf st'') (lo+(l+r) / 2))
    case true =>
     simp only [if_true]
     refine wpS_pure ⟨rfl,l,(l+r) / 2,rfl,by omega,by omega,by omega,hlo,fun i h1 h2=>?_⟩
     cases e:lt (KA kf (arrOf st'') (lo+k)) (KA kf (arrOf st'') (lo+i)) with
     | true=>rfl
     | false=>rw [T.tr _ _ _ (hs' _ _ h1 h2) e] at hless;cases hless
    case false =>
     simp only [Bool.false_eq_true,if_false]
     refine wpS_pure ⟨rfl,(l+r) / 2+1,r,rfl,by omega,by omega,by omega,fun i h1=>?_,hhi⟩
     exact T.tr _ _ _ (hs' i ((l+r) / 2) (by omega) (by omega)) hless
  case ipost =>
   rintro c st'' ⟨rfl,l,r,rfl,hlk,hlo,hhi'⟩
   show wpS _ _ _ _ (do moveDown' (lo+k) (lo+l);pure (ForInStep.yield (none,()))) _ _
   rw [moveDown'_eq]
   have hks:lo+k < (arrOf st'').size:=by rw [hB'.size];exact hk
   have hd:lo+k - (lo+l)≤lo+k:=by omega
   refine wpS_bind (wpS_modify (wpS_pure ⟨rfl,hB'.arr (bubble_perm _ _ _) (fun k' hk'=>bubble_out hks hd (by omega)),?_⟩))
   rw [show min (k+1) n=k+1 by omega]
   intro i j hij hj
   show lt (KA kf (bubble (arrOf st'') (lo+k) (lo+k - (lo+l))) (lo+j)) (KA kf (bubble (arrOf st'') (lo+k) (lo+k - (lo+l))) (lo+i))=false
   rw [KA_bubble hks hd,KA_bubble hks hd,show lo+k - (lo+k - (lo+l))=lo+l by omega]
   have back:∀ i,i < k+1→0 < i→lo+i - 1=lo+(i - 1):=fun i _ _=>by omega
   repeat' split
   all_goals first
    | (exfalso;omega)
    | exact T.refl _
    | exact hlo _ (by omega)
    | (rw [show lo+j - 1=lo+(j - 1) by omega];exact T.asy _ _ (hhi' _ (by omega) (by omega)))
    | (rw [show lo+j - 1=lo+(j - 1) by omega,show lo+i - 1=lo+(i - 1) by omega];exact hs' _ _ (by omega) (by omega))
    | (rw [show lo+j - 1=lo+(j - 1) by omega];exact hs' _ _ (by omega) (by omega))
    | exact hs' _ _ (by omega) (by omega)
end
end L2

set_option Elab.async false
set_option linter.all false
set_option maxRecDepth 100000
set_option maxHeartbeats 4000000
namespace L2
open PySem PyProof.Rows
section
variable {prog:Program} {w:World} {A:Around} {E:Value→Shared→Prop} {s:Shared} {α:Type} {kf:Keyed→α} {lt:α→α→Bool} {kd:SortKind} {S:List Keyed} {p0:Array (Nat × Nat × Nat)} {a₀:Array Keyed} {lo hi:Nat}
theorem wpS_countRunG (T:SOrd lt) (hA:Asks prog w A E s kd S kf lt) (h0:∀ x∈a₀.toList,x∈S) {st:SortSt} {nrem:Nat} {Q:Option Nat→SortSt→Prop} (hn:lo+nrem≤a₀.size) (hhi:lo+nrem≤hi) (h1:1≤nrem) (hB:SB kd p0 a₀ lo hi st)
  (h:∀ m st',SB kd p0 a₀ lo hi st'→1≤m→m≤nrem→SdTo kf lt (arrOf st') lo m→Q (some m) st'):wpS (model prog w) A E s (countRun' lo nrem) Q st:=by
 rw [countRun'_eq]
 refine wpS_bind (wpS_mono (wpS_forRange (I:=fun x c st'=>st'=st∧c=(none,x)∧SdTo kf lt (arrOf st) lo x)
  (Q:=fun c st'=>st'=st∧∃ n,c=(none,n)∧1≤n∧n≤nrem∧SdTo kf lt (arrOf st) lo n∧(n=nrem∨lt (KA kf (arrOf st) (lo+n)) (KA kf (arrOf st) (lo+n - 1))=true)) ?stepA7 ?finA7 ⟨rfl,rfl,(fun i j hij hj=>by have:i=j:=(by omega);subst this;exact T.refl _)⟩) ?postA7)
 case finA7 =>
  rintro c st' ⟨e9,rfl,hs'⟩
  rw [show max (1) nrem=nrem by omega] at hs' ⊢
  exact ⟨e9,nrem,rfl,by omega,Nat.le_refl _,hs',.inl rfl⟩
 case stepA7 =>
  rintro x c st' hax hxn ⟨e9,rfl,hs'⟩
  rw [e9]
  dsimp only
  refine wpS_bind (wpS_ltB hA h0 hB (by omega) (by omega) ?_)
  cases hless:lt (KA kf (arrOf st) (lo+x)) (KA kf (arrOf st) (lo+x - 1))
  case true =>
   simp only [if_true]
   exact wpS_pure ⟨rfl,x,rfl,hax,by omega,hs',.inr hless⟩
  case false =>
   simp only [Bool.false_eq_true,if_false]
   refine wpS_pure ⟨rfl,rfl,fun i j hij hj=>?_⟩
   by_cases hjx:j < x
   ·exact hs' i j hij hjx
   ·have hj':j=x:=by omega
    subst hj'
    by_cases hi':i=j
    ·subst hi';exact T.refl _
    ·have:=hs' i (j - 1) (by omega) (by omega)
     rw [show lo+(j - 1)=lo+j - 1 by omega] at this
     exact T.tr _ _ _ this hless
 case postA7 =>
  rintro c st' ⟨e9,n,rfl,hn1,hn2,hsn,hor⟩
  rw [e9]
  dsimp only
  by_cases hnn:n=nrem
  ·rw [if_pos (by simpa using hnn)]
   exact wpS_pure (h n st hB hn1 hn2 hsn)
  rw [if_neg (by simpa using hnn)]
  have hlt:=hor.resolve_left hnn
  by_cases hgt:n > 1
  focus
   rw [if_pos hgt]
   refine wpS_bind (wpS_ltB hA h0 hB (by omega) (by omega) ?_)
   cases hrose:lt (KA kf (arrOf st) lo) (KA kf (arrOf st) (lo+n - 1))
   case true =>
    simp only [if_true]
    exact wpS_pure (h n st hB hn1 hn2 hsn)
   simp only [Bool.false_eq_true,if_false]
   have hsz0:lo+n≤(arrOf st).size:=by rw [hB.size];omega
   have hall:∀ k,lo≤k→k < lo+n→KA kf (arrOf st) k=KA kf (arrOf st) (lo+n - 1):=by
    intro k u1 u2
    have a1:=hsn 0 (k - lo) (by omega) (by omega)
    have a2:=hsn (k - lo) (n - 1) (by omega) (by omega)
    rw [show lo+(k - lo)=k by omega,Nat.add_zero] at a1
    rw [show lo+(k - lo)=k by omega,show lo+(n - 1)=lo+n - 1 by omega] at a2
    exact T.an _ _ (T.tr _ _ _ hrose a1) a2
   refine wpS_bind (wpS_reverse ?_)
   have hB5:SB kd p0 a₀ lo hi (setArr st (mirror (arrOf st) lo (lo+n) ((lo+n - lo) / 2))):=hB.arr (mirror_perm _ _ _ _) (fun k hk=>mirror_out hsz0 (by omega))
   have hs5:NiTo kf lt (arrOf (setArr st (mirror (arrOf st) lo (lo+n) ((lo+n - lo) / 2)))) lo (n+1):=by
    intro i j hij hj
    show lt (KA kf (mirror (arrOf st) _ _ _) (lo+i)) (KA kf (mirror (arrOf st) _ _ _) (lo+j))=false
    rw [KA_mirror_equal hsz0 hall,KA_mirror_equal hsz0 hall]
    by_cases hjn:j < n
    ·rw [hall (lo+i) (by omega) (by omega),hall (lo+j) (by omega) (by omega)];exact T.refl _
    ·have hj':j=n:=by omega
     subst hj'
     by_cases hi':i=j
     ·subst hi';exact T.refl _
     ·rw [hall (lo+i) (by omega) (by omega)];exact T.asy _ _ hlt
   generalize setArr st (mirror (arrOf st) lo (lo+n) ((lo+n - lo) / 2))=st5 at hB5 hs5 ⊢
  rotate_left
  focus
   rw [if_neg hgt]
   have hn1':n=1:=by omega
   have hs5:NiTo kf lt (arrOf st) lo (n+1):=by
    subst hn1'
    intro i j hij hj
    by_cases hi':i=j
    ·subst hi';exact T.refl _
    ·have hi0:i=0:=by omega
     have hj1:j=1:=by omega
     subst hi0;subst hj1
     exact T.asy _ _ hlt
   have hB5:=hB
   generalize st=st5 at hB5 hs5 ⊢
  all_goals
   refine wpS_bind (wpS_lift (wpAny_rule ⟨rfl,?_⟩))
   refine wpS_bind (wpS_mono (wpS_forRange (I:=fun x c st'=>∃ neq,c=(none,x,neq)∧SB kd p0 a₀ lo hi st'∧NiTo kf lt (arrOf st') lo x∧neq+1≤x∧(∀ i,x - (neq+1)≤i→i < x→KA kf (arrOf st') (lo+i)=KA kf (arrOf st') (lo+x - 1)))
    (Q:=fun c st'=>∃ m neq,c=(none,m,neq)∧n+1≤m∧m≤nrem∧SB kd p0 a₀ lo hi st'∧NiTo kf lt (arrOf st') lo m∧neq+1≤m∧(∀ i,m - (neq+1)≤i→i < m→KA kf (arrOf st') (lo+i)=KA kf (arrOf st') (lo+m - 1))) ?stepD1 ?finD1 ⟨0,rfl,hB5,hs5,by omega,fun i u1 u2=>by congr 1;omega⟩) ?postD1)
   case finD1 =>
    rintro c st' ⟨neq,rfl,hB',hs',hq,he⟩
    rw [show max (n+1) nrem=nrem by omega] at hs' hq he ⊢
    exact ⟨nrem,neq,rfl,by omega,Nat.le_refl _,hB',hs',hq,he⟩
   case stepD1 =>
    rintro x c st' hax hxn ⟨neq,rfl,hB',hs',hq,he⟩
    dsimp only
    have hsz:lo+x≤(arrOf st').size:=by rw [hB'.size];omega
    refine wpS_bind (wpS_ltB hA h0 hB' (by omega) (by omega) ?_)
    cases hless:lt (KA kf (arrOf st') (lo+x)) (KA kf (arrOf st') (lo+x - 1))
    case true =>
     simp only [if_true]
     have step1:∀ xs:Array Keyed,(∀ k,KA kf xs k=KA kf (arrOf st') k)→NiTo kf lt xs lo (x+1):=by
      intro xs hk i j hij hj
      rw [hk,hk]
      by_cases hjx:j < x
      ·exact hs' i j hij hjx
      ·have hj':j=x:=by omega
       subst hj'
       by_cases hi':i=j
       ·subst hi';exact T.refl _
       ·have:=hs' i (j - 1) (by omega) (by omega)
        rw [show lo+(j - 1)=lo+j - 1 by omega] at this
        exact T.tr _ _ _ (T.asy _ _ hless) this
     have heq:∀ k,lo+x - (neq+1)≤k→k < lo+x→KA kf (arrOf st') k=KA kf (arrOf st') (lo+x - 1):=fun k u1 u2=>by
      have:=he (k - lo) (by omega) (by omega)
      rw [show lo+(k - lo)=k by omega] at this
      exact this
     by_cases hneq:neq > 0
     ·rw [if_pos hneq]
      refine wpS_bind (wpS_reverse (wpS_pure ⟨0,rfl,hB'.arr (mirror_perm _ _ _ _) (fun k hk=>mirror_out hsz (by omega)),step1 _ (KA_mirror_equal hsz heq),by omega,fun i u1 u2=>by congr 1;omega⟩))
     ·rw [if_neg hneq]
      exact wpS_pure ⟨0,rfl,hB',step1 _ (fun _=>rfl),by omega,fun i u1 u2=>by congr 1;omega⟩
    case false =>
     simp only [Bool.false_eq_true,if_false]
     refine wpS_bind (wpS_ltB hA h0 hB' (by omega) (by omega) ?_)
     cases hlarger:lt (KA kf (arrOf st') (lo+x - 1)) (KA kf (arrOf st') (lo+x))
     case true =>
      simp only [if_true]
      exact wpS_pure ⟨x,neq,rfl,hax,by omega,hB',hs',hq,he⟩
     case false =>
      simp only [Bool.false_eq_true,if_false]
      have heqx:KA kf (arrOf st') (lo+x)=KA kf (arrOf st') (lo+x - 1):=T.an _ _ hless hlarger
      refine wpS_pure ⟨neq+1,rfl,hB',fun i j hij hj=>?_,by omega,fun i u1 u2=>?_⟩
      ·by_cases hjx:j < x
       ·exact hs' i j hij hjx
       ·have hj':j=x:=by omega
        subst hj'
        by_cases hi':i=j
        ·subst hi';exact T.refl _
        ·have:=hs' i (j - 1) (by omega) (by omega)
         rw [show lo+(j - 1)=lo+j - 1 by omega] at this
         rw [heqx];exact this
      ·rw [show lo+(x+1) - 1=lo+x by omega]
       by_cases hix:i=x
       ·subst hix;rfl
       ·rw [heqx];exact he i (by omega) (by omega)
   case postD1 =>
    rintro c st7 ⟨m,neq,rfl,hm1,hm2,hB7,hs7,hq,he⟩
    dsimp only
    have hsz:lo+m≤(arrOf st7).size:=by rw [hB7.size];omega
    have heq:∀ k,lo+m - (neq+1)≤k→k < lo+m→KA kf (arrOf st7) k=KA kf (arrOf st7) (lo+m - 1):=fun k u1 u2=>by
     have:=he (k - lo) (by omega) (by omega)
     rw [show lo+(k - lo)=k by omega] at this
     exact this
    by_cases hneq:neq > 0
    focus
     rw [if_pos hneq]
     refine wpS_bind (wpS_reverse ?_)
     have hB7':SB kd p0 a₀ lo hi (setArr st7 (mirror (arrOf st7) (lo+m - (neq+1)) (lo+m) ((lo+m - (lo+m - (neq+1))) / 2))):=hB7.arr (mirror_perm _ _ _ _) (fun k hk=>mirror_out hsz (by omega))
     have hs7':NiTo kf lt (arrOf (setArr st7 (mirror (arrOf st7) (lo+m - (neq+1)) (lo+m) ((lo+m - (lo+m - (neq+1))) / 2)))) lo m:=by
      intro i j hij hj
      show lt (KA kf (mirror (arrOf st7) _ _ _) (lo+i)) (KA kf (mirror (arrOf st7) _ _ _) (lo+j))=false
      rw [KA_mirror_equal hsz heq,KA_mirror_equal hsz heq]
      exact hs7 i j hij hj
     generalize setArr st7 (mirror (arrOf st7) (lo+m - (neq+1)) (lo+m) ((lo+m - (lo+m - (neq+1))) / 2))=st6 at hB7' hs7' ⊢
    rotate_left
    focus
     rw [if_neg hneq]
     have hB7':=hB7
     have hs7':=hs7
     generalize st7=st6 at hB7' hs7' ⊢
    all_goals
     have hsz3:lo+m≤(arrOf st6).size:=by rw [(hB7').size];omega
     refine wpS_bind (wpS_reverse ?_)
     have hB3:SB kd p0 a₀ lo hi (setArr st6 (mirror (arrOf st6) lo (lo+m) ((lo+m - lo) / 2))):=(hB7').arr (mirror_perm _ _ _ _) (fun k hk=>mirror_out hsz3 (by omega))
     have hs3:SdTo kf lt (arrOf (setArr st6 (mirror (arrOf st6) lo (lo+m) ((lo+m - lo) / 2)))) lo m:=by
      intro i j hij hj
      show lt (KA kf (mirror (arrOf st6) lo (lo+m) ((lo+m - lo) / 2)) (lo+j)) (KA kf (mirror (arrOf st6) lo (lo+m) ((lo+m - lo) / 2)) (lo+i))=false
      rw [KA_mirror hsz3,KA_mirror hsz3,if_pos (by omega),if_pos (by omega),show lo+(lo+m) - 1 - (lo+j)=lo+(m - 1 - j) by omega,show lo+(lo+m) - 1 - (lo+i)=lo+(m - 1 - i) by omega]
      exact hs7' _ _ (by omega) (by omega)
     generalize setArr st6 (mirror (arrOf st6) lo (lo+m) ((lo+m - lo) / 2))=st8 at hB3 hs3 ⊢
     refine wpS_bind (wpS_mono (wpS_forRange (I:=fun x c st'=>st'=st8∧c=(none,x)∧SdTo kf lt (arrOf st8) lo x)
      (Q:=fun c st'=>st'=st8∧∃ n,c=(none,n)∧m≤n∧n≤nrem∧SdTo kf lt (arrOf st8) lo n∧(n=nrem∨lt (KA kf (arrOf st8) (lo+n)) (KA kf (arrOf st8) (lo+n - 1))=true)) ?stepA2 ?finA2 ⟨rfl,rfl,hs3⟩) ?postA2)
     case finA2 =>
      rintro c st' ⟨e9,rfl,hs'⟩
      rw [show max (m) nrem=nrem by omega] at hs' ⊢
      exact ⟨e9,nrem,rfl,by omega,Nat.le_refl _,hs',.inl rfl⟩
     case stepA2 =>
      rintro x c st' hax hxn ⟨e9,rfl,hs'⟩
      rw [e9]
      dsimp only
      refine wpS_bind (wpS_ltB hA h0 hB3 (by omega) (by omega) ?_)
      cases hless:lt (KA kf (arrOf st8) (lo+x)) (KA kf (arrOf st8) (lo+x - 1))
      case true =>
       simp only [if_true]
       exact wpS_pure ⟨rfl,x,rfl,hax,by omega,hs',.inr hless⟩
      case false =>
       simp only [Bool.false_eq_true,if_false]
       refine wpS_pure ⟨rfl,rfl,fun i j hij hj=>?_⟩
       by_cases hjx:j < x
       ·exact hs' i j hij hjx
       ·have hj':j=x:=by omega
        subst hj'
        by_cases hi':i=j
        ·subst hi';exact T.refl _
        ·have:=hs' i (j - 1) (by omega) (by omega)
         rw [show lo+(j - 1)=lo+j - 1 by omega] at this
         exact T.tr _ _ _ this hless
     case postA2 =>
      rintro c st' ⟨e9,n,rfl,hn1,hn2,hsn,hor⟩
      rw [e9]
      dsimp only
      exact wpS_pure (h n st8 hB3 (by omega) hn2 hsn)
end
end L2

set_option Elab.async false
set_option linter.all false
set_option maxRecDepth 100000
set_option maxHeartbeats 4000000
namespace L2
open PySem PyProof.Rows
theorem wpS_set {M:Model} {A:Around} {E:Value→Shared→Prop} {s:Shared} {σ:Type} {x st:σ} {Q:PUnit→σ→Prop} (h:Q ⟨⟩ x):wpS M A E s (set x:StateT σ Sem PUnit) Q st:=by
 unfold wpS;rw [StateT.run_set];exact wpAny_pure ⟨rfl,h⟩
theorem write_list:∀ (l:List Keyed) (j:Nat) (pre mid post:List Keyed) (arr:Array Keyed),mid.length=l.length→arr.toList=pre++mid++post→∀ base,base+j=pre.length →
  ((l.zipIdx j).foldl (fun a (q:Keyed × Nat)=>a.setIfInBounds (base+q.2) q.1) arr).toList=pre++l++post
 | [],j,pre,mid,post,arr,hm,e,base,hb=>by
  have:mid=[]:=List.eq_nil_of_length_eq_zero hm
  subst this
  simpa using e
 | x::l,j,pre,mid,post,arr,hm,e,base,hb=>by
  cases mid with
  | nil=>cases hm
  | cons y mid =>
   rw [List.zipIdx_cons,List.foldl_cons]
   have e2:(arr.setIfInBounds (base+j) x).toList=(pre++[x])++mid++post:=by
    rw [Array.toList_setIfInBounds,e,hb]
    simp [List.set_append]
   have:=write_list l (j+1) (pre++[x]) mid post _ (Nat.succ.inj hm) e2 base (by simp;omega)
   rw [this]
   simp
section
variable {prog:Program} {w:World} {A:Around} {E:Value→Shared→Prop} {s:Shared} {α:Type} {kf:Keyed→α} {lt:α→α→Bool} {kd:SortKind} {S:List Keyed}
theorem sl_app {x y:List Keyed} (hx:Sl kf lt x) (hy:Sl kf lt y) (h:∀ a∈x,∀ b∈y,lt (kf b) (kf a)=false):Sl kf lt (x++y):=List.pairwise_append.mpr ⟨hx,hy,h⟩
theorem sl_le (T:SOrd lt) {l:List Keyed} (h:Sl kf lt l) {i j:Nat} (hi:i < l.length) (hj:j < l.length) (hij:i≤j):lt (kf l[j]) (kf l[i])=false:=by
 rcases Nat.lt_or_ge i j with q | q
 ·exact List.pairwise_iff_getElem.mp h i j hi hj q
 ·have:i=j:=by omega
  subst this
  exact T.refl _
theorem wpS_mergeAt (T:SOrd lt) (hA:Asks prog w A E s kd S kf lt) {st:SortSt} (hk:kindOf st=kd) (hfl:failedOf st=none) {pre u v post:List Keyed} (hS:∀ x∈(arrOf st).toList,x∈S) (harr:(arrOf st).toList=pre++u++v++post)
  {i pw pw2:Nat} (hp1:(pendingOf st)[i]?=some (pre.length,u.length,pw)) (hp2:(pendingOf st)[i+1]?=some (pre.length+u.length,v.length,pw2)) (hu0:0 < u.length) (hv0:0 < v.length) (hu:Sl kf lt u) (hv:Sl kf lt v) {Q:Bool→SortSt→Prop}
  (h:∀ r st',Sl kf lt r→r.Perm (u++v)→kindOf st'=kd→failedOf st'=none→pendingOf st'=((pendingOf st).setIfInBounds i (pre.length,u.length+v.length,pw)).eraseIdxIfInBounds (i+1)→(arrOf st').toList=pre++r++post→Q true st') :
  wpS (model prog w) A E s (mergeAt' i) Q st:=by
 have hsz:(arrOf st).size=pre.length+u.length+v.length+post.length:=by rw [←Array.length_toList,harr];simp;omega
 have hU:∀ j (hj:j < u.length),(arrOf st)[pre.length+j]?=some u[j]:=fun j hj=>by
  rw [←Array.getElem?_toList,harr,List.append_assoc,List.append_assoc,List.getElem?_append_right (by omega),Nat.add_sub_cancel_left,List.getElem?_append_left hj,List.getElem?_eq_getElem hj]
 have hV:∀ j (hj:j < v.length),(arrOf st)[pre.length+u.length+j]?=some v[j]:=fun j hj=>by
  rw [←Array.getElem?_toList,harr,List.append_assoc,List.getElem?_append_right (by simp)]
  rw [show pre.length+u.length+j - (pre++u).length=j by simp,List.getElem?_append_left hj,List.getElem?_eq_getElem hj]
 have gU:∀ j (hj:j < (arrOf st).size) (h1:pre.length≤j) (h2:j < pre.length+u.length),(arrOf st)[j]=u[j - pre.length]'(by omega):=fun j hj h1 h2=>by
  have:=hU (j - pre.length) (by omega)
  rw [show pre.length+(j - pre.length)=j by omega,Array.getElem?_eq_getElem hj] at this
  exact Option.some.inj this
 have gV:∀ j (hj:j < (arrOf st).size) (h1:pre.length+u.length≤j) (h2:j < pre.length+u.length+v.length),(arrOf st)[j]=v[j - (pre.length+u.length)]'(by omega):=fun j hj h1 h2=>by
  have:=hV (j - (pre.length+u.length)) (by omega)
  rw [show pre.length+u.length+(j - (pre.length+u.length))=j by omega,Array.getElem?_eq_getElem hj] at this
  exact Option.some.inj this
 have hSi:∀ j (hj:j < (arrOf st).size),(arrOf st)[j]∈S:=fun j hj=>hS _ (by simp)
 have hSu:∀ x∈u,x∈S:=fun x hx=>hS x (by rw [harr];simp [hx])
 have hSv:∀ x∈v,x∈S:=fun x hx=>hS x (by rw [harr];simp [hx])
 refine wpS_bind (wpS_get ?_)
 rw [hp1,hp2]
 dsimp only
 refine wpS_bind (wpS_set ?_)
 generalize hP:((pendingOf st).setIfInBounds i (pre.length,u.length+v.length,pw)).eraseIdxIfInBounds (i+1)=P at h ⊢
 have hk1:kindOf (setPending st P)=kd:=hk
 have hv00:=hV 0 hv0
 rw [Nat.add_zero] at hv00
 refine wpS_bind (wpS_elem hv00 ?_)
 refine wpS_bind (wpS_gal T hA hk1 (hSv _ (List.getElem_mem _)) (by omega) (fun j hj _ _=>hSi j hj) (fun a b ha hb u1 u2 u3=>by rw [gU a ha u1 (by omega),gU b hb (by omega) u3];exact sl_le T hu _ _ (by omega)) hu0 fun k hk2 f1 f2=>?_)
 have f1':∀ j (hj:j < u.length),j < k→lt (kf v[0]) (kf u[j])=false:=fun j hj hjk=>by
  have:=f1 (pre.length+j) (by omega) (by omega) (by omega)
  rw [gU (pre.length+j) (by omega) (by omega) (by omega)] at this
  unfold bey at this
  simpa using this
 have f2':∀ j (hj:j < u.length),k≤j→lt (kf v[0]) (kf u[j])=true:=fun j hj hjk=>by
  have:=f2 (pre.length+j) (by omega) (by omega) (by omega)
  rw [gU (pre.length+j) (by omega) (by omega) (by omega)] at this
  unfold bey at this
  simpa using this
 have uv0:∀ x∈u.take k,lt (kf v[0]) (kf x)=false:=fun x hx=>by
  obtain ⟨j,hj,e⟩:=List.mem_iff_getElem.mp hx
  rw [List.getElem_take] at e
  have hj':j < k∧j < u.length:=by simp at hj;omega
  rw [←e];exact f1' j hj'.2 hj'.1
 have v0v:∀ y∈v,lt (kf y) (kf v[0])=false:=fun y hy=>by
  obtain ⟨j,hj,e⟩:=List.mem_iff_getElem.mp hy
  rw [←e];exact sl_le T hv hv0 hj (by omega)
 have utv:∀ x∈u.take k,∀ y∈v,lt (kf y) (kf x)=false:=fun x hx y hy=>T.tr _ _ _ (uv0 x hx) (v0v y hy)
 have stay:(arrOf (setPending st P)).toList=pre++(u++v)++post:=by
  show (arrOf st).toList=_
  rw [harr];simp
 dsimp only
 by_cases c1:u.length - k=0
 ·rw [if_pos (by simpa using c1)]
  have hku:u.take k=u:=List.take_of_length_le (by omega)
  rw [hku] at utv
  exact wpS_pure (h (u++v) _ (sl_app hu hv utv) .rfl hk hfl rfl stay)
 rw [if_neg (by simpa using c1)]
 have hlast:pre.length+k+(u.length - k) - 1=pre.length+(u.length - 1):=by omega
 rw [hlast]
 refine wpS_bind (wpS_elem (hU (u.length - 1) (by omega)) ?_)
 refine wpS_bind (wpS_gal T hA hk1 (hSu _ (List.getElem_mem _)) (by omega) (fun j hj _ _=>hSi j hj) (fun a b ha hb u1 u2 u3=>by rw [gV a ha u1 (by omega),gV b hb (by omega) u3];exact sl_le T hv _ _ (by omega)) (by omega) fun m hm2 g1 g2=>?_)
 have g1':∀ j (hj:j < v.length),j < m→lt (kf v[j]) (kf (u[u.length - 1]'(by omega)))=true:=fun j hj hjk=>by
  have:=g1 (pre.length+u.length+j) (by omega) (by omega) (by omega)
  rw [gV (pre.length+u.length+j) (by omega) (by omega) (by omega)] at this
  unfold bey at this
  simpa using this
 have g2':∀ j (hj:j < v.length),m≤j→lt (kf v[j]) (kf (u[u.length - 1]'(by omega)))=false:=fun j hj hjk=>by
  have:=g2 (pre.length+u.length+j) (by omega) (by omega) (by omega)
  rw [gV (pre.length+u.length+j) (by omega) (by omega) (by omega)] at this
  unfold bey at this
  simpa using this
 have ul:∀ x∈u,lt (kf (u[u.length - 1]'(by omega))) (kf x)=false:=fun x hx=>by
  obtain ⟨j,hj,e⟩:=List.mem_iff_getElem.mp hx
  rw [←e];exact sl_le T hu hj (by omega) (by omega)
 have lv:∀ y∈v.drop m,lt (kf y) (kf (u[u.length - 1]'(by omega)))=false:=fun y hy=>by
  obtain ⟨j,hj,e⟩:=List.mem_iff_getElem.mp hy
  rw [List.getElem_drop] at e
  have hj':m+j < v.length:=by simp at hj;omega
  rw [←e];exact g2' (m+j) hj' (by omega)
 have uvd:∀ x∈u,∀ y∈v.drop m,lt (kf y) (kf x)=false:=fun x hx y hy=>T.tr _ _ _ (ul x hx) (lv y hy)
 dsimp only
 by_cases c2:m=0
 ·rw [if_pos (by simpa using c2)]
  subst c2
  rw [List.drop_zero] at uvd
  exact wpS_pure (h (u++v) _ (sl_app hu hv uvd) .rfl hk hfl rfl stay)
 rw [if_neg (by simpa using c2)]
 have ex:((arrOf st).extract (pre.length+k) (pre.length+u.length)).toList=u.drop k:=by
  rw [Array.toList_extract,List.extract_eq_take_drop,harr,List.append_assoc,List.append_assoc,List.drop_append,List.drop_of_length_le (by omega),List.nil_append,Nat.add_sub_cancel_left,List.drop_append_of_le_length (by omega)]
  rw [show pre.length+u.length - (pre.length+k)=(u.drop k).length by simp;omega]
  exact List.take_left
 have ey:((arrOf st).extract (pre.length+u.length) (pre.length+u.length+m)).toList=v.take m:=by
  rw [Array.toList_extract,List.extract_eq_take_drop,harr,List.append_assoc,List.drop_append,show (pre++u).length=pre.length+u.length by simp,List.drop_of_length_le (by simp),List.nil_append,Nat.sub_self,List.drop_zero,Nat.add_sub_cancel_left,List.take_append_of_le_length hm2]
 generalize hx:(arrOf st).extract (pre.length+k) (pre.length+u.length)=X at ex ⊢
 generalize hy:(arrOf st).extract (pre.length+u.length) (pre.length+u.length+m)=Y at ey ⊢
 have hXs:X.size=u.length - k:=by rw [←Array.length_toList,ex];simp
 have hYs:Y.size=m:=by rw [←Array.length_toList,ey];simp;omega
 have x0:X[0]'(by omega)=u[k]'(by omega):=by
  have:X.toList[0]?=some (u[k]'(by omega)):=by rw [ex,List.getElem?_drop,Nat.add_zero,List.getElem?_eq_getElem (by omega)]
  rw [Array.getElem?_toList,Array.getElem?_eq_getElem (by omega)] at this
  exact Option.some.inj this
 have y0:Y[0]'(by omega)=v[0]:=by
  have:Y.toList[0]?=some v[0]:=by rw [ey,List.getElem?_take_of_lt (by omega),List.getElem?_eq_getElem hv0]
  rw [Array.getElem?_toList,Array.getElem?_eq_getElem (by omega)] at this
  exact Option.some.inj this
 have hfirst:lt (kf (Y[0]'(by omega))) (kf (X[0]'(by omega)))=true:=by rw [x0,y0];exact f2' k (by omega) (Nat.le_refl _)
 have hl:∀ y∈Y.toList,∀ z,X[X.size - 1]?=some z→lt (kf z) (kf y)=false:=fun y hy z hz=>by
  have ez:z=u[u.length - 1]'(by omega):=by
   rw [←Array.getElem?_toList,ex,List.getElem?_drop,show k+(X.size - 1)=u.length - 1 by omega,List.getElem?_eq_getElem (by omega)] at hz
   exact (Option.some.inj hz).symm
  rw [ey] at hy
  obtain ⟨j,hj,e⟩:=List.mem_iff_getElem.mp hy
  rw [List.getElem_take] at e
  have hj':j < m∧j < v.length:=by simp at hj;omega
  rw [ez,←e]
  exact T.asy _ _ (g1' j hj'.2 hj'.1)
 have fin:∀ r st',StG (setPending st P) st'→Mgd kf lt X Y r→wpS (model prog w) A E s (do
   modify fun s=>setArr s (r.toList.zipIdx.foldl (fun a (q:Keyed × Nat)=>a.setIfInBounds (pre.length+k+q.2) q.1) (arrOf s))
   let __do_lift ←get
   pure (failedOf __do_lift).isNone) Q st':=fun r st' hG hr=>by
  obtain ⟨g,rfl⟩:=hG
  obtain ⟨hr1,hr2⟩:=hr
  rw [ex,ey] at hr2
  refine wpS_bind (wpS_modify ?_)
  refine wpS_bind (wpS_get (wpS_pure ?_))
  have hfn:failedOf (setArr (SortSt.mk' (kindOf (setPending st P)) (arrOf (setPending st P)) (pendingOf (setPending st P)) g (failedOf (setPending st P))) (r.toList.zipIdx.foldl (fun a (q:Keyed × Nat)=>a.setIfInBounds (pre.length+k+q.2) q.1) (arrOf st)))=none:=hfl
  have hw:=write_list r.toList 0 (pre++u.take k) (u.drop k++v.take m) (v.drop m++post) (arrOf st) (by rw [←hr2.length_eq]) (by
   rw [harr]
   simp only [List.append_assoc]
   rw [←List.append_assoc (u.take k) (u.drop k),List.take_append_drop,←List.append_assoc (v.take m) (v.drop m),List.take_append_drop]) (pre.length+k) (by simp;omega)
  have memr:∀ y∈r.toList,y∈u.drop k∨y∈v.take m:=fun y hy=>List.mem_append.mp (hr2.mem_iff.mp hy)
  rw [show (failedOf (setArr (SortSt.mk' (kindOf (setPending st P)) (arrOf (setPending st P)) (pendingOf (setPending st P)) g (failedOf (setPending st P))) (r.toList.zipIdx.foldl (fun a (q:Keyed × Nat)=>a.setIfInBounds (pre.length+k+q.2) q.1) (arrOf st)))).isNone=true by rw [hfn];rfl]
  refine h (u.take k++(r.toList++v.drop m)) _ (sl_app (hu.sublist (List.take_sublist _ _)) (sl_app hr1 (hv.sublist (List.drop_sublist _ _)) fun x hx y hy=>?_) fun x hx y hy=>?_) ?_ hk hfl rfl ?_
  ·rcases memr x hx with z | z
   ·exact uvd x (List.mem_of_mem_drop z) y hy
   ·have hvv:Sl kf lt (v.take m++v.drop m):=by rw [List.take_append_drop];exact hv
    exact (List.pairwise_append.mp hvv).2.2 x z y hy
  ·rcases List.mem_append.mp hy with z | z
   ·rcases memr y z with z | z
    ·have huu:Sl kf lt (u.take k++u.drop k):=by rw [List.take_append_drop];exact hu
     exact (List.pairwise_append.mp huu).2.2 x hx y z
    ·exact utv x hx y (List.mem_of_mem_take z)
   ·exact utv x hx y (List.mem_of_mem_drop z)
  ·have e1:(u++v).Perm (u.take k++((u.drop k++v.take m)++v.drop m)):=by
    simp only [List.append_assoc]
    rw [List.take_append_drop,←List.append_assoc (u.take k) (u.drop k),List.take_append_drop]
   exact (List.Perm.append_left _ (List.Perm.append_right _ hr2)).trans e1.symm
  ·show (r.toList.zipIdx.foldl (fun a (q:Keyed × Nat)=>a.setIfInBounds (pre.length+k+q.2) q.1) (arrOf st)).toList=_
   rw [hw]
   simp
 split
 ·exact wpS_bind (wpS_mergeLo T hA hk1 (fun x hx=>hSu x (List.mem_of_mem_drop (by rw [ex] at hx;exact hx))) (fun x hx=>hSv x (List.mem_of_mem_take (by rw [ey] at hx;exact hx))) (by rw [ex];exact hu.sublist (List.drop_sublist _ _)) (by rw [ey];exact hv.sublist (List.take_sublist _ _)) (by omega) (by omega) hfirst hl fin)
 ·exact wpS_bind (wpS_mergeHi T hA hk1 (fun x hx=>hSu x (List.mem_of_mem_drop (by rw [ex] at hx;exact hx))) (fun x hx=>hSv x (List.mem_of_mem_take (by rw [ey] at hx;exact hx))) (by rw [ex];exact hu.sublist (List.drop_sublist _ _)) (by rw [ey];exact hv.sublist (List.take_sublist _ _)) (by omega) (by omega) hfirst hl fin)
end
end L2

set_option Elab.async false
set_option linter.all false
set_option maxRecDepth 100000
set_option maxHeartbeats 4000000
namespace L2
open PySem PyProof.Rows
def marks:Nat→List (List Keyed)→List (Nat × Nat)
 | _,[]=>[]
 | off,r::rs=>(off,r.length)::marks (off+r.length) rs
theorem marks_app:∀ (R1 R2:List (List Keyed)) (off:Nat),marks off (R1++R2)=marks off R1++marks (off+R1.flatten.length) R2
 | [],R2,off=>by simp [marks]
 | r::R1,R2,off=>by
  simp only [List.cons_append,marks,List.flatten_cons,List.length_append]
  rw [marks_app R1 R2,Nat.add_assoc]
theorem marks_length:∀ (R:List (List Keyed)) (off:Nat),(marks off R).length=R.length
 | [],_=>rfl
 | r::R,off=>by simp only [marks,List.length_cons,marks_length R]
theorem set_er {β:Type}:∀ (P1 P2:List β) (a a' b:β),((P1++a::b::P2).set P1.length a').eraseIdx (P1.length+1)=P1++a'::P2
 | [],P2,a,a',b=>rfl
 | x::P1,P2,a,a',b=>by
  show x::((P1++a::b::P2).set P1.length a').eraseIdx (P1.length+1)=x::(P1++a'::P2)
  rw [set_er P1 P2]
def mk2 (t:Nat × Nat × Nat):Nat × Nat:=(t.1,t.2.1)
section
variable {α:Type} {kf:Keyed→α} {lt:α→α→Bool} {kd:SortKind}
structure RI (kf:Keyed→α) (lt:α→α→Bool) (kd:SortKind) (a0:List Keyed) (runs:List (List Keyed)) (rest:List Keyed) (st:SortSt):Prop where
 arr:(arrOf st).toList=runs.flatten++rest
 perm:(arrOf st).toList.Perm a0
 kind:kindOf st=kd
 failed:failedOf st=none
 pend:(pendingOf st).toList.map mk2=marks 0 runs
 srt:∀ r∈runs,0 < r.length∧Sl kf lt r
theorem RI.size {a0:List Keyed} {runs:List (List Keyed)} {rest:List Keyed} {st:SortSt} (h:RI kf lt kd a0 runs rest st):(arrOf st).size=a0.length:=by
 rw [←Array.length_toList];exact h.perm.length_eq
theorem RI.len {a0:List Keyed} {runs:List (List Keyed)} {rest:List Keyed} {st:SortSt} (h:RI kf lt kd a0 runs rest st):runs.flatten.length+rest.length=a0.length:=by
 rw [←h.perm.length_eq,h.arr,List.length_append]
theorem RI.psize {a0:List Keyed} {runs:List (List Keyed)} {rest:List Keyed} {st:SortSt} (h:RI kf lt kd a0 runs rest st):(pendingOf st).size=runs.length:=by
 have:=congrArg List.length h.pend
 rw [List.length_map,marks_length,Array.length_toList] at this
 exact this
theorem flat_len:∀ (R:List (List Keyed)),(∀ r∈R,0 < r.length)→R.length≤R.flatten.length
 | [],_=>Nat.zero_le _
 | r::R,h=>by
  have h1:=h r List.mem_cons_self
  have h2:=flat_len R fun q hq=>h q (List.mem_cons_of_mem _ hq)
  simp only [List.length_cons,List.flatten_cons,List.length_append]
  omega
theorem RI.push {a0:List Keyed} {runs:List (List Keyed)} {rest r:List Keyed} {st:SortSt} (h:RI kf lt kd a0 runs (r++rest) st) (hr:0 < r.length) (hs:Sl kf lt r) {pw:Nat} {lo n:Nat} (hlo:lo=runs.flatten.length) (hn:n=r.length) :
  RI kf lt kd a0 (runs++[r]) rest (setPending st ((pendingOf st).push (lo,n,pw))):=by
 subst hlo hn
 refine ⟨?_,h.perm,h.kind,h.failed,?_,fun q hq=>?_⟩
 ·show (arrOf st).toList=_
  rw [h.arr];simp
 ·show ((pendingOf st).push _).toList.map mk2=_
  rw [Array.toList_push,List.map_append,h.pend,marks_app]
  simp [marks,mk2]
 ·rcases List.mem_append.mp hq with z | z
  ·exact h.srt q z
  ·rw [List.mem_singleton] at z
   rw [z];exact ⟨hr,hs⟩
theorem RI.power {a0:List Keyed} {runs:List (List Keyed)} {rest:List Keyed} {st:SortSt} (h:RI kf lt kd a0 runs rest st) (i pw:Nat) :
  RI kf lt kd a0 runs rest (setPending st ((pendingOf st).modify i fun (st,len,_)=>(st,len,pw))):=by
 refine ⟨h.arr,h.perm,h.kind,h.failed,?_,h.srt⟩
 show ((pendingOf st).modify i _).toList.map mk2=_
 rw [←h.pend]
 apply List.ext_getElem?
 intro j
 rw [List.getElem?_map,List.getElem?_map,Array.getElem?_toList,Array.getElem?_toList,Array.getElem?_modify]
 split
 ·cases (pendingOf st)[j]? with
  | none=>rfl
  | some t=>rfl
 ·rfl
end
section
variable {prog:Program} {w:World} {A:Around} {E:Value→Shared→Prop} {s:Shared} {α:Type} {kf:Keyed→α} {lt:α→α→Bool} {kd:SortKind} {S:List Keyed}
theorem wpS_mergeRI (T:SOrd lt) (hA:Asks prog w A E s kd S kf lt) {a0:List Keyed} (hS:∀ x∈a0,x∈S) {runs:List (List Keyed)} {rest:List Keyed} {st:SortSt} (h:RI kf lt kd a0 runs rest st) {i:Nat} (hi:i+1 < (pendingOf st).size) {Q:Bool→SortSt→Prop}
  (hQ:∀ runs' st',RI kf lt kd a0 runs' rest st'→(pendingOf st').size+1=(pendingOf st).size→Q true st'):wpS (model prog w) A E s (mergeAt' i) Q st:=by
 have hrl:i+1 < runs.length:=by rw [←h.psize];exact hi
 obtain ⟨R1,u,v,R2,e,hR1⟩:∃ R1 u v R2,runs=R1++u::v::R2∧R1.length=i:=by
  refine ⟨runs.take i,runs[i],runs[i+1],runs.drop (i+2),?_,by rw [List.length_take];omega⟩
  rw [←List.drop_eq_getElem_cons hrl,←List.drop_eq_getElem_cons (by omega),List.take_append_drop]
 have hp:=h.pend
 rw [e,marks_app] at hp
 simp only [marks,Nat.zero_add] at hp
 obtain ⟨P1,P2',ep,e1,e2⟩:=List.map_eq_append_iff.mp hp
 obtain ⟨a,P3,ep2,e3,e4⟩:=List.map_eq_cons_iff.mp e2
 obtain ⟨b,P2,ep3,e5,e6⟩:=List.map_eq_cons_iff.mp e4
 subst ep3 ep2
 obtain ⟨a1,a2,pa⟩:=a
 obtain ⟨b1,b2,pb⟩:=b
 simp only [mk2,Prod.mk.injEq] at e3 e5
 obtain ⟨rfl,rfl⟩:=e3
 obtain ⟨rfl,rfl⟩:=e5
 have hP1:P1.length=i:=by
  have:=congrArg List.length e1
  rw [List.length_map,marks_length] at this
  rw [this,hR1]
 have g1:(pendingOf st)[i]?=some (R1.flatten.length,u.length,pa):=by
  rw [←Array.getElem?_toList,ep,List.getElem?_append_right (by omega),hP1,Nat.sub_self];rfl
 have g2:(pendingOf st)[i+1]?=some (R1.flatten.length+u.length,v.length,pb):=by
  rw [←Array.getElem?_toList,ep,List.getElem?_append_right (by omega),hP1,Nat.add_sub_cancel_left];rfl
 have hu:=h.srt u (by rw [e];simp)
 have hv:=h.srt v (by rw [e];simp)
 have harr:=h.arr
 rw [e] at harr
 refine wpS_mergeAt T hA h.kind h.failed (pre:=R1.flatten) (u:=u) (v:=v) (post:=R2.flatten++rest) (fun x hx=>hS x (h.perm.mem_iff.mp hx)) (by rw [harr];simp) g1 g2 hu.1 hv.1 hu.2 hv.2 fun r st' hr1 hr2 k1 k2 k3 k4=>?_
 have hel:(pendingOf st').toList=P1++(R1.flatten.length,u.length+v.length,pa)::P2:=by
  rw [k3,Array.toList_eraseIdxIfInBounds,Array.toList_setIfInBounds,ep,←hP1]
  exact set_er P1 P2 _ _ _
 refine hQ (R1++r::R2) st' ⟨?_,?_,k1,k2,?_,fun q hq=>?_⟩ ?_
 ·rw [k4];simp
 ·refine List.Perm.trans ?_ h.perm
  rw [k4,harr]
  simp only [List.flatten_append,List.flatten_cons,List.append_assoc]
  refine List.Perm.append_left _ ?_
  rw [←List.append_assoc u v]
  exact List.Perm.append_right _ hr2
 ·rw [hel,List.map_append,List.map_cons,e1,e6,marks_app]
  simp only [marks,mk2,Nat.zero_add]
  rw [hr2.length_eq,List.length_append,Nat.add_assoc]
 ·rcases List.mem_append.mp hq with z | z
  ·exact h.srt q (by rw [e];exact List.mem_append_left _ z)
  ·rcases List.mem_cons.mp z with z | z
   ·rw [z,hr2.length_eq,List.length_append]
    exact ⟨by omega,hr1⟩
   ·exact h.srt q (by rw [e];simp [z])
 ·rw [←Array.length_toList,←Array.length_toList,hel,ep]
  simp only [List.length_append,List.length_cons]
  omega
theorem RI.cut {a0:List Keyed} {runs:List (List Keyed)} {rest:List Keyed} {st st':SortSt} (h:RI kf lt kd a0 runs rest st) {n:Nat} (hn:n≤rest.length) (hB:SB kd (pendingOf st) (arrOf st) runs.flatten.length a0.length st') (hs:SdTo kf lt (arrOf st') runs.flatten.length n) :
  ∃ r rest',r.length=n∧Sl kf lt r∧r.length+rest'.length=rest.length∧RI kf lt kd a0 runs (r++rest') st':=by
 have hsz:(arrOf st').size=a0.length:=by rw [hB.size];exact h.size
 have hl:=h.len
 have ht:(arrOf st').toList.take runs.flatten.length=runs.flatten:=by
  apply List.ext_getElem?
  intro j
  rcases Nat.lt_or_ge j runs.flatten.length with q | q
  ·rw [List.getElem?_take_of_lt q,Array.getElem?_toList,hB.out j (.inl q),←Array.getElem?_toList,h.arr,List.getElem?_append_left q]
  ·rw [List.getElem?_take_eq_none q,List.getElem?_eq_none q]
 have hdl:((arrOf st').toList.drop runs.flatten.length).length=rest.length:=by rw [List.length_drop,Array.length_toList,hsz];omega
 refine ⟨((arrOf st').toList.drop runs.flatten.length).take n,((arrOf st').toList.drop runs.flatten.length).drop n,by rw [List.length_take,hdl];omega,?_,by rw [←List.length_append,List.take_append_drop,hdl],?_,?_,hB.kind,hB.failed,by rw [hB.pend];exact h.pend,h.srt⟩
 ·refine List.pairwise_iff_getElem.mpr fun i j hi hj hij=>?_
  have hj':j < n:=by rw [List.length_take] at hj;omega
  have g:∀ k (hk:k < (((arrOf st').toList.drop runs.flatten.length).take n).length),KA kf (arrOf st') (runs.flatten.length+k)=kf ((((arrOf st').toList.drop runs.flatten.length).take n)[k]):=fun k hk=>by
   have hk':k < n:=by rw [List.length_take] at hk;omega
   have hkl:runs.flatten.length+k < (arrOf st').toList.length:=by have:=Array.length_toList (xs:=arrOf st');omega
   unfold KA
   rw [List.getElem_take,List.getElem_drop,←Array.getElem?_toList,List.getElem?_eq_getElem hkl]
   rfl
  rw [←g i hi,←g j hj]
  exact hs i j (by omega) hj'
 ·rw [List.take_append_drop]
  conv=>lhs;rw [←List.take_append_drop runs.flatten.length (arrOf st').toList,ht]
 ·exact (Array.perm_iff_toList_perm.mp hB.perm).trans h.perm
theorem wpS_sortRunsG (T:SOrd lt) (hA:Asks prog w A E s kd S kf lt) {st:SortSt} {Q:Unit→SortSt→Prop} (hS:∀ x∈(arrOf st).toList,x∈S) (hk:kindOf st=kd) (hf:failedOf st=none) (hp:pendingOf st=#[])
  (h:∀ st',(arrOf st').toList.Perm (arrOf st).toList→failedOf st'=none→Sl kf lt (arrOf st').toList→Q () st'):wpS (model prog w) A E s sortRuns' Q st:=by
 generalize ha0:(arrOf st).toList=a0 at h hS
 have hsz0:(arrOf st).size=a0.length:=by rw [←ha0,Array.length_toList]
 have hR:RI kf lt kd a0 [] a0 st:=⟨ha0,by rw [ha0],hk,hf,by rw [hp];rfl,fun r hr=>nomatch hr⟩
 rw [sortRuns'_eq]
 refine wpS_bind (wpS_get ?_)
 dsimp only
 simp only [hsz0]
 generalize hmr:minRun' a0.length a0.length 0=mr
 refine wpS_bind (wpS_mono (wpS_forRange
  (I:=fun x c st'=>∃ runs rest lo,c=(none,lo)∧RI kf lt kd a0 runs rest st'∧lo=runs.flatten.length∧(x≤lo∨lo=a0.length))
  (Q:=fun c st'=>∃ runs lo,c=(none,lo)∧RI kf lt kd a0 runs [] st') ?step ?fin ⟨[],a0,0,rfl,hR,rfl,.inl (Nat.le_refl _)⟩) ?post)
 case fin =>
  rintro c st' ⟨runs,rest,lo,rfl,hR,hlo,hx⟩
  have:=hR.len
  have:rest=[]:=List.eq_nil_of_length_eq_zero (by omega)
  subst this
  exact ⟨runs,lo,rfl,hR⟩
 case step =>
  rintro x c st' _ hx ⟨runs,rest,lo,rfl,hR,hlo,hx⟩
  have hlen:=hR.len
  dsimp only
  by_cases hge:lo ≥ a0.length
  ·rw [if_pos hge]
   have:rest=[]:=List.eq_nil_of_length_eq_zero (by omega)
   subst this
   exact wpS_pure ⟨runs,lo,rfl,hR⟩
  rw [if_neg hge]
  subst hlo
  have hSx:∀ x∈(arrOf st').toList,x∈S:=fun x hx=>hS x (hR.perm.mem_iff.mp hx)
  have hsz:=hR.size
  refine wpS_bind (wpS_countRunG T hA hSx (lo:=runs.flatten.length) (hi:=a0.length) (p0:=pendingOf st') (a₀:=arrOf st') (by omega) (by omega) (by omega) ⟨.rfl,hR.kind,hR.failed,rfl,fun _ _=>rfl⟩ fun m st2 hB2 hm1 hm2 hs2=>?_)
  dsimp only
  by_cases hlt:m < mr
  focus
   rw [if_pos hlt]
   refine wpS_bind (wpS_lift (wpAny_rule ⟨rfl,?_⟩))
   refine wpS_bind (wpS_binarySortG T hA hSx (by omega) (by omega) (by omega) hB2 hs2 fun st3 hB3 hs3=>?_)
   simp only [Bool.not_true,Bool.false_eq_true,if_false]
   obtain ⟨r,rest',r1,r2,r3,hR3⟩:=hR.cut (by omega) hB3 hs3
  rotate_left
  focus
   rw [if_neg hlt]
   obtain ⟨st3,rfl⟩:∃ s,s=st2:=⟨_,rfl⟩
   obtain ⟨r,rest',r1,r2,r3,hR3⟩:=hR.cut (by omega) hB2 hs2
  all_goals
   refine wpS_bind (wpS_get ?_)
   cases hbk:(pendingOf st3).back? with
   | none =>
    dsimp only
    refine wpS_bind (wpS_modify (wpS_pure ⟨runs++[r],rest',_,rfl,hR3.push (by omega) r2 rfl (by omega),by rw [List.flatten_append,List.length_append];simp only [List.flatten_cons,List.flatten_nil,List.append_nil];omega,?_⟩))
    omega
   | some t =>
    obtain ⟨s1,n1,p1⟩:=t
    dsimp only
    generalize power' _ _ _ _=pw
    refine wpS_bind (wpS_mono (wpS_forRange (I:=fun x c st''=>c=(none,())∧∃ runs',RI kf lt kd a0 runs' (r++rest') st'') (Q:=fun c st''=>c=(none,())∧∃ runs',RI kf lt kd a0 runs' (r++rest') st'') ?stA (fun _ _ hh=>hh) ⟨rfl,runs,hR3⟩) ?poA)
    case stA =>
     rintro x c st4 _ hx ⟨rfl,runs',hR4⟩
     refine wpS_bind (wpS_get ?_)
     by_cases h1:(pendingOf st4).size > 1
     ·rw [if_pos h1]
      rw [Array.getElem?_eq_getElem (by omega)]
      generalize (pendingOf st4)[(pendingOf st4).size - 2]'(by omega)=t
      obtain ⟨t1,t2,older⟩:=t
      dsimp only
      by_cases h2:older≤pw
      ·rw [if_pos h2]
       exact wpS_pure ⟨rfl,runs',hR4⟩
      rw [if_neg h2]
      refine wpS_bind (wpS_mergeRI T hA hS hR4 (by omega) fun runs5 st5 hR5 hsz=>?_)
      simp only [Bool.not_true,Bool.false_eq_true,if_false]
      exact wpS_pure ⟨rfl,runs5,hR5⟩
     ·rw [if_neg h1]
      exact wpS_pure ⟨rfl,runs',hR4⟩
    case poA =>
     rintro c st4 ⟨rfl,runs',hR4⟩
     dsimp only
     have hl4:=hR4.len
     rw [List.length_append] at hl4
     refine wpS_bind (wpS_modify ?_)
     refine wpS_bind (wpS_modify (wpS_pure ⟨runs'++[r],rest',_,rfl,(hR4.power _ pw).push (by omega) r2 (by omega) (by omega),by rw [List.flatten_append,List.length_append];simp only [List.flatten_cons,List.flatten_nil,List.append_nil];omega,?_⟩))
     omega
 case post =>
  rintro c st' ⟨runs,lo,rfl,hR⟩
  dsimp only
  refine wpS_bind (wpS_mono (wpS_forRange (I:=fun x c st''=>c=(none,())∧(∃ runs,RI kf lt kd a0 runs [] st'')∧(pendingOf st'').size≤max 1 (a0.length - x)) (Q:=fun c st''=>c=(none,())∧(∃ runs,RI kf lt kd a0 runs [] st'')∧(pendingOf st'').size≤1) ?_ ?_ ⟨rfl,⟨runs,hR⟩,?_⟩) ?_)
  ·rintro x c st'' _ hx ⟨rfl,⟨runs,hR⟩,hm⟩
   refine wpS_bind (wpS_get ?_)
   by_cases h1:(pendingOf st'').size≤1
   ·rw [if_pos h1]
    exact wpS_pure ⟨rfl,⟨runs,hR⟩,h1⟩
   rw [if_neg h1]
   refine wpS_bind (wpS_mergeRI T hA hS hR (by (repeat' split)<;>omega) fun runs' st3 hR' hsz=>?_)
   simp only [Bool.not_true,Bool.false_eq_true,if_false]
   exact wpS_pure ⟨rfl,⟨runs',hR'⟩,by omega⟩
  ·rintro c st'' ⟨rfl,hh,hm⟩
   exact ⟨rfl,hh,by omega⟩
  ·have h1:=flat_len runs fun r hr=>(hR.srt r hr).1
   have h2:=hR.len
   rw [hR.psize]
   simp only [List.length_nil] at h2
   omega
  ·rintro c st'' ⟨rfl,⟨runs,hR⟩,hm⟩
   dsimp only
   refine wpS_pure (h _ hR.perm hR.failed ?_)
   rw [hR.psize] at hm
   rw [hR.arr,List.append_nil]
   match runs,hm,hR.srt with
   | [],_,_=>exact List.Pairwise.nil
   | [r],_,hs =>
    rw [show [r].flatten=r by simp]
    exact (hs r (List.mem_singleton.mpr rfl)).2
end
end L2

set_option Elab.async false
set_option linter.all false
set_option maxRecDepth 100000
set_option maxHeartbeats 4000000
namespace L2
open PySem PySem.Spec PyProof.Rows PySem.SeqAt
open PySem.AutoSeq1 (wpAny_loadPart')
/-! ### sorted,any size -/
def sortHeap0 (h:Heap) (a:Addr) (vs:List Value):Heap :=
 ((h.update a (Obj.mapSeq fun _=>#[])).push (seqObj "tuple" vs.toArray 0)).push (seqObj "list" #[] 0)
section
variable {prog:Program} {w:World} {A:Around} {E:Value→Shared→Prop} {s:Shared} {α:Type} {kf:Keyed→α} {lt:α→α→Bool} {kd:SortKind}
theorem list_sort_G {a:Addr} {vs:List Value} {n:Nat} {P:Fin→Shared→Prop} (T:SOrd lt) (ho:s.heap.get? a=some (seqObj "list" vs.toArray n)) (hz:vs.length≤sizeLine)
  (hkk:2≤vs.length→wpAny (model prog w) A (keyKind' vs.toArray) (fun k s'=>s'={ s with heap:=sortHeap0 s.heap a vs }∧k=kd) E { s with heap:=sortHeap0 s.heap a vs })
  (hA:Asks prog w A E { s with heap:=sortHeap0 s.heap a vs } kd (vs.zip vs) kf lt)
  (h:∀ xs:List Keyed,xs.Perm (vs.zip vs)→Sl kf lt xs→P (.done (.ret .none)) { s with heap:=sortedHeap s.heap a vs (xs.map (·.2)).toArray }) :
  wpAny (model prog w) A (Builtin.«list.sort» ⟨[.ref a],[]⟩) P E s:=by
 rw [list_sort_plain]
 have ha:a < s.heap.objs.size:=Heap.lt_size ho
 refine wpAny_bind (listItems_at ho rfl ?_)
 refine wpAny_bind (listUpdate_at ho rfl ?_ (by simpa using hz) (by simp))
 obtain ⟨e1,ho1⟩:∃ e1,(s.heap.update a (Obj.mapSeq fun _=>#[])).get? a=some (seqObj "list" #[] e1):=⟨_,get?_update_seq ho (fun _=>#[])⟩
 refine wpAny_bind (seqEpoch_at ho1 rfl ?_)
 refine wpAny_bind (wpAny_newTuple ?_ (by simpa using hz))
 refine wpAny_bind (wpAny_newList ?_)
 refine wpAny_holding ?_
 have ho6:(sortHeap0 s.heap a vs).get? a=some (seqObj "list" #[] e1):=by
  unfold sortHeap0
  rw [Heap.get?_push_ne _ _ _ (by rw [size_push',Heap.size_update];exact Nat.ne_of_lt (Nat.lt_succ_of_lt ha)),Heap.get?_push_ne _ _ _ (by rw [Heap.size_update];exact Nat.ne_of_lt ha)]
  exact ho1
 show wpAny (model prog w) A _ P E { s with heap:=sortHeap0 s.heap a vs }
 dsimp only
 have hsz:vs.toArray.size=vs.length:=by simp
 by_cases h2:vs.toArray.size < 2
 ·rw [if_pos h2,if_pos h2]
  refine wpAny_bind (wpAny_pure ?_)
  rw [StateT.run_pure]
  refine wpAny_bind (wpAny_pure ?_)
  dsimp only
  refine wpAny_bind (seqEpoch_at ho6 rfl ?_)
  refine wpAny_bind (listUpdate_at ho6 rfl ?_ (hsz2:=by rw [Array.size_map];show (pairsOf vs).size≤_;rw [pairsOf_size];omega))
  simp only [bne_self_eq_false,Bool.false_eq_true,if_false]
  have hs:Sl kf lt (vs.zip vs):=by
   refine List.pairwise_iff_getElem.mpr fun i j hi hj hij=>?_
   have:(vs.zip vs).length=vs.length:=by simp
   omega
  have e:(Array.map (·.2) (vs.toArray.zip vs.toArray))=((vs.zip vs).map (·.2)).toArray:=by simp
  have:=h (vs.zip vs) .rfl hs
  rw [←e] at this
  exact wpAny_pure this
 ·rw [if_neg h2,if_neg h2]
  refine wpAny_bind (wpAny_mono (hkk (by omega)) ?_ fun _ _ e=>e)
  rintro k s' ⟨rfl,rfl⟩
  refine wpAny_bind (wpAny_mono (wpS_sortRunsG T hA (st:=SortSt.mk' k (vs.toArray.zip vs.toArray) #[] 7 none)
   (Q:=fun _ st'=>(arrOf st').toList.Perm (vs.zip vs)∧failedOf st'=none∧Sl kf lt (arrOf st').toList)
   (fun x hx=>by have:x∈(pairsOf vs).toList:=hx;rw [pairsOf_toList] at this;exact this) rfl rfl rfl fun st' a1 a2 a3=>⟨by have e:(arrOf st').toList.Perm (pairsOf vs).toList:=a1;rw [pairsOf_toList] at e;exact e,a2,a3⟩) ?_ fun _ _ e=>e)
  rintro ⟨⟨⟩,st'⟩ s' ⟨rfl,hp,hf,hs⟩
  dsimp only
  refine wpAny_bind (seqEpoch_at ho6 rfl ?_)
  have hl:(arrOf st').size=vs.length:=by rw [←Array.length_toList,hp.length_eq];simp
  refine wpAny_bind (listUpdate_at ho6 rfl ?_ (hsz2:=by rw [Array.size_map];omega))
  rw [hf]
  simp only [bne_self_eq_false,Bool.false_eq_true,if_false]
  have e:(Array.map (·.2) (arrOf st'))=(((arrOf st').toList).map (·.2)).toArray:=by rw [←Array.toList_map]
  have:=h _ hp hs
  rw [←e] at this
  exact wpAny_pure this
theorem to_int:SOrd (fun a b:Int=>decide (a < b)):=⟨fun a b h=>by simp at *;omega,fun a b c h1 h2=>by simp at *;omega,fun a b h1 h2=>by simp at *;omega⟩
theorem asks_int {S:List Keyed} (hS:∀ p∈S,∃ n t,p.1=.int n t):Asks prog w A E s oneType' S (fun p=>numOf p.1) (fun a b=>decide (a < b)):=by
 intro st x y Q hk hx hy h
 obtain ⟨x1,x2⟩:=x
 obtain ⟨y1,y2⟩:=y
 obtain ⟨n,t,rfl⟩:∃ n t,x1=.int n t:=hS _ hx
 obtain ⟨m,u,rfl⟩:∃ n t,y1=.int n t:=hS _ hy
 rw [lt'_eq]
 refine wpS_bind (wpS_get ?_)
 rw [hk,keyLt'_oneType]
 refine wpS_bind (wpS_lift (wpAny_attempt (oneLt_int ⟨rfl,?_⟩)))
 exact wpS_pure h
theorem list_sort_ints {a:Addr} {vs:List Value} {ns:List Int} {n:Nat} {P:Fin→Shared→Prop} (ho:s.heap.get? a=some (seqObj "list" vs.toArray n))
  (hI:IntsAre vs ns) (hz:vs.length≤sizeLine)
  (h:∀ (out:Array Value) (ns':List Int),IntsAre out.toList ns'→ns'.Perm ns→ns'.Pairwise (·≤·)→P (.done (.ret .none)) { s with heap:=sortedHeap s.heap a vs out }) :
  wpAny (model prog w) A (Builtin.«list.sort» ⟨[.ref a],[]⟩) P E s:=by
 refine list_sort_G to_int ho hz (kd:=oneType') (fun h2=>?_) (asks_int fun p hp=>hI.all _ (mem_zip_self hp).2) fun xs hp hs=>?_
 ·match vs,h2,hI with
  | v₁::v₂::rest,_,hI =>
   rw [keyKind_ints hI]
   exact wpAny_pure ⟨rfl,rfl⟩
 ·have hmem:∀ p,p∈xs→p.1=p.2∧p.1∈vs:=fun p hp'=>mem_zip_self (hp.mem_iff.mp hp')
  refine h _ (xs.map fun p=>numOf p.1) ?_ ?_ ?_
  ·have e:((xs.map (·.2)).toArray).toList=xs.map (·.1):=List.map_congr_left fun p hp'=>(hmem p hp').1.symm
   rw [e]
   have h1:=intsAre_map (xs.map (·.1)) (by
    intro v hv
    obtain ⟨p,hp',rfl⟩:=List.mem_map.mp hv
    exact hI.all _ (hmem p hp').2)
   rwa [List.map_map] at h1
  ·have h1:=hp.map (fun p=>numOf p.1)
   have e2:(vs.zip vs).map (fun p=>numOf p.1)=ns:=by
    have:(vs.zip vs).map (fun p=>numOf p.1)=((vs.zip vs).map Prod.fst).map numOf:=by rw [List.map_map];rfl
    rw [this,List.map_fst_zip (Nat.le_refl _),hI.nums]
   rwa [e2] at h1
  ·refine List.pairwise_map.mpr (hs.imp fun {x y} q=>?_)
   simpa using q
end
end L2

set_option Elab.async false
set_option linter.all false
set_option maxRecDepth 100000
set_option maxHeartbeats 4000000
namespace L2
open PySem PySem.Spec PyProof.Rows PySem.SeqAt
open PySem.AutoSeq1 (wpAny_loadPart')
/-! ### sorted of a list of any length -/
section
variable {X:Cx} (K:PySem.W.Frag)
theorem cSortG (hK:X.K=K):CallR X (.builtin "sorted") (fun xs H Q=>∃ (p:Addr) (ns:List Int),xs=[.ref p]∧SqL K H p (ns.map V.int)∧∀ ns':List Int,ns'.Perm ns→ns'.Pairwise (·≤·)→∀ l,H l=none→Q (.ref l) (upd H l (.lst (ns'.map V.int)))):=by
 subst hK
 intro pins s σ H xs us Q I r h
 obtain ⟨p,ns,rfl,hp,q⟩:=h
 obtain ⟨u,rfl,ru⟩:=vals1 r
 cases ru
 obtain ⟨its,rv,⟨o,n,ho,hc,_,hd⟩,hz⟩:=I.list hp
 have hI:=ints_are rv
 have hlen:its.length=ns.length:=by have:=rv.length;rw [List.length_map] at this;exact this.symm
 have hzi:its.length≤sizeLine:=by rw [←rv.length];exact hz
 refine Calls.call_function_entry kind_sorted plain_sorted entry_sorted (args_sorted1 _) ?_
 unfold Builtin.«sorted»
 refine wpAny_bind (m:=checkCount "sorted" 1 1 _) (wpAny_pure ?_)
 refine wpAny_bind (wpAny_collect_seq (T:="list") p (.inl rfl) ho hc hd (fun h1 hk1=>?_) (by simpa using hzi))
 have e0:its.toArray.toList=its:=by simp
 rw [e0]
 refine wpAny_bind (wpAny_newList ?_ hzi)
 have I1:Inv X pins σ H { s with heap:=h1 }:=I.kept (t':=s.toks) hk1
 have hoL:(h1.push (seqObj "list" its.toArray 0)).get? h1.objs.size=some (seqObj "list" its.toArray 0):=Heap.get?_push_size _ rfl
 show wpAny _ _ _ _ _ { s with heap:=h1.push (seqObj "list" its.toArray 0) }
 refine wpAny_bind (wpAny_holding (wpAny_call_entry slot_list_sort ⟨_,hoL,rfl⟩ entry_list_sort
  (list_sort_ints hoL hI hzi fun out ns' a1 a2 a3=>⟨_,rfl,?_⟩) (args_list_sort _)))
 obtain ⟨e,he⟩:=sortedHeap_at (out:=out) hoL
 refine wpAny_pure ⟨_,rfl,.ref h1.objs.size,_,I1.laid (a:=h1.objs.size) (o:=.lst (ns'.map V.int)) (t':=s.toks) (fun b u q=>?_) (Nat.le_refl _) ⟨?_,out.toList,e,of_ints a1,by simpa [seqObj] using he⟩,rfl,q ns' a2 a3 _ I1.fresh⟩
 ·have hlt:b < h1.objs.size:=Heap.lt_size q
  rw [sortedHeap_old (Nat.ne_of_lt hlt) (by rw [Heap.size_push];exact Nat.lt_succ_of_lt hlt)]
  exact Heap.get?_push_of_some _ q
 ·rw [List.length_map,List.Perm.length_eq a2,←hlen]
  exact hzi
end
/-! ### xs[::k] of a list -/
section
variable {X:Cx} {e st:Expr} {te ts:TE} {pos p2:Pos}
end
end L2

set_option Elab.async false
set_option linter.all false
set_option maxRecDepth 100000
set_option maxHeartbeats 4000000
namespace Gu
open PySem L2
/-! ### floors of what is joined -/
theorem num_fig {n:Nat} (n0:0 < n):∀ (m:Nat) {x:Int},0≤x→x < ((n ^ m:Nat):Int)→numW n (figW n m x)=x
 | 0,x,h0,h1=>by
  have:x=0:=by simp at h1;omega
  rw [this];rfl
 | m+1,x,h0,h1=>by
  have hn:(0:Int) < (n:Int):=by omega
  show numW n ((x % (n:Int)::lit n m (x / (n:Int))).reverse)=x
  rw [List.reverse_cons,numW_snoc]
  have h2:x / (n:Int) < ((n ^ m:Nat):Int):=by
   refine (Int.ediv_lt_iff_lt_mul hn).mpr ?_
   rw [Nat.pow_succ,Int.natCast_mul] at h1
   exact h1
  have:=num_fig n0 m (x:=x / (n:Int)) (Int.ediv_nonneg h0 (by omega)) h2
  unfold figW at this
  rw [this,Int.mul_comm]
  exact Int.mul_ediv_add_emod x n
def thru (A B:List Int):List Int:=A.map fun x=>B.getD x.toNat 0
theorem tab_row {n m:Nat} {M:List Row} (G:GoodM n M) (n0:0 < n) {x:Int}:LW n (outW M 0 (figW n m x))∧(outW M 0 (figW n m x)).length=m:=by
 refine ⟨outW_lw G _ 0 (figW_lw n0 m x) (Int.le_refl 0) (by have:=G.some;omega),?_⟩
 rw [outW_len,figW_len]
theorem tab_in {n m:Nat} {M:List Row} (G:GoodM n M) (n0:0 < n):∀ y∈tabW n M m,0≤y∧y < ((n ^ m:Nat):Int):=fun y hy=>by
 unfold tabW at hy
 obtain ⟨x,_,rfl⟩:=List.mem_map.mp hy
 obtain ⟨h1,h2⟩:=tab_row (m:=m) (x:=x) G n0
 have:=num_rg n0 h1
 rw [h2] at this
 exact this
theorem thru_tab {n m:Nat} {A B:List Row} (GA:GoodM n A) (n0:0 < n):thru (tabW n A m) (tabW n B m)=(iota (n ^ m)).map fun x=>numW n (outW B 0 (outW A 0 (figW n m x))):=by
 unfold thru
 conv=>lhs;rw [show tabW n A m=(iota (n ^ m)).map fun x=>numW n (outW A 0 (figW n m x)) from rfl]
 rw [List.map_map]
 refine List.map_congr_left fun x hx=>?_
 obtain ⟨h1,h2⟩:=tab_row (m:=m) (x:=x) GA n0
 have hr:=num_rg n0 h1
 rw [h2] at hr
 show (tabW n B m).getD (numW n (outW A 0 (figW n m x))).toNat 0=_
 rw [List.getD_eq_getElem?_getD,tab_at hr.1 hr.2]
 have:=(num_word' n0 h1).1
 rw [h2] at this
 rw [this]
 rfl
theorem mem_iota' {L:Nat} {x:Int} (h:x∈iota L):0≤x∧x < (L:Int):=by
 unfold iota at h
 obtain ⟨k,hk,rfl⟩:=List.mem_map.mp h
 have:=List.mem_range.mp hk
 constructor
 ·exact Int.natCast_nonneg k
 ·exact Int.ofNat_lt.mpr this
theorem thru_back {n m:Nat} {A:List Row} (GA:GoodM n A) (h8:A.length≤8) (n0:0 < n):thru (tabW n A m) (tabW n (shr (conM A)) m)=iota (n ^ m):=by
 rw [thru_tab GA n0]
 conv=>rhs;rw [←List.map_id (iota (n ^ m))]
 refine List.map_congr_left fun x hx=>?_
 obtain ⟨x0,x1⟩:=mem_iota' hx
 rw [back_out GA h8 (figW_lw n0 m x)]
 exact num_fig n0 m x0 x1
theorem perm_mem {α:Type} [BEq α] [LawfulBEq α]:∀ (l l':List α),l.Nodup→l'.Nodup→(∀ a,a∈l↔a∈l')→l.Perm l'
 | [],l',_,_,h=>by
  cases l' with
  | nil=>exact .nil
  | cons a l'=>exact absurd ((h a).mpr List.mem_cons_self) (by simp)
 | a::l,l',h1,h2,h=>by
  have ha:=(h a).mp List.mem_cons_self
  obtain ⟨hn,h1'⟩:=List.nodup_cons.mp h1
  refine List.Perm.trans (List.Perm.cons a (perm_mem l (l'.erase a) h1' (h2.erase a) fun b=>?_)) (List.perm_cons_erase ha).symm
  rw [h2.mem_erase_iff]
  constructor
  ·exact fun hb=>⟨fun e=>hn (e ▸ hb),(h b).mp (List.mem_cons_of_mem _ hb)⟩
  ·rintro ⟨n1,n2⟩
   rcases List.mem_cons.mp ((h b).mpr n2) with z | z
   ·exact absurd z n1
   ·exact z
theorem perm_iota {l:List Int} {L:Nat} (hn:l.Nodup) (hb:∀ x∈l,0≤x∧x < (L:Int)) (hl:l.length=L):IsP L l:=by
 refine perm_mem l (iota L) hn (iota_nodup L) fun a=>⟨fun h=>?_,fun h=>?_⟩
 ·obtain ⟨h0,h1⟩:=hb a h
  exact List.mem_of_getElem? (iota_getI h0 h1)
 ·refine Classical.byContradiction fun z=>?_
  have:=nodup_len (n:=L) (List.nodup_cons.mpr ⟨z,hn⟩) fun x hx=>by
   rcases List.mem_cons.mp hx with rfl | hx
   ·exact mem_iota' h
   ·exact hb x hx
  rw [List.length_cons] at this
  omega
theorem tab_perm {n m:Nat} {A:List Row} (GA:GoodM n A) (h8:A.length≤8) (n0:0 < n):IsP (n ^ m) (tabW n A m):=by
 refine perm_iota ?_ (tab_in GA n0) (tabW_len n A m)
 have h:=thru_back (m:=m) GA h8 n0
 have hn:=iota_nodup (n ^ m)
 rw [←h] at hn
 unfold thru at hn
 rw [List.nodup_iff_pairwise_ne,List.pairwise_map] at hn
 exact List.Pairwise.imp (fun {a b} hab e=>hab (by rw [e])) hn
end Gu

set_option Elab.async false
set_option linter.all false
set_option maxRecDepth 100000
set_option maxHeartbeats 4000000
namespace L2
open PySem PySem.Spec PyProof.Rows PySem.SeqAt
open PySem.AutoSeq1 (wpAny_loadPart')
/-! ### sorted(set) of up to 4,000 ints -/
section
variable {X:Cx} (K:PySem.W.Frag)
end
end L2

set_option Elab.async false
set_option linter.all false
set_option maxRecDepth 100000
set_option maxHeartbeats 4000000
namespace Gu
open PySem L2
/-! ### what ways lead to -/
def lbf (g:Int→List Int):Nat→Nat→List Int→List Int
 | 0,_,o=>o
 | f+1,i,o=>match o[i]? with
  | none=>o
  | some r=>lbf g f (i+1) (addAll o (g r))
theorem lbf_step {g:Int→List Int} {f i:Nat} {o:List Int} {r:Int} (e:o[i]?=some r):lbf g (f+1) i o=lbf g f (i+1) (addAll o (g r)):=by
 show (match o[i]? with | none=>o | some r=>lbf g f (i+1) (addAll o (g r)))=_
 rw [e]
theorem lbf_stop {g:Int→List Int} {f i:Nat} {o:List Int} (e:o.length≤i):lbf g f i o=o:=by
 cases f with
 | zero=>rfl
 | succ f =>
  show (match o[i]? with | none=>o | some r=>lbf g f (i+1) (addAll o (g r)))=_
  rw [List.getElem?_eq_none e]
theorem lbf_P {g:Int→List Int} {P:Int→Prop} (hP:∀ c,P c→∀ y∈g c,P y):∀ (f i:Nat) (o:List Int),(∀ c∈o,P c)→∀ c∈lbf g f i o,P c
 | 0,_,_,h=>h
 | f+1,i,o,h=>by
  cases eo:o[i]? with
  | none=>rw [lbf_stop (by rw [List.getElem?_eq_none_iff] at eo;exact eo)];exact h
  | some r =>
   rw [lbf_step eo]
   refine lbf_P hP f (i+1) _ fun c hc=>?_
   rcases addAll_mem.mp hc with z | z
   ·exact h c z
   ·exact hP r (h r (List.mem_of_getElem? eo)) c z
theorem lbf_end {L:Nat} {g:Int→List Int} (G:∀ x,0≤x→x < (L:Int)→∀ y∈g x,0≤y∧y < (L:Int)):∀ (f i:Nat) (o:List Int),o.Nodup→(∀ x∈o,0≤x∧x < (L:Int))→i≤o.length→L+1≤f+i→(∀ j r,j < i→o[j]?=some r→∀ y∈g r,y∈o) →
  (lbf g f i o).Nodup∧(∀ x∈lbf g f i o,0≤x∧x < (L:Int))∧(∀ x∈o,x∈lbf g f i o)∧∀ r∈lbf g f i o,∀ y∈g r,y∈lbf g f i o
 | 0,i,o,nd,rg,hi,hf,hc=>by
  have:=nodup_len nd rg
  omega
 | f+1,i,o,nd,rg,hi,hf,hc=>by
  cases eo:o[i]? with
  | none =>
   have hl:o.length≤i:=by rw [List.getElem?_eq_none_iff] at eo;exact eo
   rw [lbf_stop hl]
   refine ⟨nd,rg,fun x hx=>hx,fun r hr y hy=>?_⟩
   obtain ⟨j,hj,e⟩:=List.getElem_of_mem hr
   exact hc j r (by omega) (by rw [List.getElem?_eq_getElem hj,e]) y hy
  | some r =>
   have hr:r∈o:=List.mem_of_getElem? eo
   have hil:i < o.length:=(List.getElem?_eq_some_iff.mp eo).1
   rw [lbf_step eo]
   obtain ⟨m1,em⟩:=addAll_sub (g r) o
   obtain ⟨a1,a2,a3,a4⟩:=lbf_end G f (i+1) (addAll o (g r)) (addAll_nodup _ _ nd) (fun x hx=>by
    rcases addAll_mem.mp hx with z | z
    ·exact rg x z
    ·exact G r (rg r hr).1 (rg r hr).2 x z) (by rw [em,List.length_append];omega) (by omega) (fun j q hj ej y hy=>by
    rcases Nat.lt_or_ge j i with z | z
    ·rw [em,List.getElem?_append_left (by omega)] at ej
     exact addAll_mem.mpr (.inl (hc j q z ej y hy))
    ·have:j=i:=by omega
     subst this
     rw [em,List.getElem?_append_left hil,eo] at ej
     cases ej
     exact addAll_mem.mpr (.inr hy))
   exact ⟨a1,a2,fun x hx=>a3 x (addAll_mem.mpr (.inl hx)),a4⟩
theorem nodup_sub:∀ (l l':List Int),l.Nodup→(∀ x∈l,x∈l')→l.length≤l'.length
 | [],_,_,_=>Nat.zero_le _
 | a::l,l',h,hs=>by
  obtain ⟨hn,h'⟩:=List.nodup_cons.mp h
  have ha:=hs a List.mem_cons_self
  have:=nodup_sub l (l'.erase a) h' fun x hx=>(List.mem_erase_of_ne (show x≠a from fun e=>hn (e ▸ hx))).mpr (hs x (List.mem_cons_of_mem _ hx))
  rw [List.length_erase_of_mem ha] at this
  have:=List.length_pos_of_mem ha
  rw [List.length_cons]
  omega
theorem onto_of {S:List Int} {f:Int→Int} (nd:S.Nodup) (hf:∀ x∈S,f x∈S) (inj:∀ x∈S,∀ y∈S,f x=f y→x=y):∀ z∈S,∃ s∈S,f s=z:=fun z hz=>by
 refine Classical.byContradiction fun no=>?_
 have h1:(z::S.map f).Nodup:=List.nodup_cons.mpr ⟨fun h=>by
  obtain ⟨s,hs,e⟩:=List.mem_map.mp h
  exact no ⟨s,hs,e⟩,by
  rw [List.nodup_iff_pairwise_ne,List.pairwise_map]
  exact List.Pairwise.imp_of_mem (fun {a b} ha hb hab e=>hab (inj a ha b hb e)) (List.nodup_iff_pairwise_ne.mp nd)⟩
 have:=nodup_sub _ S h1 fun x hx=>by
  rcases List.mem_cons.mp hx with rfl | hx
  ·exact hz
  ·obtain ⟨s,hs,rfl⟩:=List.mem_map.mp hx
   exact hf s hs
 rw [List.length_cons,List.length_map] at this
 omega
def gof (W:List (List Int)) (x:Int):List Int:=W.map fun w=>w.getD x.toNat 0
def cmp (L:Nat) (W:List (List Int)) (x:Int):List Int:=lbf (gof W) (L+1) 0 [x]
section
variable {L:Nat} {W:List (List Int)} (hW:∀ w∈W,IsP L w)
include hW
theorem gof_rg (x:Int) (x0:0≤x) (x1:x < (L:Int)):∀ y∈gof W x,0≤y∧y < (L:Int):=fun y hy=>by
 obtain ⟨w,hw,rfl⟩:=List.mem_map.mp hy
 exact perm_get (hW w hw) (by omega)
theorem cmp_facts {x:Int} (x0:0≤x) (x1:x < (L:Int)):(cmp L W x).Nodup∧(∀ y∈cmp L W x,0≤y∧y < (L:Int))∧x∈cmp L W x∧∀ r∈cmp L W x,∀ y∈gof W r,y∈cmp L W x:=by
 obtain ⟨a1,a2,a3,a4⟩:=lbf_end (gof_rg hW) (L+1) 0 [x] (by simp) (fun y hy=>by rw [List.mem_singleton.mp hy];exact ⟨x0,x1⟩) (by simp) (by omega) fun j r hj=>absurd hj (Nat.not_lt_zero _)
 exact ⟨a1,a2,a3 x (List.mem_singleton.mpr rfl),a4⟩
theorem cmp_tr {x y:Int} (x0:0≤x) (x1:x < (L:Int)) (h:y∈cmp L W x):∀ z∈cmp L W y,z∈cmp L W x :=
 lbf_P (fun c hc z hz=>(cmp_facts hW x0 x1).2.2.2 c hc z hz) _ _ _ fun c hc=>by rw [List.mem_singleton.mp hc];exact h
theorem cmp_sym {x:Int} (x0:0≤x) (x1:x < (L:Int)):∀ z∈cmp L W x,x∈cmp L W z:=fun z hz=>by
 refine (lbf_P (g:=gof W) (P:=fun z=>(0≤z∧z < (L:Int))∧x∈cmp L W z) (fun c hc y hy=>?_) (L+1) 0 [x] (fun c hc=>?_) z hz).2
 ·obtain ⟨⟨c0,c1⟩,hx⟩:=hc
  obtain ⟨w,hw,rfl⟩:=List.mem_map.mp hy
  obtain ⟨y0,y1⟩:=perm_get (hW w hw) (k:=c.toNat) (by omega)
  refine ⟨⟨y0,y1⟩,?_⟩
  obtain ⟨nd,rg,self,cl⟩:=cmp_facts hW y0 y1
  obtain ⟨s,hs,e⟩:=onto_of (f:=fun s=>w.getD s.toNat 0) nd (fun s hs=>cl s hs _ (List.mem_map.mpr ⟨w,hw,rfl⟩)) (fun a ha b hb e=>getD_inj (hW w hw) (rg a ha).1 (rg a ha).2 (rg b hb).1 (rg b hb).2 e) _ self
  have:s=c:=getD_inj (hW w hw) (rg s hs).1 (rg s hs).2 c0 c1 e
  subst this
  exact cmp_tr hW y0 y1 hs x hx
 ·rw [List.mem_singleton.mp hc]
  exact ⟨⟨x0,x1⟩,(cmp_facts hW x0 x1).2.2.1⟩
end
def led (L:Nat) (W:List (List Int)) (x:Int):List Int:=(iota L).filter fun y=>decide (y∈cmp L W x)
theorem iota_le (n:Nat):(iota n).Pairwise (·≤·):=by
 unfold iota
 rw [List.pairwise_map]
 exact List.Pairwise.imp (fun h=>by omega) List.pairwise_lt_range
theorem led_mem {L:Nat} {W:List (List Int)} (hW:∀ w∈W,IsP L w) {x:Int} (x0:0≤x) (x1:x < (L:Int)) (y:Int):y∈led L W x↔y∈cmp L W x:=by
 unfold led
 rw [List.mem_filter]
 constructor
 ·exact fun h=>of_decide_eq_true h.2
 ·intro h
  obtain ⟨h0,h1⟩:=(cmp_facts hW x0 x1).2.1 y h
  exact ⟨List.mem_of_getElem? (iota_getI h0 h1),decide_eq_true h⟩
theorem led_sorted {L:Nat} {W:List (List Int)} (hW:∀ w∈W,IsP L w) {x:Int} (x0:0≤x) (x1:x < (L:Int)) {q:List Int} (hp:q.Perm (cmp L W x)) (hs:q.Pairwise (·≤·)):q=led L W x:=by
 have h1:(led L W x).Perm (cmp L W x):=perm_mem _ _ ((iota_nodup L).sublist List.filter_sublist) (cmp_facts hW x0 x1).1 fun a=>led_mem hW x0 x1 a
 exact (hp.trans h1.symm).eq_of_pairwise (fun a b _ _ h1 h2=>Int.le_antisymm h1 h2) hs ((iota_le L).sublist List.filter_sublist)
def isHead (L:Nat) (W:List (List Int)) (x:Int):Bool:=(cmp L W x).all fun y=>decide (x≤y)
def campsL (L:Nat) (W:List (List Int)) (k:Nat):List (List Int):=((iota k).filter (isHead L W)).map (led L W)
theorem seen_iff {L:Nat} {W:List (List Int)} (hW:∀ w∈W,IsP L w) {x:Int} (x0:0≤x) (x1:x < (L:Int)):(∃ z,0≤z∧z < x∧x∈cmp L W z)↔isHead L W x=false:=by
 unfold isHead
 rw [List.all_eq_false]
 constructor
 ·rintro ⟨z,z0,z1,hz⟩
  exact ⟨z,cmp_sym hW z0 (by omega) x hz,by simp;omega⟩
 ·rintro ⟨z,hz,hn⟩
  have hzx:z < x:=by simp at hn;omega
  exact ⟨z,((cmp_facts hW x0 x1).2.1 z hz).1,hzx,cmp_sym hW x0 x1 z hz⟩
theorem iota_snoc' (k:Nat):iota (k+1)=iota k++[(k:Int)]:=by unfold iota;rw [List.range_succ,List.map_append];rfl
theorem campsL_yes {L:Nat} {W:List (List Int)} {k:Nat} (h:isHead L W (k:Int)=true):campsL L W (k+1)=campsL L W k++[led L W (k:Int)]:=by
 unfold campsL
 rw [iota_snoc',List.filter_append,List.map_append,List.filter_cons_of_pos h]
 rfl
theorem campsL_no {L:Nat} {W:List (List Int)} {k:Nat} (h:isHead L W (k:Int)=false):campsL L W (k+1)=campsL L W k:=by
 unfold campsL
 rw [iota_snoc',List.filter_append,List.map_append,List.filter_cons_of_neg (by rw [h];decide)]
 simp
def Seen (L:Nat) (W:List (List Int)) (k:Nat) (o:List Int):Prop:=o.Nodup∧(∀ y∈o,0≤y∧y < (L:Int))∧∀ y,y∈o↔∃ z:Int,0≤z∧z < (k:Int)∧y∈cmp L W z
theorem Seen.zero (L:Nat) (W:List (List Int)):Seen L W 0 []:=⟨List.nodup_nil,fun y hy=>absurd hy (by simp),fun y=>⟨fun h=>absurd h (by simp),fun ⟨z,h0,h1,_⟩=>by omega⟩⟩
theorem Seen.head {L:Nat} {W:List (List Int)} (hW:∀ w∈W,IsP L w) {k:Nat} (hk:k < L) {o:List Int} (h:Seen L W k o):(k:Int)∈o↔isHead L W (k:Int)=false:=by
 rw [h.2.2,seen_iff hW (by omega) (by omega)]
theorem Seen.no {L:Nat} {W:List (List Int)} (hW:∀ w∈W,IsP L w) {k:Nat} (hk:k < L) {o:List Int} (h:Seen L W k o) (hm:(k:Int)∈o):Seen L W (k+1) o:=by
 refine ⟨h.1,h.2.1,fun y=>⟨fun hy=>?_,fun ⟨z,z0,z1,hz⟩=>?_⟩⟩
 ·obtain ⟨z,z0,z1,hz⟩:=(h.2.2 y).mp hy
  exact ⟨z,z0,by omega,hz⟩
 ·by_cases e:z=(k:Int)
  ·subst e
   obtain ⟨z,z0,z1,hk'⟩:=(h.2.2 _).mp hm
   exact (h.2.2 y).mpr ⟨z,z0,z1,cmp_tr hW z0 (by omega) hk' y hz⟩
  ·exact (h.2.2 y).mpr ⟨z,z0,by omega,hz⟩
theorem Seen.yes {L:Nat} {W:List (List Int)} (hW:∀ w∈W,IsP L w) {k:Nat} (hk:k < L) {o:List Int} (h:Seen L W k o):Seen L W (k+1) (addAll o (led L W (k:Int))):=by
 have k0:(0:Int)≤(k:Int):=by omega
 have k1:(k:Int) < (L:Int):=by omega
 refine ⟨addAll_nodup _ _ h.1,fun y hy=>?_,fun y=>⟨fun hy=>?_,fun ⟨z,z0,z1,hz⟩=>?_⟩⟩
 ·rcases addAll_mem.mp hy with z | z
  ·exact h.2.1 y z
  ·exact (cmp_facts hW k0 k1).2.1 y ((led_mem hW k0 k1 y).mp z)
 ·rcases addAll_mem.mp hy with q | q
  ·obtain ⟨z,z0,z1,hz⟩:=(h.2.2 y).mp q
   exact ⟨z,z0,by omega,hz⟩
  ·exact ⟨(k:Int),k0,by omega,(led_mem hW k0 k1 y).mp q⟩
 ·by_cases e:z=(k:Int)
  ·subst e
   exact addAll_mem.mpr (.inr ((led_mem hW k0 k1 y).mpr hz))
  ·exact addAll_mem.mpr (.inl ((h.2.2 y).mpr ⟨z,z0,by omega,hz⟩))
theorem paint_end {L:Nat} {W:List (List Int)} (hW:∀ w∈W,IsP L w) {p:List Int} (h2:∀ x:Int,0≤x→x < (L:Int)→p.getD x.toNat 0≤x) (h3:∀ w∈W,∀ x:Int,0≤x→x < (L:Int)→p.getD (w.getD x.toNat 0).toNat 0=p.getD x.toNat 0)
  {x:Int} (x0:0≤x) (x1:x < (L:Int)):∀ y∈cmp L W x,p.getD x.toNat 0≤y∧p.getD y.toNat 0=p.getD x.toNat 0:=fun y hy=>by
 have h:=lbf_P (g:=gof W) (P:=fun y=>(0≤y∧y < (L:Int))∧p.getD y.toNat 0=p.getD x.toNat 0) (fun c hc z hz=>?_) (L+1) 0 [x] (fun c hc=>?_) y hy
 ·exact ⟨by have:=h2 y h.1.1 h.1.2;rw [h.2] at this;exact this,h.2⟩
 ·obtain ⟨⟨c0,c1⟩,e⟩:=hc
  have hr:=gof_rg hW c c0 c1 z hz
  obtain ⟨w,hw,rfl⟩:=List.mem_map.mp hz
  exact ⟨hr,by rw [h3 w hw c c0 c1];exact e⟩
 ·rw [List.mem_singleton.mp hc]
  exact ⟨⟨x0,x1⟩,rfl⟩
def WaysAt (H:Hp) (a:Addr) (W:List (List Int)):Prop:=∃ bs:List Addr,H a=some (.lst (bs.map V.ref))∧bs.length=W.length∧∀ (j:Nat) (w:List Int),W[j]?=some w→∃ b,bs[j]?=some b∧H b=some (.lst (w.map V.int))
def spLedTo (K:PySem.W.Frag):Sp:=fun vs H Q _=>∃ (a:Addr) (x:Int) (L:Nat) (W:List (List Int)),vs=[.ref a,.int x]∧WaysAt H a W∧(∀ w∈W,IsP L w)∧L≤1024∧0≤x∧x < (L:Int)∧NewL H Q (led L W x)
def NewLL (H:Hp) (Q:VK) (xss:List (List Int)):Prop:=∀ (r:Addr) (bs:List Addr) (H':Hp),Same H H'→H r=none→H' r=some (.lst (bs.map V.ref))→bs.length=xss.length→bs.Nodup→(∀ b∈bs,H b=none) →
 (∀ (j:Nat) (xs:List Int),xss[j]?=some xs→∃ b,bs[j]?=some b∧H' b=some (.lst (xs.map V.int)))→Q (.ref r) H'
def spCamps (K:PySem.W.Frag) (Ct Cb:Addr):Sp:=fun vs H Q E=>∃ (a:Addr) (gs:List (List Row)) (n:Nat) (many:Int),vs=[.ref a,.int many]∧GsAt K H a gs∧(∀ g∈gs,GoodM n g∧g.length≤8)∧1≤gs.length∧gs.length≤10∧2≤n∧n≤5∧many < 2 ^ 61 ∧
 (many < 0→TMx Cb E H)∧(0≤many→1024 < n ^ many.toNat→TMx Ct E H)∧(0≤many→n ^ many.toNat≤1024→NewLL H Q (campsL (n ^ many.toNat) (gs.map fun g=>tabW n g many.toNat) (n ^ many.toNat)))
def spTold24 (K:PySem.W.Frag):Sp:=fun vs H Q _=>∃ (a:Addr) (gs:List (List Row)) (n:Nat) (many:Int),vs=[.ref a,.int many]∧GsAt K H a gs∧(∀ g∈gs,GoodM n g∧g.length≤8)∧1≤gs.length∧gs.length≤10∧2≤n∧n≤5∧many < 2 ^ 61 ∧
 (many < 0→∀ H',Same H H'→Q (.str "count") H')∧(0≤many→1024 < n ^ many.toNat→∀ H',Same H H'→Q (.str "many") H')∧(0≤many→n ^ many.toNat≤1024→NewLL H Q (campsL (n ^ many.toNat) (gs.map fun g=>tabW n g many.toNat) (n ^ many.toNat)))
end Gu

set_option Elab.async false
set_option linter.all false
set_option maxRecDepth 100000
set_option maxHeartbeats 4000000
namespace L2
open PySem PySem.Spec PyProof.Rows PySem.SeqAt
/-! ### sorted(dict) of ints -/
section
variable {prog:Program} {w:World} {A:Around} {E:Value→Shared→Prop} {s:Shared} {T:String} {r d:Addr} {n:Nat} {P:Nat→Value→Prop} {OK:Heap→Prop}
theorem collect_kdl {Q:List Value→Shared→Prop} (K:PySem.W.KdlSrc prog w T r d n P OK) (hh:A.handled=none) (hok:OK s.heap) (hn:n≤sizeLine)
  (hQ:∀ h' tk acc,(∀ b o,s.heap.get? b=some o→h'.get? b=some o)→ItemsOf P acc n→Q acc.toList { s with heap:=h',toks:=tk }):wpAny (model prog w) A (collect (.ref r)) Q E s:=by
 obtain ⟨hr,hd⟩:=K.there _ hok
 unfold collect
 refine wpAny_bind (wpAny_runValue (codeAny_builtin F.entry_proto_collect ?_))
 rw [Around.under_plainId F.plain_proto_collect _]
 show wpAny _ A.in1 (newList [] >>= fun l=>again (.builtin "list.__iadd__" ⟨[l,.ref r],[]⟩)) _ _ s
 refine wpAny_bind (wpAny_newObj_type ?_)
 refine wpAny_pure ⟨plainId_quiet F.plain_list_iadd _,codeAny_builtin F.entry_list_iadd ?_⟩
 rw [Around.under_plainId F.plain_list_iadd _]
 have hS:(s.heap.push { cls:=.type "list",data:=.seq ([]:List Value).toArray }).get? s.heap.objs.size=some { cls:=.type "list",data:=.seq ([]:List Value).toArray }:=Heap.get?_push_size _ rfl
 show wpAny _ A.in1 (Builtin.List.listExtendWith (.ref s.heap.objs.size) (.ref r) (.ref s.heap.objs.size)) _ _ _
 refine PySem.W.kdl_extend (R:=wants (fun v s'=>wpAny (model prog w) A (match v with
    | Value.ref a=>do
     match (←load a).data with
      | Data.seq xs _=>pure xs.toList
      | _=>unsupported "internal:collect"
    | _=>unsupported "internal:collect") Q E s') E) (s:={ s with heap:=s.heap.push { cls:=.type "list",data:=.seq ([]:List Value).toArray } }) K hh (K.keep _ _ hok fun b _ o e=>Heap.get?_push_of_some _ e) s.heap.objs.size (Nat.ne_of_gt hr) (Nat.ne_of_gt hd) _ 0 hS (fun h' tk acc c' hk hl hacc=>?_) hn
 show wpAny _ A (load s.heap.objs.size >>= _) _ _ _
 refine wpAny_bind (wpAny_load hl (wpAny_pure (hQ h' tk acc (fun b o e=>hk b o (Nat.ne_of_lt (Heap.lt_size e)) (Heap.get?_push_of_some _ e)) hacc)))
end
section
variable {X:Cx} (K:PySem.W.Frag)
theorem cSortD (hK:X.K=K) (hc:X.calm=true):CallR X (.builtin "sorted") (fun xs H Q=>∃ (p:Addr) (kvs:List (Key × V)) (ks:List Int),xs=[.ref p]∧H p=some (.dK kvs)∧kvs.map (fun e=>e.1)=ks.map Sum.inl ∧
  ∀ ns':List Int,ns'.Perm ks→ns'.Pairwise (·≤·)→∀ l,H l=none→Q (.ref l) (upd H l (.lst (ns'.map V.int)))):=by
 subst hK
 intro pins s σ H xs us Q I r h
 obtain ⟨p,kvs,ks,rfl,hp,hks,q⟩:=h
 obtain ⟨u,rfl,ru⟩:=vals1 r
 cases ru
 obtain ⟨hz,hsm,vs,hkv,hd⟩:=I.hok p _ hp
 obtain ⟨ep,hat⟩:=hd.dictAt
 have hlen:vs.length=kvs.length:=hkv.length.symm
 have hkl:kvs.length=ks.length:=by have:=congrArg List.length hks;rw [List.length_map,List.length_map] at this;exact this
 refine Calls.call_function_entry kind_sorted plain_sorted entry_sorted (args_sorted1 _) ?_
 unfold Builtin.«sorted»
 refine wpAny_bind (m:=checkCount "sorted" 1 1 _) (wpAny_pure ?_)
 refine wpAny_bind (collect_kdl (PySem.W.kdl_dict (knd:=mixKind X.prog X.w) (kvs:=vs) (ep:=ep) hsm) (I.ok.hd hc) hat (by rw [hlen];exact hz) fun h1 tk acc hk hacc=>?_)
 have hv:Vals (ks.map V.int) acc.toList:=by
  refine vals_by (by rw [Array.length_toList,hacc.1,hlen,List.length_map,hkl]) fun i v hi=>?_
  obtain ⟨k,x,hx,hks'⟩:=hacc.2 i v (by rw [←Array.getElem?_toList];exact hi)
  have hil:i < kvs.length:=by rw [←hlen];exact (List.getElem?_eq_some_iff.mp hx).1
  have hp2:=paired_at hkv (List.getElem?_eq_getElem hil) hx
  have ek:kvs[i].1=Sum.inl (ks[i]'(by omega)):=by
   have e:=congrArg (fun l=>l[i]?) hks
   simp only [List.getElem?_map,List.getElem?_eq_getElem hil,List.getElem?_eq_getElem (show i < ks.length by omega)] at e
   exact Option.some.inj e
  refine ⟨.int (ks[i]'(by omega)),by rw [List.getElem?_map,List.getElem?_eq_getElem (by omega)];rfl,?_⟩
  rcases keyIs_shape hks' with ⟨j,t,e1,rfl⟩ | ⟨y,t,e1,rfl⟩
  ·have e2:k=Sum.inl j:=e1
   have e3:(Sum.inl (ks[i]'(by omega)):Key)=Sum.inl j:=by rw [←ek,hp2.1,e2]
   cases e3
   exact ⟨t,rfl⟩
  ·have e2:k=Sum.inr y:=e1
   have e3:(Sum.inl (ks[i]'(by omega)):Key)=Sum.inr y:=by rw [←ek,hp2.1,e2]
   cases e3
 have hI:=ints_are hv
 have hzi:acc.toList.length≤sizeLine:=by rw [Array.length_toList,hacc.1,hlen];exact hz
 generalize acc.toList=its at hv hI hzi ⊢
 refine wpAny_bind (wpAny_newList ?_ hzi)
 have I1:Inv X pins σ H { s with heap:=h1,toks:=tk }:=I.kept (t':=tk) hk
 have hoL:(h1.push (seqObj "list" its.toArray 0)).get? h1.objs.size=some (seqObj "list" its.toArray 0):=Heap.get?_push_size _ rfl
 show wpAny _ _ _ _ _ { s with heap:=h1.push (seqObj "list" its.toArray 0),toks:=tk }
 refine wpAny_bind (wpAny_holding (wpAny_call_entry slot_list_sort ⟨_,hoL,rfl⟩ entry_list_sort
  (list_sort_ints hoL hI hzi fun out ns' a1 a2 a3=>⟨_,rfl,?_⟩) (args_list_sort _)))
 obtain ⟨e,he⟩:=sortedHeap_at (out:=out) hoL
 refine wpAny_pure ⟨_,rfl,.ref h1.objs.size,_,I1.laid (a:=h1.objs.size) (o:=.lst (ns'.map V.int)) (t':=tk) (fun b u q=>?_) (Nat.le_refl _) ⟨?_,out.toList,e,of_ints a1,by simpa [seqObj] using he⟩,rfl,q ns' a2 a3 _ I1.fresh⟩
 ·have hlt:b < h1.objs.size:=Heap.lt_size q
  rw [sortedHeap_old (Nat.ne_of_lt hlt) (by rw [Heap.size_push];exact Nat.lt_succ_of_lt hlt)]
  exact Heap.get?_push_of_some _ q
 ·rw [List.length_map,List.Perm.length_eq a2,←hkl]
  exact hz
end
end L2

set_option Elab.async false
set_option linter.all false
set_option maxRecDepth 100000
set_option maxHeartbeats 4000000
namespace Gu
open PySem L2
theorem enumLO {K:PySem.W.Frag} {a:Addr} {xs:List V} {g:TG} {tb:TS} {D:Ends} {σ:St} {H:Hp} (Pv:Nat→St→Hp→Prop) (h0:Pv 0 σ H) (hl:∀ i σ H,i≤xs.length→Pv i σ H→SqL K H a xs)
  (hs:∀ i x p σ H,xs[i]?=some x→Pv i σ H→H p=none→∀ Ed:Ends,(∀ σ' H',Pv (i+1) σ' H'→Ed.nx σ' H')→g (.ref p) σ (upd H p (.tup [.int (i:Nat),x])) fun σ2 H2=>tb Ed σ2 H2) (hd:∀ σ H,Pv xs.length σ H→D.nx σ H) :
  ∃ W:Nat→Nat→St→Hp→Prop,(∃ m,W 0 m σ H)∧∀ i m σ H,W i m σ H →
   ((Itel K a).stop i H∧D.nx σ H)∨((Itel K a).go i H∧∃ N:St→Hp→Prop,(∀ σ' H',N σ' H'→∃ m',m' < m∧W (i+1) m' σ' H')∧∀ x H',(Itel K a).yld i H x H'→g x σ H' fun σ2 H2=>tb { D with nx:=N,ct:=N,bk:=D.nx } σ2 H2) :=
 for_enumL Pv h0 hl (fun i x p σ H hx h hp=>hs i x p σ H hx h hp _ fun _ _ z=>z) hd
/-! ### painting -/
def tot (p:List Int):Nat:=(p.map Int.toNat).sum
theorem tot_set:∀ (p:List Int) (i:Nat) (v:Int),i < p.length→tot (p.set i v)+(p.getD i 0).toNat=tot p+v.toNat
 | [],_,_,h=>absurd h (Nat.not_lt_zero _)
 | x::p,0,v,_=>by
  show (v.toNat+tot p)+x.toNat=(x.toNat+tot p)+v.toNat
  omega
 | x::p,i+1,v,h=>by
  have:=tot_set p i v (Nat.lt_of_succ_lt_succ h)
  show (x.toNat+tot (p.set i v))+(p.getD i 0).toNat=(x.toNat+tot p)+v.toNat
  omega
theorem getD_set {p:List Int} {i:Nat} (j:Nat) (v:Int) (hi:i < p.length):(p.set i v).getD j 0=if j=i then v else p.getD j 0:=by
 rw [List.getD_eq_getElem?_getD,List.getElem?_set,List.getD_eq_getElem?_getD]
 by_cases e:j=i
 ·subst e
  rw [if_pos rfl,if_pos hi,if_pos rfl];rfl
 ·rw [if_neg (Ne.symm e),if_neg e]
structure Pnt (L:Nat) (W:List (List Int)) (p:List Int):Prop where
 len:p.length=L
 le:∀ x:Int,0≤x→x < (L:Int)→p.getD x.toNat 0≤x
 mem:∀ x:Int,0≤x→x < (L:Int)→p.getD x.toNat 0∈cmp L W x
section
variable {L:Nat} {W:List (List Int)} {p:List Int} (hW:∀ w∈W,IsP L w)
include hW
theorem Pnt.start:Pnt L W (iota L):=by
 have e:∀ x:Int,0≤x→x < (L:Int)→(iota L).getD x.toNat 0=x:=fun x x0 x1=>by
  rw [List.getD_eq_getElem?_getD,iota_getI x0 x1];rfl
 exact ⟨iota_len L,fun x x0 x1=>by rw [e x x0 x1];exact Int.le_refl _,fun x x0 x1=>by rw [e x x0 x1];exact (cmp_facts hW x0 x1).2.2.1⟩
theorem Pnt.rg (h:Pnt L W p) {x:Int} (x0:0≤x) (x1:x < (L:Int)):0≤p.getD x.toNat 0:=((cmp_facts hW x0 x1).2.1 _ (h.mem x x0 x1)).1
theorem Pnt.step (h:Pnt L W p) {w:List Int} (hw:w∈W) {x y low:Int} (x0:0≤x) (x1:x < (L:Int)) (ey:w.getD x.toNat 0=y) (el:low=if p.getD y.toNat 0 < p.getD x.toNat 0 then p.getD y.toNat 0 else p.getD x.toNat 0) :
  Pnt L W ((p.set x.toNat low).set y.toNat low)∧(p.getD x.toNat 0≠low∨p.getD y.toNat 0≠low→tot ((p.set x.toNat low).set y.toNat low) < tot p):=by
 have hl:=h.len
 obtain ⟨y0,y1⟩:=perm_get (hW w hw) (k:=x.toNat) (by omega)
 rw [ey] at y0 y1
 have hyx:y∈cmp L W x:=(cmp_facts hW x0 x1).2.2.2 x (cmp_facts hW x0 x1).2.2.1 y (List.mem_map.mpr ⟨w,hw,ey⟩)
 have hxy:x∈cmp L W y:=cmp_sym hW x0 x1 y hyx
 have mx:=h.mem x x0 x1
 have my:=h.mem y y0 y1
 have lx:=h.le x x0 x1
 have ly:=h.le y y0 y1
 have qx:=h.rg hW x0 x1
 have qy:=h.rg hW y0 y1
 have e1:low≤p.getD x.toNat 0∧low≤p.getD y.toNat 0∧0≤low:=by rw [el];split<;>omega
 have hmx:low∈cmp L W x:=by
  rw [el]
  split
  ·exact cmp_tr hW x0 x1 hyx _ my
  ·exact mx
 have hmy:low∈cmp L W y:=cmp_tr hW y0 y1 hxy _ hmx
 have hg:∀ j:Nat,((p.set x.toNat low).set y.toNat low).getD j 0=if j=y.toNat then low else if j=x.toNat then low else p.getD j 0:=fun j=>by
  rw [getD_set j low (by rw [List.length_set];omega),getD_set j low (by omega)]
 refine ⟨⟨by rw [List.length_set,List.length_set];exact hl,fun z z0 z1=>?_,fun z z0 z1=>?_⟩,fun hne=>?_⟩
 ·rw [hg]
  split
  ·omega
  ·split
   ·omega
   ·exact h.le z z0 z1
 ·rw [hg]
  split
  ·rename_i c
   have:z=y:=by omega
   subst this
   exact hmy
  ·split
   ·rename_i c
    have:z=x:=by omega
    subst this
    exact hmx
   ·exact h.mem z z0 z1
 ·have t1:=tot_set p x.toNat low (by omega)
  have t2:=tot_set (p.set x.toNat low) y.toNat low (by rw [List.length_set];omega)
  rw [getD_set y.toNat low (by omega)] at t2
  by_cases c:y.toNat=x.toNat
  ·rw [c] at hne e1 el
   rw [if_neg (Int.lt_irrefl _)] at el
   rcases hne with z | z<;>exact absurd el.symm z
  ·rw [if_neg c] at t2
   omega
end
structure Pend (L:Nat) (W:List (List Int)) (p:List Int):Prop where
 pn:Pnt L W p
 st:∀ w∈W,∀ x:Int,0≤x→x < (L:Int)→p.getD (w.getD x.toNat 0).toNat 0=p.getD x.toNat 0
def grp (p:List Int) (k:Nat) (h:Int):List Int:=(iota k).filter fun y=>decide (p.getD y.toNat 0=h)
def phd (p:List Int) (k:Nat):List Int:=(iota k).filter fun y=>decide (p.getD y.toNat 0=y)
section
variable {L:Nat} {W:List (List Int)} {p:List Int} (hW:∀ w∈W,IsP L w)
include hW
theorem Pend.same (h:Pend L W p) {x y:Int} (x0:0≤x) (x1:x < (L:Int)) (hy:y∈cmp L W x):p.getD x.toNat 0≤y∧p.getD y.toNat 0=p.getD x.toNat 0:=paint_end hW h.pn.le h.st x0 x1 y hy
theorem Pend.own (h:Pend L W p) {x:Int} (x0:0≤x) (x1:x < (L:Int)):p.getD (p.getD x.toNat 0).toNat 0=p.getD x.toNat 0:=(h.same hW x0 x1 (h.pn.mem x x0 x1)).2
theorem Pend.head (h:Pend L W p) {x:Int} (x0:0≤x) (x1:x < (L:Int)):isHead L W x=decide (p.getD x.toNat 0=x):=by
 rw [Bool.eq_iff_iff,decide_eq_true_iff]
 unfold isHead
 rw [List.all_eq_true]
 constructor
 ·intro q
  have:=of_decide_eq_true (q _ (h.pn.mem x x0 x1))
  have:=h.pn.le x x0 x1
  omega
 ·intro q y hy
  have:=(h.same hW x0 x1 hy).1
  rw [q] at this
  exact decide_eq_true this
theorem Pend.led (h:Pend L W p) {x:Int} (x0:0≤x) (x1:x < (L:Int)) (e:p.getD x.toNat 0=x):led L W x=grp p L x:=by
 unfold Gu.led grp
 refine List.filter_congr fun y hy=>?_
 obtain ⟨y0,y1⟩:=mem_iota.mp hy
 rw [decide_eq_decide]
 constructor
 ·intro q
  rw [(h.same hW x0 x1 q).2,e]
 ·intro q
  have:=h.pn.mem y y0 y1
  rw [q] at this
  exact cmp_sym hW y0 y1 x this
theorem Pend.camps (h:Pend L W p):campsL L W L=(phd p L).map (grp p L):=by
 unfold campsL phd
 have e:(iota L).filter (isHead L W)=(iota L).filter fun y=>decide (p.getD y.toNat 0=y):=List.filter_congr fun y hy=>h.head hW (mem_iota.mp hy).1 (mem_iota.mp hy).2
 rw [e]
 refine List.map_congr_left fun y hy=>?_
 obtain ⟨h1,h2⟩:=List.mem_filter.mp hy
 exact h.led hW (mem_iota.mp h1).1 (mem_iota.mp h1).2 (of_decide_eq_true h2)
theorem Pend.new (h:Pend L W p) {k:Nat} (hk:k < L) (e:p.getD k 0=(k:Int)):phd p (k+1)=phd p k++[(k:Int)]∧grp p k (k:Int)=[]∧(k:Int)∉phd p k:=by
 refine ⟨?_,?_,?_⟩
 ·unfold phd
  rw [iota_snoc',List.filter_append,List.filter_cons_of_pos (by rw [Int.toNat_natCast];exact decide_eq_true e)]
  rfl
 ·unfold grp
  rw [List.filter_eq_nil_iff]
  intro y hy q
  obtain ⟨y0,y1⟩:=mem_iota.mp hy
  have:=h.pn.le y y0 (by omega)
  rw [of_decide_eq_true q] at this
  omega
 ·intro q
  have:=(mem_iota.mp (List.mem_filter.mp q).1).2
  omega
theorem Pend.old (h:Pend L W p) {k:Nat} (hk:k < L) (e:p.getD k 0≠(k:Int)):phd p (k+1)=phd p k∧p.getD k 0∈phd p k:=by
 have k0:(0:Int)≤(k:Int):=by omega
 have k1:(k:Int) < (L:Int):=by omega
 have hl:=h.pn.le _ k0 k1
 have ho:=h.own hW k0 k1
 have hg:=h.pn.rg hW k0 k1
 rw [Int.toNat_natCast] at hl ho hg
 refine ⟨?_,?_⟩
 ·unfold phd
  rw [iota_snoc',List.filter_append,List.filter_cons_of_neg (by rw [Int.toNat_natCast];exact fun z=>e (of_decide_eq_true z))]
  simp
 ·exact List.mem_filter.mpr ⟨mem_iota.mpr ⟨hg,by omega⟩,decide_eq_true ho⟩
end
theorem grp_yes (p:List Int) (k:Nat):grp p (k+1) (p.getD k 0)=grp p k (p.getD k 0)++[(k:Int)]:=by
 unfold grp
 rw [iota_snoc',List.filter_append,List.filter_cons_of_pos (by rw [Int.toNat_natCast];exact decide_eq_true rfl)]
 rfl
theorem grp_no {p:List Int} {k:Nat} {h:Int} (e:h≠p.getD k 0):grp p (k+1) h=grp p k h:=by
 unfold grp
 rw [iota_snoc',List.filter_append,List.filter_cons_of_neg (by rw [Int.toNat_natCast];exact fun z=>e (of_decide_eq_true z).symm)]
 simp
theorem phd_nodup (p:List Int) (k:Nat):(phd p k).Nodup:=(iota_nodup k).sublist List.filter_sublist
theorem phd_len (p:List Int) (k:Nat):(phd p k).length≤k:=by
 have:=List.length_filter_le (fun y:Int=>decide (p.getD y.toNat 0=y)) (iota k)
 rw [iota_len] at this
 exact this
theorem grp_len (p:List Int) (k:Nat) (h:Int):(grp p k h).length≤k:=by
 have:=List.length_filter_le (fun y:Int=>decide (p.getD y.toNat 0=h)) (iota k)
 rw [iota_len] at this
 exact this
theorem phd_sorted {p:List Int} {k:Nat} {q:List Int} (hp:q.Perm (phd p k)) (hs:q.Pairwise (·≤·)):q=phd p k :=
 hp.eq_of_pairwise (fun a b _ _ h1 h2=>Int.le_antisymm h1 h2) hs ((iota_le k).sublist List.filter_sublist)
/-! ### a dict of lists by ints -/
def kvR (l:List Int) (c:Int→Addr):List (Key × V):=l.map fun h=>(Sum.inl h,V.ref (c h))
theorem kvR_val (c:Int→Addr) (y:Int):∀ l:List Int,valV (kvR l c) (Sum.inl y)=if y∈l then some (.ref (c y)) else none
 | []=>by rw [if_neg (List.not_mem_nil)];rfl
 | h::l=>by
  have ih:=kvR_val c y l
  unfold kvR at ih ⊢
  rw [List.map_cons]
  by_cases e:h=y
  ·subst e
   rw [valV_pos rfl,if_pos List.mem_cons_self]
  ·rw [valV_neg (fun z=>e (Sum.inl.inj z)),ih]
   by_cases m:y∈l
   ·rw [if_pos m,if_pos (List.mem_cons_of_mem _ m)]
   ·rw [if_neg m,if_neg (fun z=>(List.mem_cons.mp z).elim (fun q=>e q.symm) m)]
def setC (c:Int→Addr) (y:Int) (b:Addr):Int→Addr:=fun h=>if h=y then b else c h
theorem kvR_in {c:Int→Addr} {y:Int} {l:List Int} (b:Addr) (m:y∈l):putK (kvR l c) (Sum.inl y) (.ref b)=kvR l (setC c y b):=by
 unfold putK
 rw [valV_any,kvR_val,if_pos m,if_pos (show (some (V.ref (c y))).isSome=true from rfl)]
 unfold kvR setC
 rw [List.map_map]
 refine List.map_congr_left fun h _=>?_
 show (if (Sum.inl h:Key)=Sum.inl y then ((Sum.inl h:Key),V.ref b) else (Sum.inl h,V.ref (c h)))=_
 by_cases e:h=y
 ·rw [if_pos (by rw [e]),if_pos e]
 ·rw [if_neg (fun z=>e (Sum.inl.inj z)),if_neg e]
theorem kvR_new {c:Int→Addr} {y:Int} {l:List Int} (b:Addr) (m:y∉l):putK (kvR l c) (Sum.inl y) (.ref b)=kvR (l++[y]) (setC c y b):=by
 rw [putK_new _ (by rw [kvR_val,if_neg m])]
 unfold kvR
 rw [List.map_append]
 congr 1
 ·refine List.map_congr_left fun h hh=>?_
  unfold setC
  rw [if_neg (show ¬ h=y from fun z=>m (z ▸ hh))]
 ·simp [setC]
theorem kvR_keys (l:List Int) (c:Int→Addr):(kvR l c).map (fun e=>e.1)=l.map Sum.inl:=by
 unfold kvR
 rw [List.map_map]
 rfl
theorem kvR_len (l:List Int) (c:Int→Addr):(kvR l c).length=l.length:=List.length_map _
def spDue24 (K:PySem.W.Frag):Sp:=fun vs H Q _=>∃ (a:Addr) (gs:List (List Row)) (n m:Nat),vs=[.ref a,.int m]∧GsAt K H a gs∧(∀ g∈gs,GoodM n g∧g.length≤8)∧1≤gs.length∧gs.length≤10∧2≤n∧n≤5∧n ^ m≤1024 ∧
 NewLL H Q (campsL (n ^ m) (gs.map fun g=>tabW n g m) (n ^ m))
end Gu
namespace Gu
open PySem L2
/-! ### lists of lists as things -/
abbrev dLL (xss:List (List Int)):D:=D.lst (xss.map fun xs=>D.lst (xs.map D.int))
theorem drLL_go {K:PySem.W.Frag} {H:Hp}:∀ (xss:List (List Int)) (bs:List Addr),bs.length=xss.length→(∀ (j:Nat) (xs:List Int),xss[j]?=some xs→∃ b,bs[j]?=some b∧H b=some (.lst (xs.map V.int)))→DrL K H (xss.map fun xs=>D.lst (xs.map D.int)) (bs.map V.ref)
 | [],[],_,_=>DrL.nil
 | [],_::_,h,_=>by cases h
 | _::_,[],h,_=>by cases h
 | xs::xss,b::bs,hl,h=>by
  refine DrL.cons ?_ (drLL_go xss bs (Nat.succ.inj hl) fun j ys e=>h (j+1) ys e)
  obtain ⟨b',e1,e2⟩:=h 0 xs rfl
  cases e1
  exact Dr.lst e2 (DrL.ints _)
theorem drLL {K:PySem.W.Frag} {H:Hp} {xss:List (List Int)} {r:Addr} {bs:List Addr} (e:H r=some (.lst (bs.map V.ref))) (hl:bs.length=xss.length) (h:∀ (j:Nat) (xs:List Int),xss[j]?=some xs→∃ b,bs[j]?=some b∧H b=some (.lst (xs.map V.int))):Dr K H (dLL xss) (.ref r):=Dr.lst e (drLL_go xss bs hl h)
theorem dLL_dep:∀ xss:List (List Int),D.dep (dLL xss)≤2
 | []=>by simp [D.dep,D.depL]
 | xs::xss=>by
  have ih:=dLL_dep xss
  simp only [D.dep,List.map_cons,D.depL,D.depL_ints] at ih ⊢
  omega
theorem dLL_few {xss:List (List Int)} (hl:xss.length≤5000) (h:∀ xs∈xss,xs.length≤5000):D.few (dLL xss):=by
 simp only [D.few,List.length_map]
 refine ⟨hl,?_⟩
 clear hl
 induction xss with
 | nil=>simp [D.fewL]
 | cons xs xss ih =>
  simp only [List.map_cons,D.fewL,D.few,List.length_map]
  exact ⟨⟨h xs List.mem_cons_self,fewL_ints xs⟩,ih fun ys hy=>h ys (List.mem_cons_of_mem _ hy)⟩
theorem campsL_small {L:Nat} {W:List (List Int)} (hL:L≤1024):D.few (dLL (campsL L W L)):=by
 refine dLL_few ?_ fun xs hx=>?_
 ·unfold campsL
  rw [List.length_map]
  have:=List.length_filter_le (isHead L W) (iota L)
  rw [iota_len] at this
  omega
 ·obtain ⟨y,_,rfl⟩:=List.mem_map.mp hx
  have:=List.length_filter_le (fun z=>decide (z∈cmp L W y)) (iota L)
  rw [iota_len] at this
  exact Nat.le_trans this (by omega)
theorem campsL_some {L:Nat} {W:List (List Int)} (hW:∀ w∈W,IsP L w) (h:0 < L):∃ xs,(campsL L W L)[0]?=some xs∧xs.length≤L:=by
 have h0:isHead L W 0=true:=by
  unfold isHead
  rw [List.all_eq_true]
  exact fun y hy=>decide_eq_true ((cmp_facts hW (Int.le_refl _) (by omega)).2.1 y hy).1
 obtain ⟨k,rfl⟩:∃ k,L=k+1:=⟨L - 1,by omega⟩
 refine ⟨led (k+1) W 0,?_,?_⟩
 ·unfold campsL
  have:iota (k+1)=0::((List.range k).map fun i:Nat=>(1:Int)+(i:Int)):=(iota_hd k).symm
  rw [this,List.filter_cons_of_pos h0]
  rfl
 ·have:=List.length_filter_le (fun z=>decide (z∈cmp (k+1) W 0)) (iota (k+1))
  rw [iota_len] at this
  exact this
end Gu

set_option Elab.async false
set_option linter.all false
set_option maxRecDepth 100000
set_option maxHeartbeats 4000000
namespace Gu
open PySem L2
section
variable {P:Program} {w:World} {K:PySem.W.Frag} {mg:Str→Option Value} {base:Heap} {f g:Addr} {fd gd:FuncData} {CX:CXT} [NoE CX]
theorem scCell:FnScope ["_law_script","_law_at"] ["_law_script","_law_at"] (defScope sCell):=⟨rfl,rfl,rfl,by decide +kernel,rfl,by decide +kernel,by decide +kernel⟩
theorem ok_cell (F:Fun K "_law_cell" "_law_cell" sCell f fd) (ml:mg "len"=none):FnOk P w K mg base CX 1 f fd ["_law_script","_law_at"] (spCell K):=by
 refine F.okc scCell (fun vs H Q E h=>?_) (fun cdv A outer s H vs Q E hr h=>?_)
 ·obtain ⟨a,ns,i,rfl,_⟩:=h
  rfl
 obtain ⟨a,ns,i,rfl,hS,h63,hi,q⟩:=h
 refine ⟨_,pss_cons (ps_if (pt_cmpR op_lt (pv 1) (pe_callB call_len_seq rfl ml PySem.boot_len (pa_cons (pv 0) pa_nil)) (nomark _)) (pss_one (ps_ret (pe_ix ix_list (pv 0) (pv 1) (fun _ _=>rfl)))) pss_nil)
  (pss_cons (ps_if (pt_cmpR op_eq (pe_callB call_len_seq rfl ml PySem.boot_len (pa_cons (pv 0) pa_nil)) pe_int (nomark _)) (pss_one (ps_ret (pe_op op_add (pe_op op_mul pe_int (pv 1)) pe_int))) pss_nil)
  (pss_one (ps_ret (pe_op op_add (pe_op op_mod (pe_ix ix_list (pv 0) (pe_op op_mod (pv 1) (pe_callB call_len_seq rfl ml PySem.boot_len (pa_cons (pv 0) pa_nil))) (fun _ _=>rfl)) pe_int) (pe_op op_mul pe_int (pv 1)))))),?_⟩
 have hl:(ns.map V.int).length=ns.length:=List.length_map _
 refine ⟨_,rfl,_,rfl,a,_,rfl,.inl hS,_,_,rfl,rfl,_,rfl,?_⟩
 refine ite2 (fun c=>?_) (fun c=>?_)
 ·have c':(i:Int) < (((ns.map V.int).length:Nat):Int):=of_decide_eq_true c
  rw [hl] at c'
  have hin:i < ns.length:=by omega
  refine ⟨_,rfl,_,rfl,a,_,_,V.int (ns.getD i 0),rfl,rfl,hS,atI_nat (by simp [hin]),?_⟩
  have e:cell ns i=ns.getD i 0:=by unfold cell;rw [if_pos hin]
  rw [e] at q
  exact q
 ·have c':¬ (i:Int) < (((ns.map V.int).length:Nat):Int):=of_decide_eq_false (Bool.eq_false_iff.mpr c)
  rw [hl] at c'
  have hin:¬ i < ns.length:=by omega
  refine ⟨_,rfl,a,_,rfl,.inl hS,rfl,_,rfl,?_⟩
  refine ite2 (fun c=>?_) (fun c=>?_)
  ·have c2:=of_decide_eq_true c
   rw [hl] at c2
   have hz:ns.length=0:=by injection c2 with c2;omega
   refine ⟨_,rfl,_,_,rfl,rfl,.inl ⟨by decide,by decide⟩,_,_,rfl,rfl,?_⟩
   have e:cell ns i=29*i+5:=by unfold cell;rw [if_neg hin,if_pos hz]
   rw [e] at q
   exact q
  ·have c2:=of_decide_eq_false (Bool.eq_false_iff.mpr c)
   rw [hl] at c2
   have hz:¬ ns.length=0:=fun z=>c2 (congrArg V.int (by omega))
   have hpos:(0:Int) < ns.length:=by omega
   have hm:i % ns.length < ns.length:=Nat.mod_lt _ (by omega)
   have em:(i:Int) % (((ns.map V.int).length:Nat):Int)=((i % ns.length:Nat):Int):=by rw [hl];exact (Int.natCast_emod i ns.length).symm
   refine ⟨_,rfl,_,rfl,_,rfl,a,_,rfl,.inl hS,_,_,rfl,rfl,by rw [hl];exact hpos,a,_,_,V.int (ns.getD (i % ns.length) 0),rfl,rfl,hS,(by rw [em];exact atI_nat (by simp [hm])),_,_,rfl,rfl,(by show (0:Int) < 1000003;decide),_,rfl,_,_,rfl,rfl,.inl ⟨by decide,by decide⟩,_,_,rfl,rfl,?_⟩
   have e:cell ns i=ns.getD (i % ns.length) 0 % 1000003+103*i:=by unfold cell;rw [if_neg hin,if_neg hz]
   rw [e] at q
   exact q
theorem scLetters:FnScope ["_law_script","_law_at"] ["_law_script","_law_at"] (defScope sLetters):=⟨rfl,rfl,rfl,by decide +kernel,rfl,by decide +kernel,by decide +kernel⟩
theorem ok_letters (F:Fun K "_law_letters" "_law_letters" sLetters f fd) (G:FnOk P w K mg base CX 1 g gd ["_law_script","_law_at"] (spCell K)) (bG:Binds K gd ["_law_script","_law_at"] []) (kG:PySem.W.keepIn K (.ref g)=true) (mG:mg "_law_cell"=some (.ref g)) :
  FnOk P w K mg base CX 2 f fd ["_law_script","_law_at"] (spLetters K):=by
 refine F.okc scLetters (fun vs H Q E h=>?_) (fun cdv A outer s H vs Q E hr h=>?_)
 ·obtain ⟨a,ns,i,rfl,_⟩:=h
  rfl
 obtain ⟨a,ns,i,rfl,hS,h63,hi,q⟩:=h
 refine ⟨_,pss_one (ps_ret (pe_op op_add pe_int (pe_op op_mod (pe_call G hr rfl mG kG bG .nil passN (pa_cons (pv 0) (pa_cons (pv 1) pa_nil))) pe_int))),?_⟩
 rw [letN_int] at q
 exact ⟨_,rfl,_,rfl,a,ns,i,rfl,hS,h63,hi,_,_,rfl,rfl,(by show (0:Int) < 4;decide),_,_,rfl,rfl,q⟩
theorem scRear:FnScope ["_law_pick","_law_letters_here","_law_left","_law_made","_law_k","_law_many"] ["_law_pick","_law_letters_here"] (defScope sRear):=⟨rfl,rfl,rfl,by decide +kernel,rfl,by decide +kernel,by decide +kernel⟩
theorem ok_rear (F:Fun K "_law_rearranged" "_law_rearranged" sRear f fd) (ml:mg "len"=none) (mt:mg "tuple"=none) (mr:mg "range"=none) (mls:mg "list"=none):FnOk P w K mg base CX 1 f fd ["_law_pick","_law_letters_here"] (spRear K):=by
 refine F.okc scRear (fun vs H Q E h=>?_) (fun cdv A outer s H vs Q E hr h=>?_)
 ·obtain ⟨pick,n,rfl,_⟩:=h
  rfl
 obtain ⟨pick,n,rfl,hn,k⟩:=h
 refine ⟨_,pss_cons (ps_set (i:=2) scRear.nd rfl (Or.inl rfl) (pe_callTy (call_list_rng rfl) rfl mls PyProof.Rows.boot_list (pa_cons (pe_callTy call_rng rfl mr PyProof.Rows.boot_range (pa_cons (pv 1) pa_nil)) pa_nil)))
  (pss_cons (ps_set (i:=3) scRear.nd rfl (Or.inl rfl) (pe_lst pa_nil))
  (pss_cons (ps_for PassesOwn.never rfl (pi_range1 rfl mr (pa_cons (pv 1) pa_nil)) (pg_name (i:=4) scRear.nd rfl (Or.inl rfl))
   (pss_cons (ps_set (i:=5) scRear.nd rfl (Or.inl rfl) (pe_callB call_len_seq rfl ml PySem.boot_len (pa_cons (pv 2) pa_nil)))
   (pss_cons (ps_expr (pe_bm PySem.F.plainAttrs_list PySem.F.slot_list_append PySem.F.type_list_append mt_append (pv 3) (pa_cons (pe_bm PySem.F.plainAttrs_list PySem.F.slot_list_pop PySem.F.type_list_pop mt_popAt (pv 2) (pa_cons (pe_op op_mod (pv 0) (pv 5)) pa_nil)) pa_nil)))
   (pss_one (ps_set (i:=0) scRear.nd rfl (Or.inl rfl) (pe_op op_fdiv (pv 0) (pv 5)))))))
  (pss_one (ps_ret (pe_callTy call_tuple_of rfl mt PyProof.Rows.boot_tuple (pa_cons (pv 3) pa_nil)))))),?_⟩
 refine ⟨_,rfl,(n:Int),rfl,by omega,by omega,fun p hp=>⟨p,0,(n:Int),rfl,upd_same,⟨by decide,by decide,by omega,by omega⟩,by omega,fun l hl=>⟨by show 0≤sizeLine;decide,fun m hm=>?_⟩⟩⟩
 have e:((n:Int) - 0).toNat=n:=by omega
 rw [e,rint_iota] at hm ⊢
 have s1:Same H (upd H p (.rng 0 n)):=same_up (Same.refl H) hp
 have s2:Same H (upd (upd H p (.rng 0 n)) l (.lst ((iota n).map V.int))):=same_up s1 hl
 have hl0:H l=none:=s1.free hl
 have hm0:H m=none:=s2.free hm
 have hlm:l≠m:=ne_of_none upd_same hm
 have s3:Same H (upd (upd (upd H p (.rng 0 n)) l (.lst ((iota n).map V.int))) m (.lst [])):=same_up s2 hm
 refine ⟨_,rfl,(n:Int),rfl,by omega,by omega,rangeO (n:=(n:Int).toNat) (fun i σ H2=>∃ (u v:Option V) (pk:Int) (left made:List Int),σ=[some (.int pk),some (.int n),some (.ref l),some (.ref m),u,v]∧Same H H2∧H2 l=some (.lst (left.map V.int))∧H2 m=some (.lst (made.map V.int)) ∧
   left.length+i=n∧made.length=i∧rearr pick n=made++rear left.length pk left)
  ⟨none,none,pick,iota n,[],rfl,s3,(by rw [upd_ne hlm,upd_same]),upd_same,iota_len n,rfl,by rw [iota_len];rfl⟩ (fun i σ H2 hi h Ed nx3=>?_) (fun σ H2 h=>?_)⟩
 ·obtain ⟨u,v,pk,left,made,rfl,t2,gl,gm,e1,e2,e3⟩:=h
  have hin:i < n:=by simpa using hi
  have hpos:0 < left.length:=by omega
  have hL:(left.map V.int).length=left.length:=List.length_map _
  obtain ⟨ix,hixe,hix⟩:∃ ix:Nat,pk % (((left.map V.int).length:Nat):Int)=(ix:Int)∧ix < left.length:=by
   rw [hL]
   have h0:=Int.emod_nonneg pk (show (left.length:Int)≠0 by omega)
   have h1:=Int.emod_lt_of_pos pk (show (0:Int) < left.length by omega)
   exact ⟨(pk % (left.length:Int)).toNat,by omega,by omega⟩
  have hsq:PySem.seqIndex? (pk % (((left.map V.int).length:Nat):Int)) (left.map V.int).length=some ix:=by
   rw [hixe,hL,PySem.seqIndex_of (by omega) (by omega)]
   simp
  refine ⟨_,rfl,l,_,rfl,.inl (SqL.of gl),_,rfl,.inl ⟨rfl,_,SqL.of gm⟩,_,rfl,.inl ⟨rfl,_,SqL.of gl⟩,_,rfl,_,rfl,_,_,rfl,rfl,by rw [hL];omega,?_⟩
  refine ⟨l,_,_,ix,V.int (left.getD ix 0),rfl,rfl,gl,by rw [hixe];omega,by rw [hixe];omega,hsq,by simp [hix],m,_,_,rfl,rfl,by rw [upd_ne (Ne.symm hlm)];exact gm,by rw [List.length_map];exact small1000 (by omega),?_⟩
  refine ⟨_,rfl,_,rfl,_,_,rfl,rfl,⟨by rw [hL];omega,by rw [hL];omega⟩,?_⟩
  refine nx3 _ _ ⟨_,_,pk / (((left.map V.int).length:Nat):Int),left.eraseIdx ix,made++[left.getD ix 0],rfl,same_over (same_over t2 hl0) hm0,?_,?_,?_,by simp [e2],?_⟩
  ·rw [upd_ne hlm,upd_same]
   congr 2
   exact map_erase V.int left ix
  ·rw [upd_same,List.map_append];rfl
  ·rw [List.length_eraseIdx_of_lt hix];omega
  ·rw [e3,List.append_assoc]
   congr 1
   obtain ⟨q,hq⟩:∃ q,left.length=q+1:=⟨left.length - 1,by omega⟩
   have e5:(left.eraseIdx ix).length=q:=by rw [List.length_eraseIdx_of_lt hix];omega
   rw [e5,hL]
   rw [hL] at hixe
   have e6:(pk % (left.length:Int)).toNat=ix:=by omega
   have e7:rear (q+1) pk left=left.getD (pk % (left.length:Int)).toNat 0::rear q (pk / (left.length:Int)) (left.eraseIdx (pk % (left.length:Int)).toNat):=rfl
   rw [hq,e7,e6]
   rw [hq]
   rfl
 ·obtain ⟨u,v,pk,left,made,rfl,t2,gl,gm,e1,e2,e3⟩:=h
  refine ⟨_,rfl,m,_,rfl,.inl ⟨SqL.of gm,fun t ht=>?_⟩⟩
  have e9:(n:Int).toNat=n:=by omega
  have e4:left.length=0:=by omega
  rw [e4] at e3
  have e5:rearr pick n=made:=by rw [e3];unfold rear;simp
  rw [←e5]
  exact k _ _ (same_up t2 ht) (Dr.tup upd_same (DrL.ints _))
theorem scWhole:FnScope ["_law_found"] ["_law_found"] (defScope sWhole):=⟨rfl,rfl,rfl,by decide +kernel,rfl,by decide +kernel,by decide +kernel⟩
theorem ok_whole (F:Fun K "_law_whole" "_law_whole" sWhole f fd) (B:Blt mg):FnOk P w K mg base CX 1 f fd ["_law_found"] (spWhole K):=by
 refine F.okc scWhole (fun vs H Q E h=>?_) (fun cdv A outer s H vs Q E hr h=>?_)
 ·obtain ⟨i,rfl,_⟩:=h
  rfl
 obtain ⟨i,rfl,q⟩:=h
 refine ⟨_,pss_one (ps_ret (pe_and (pIsi K rfl (pv 0) B.isi B.int PyProof.Rows.boot_int)
  (pe_one (pe_not (pIsi K rfl (pv 0) B.isi B.bl PyProof.Rows.boot_bool))))),?_⟩
 exact ⟨_,rfl,_,_,_,rfl,.of (.int i),rfl,_,rfl,iteT ⟨_,rfl,_,_,_,rfl,.of (.int i),rfl,_,rfl,q⟩⟩
theorem scLike:FnScope ["_law_found","_law_due_here"] ["_law_found","_law_due_here"] (defScope sLike):=⟨rfl,rfl,rfl,by decide +kernel,rfl,by decide +kernel,by decide +kernel⟩
theorem csLike:CompS ["_law_found","_law_due_here"] (defScope sLike) ["_law_k","_law_due_here","_law_found"] [none,some 1,some 0] (csc [(".0",.local),("_law_k",.local),("_law_like",.globalImplicit),("_law_due_here",.free),("_law_found",.free)]):=⟨rfl,by decide +kernel,by decide +kernel,by decide +kernel,rfl,by decide +kernel,by decide +kernel⟩
theorem ok_like {n:Nat} (F:Fun K "_law_like" "_law_like" sLike f fd) (B:Blt mg) (G:FnOk P w K mg base CX 1 g gd ["_law_found"] (spWhole K)) (bG:Binds K gd ["_law_found"] []) (kG:PySem.W.keepIn K (.ref g)=true) (mG:mg "_law_whole"=some (.ref g))
  (L:FnOk P w K mg base CX (n+1) f fd ["_law_found","_law_due_here"] (spLike K n)) (bL:Binds K fd ["_law_found","_law_due_here"] []) (kL:PySem.W.keepIn K (.ref f)=true) (mL:mg "_law_like"=some (.ref f)):FnOk P w K mg base CX (n+2) f fd ["_law_found","_law_due_here"] (spLike K (n+1)):=by
 refine F.okc scLike (fun vs H Q E h=>?_) (fun cdv A outer s H vs Q E hr h=>?_)
 ·obtain ⟨a,b,d,rfl,_⟩:=h
  rfl
 obtain ⟨a,b,d,rfl,da,db,hd,hfew,q⟩:=h
 have hr1:Room 1 _:=hr.mono (by omega)
 refine ⟨_,pss_cons (ps_if (pt_cmpR op_isN (pv 1) pe_non (nomark _)) (pss_one (ps_ret (pe_cmpR op_isN (pv 0) pe_non (nomark _)))) pss_nil)
  (pss_cons (ps_if (pt_val (pIsi K rfl (pv 1) B.isi B.bl PyProof.Rows.boot_bool))
   (pss_one (ps_ret (pe_and (pIsi K rfl (pv 0) B.isi B.bl PyProof.Rows.boot_bool) (pe_one (pe_cmpR op_eq (pv 0) (pv 1) (nomark _)))))) pss_nil)
  (pss_cons (ps_if (pt_val (pIsi K rfl (pv 1) B.isi B.int PyProof.Rows.boot_int))
   (pss_one (ps_ret (pe_and (pe_call G hr1 rfl mG kG bG .nil passN (pa_cons (pv 0) pa_nil)) (pe_one (pe_cmpR op_eq (pv 0) (pv 1) (nomark _)))))) pss_nil)
  (pss_cons (ps_if (pt_val (pIsi K rfl (pv 1) B.isi B.str PyProof.Rows.boot_str))
   (pss_one (ps_ret (pe_and (pIsi K rfl (pv 0) B.isi B.str PyProof.Rows.boot_str) (pe_one (pe_cmpR op_eq (pv 0) (pv 1) (nomark _)))))) pss_nil)
  (pss_cons (ps_if (PW.pt (pw_or (pt_cmpR op_ne (pIsi K rfl (pv 1) B.isi B.lst PyProof.Rows.boot_list)
     (pIsi K rfl (pv 0) B.isi B.lst PyProof.Rows.boot_list) (nomark _))
    (pw_or1 (pt_cmpR op_ne (pIsi K rfl (pv 1) B.isi B.tup PyProof.Rows.boot_tuple)
     (pIsi K rfl (pv 0) B.isi B.tup PyProof.Rows.boot_tuple) (nomark _)))))
   (pss_one (ps_ret pe_bl)) pss_nil)
  (pss_one (ps_ret (pe_and (pe_cmpR op_eq (pe_callB call_len_seq rfl B.len PySem.boot_len (pa_cons (pv 0) pa_nil)) (pe_callB call_len_seq rfl B.len PySem.boot_len (pa_cons (pv 1) pa_nil)) (nomark _))
   (pe_one (pe_callB (cAll K rfl rfl) rfl B.all PyProof.Rows.boot_all (pa_cons (pe_comp rfl csLike (pi_range1 rfl B.rng (pa_cons (pe_callB call_len_seq rfl B.len PySem.boot_len (pa_cons (pv 1) pa_nil)) pa_nil)) (fun _ _ _ _ _=>pg_name (i:=0) csLike.nd rfl (Or.inl rfl))
    (fun _ _ _ _ _=>pe_call L hr rfl mL kL bL .nil passN (pa_cons (pe_ix ((ixL K rfl).or (ixT K rfl)) (pv 2) (pv 0) (fun _ _=>rfl)) (pa_cons (pe_ix ((ixL K rfl).or (ixT K rfl)) (pv 1) (pv 0) (fun _ _=>rfl)) pa_nil)))) pa_nil)))))))))),?_⟩
 have kit:∀ t c b,PySem.W.kitOne K (.type t) (.type c)=some b→PySem.W.kitOne K (.type t) (.type c)=some b:=fun _ _ _ h=>h
 cases d with
 | non =>
  simp only [Dr] at da db
  subst da db
  exact ⟨_,rfl,rfl,_,rfl,iteT ⟨_,rfl,rfl,q _ (Same.refl H)⟩⟩
 | bl x =>
  simp only [Dr] at da db
  subst da db
  refine cutS (fun Ed nx=>⟨_,rfl,rfl,_,rfl,iteF nx⟩) ?_
  refine ⟨_,rfl,_,_,_,rfl,.of (.bl x),rfl,_,rfl,iteT ⟨_,rfl,_,_,_,rfl,.of (.bl x),rfl,_,rfl,iteT ⟨_,rfl,_,rfl,rfl,?_⟩⟩⟩
  rw [decide_eq_true rfl]
  exact q _ (Same.refl H)
 | int x =>
  simp only [Dr] at da db
  subst da db
  refine cutS (fun Ed nx=>⟨_,rfl,rfl,_,rfl,iteF nx⟩) (cutS (fun Ed nx=>⟨_,rfl,_,_,_,rfl,.of (.int x),rfl,_,rfl,iteF nx⟩) ?_)
  refine ⟨_,rfl,_,_,_,rfl,.of (.int x),rfl,_,rfl,iteT ⟨_,rfl,x,rfl,_,rfl,iteT ⟨_,rfl,_,rfl,rfl,?_⟩⟩⟩
  rw [decide_eq_true rfl]
  exact q _ (Same.refl H)
 | str x =>
  simp only [Dr] at da db
  subst da db
  refine cutS (fun Ed nx=>⟨_,rfl,rfl,_,rfl,iteF nx⟩) (cutS (fun Ed nx=>⟨_,rfl,_,_,_,rfl,.of (.str x),rfl,_,rfl,iteF nx⟩) (cutS (fun Ed nx=>⟨_,rfl,_,_,_,rfl,.of (.str x),rfl,_,rfl,iteF nx⟩) ?_))
  refine ⟨_,rfl,_,_,_,rfl,.of (.str x),rfl,_,rfl,iteT ⟨_,rfl,_,_,_,rfl,.of (.str x),rfl,_,rfl,iteT ⟨_,rfl,_,rfl,rfl,?_⟩⟩⟩
  rw [decide_eq_true rfl]
  exact q _ (Same.refl H)
 | tup ds =>
  simp only [Dr] at da db
  obtain ⟨a,vs,rfl,sa,ra⟩:=da
  obtain ⟨b,us,rfl,sb,rb⟩:=db
  replace sa:=SqT.of (K:=K) sa
  replace sb:=SqT.of (K:=K) sb
  simp only [D.few] at hfew
  simp only [D.dep] at hd
  refine cutS (fun Ed nx=>⟨_,rfl,rfl,_,rfl,iteF nx⟩) (cutS (fun Ed nx=>⟨_,rfl,_,_,_,rfl,.tup sb,rfl,_,rfl,iteF nx⟩) (cutS (fun Ed nx=>⟨_,rfl,_,_,_,rfl,.tup sb,rfl,_,rfl,iteF nx⟩) (cutS (fun Ed nx=>⟨_,rfl,_,_,_,rfl,.tup sb,rfl,_,rfl,iteF nx⟩) (cutS (fun Ed nx=>⟨_,rfl,_,_,_,rfl,.tup sb,rfl,_,rfl,_,_,_,rfl,.tup sa,rfl,rfl,_,rfl,iteF ⟨_,rfl,_,_,_,rfl,.tup sb,rfl,_,rfl,_,_,_,rfl,.tup sa,rfl,rfl,_,rfl,iteF nx⟩⟩) ?_))))
  have lav:ds.length=vs.length:=ra.length
  have lbu:ds.length=us.length:=rb.length
  refine ⟨_,rfl,a,_,rfl,.inr sa,_,rfl,b,_,rfl,.inr sb,rfl,true,congrArg V.bl (decide_eq_true (congrArg V.int (by omega))),iteT ?_⟩
  refine ⟨_,rfl,b,_,rfl,.inr sb,(us.length:Int),rfl,by omega,by omega,fun l hl0=>comp_range (n:=(us.length:Int).toNat) (fun i ys H2=>i≤us.length∧ys=List.replicate i (V.bl true)∧Same H H2) ⟨Nat.zero_le _,rfl,same_up (Same.refl H) hl0⟩ (line_le (by omega)) (fun i ys H2 h=>by obtain ⟨_,rfl,_⟩:=h;exact List.length_replicate)
   (fun i ys H2 hi h hy=>?_) (fun ys H2 h hy=>?_)⟩
  ·obtain ⟨_,rfl,s2⟩:=h
   have hiu:i < us.length:=by omega
   have e0:(0:Int)+(i:Int)=(i:Int):=by omega
   have ed:ds[i]?=some ds[i]:=List.getElem?_eq_getElem (by omega)
   obtain ⟨x,ex,dx⟩:=ra.get ed
   obtain ⟨y,ey,dy⟩:=rb.get ed
   have dl:=D.depL_get ed
   refine ⟨_,rfl,_,rfl,.inr ⟨a,_,_,x,rfl,rfl,s2.tupl sa,(by rw [e0];exact atI_nat ex),?_⟩⟩
   refine ⟨_,rfl,_,rfl,.inr ⟨b,_,_,y,rfl,rfl,s2.tupl sb,(by rw [e0];exact atI_nat ey),?_⟩⟩
   refine ⟨x,y,ds[i],rfl,dx.mono s2,dy.mono s2,by omega,D.fewL_get hfew.2 ed,fun H3 s3=>⟨s3 _ _ hy,hiu,?_,same_over (s2.trans s3) hl0⟩⟩
   rw [List.replicate_succ']
  ·obtain ⟨_,rfl,s2⟩:=h
   refine ⟨l,List.replicate ((us.length:Int).toNat) true,rfl,?_,?_⟩
   ·rw [List.map_replicate];exact SqL.of hy
   ·have e:(List.replicate ((us.length:Int).toNat) true).all id=true:=by simp
    rw [e]
    exact q _ s2
 | lst ds =>
  simp only [Dr] at da db
  obtain ⟨a,vs,rfl,sa,ra⟩:=da
  obtain ⟨b,us,rfl,sb,rb⟩:=db
  simp only [D.few] at hfew
  simp only [D.dep] at hd
  refine cutS (fun Ed nx=>⟨_,rfl,rfl,_,rfl,iteF nx⟩) (cutS (fun Ed nx=>⟨_,rfl,_,_,_,rfl,.lst sb,rfl,_,rfl,iteF nx⟩) (cutS (fun Ed nx=>⟨_,rfl,_,_,_,rfl,.lst sb,rfl,_,rfl,iteF nx⟩) (cutS (fun Ed nx=>⟨_,rfl,_,_,_,rfl,.lst sb,rfl,_,rfl,iteF nx⟩) (cutS (fun Ed nx=>⟨_,rfl,_,_,_,rfl,.lst sb,rfl,_,rfl,_,_,_,rfl,.lst sa,rfl,rfl,_,rfl,iteF ⟨_,rfl,_,_,_,rfl,.lst sb,rfl,_,rfl,_,_,_,rfl,.lst sa,rfl,rfl,_,rfl,iteF nx⟩⟩) ?_))))
  have lav:ds.length=vs.length:=ra.length
  have lbu:ds.length=us.length:=rb.length
  refine ⟨_,rfl,a,_,rfl,.inl sa,_,rfl,b,_,rfl,.inl sb,rfl,true,congrArg V.bl (decide_eq_true (congrArg V.int (by omega))),iteT ?_⟩
  refine ⟨_,rfl,b,_,rfl,.inl sb,(us.length:Int),rfl,by omega,by omega,fun l hl0=>comp_range (n:=(us.length:Int).toNat) (fun i ys H2=>i≤us.length∧ys=List.replicate i (V.bl true)∧Same H H2) ⟨Nat.zero_le _,rfl,same_up (Same.refl H) hl0⟩ (line_le (by omega)) (fun i ys H2 h=>by obtain ⟨_,rfl,_⟩:=h;exact List.length_replicate)
   (fun i ys H2 hi h hy=>?_) (fun ys H2 h hy=>?_)⟩
  ·obtain ⟨_,rfl,s2⟩:=h
   have hiu:i < us.length:=by omega
   have e0:(0:Int)+(i:Int)=(i:Int):=by omega
   have ed:ds[i]?=some ds[i]:=List.getElem?_eq_getElem (by omega)
   obtain ⟨x,ex,dx⟩:=ra.get ed
   obtain ⟨y,ey,dy⟩:=rb.get ed
   have dl:=D.depL_get ed
   refine ⟨_,rfl,_,rfl,.inl ⟨a,_,_,x,rfl,rfl,s2.seq sa,(by rw [e0];exact atI_nat ex),?_⟩⟩
   refine ⟨_,rfl,_,rfl,.inl ⟨b,_,_,y,rfl,rfl,s2.seq sb,(by rw [e0];exact atI_nat ey),?_⟩⟩
   refine ⟨x,y,ds[i],rfl,dx.mono s2,dy.mono s2,by omega,D.fewL_get hfew.2 ed,fun H3 s3=>⟨s3 _ _ hy,hiu,?_,same_over (s2.trans s3) hl0⟩⟩
   rw [List.replicate_succ']
  ·obtain ⟨_,rfl,s2⟩:=h
   refine ⟨l,List.replicate ((us.length:Int).toNat) true,rfl,?_,?_⟩
   ·rw [List.map_replicate];exact SqL.of hy
   ·have e:(List.replicate ((us.length:Int).toNat) true).all id=true:=by simp
    rw [e]
    exact q _ s2
theorem like_none:FnOk P w K mg base CX 1 f fd ["_law_found","_law_due_here"] (spLike K 0):=by
 have no:∀ vs H Q E,¬ spLike K 0 vs H Q E:=fun vs H Q E h=>by
  obtain ⟨a,b,d,_,_,_,hd,_⟩:=h
  omega
 exact ⟨fun vs H Q E h=>absurd h (no vs H Q E),fun A outer s H args us vs Q E _ _ _ _ h=>absurd h (no vs H Q E)⟩
theorem all_like (F:Fun K "_law_like" "_law_like" sLike f fd) (B:Blt mg) (G:FnOk P w K mg base CX 1 g gd ["_law_found"] (spWhole K)) (bG:Binds K gd ["_law_found"] []) (kG:PySem.W.keepIn K (.ref g)=true) (mG:mg "_law_whole"=some (.ref g))
  (bL:Binds K fd ["_law_found","_law_due_here"] []) (kL:PySem.W.keepIn K (.ref f)=true) (mL:mg "_law_like"=some (.ref f)):∀ n:Nat,FnOk P w K mg base CX (n+1) f fd ["_law_found","_law_due_here"] (spLike K n)
 | 0=>like_none
 | n+1=>ok_like F B G bG kG mG (all_like F B G bG kG mG bL kL mL n) bL kL mL
end
end Gu

set_option Elab.async false
set_option linter.all false
set_option maxRecDepth 100000
set_option maxHeartbeats 4000000
namespace Gu
open PySem L2
section
variable {P:Program} {w:World} {K:PySem.W.Frag} {mg:Str→Option Value} {base:Heap} {f g:Addr} {fd gd:FuncData} {CX:CXT} [NoE CX]
theorem scNumbers:FnScope ["_law_cell_here","_law_many","_law_row","_law_rest","_law_seed"] ["_law_cell_here","_law_many"] (defScope sNumbers):=⟨rfl,rfl,rfl,by decide +kernel,rfl,by decide +kernel,by decide +kernel⟩
theorem ok_numbers (F:Fun K "_law_numbers" "_law_numbers" sNumbers f fd) (ml:mg "len"=none):FnOk P w K mg base CX 1 f fd ["_law_cell_here","_law_many"] (spNumbers K):=by
 refine F.okc scNumbers (fun vs H Q E h=>?_) (fun cdv A outer s H vs Q E hr h=>?_)
 ·obtain ⟨c,m,rfl,_⟩:=h
  rfl
 obtain ⟨c,m,rfl,hm,q⟩:=h
 refine ⟨_,pss_cons (ps_set (i:=2) scNumbers.nd rfl (Or.inl rfl) (pe_lst pa_nil))
  (pss_cons (ps_set (i:=3) scNumbers.nd rfl (Or.inl rfl) (pe_op op_sub (pv 0) (pe_op op_pow pe_int pe_int)))
  (pss_cons (ps_while PassesOwn.never (PW.pt (pw_and (pt_cmpR op_gt (pv 3) pe_int (nomark _)) (pw_and1 (pt_cmpR op_lt (pe_callB call_len_seq rfl ml PySem.boot_len (pa_cons (pv 2) pa_nil)) (pv 1) (nomark _)))))
   (pss_cons (ps_expr (pe_bm PySem.F.plainAttrs_list PySem.F.slot_list_append PySem.F.type_list_append mt_append (pv 2) (pa_cons (pe_op op_mod (pv 3) pe_int) pa_nil)))
   (pss_one (ps_set (i:=3) scNumbers.nd rfl (Or.inl rfl) (pe_op op_fdiv (pv 3) pe_int)))))
  (pss_cons (ps_set (i:=4) scNumbers.nd rfl (Or.inl rfl) (pe_op op_mod (pv 0) pe_int))
  (pss_cons (ps_while PassesOwn.never (pt_cmpR op_lt (pe_callB call_len_seq rfl ml PySem.boot_len (pa_cons (pv 2) pa_nil)) (pv 1) (nomark _))
   (pss_cons (ps_set (i:=4) scNumbers.nd rfl (Or.inl rfl) (pe_op op_mod (pe_op op_add (pe_op op_add (pe_op op_mul (pv 4) pe_int) pe_int) (pe_callB call_len_seq rfl ml PySem.boot_len (pa_cons (pv 2) pa_nil))) pe_int))
   (pss_one (ps_expr (pe_bm PySem.F.plainAttrs_list PySem.F.slot_list_append PySem.F.type_list_append mt_append (pv 2) (pa_cons (pe_op op_mod (pe_op op_fdiv (pe_op op_mod (pe_op op_mul (pv 4) pe_int) pe_int) pe_int) pe_int) pa_nil))))))
  (pss_one (ps_ret (pv 2))))))),?_⟩
 refine ⟨by show 0≤sizeLine;decide,fun l hl=>⟨_,rfl,_,_,rfl,rfl,⟨by decide,by decide,by decide⟩,_,_,rfl,rfl,?_⟩⟩
 show tWhile _ _ _ _ _
 refine cutW (fun σ' H'=>∃ (k:Nat) (r:Int) (ns:List Int),σ'=[some (.int c),some (.int m),some (.ref l),some (.int r),none]∧Same H H'∧H' l=some (.lst (ns.map V.int))∧k+ns.length=m∧∀ x∈ns,0≤x∧x < 1009) (fun Ed nx=>?_) (fun σ' H' p=>?_)
 rotate_left
 ·obtain ⟨k,r,ns,rfl,s2,e2,hk,hns⟩:=p
  refine ⟨_,rfl,_,_,rfl,rfl,pmod,?_⟩
  refine ⟨fun k σ H2=>∃ (v:Int) (ns:List Int),σ=[some (.int c),some (.int m),some (.ref l),some (.int r),some (.int v)]∧Same H H2∧H2 l=some (.lst (ns.map V.int))∧k+ns.length=m∧∀ x∈ns,0≤x∧x < 1009,
   ⟨k,_,ns,rfl,s2,e2,hk,hns⟩,?_⟩
  rintro k σ H2 ⟨v,ns,rfl,s2,e2,hk,hns⟩
  have hnl:(ns.map V.int).length=ns.length:=List.length_map _
  refine ⟨_,rfl,l,_,rfl,.inl (SqL.of e2),_,rfl,_,_,rfl,rfl,_,rfl,ite2 (fun c2=>?_) (fun c2=>?_)⟩
  ·have c2':=of_decide_eq_true c2
   rw [hnl] at c2'
   have hkp:ns.length < m:=by omega
   refine cutN fun N nx2=>?_
   refine ⟨_,rfl,_,_,rfl,rfl,.inr ⟨by decide,by decide⟩,_,_,rfl,rfl,_,rfl,l,_,rfl,.inl (SqL.of e2),_,_,rfl,rfl,_,_,rfl,rfl,pmod,?_⟩
   refine ⟨_,rfl,.inl ⟨rfl,_,SqL.of e2⟩,_,rfl,_,_,rfl,rfl,.inr ⟨by decide,by decide⟩,_,_,rfl,rfl,pmod,_,_,rfl,rfl,⟨by decide,by decide⟩,_,_,rfl,rfl,pmod,l,_,_,rfl,rfl,e2,by rw [hnl];exact small1000 (by omega),?_⟩
   refine nx2 (k - 1) _ _ (by omega) ⟨_,ns++[(v*48271+9973+((ns.map V.int).length:Nat)) % 2147483647*39373 % 2147483629 / 11 % 1009],rfl,same_over s2 hl,?_,?_,nums_snoc hns (mod1009 _)⟩
   ·rw [upd_same,List.map_append];rfl
   ·rw [List.length_append];show k - 1+(ns.length+1)=m;omega
  ·have c2':=of_decide_eq_false (Bool.eq_false_iff.mpr c2)
   rw [hnl] at c2'
   exact ⟨_,rfl,q l H2 ns s2 e2 ⟨by omega,hns⟩⟩
 refine ⟨fun k σ H2=>∃ (r:Int) (ns:List Int),σ=[some (.int c),some (.int m),some (.ref l),some (.int r),none]∧Same H H2∧H2 l=some (.lst (ns.map V.int))∧k+ns.length=m∧∀ x∈ns,0≤x∧x < 1009,
  ⟨m,_,[],rfl,same_up (Same.refl H) hl,upd_same,rfl,fun x hx=>by simp at hx⟩,?_⟩
 rintro k σ H2 ⟨r,ns,rfl,s2,e2,hk,hns⟩
 have hnl:(ns.map V.int).length=ns.length:=List.length_map _
 refine ⟨_,rfl,_,_,rfl,rfl,_,rfl,ite2 (fun c1=>⟨_,rfl,l,_,rfl,.inl (SqL.of e2),_,rfl,_,_,rfl,rfl,_,rfl,ite2 (fun c2=>?_) (fun c2=>?_)⟩) (fun c1=>iteF ?_)⟩
 ·have c2':=of_decide_eq_true c2
  rw [hnl] at c2'
  have hkp:ns.length < m:=by omega
  refine cutN fun N nx2=>?_
  refine ⟨_,rfl,.inl ⟨rfl,_,SqL.of e2⟩,_,rfl,_,_,rfl,rfl,pmod,l,_,_,rfl,rfl,e2,by rw [hnl];exact small1000 (by omega),?_⟩
  refine ⟨_,rfl,_,_,rfl,rfl,⟨by decide,by decide⟩,nx2 (k - 1) _ _ (by omega) ⟨_,ns++[r % 1009],rfl,same_over s2 hl,?_,?_,nums_snoc hns (mod1009 r)⟩⟩
  ·rw [upd_same,List.map_append];rfl
  ·rw [List.length_append];show k - 1+(ns.length+1)=m;omega
 all_goals exact nx _ _ ⟨k,r,ns,rfl,s2,e2,hk,hns⟩
end
end Gu

set_option Elab.async false
set_option linter.all false
set_option maxRecDepth 100000
set_option maxHeartbeats 4000000
namespace Gu
open PySem L2
section
variable {P:Program} {w:World} {K:PySem.W.Frag} {mg:Str→Option Value} {base:Heap} {f g:Addr} {fd gd:FuncData} {CX:CXT} [NoE CX]
abbrev nCkW:List Str:=["letters","word"]
theorem scCkW:FnScope nCkW ["letters","word"] (defScope sCheckW):=⟨rfl,rfl,rfl,by decide +kernel,rfl,by decide +kernel,by decide +kernel⟩
theorem csCkW:CompS nCkW (defScope sCheckW) ["letter","letters"] [none,some 0] (csc [(".0",.local),("letter",.local),("letters",.free)]):=⟨rfl,by decide +kernel,by decide +kernel,by decide +kernel,rfl,by decide +kernel,by decide +kernel⟩
def badL (n:Nat) (l:Int):Bool:=!(decide (0≤l) && decide (l < (n:Int)))
theorem badL_any {n:Nat} {w:List Int}:((w.map (badL n)).any _root_.id=true)↔¬ LW n w:=by
 unfold LW badL
 rw [List.any_map]
 simp only [List.any_eq_true,Function.comp,_root_.id,Bool.not_eq_true',Bool.and_eq_false_iff,decide_eq_false_iff_not]
 constructor
 ·rintro ⟨x,hx,h⟩ z
  have:=z x hx
  omega
 ·intro h
  apply Classical.byContradiction
  intro h2
  exact h fun l hl=>Classical.byContradiction fun h3=>h2 ⟨l,hl,by omega⟩
theorem ok_checkw {Ct:Addr} {bmB:List Value} {B newId initId:String} (mC:mg "BadWord"=some (.ref Ct)) (xC:PySem.W.excIn K Ct bmB newId=true) (hB:ExcBaseFacts B newId initId bmB) (F:Fun K "check_word" "check_word" sCheckW f fd) (many:mg "any"=none):FnOk P w K mg base (CXx P w) 1 f fd ["letters","word"] (spCheckW K Ct):=by
 refine F.okx scCkW (fun vs H Q E h=>?_) (fun cdv A outer s H vs Q E hr h=>?_)
 ·obtain ⟨n,u,w,rfl,_⟩:=h
  rfl
 obtain ⟨n,u,w,rfl,dw,h5,q,qx⟩:=h
 obtain ⟨a,rfl,ea⟩:=Dr.its_inv dw
 refine ⟨_,pss_one (ps_if (pt_val (pe_callB (cAny K rfl rfl) rfl many PyProof.Rows.boot_any (pa_cons (pe_comp rfl csCkW (pi_tup (pv 1)) (fun _ _ _ _ _=>pg_name (i:=0) csCkW.nd rfl (Or.inl rfl)) (fun _ _ _ _ _=>pe_not (pe_chain op_le op_lt pe_int (pv 0) (pv 1)))) pa_nil))) (pss_one (ps_raise mC rfl xC hB pe_str)) pss_nil),?_⟩
 refine ⟨_,rfl,a,rfl,⟨_,SqT.of ea⟩,fun l hl0=>comp_tup (xs:=w.map V.int) (fun i ys H4=>i≤w.length∧ys=((w.take i).map (badL n)).map V.bl∧Same H H4) ⟨Nat.zero_le _,rfl,same_up (Same.refl H) hl0⟩ (fun i ys H4 _ h=>SqT.of (h.2.2 _ _ ea)) (by rw [List.length_map];exact line_le (by omega)) (fun i ys H4 h=>?_) (fun i x ys H4 hx h hy=>?_) (fun ys H4 h hy=>?_)⟩
 ·obtain ⟨_,rfl,_⟩:=h
  rw [List.length_map,List.length_map,List.length_take];omega
 ·obtain ⟨_,rfl,s4⟩:=h
  have hil:i < w.length:=by have:=(List.getElem?_eq_some_iff.mp hx).1;rwa [List.length_map] at this
  have eg:w[i]?=some w[i]:=List.getElem?_eq_getElem hil
  generalize w[i]=gi at eg
  have ex:x=V.int gi:=by rw [List.getElem?_map,eg] at hx;exact (Option.some.inj hx).symm
  subst ex
  have et:(w.take (i+1)).map (badL n)=(w.take i).map (badL n)++[badL n gi]:=take_snoc _ eg
  refine ⟨_,rfl,_,_,rfl,rfl,_,rfl,ite2 (fun c=>⟨_,rfl,_,_,rfl,rfl,_,rfl,hy,hil,?_,same_over s4 hl0⟩) (fun c=>⟨_,rfl,hy,hil,?_,same_over s4 hl0⟩)⟩
  ·rw [et,List.map_append]
   have c':=of_decide_eq_true c
   unfold badL
   rw [decide_eq_true c',Bool.true_and]
   rfl
  ·rw [et,List.map_append]
   have c':=of_decide_eq_false (Bool.eq_false_iff.mpr c)
   unfold badL
   rw [decide_eq_false c',Bool.false_and]
   rfl
 ·obtain ⟨_,rfl,s4⟩:=h
  refine ⟨l,_,rfl,SqL.of hy,_,rfl,ite2 (fun c=>?_) (fun c=>?_)⟩
  ·rw [List.length_map,List.take_length] at c
   exact fun e=>qx (badL_any.mp c) e H4 s4
  ·rw [List.length_map,List.take_length] at c
   exact q (Decidable.byContradiction fun z=>c (badL_any.mpr z)) H4 s4
theorem scBreadth:FnScope ["guise","rearranging","goings"] ["guise"] (defScope sBreadth):=⟨rfl,rfl,rfl,by decide +kernel,rfl,by decide +kernel,by decide +kernel⟩
theorem ok_breadth (F:Fun K "breadth" "breadth" sBreadth f fd) (ml:mg "len"=none):FnOk P w K mg base CX 1 f fd ["guise"] (spBreadth K):=by
 refine F.okc scBreadth (fun vs H Q E h=>?_) (fun cdv A outer s H vs Q E hr h=>?_)
 ·obtain ⟨a,r,rest,rfl,_⟩:=h
  rfl
 obtain ⟨a,r,rest,rfl,ha,hl,q⟩:=h
 refine ⟨_,pss_cons (ps_asg (pe_ix ix_tup (pv 0) pe_int (fun _ _=>rfl)) (pg_tup rfl (pgs_cons (pg_name (i:=1) scBreadth.nd rfl (Or.inl rfl)) (pgs_cons (pg_name (i:=2) scBreadth.nd rfl (Or.inl rfl)) pgs_nil))))
  (pss_one (ps_ret (pe_callB call_len_seq rfl ml PySem.boot_len (pa_cons (pv 1) pa_nil)))),?_⟩
 simp only [Dr,DrL] at ha
 obtain ⟨a,vs,rfl,ea,v,l,rfl,hv,_⟩:=ha
 obtain ⟨t,b,c,rfl,et,eb,ec⟩:=rowD_inv hv
 refine ⟨_,rfl,a,_,_,.ref t,rfl,rfl,SqT.of ea,atI_nat (j:=0) rfl,t,_,rfl,SqT.of et,rfl,_,_,rfl,_,_,rfl,rfl,_,rfl,b,_,rfl,.inr (SqT.of eb),?_⟩
 rw [List.length_map]
 exact q _ (Same.refl H)
abbrev nRf:List Str:=["guise","row","word","made","at","letter","rearranging","goings"]
theorem scRf:FnScope nRf ["guise","row","word"] (defScope sReadF):=⟨rfl,rfl,rfl,by decide +kernel,rfl,by decide +kernel,by decide +kernel⟩
theorem ok_readf (F:Fun K "read_from" "read_from" sReadF f fd) (mt:mg "tuple"=none):FnOk P w K mg base CX 1 f fd ["guise","row","word"] (spReadF K):=by
 refine F.okc scRf (fun vs H Q E h=>?_) (fun cdv A outer s H vs Q E hr h=>?_)
 ·obtain ⟨v,u,rows,n,wd,s0,rfl,_⟩:=h
  rfl
 obtain ⟨v,u,rows,n,wd,s0,rfl,dv,dw,GM,hn,h5,hw,h0,h1,q⟩:=h
 obtain ⟨av,us,rfl,eav,dus⟩:∃ (av:Addr) (us:List V),v=.ref av∧H av=some (.tup us)∧DrL K H (rowsD rows) us:=by
  simp only [Dr] at dv
  exact dv
 obtain ⟨aw,rfl,eaw⟩:=Dr.its_inv dw
 refine ⟨_,pss_cons (ps_set (i:=3) scRf.nd rfl (Or.inl rfl) (pe_lst pa_nil))
  (pss_cons (ps_set (i:=4) scRf.nd rfl (Or.inl rfl) (pv 1))
  (pss_cons (ps_for PassesOwn.never rfl (pi_tup (pv 2)) (pg_name (i:=5) scRf.nd rfl (Or.inl rfl))
   (pss_cons (ps_asg (pe_ix ix_tup (pv 0) (pv 4) (fun _ _=>rfl)) (pg_tup rfl (pgs_cons (pg_name (i:=6) scRf.nd rfl (Or.inl rfl)) (pgs_cons (pg_name (i:=7) scRf.nd rfl (Or.inl rfl)) pgs_nil))))
   (pss_cons (ps_expr (pe_bm PySem.F.plainAttrs_list PySem.F.slot_list_append PySem.F.type_list_append mt_append (pv 3) (pa_cons (pe_ix ix_tup (pv 6) (pv 5) (fun _ _=>rfl)) pa_nil)))
   (pss_one (ps_set (i:=4) scRf.nd rfl (Or.inl rfl) (pe_ix ix_tup (pv 7) (pv 5) (fun _ _=>rfl)))))))
  (pss_one (ps_ret (pe_tup (pa_cons (pe_callTy call_tuple_of rfl mt PyProof.Rows.boot_tuple (pa_cons (pv 3) pa_nil)) (pa_cons (pv 4) pa_nil))))))),?_⟩
 refine ⟨by show 0≤sizeLine;decide,fun lm hlm=>?_⟩
 have s1:=same_up (o:=HO.lst []) (Same.refl H) hlm
 refine ⟨_,rfl,_,rfl,aw,rfl,⟨_,SqT.of (s1 _ _ eaw)⟩,for_tup (xs:=wd.map V.int) (fun i σ H3=>∃ (u5 u6 u7:Option V),σ=[some (.ref av),some (.int s0),some (.ref aw),some (.ref lm),some (.int (goW rows s0 (wd.take i))),u5,u6,u7]∧Same H H3∧H3 lm=some (.lst ((outW rows s0 (wd.take i)).map V.int)))
  ⟨_,_,_,rfl,s1,upd_same⟩ (fun i σ H3 _ h=>by obtain ⟨_,_,_,_,t3,_⟩:=h;exact SqT.of (t3 _ _ eaw)) (fun i x σ H3 hx h=>?_) (fun σ H3 h=>?_)⟩
 ·obtain ⟨u5,u6,u7,rfl,t3,em⟩:=h
  have hil:i < wd.length:=by have:=(List.getElem?_eq_some_iff.mp hx).1;rwa [List.length_map] at this
  have eg:wd[i]?=some wd[i]:=List.getElem?_eq_getElem hil
  obtain ⟨l0,l1⟩:=hw _ (List.getElem_mem hil)
  generalize wd[i]=l at eg l0 l1
  have ex:x=V.int l:=by rw [List.getElem?_map,eg] at hx;exact (Option.some.inj hx).symm
  subst ex
  have hwt:LW n (wd.take i):=fun x hx=>hw x (List.mem_of_mem_take hx)
  obtain ⟨g0,g1⟩:=goW_rg GM hwt h0 h1
  have est:goW rows s0 (wd.take (i+1))=(row rows (goW rows s0 (wd.take i))).2.getD l.toNat 0:=by
   rw [List.take_add_one,eg,Option.toList,goW_app]
   rfl
  have eot:outW rows s0 (wd.take (i+1))=outW rows s0 (wd.take i)++[(row rows (goW rows s0 (wd.take i))).1.getD l.toNat 0]:=by
   rw [List.take_add_one,eg,Option.toList,outW_app]
   rfl
  have hol:(outW rows s0 (wd.take i)).length=i:=by rw [outW_len,List.length_take];omega
  rw [est,eot]
  generalize outW rows s0 (wd.take i)=ms at em hol
  generalize goW rows s0 (wd.take i)=g at g0 g1
  obtain ⟨vr,evr,dvr⟩:=rows_at dus (row_get g0 g1)
  obtain ⟨t,b',c',rfl,et,eb,ec⟩:=rowD_inv (dvr.mono t3)
  have hgl:=GM.len _ (row_mem g0 g1)
  have hpl:=(GM.perm _ (row_mem g0 g1)).len
  have hll:l.toNat < (row rows g).2.length:=by omega
  have hl1:l.toNat < (row rows g).1.length:=by omega
  refine ⟨_,rfl,_,rfl,av,_,g,.ref t,rfl,rfl,SqT.of (t3 _ _ eav),atI_of g0 evr,t,_,rfl,SqT.of et,rfl,_,_,rfl,_,_,rfl,rfl,?_⟩
  refine ⟨_,rfl,.inl ⟨rfl,_,SqL.of em⟩,_,rfl,_,rfl,b',_,l,V.int ((row rows g).1.getD l.toNat 0),rfl,rfl,SqT.of eb,atI_of l0 ?_,lm,_,_,rfl,rfl,em,small5 (by rw [List.length_map];omega),?_⟩
  ·rw [List.getElem?_map,List.getD_eq_getElem?_getD,List.getElem?_eq_getElem hl1]
   rfl
  have kk:TupK H3 (upd H3 lm (.lst (ms.map V.int++[V.int ((row rows g).1.getD l.toNat 0)]))):=TupK.up (TupK.refl _) em (fun _ z=>by cases z)
  have t4:Same H (upd H3 lm (.lst (ms.map V.int++[V.int ((row rows g).1.getD l.toNat 0)]))):=same_over t3 hlm
  refine ⟨_,rfl,_,rfl,c',_,l,V.int ((row rows g).2.getD l.toNat 0),rfl,rfl,SqT.of (kk _ _ ec),atI_of l0 ?_,_,_,_,rfl,t4,?_⟩
  ·rw [List.getElem?_map,List.getD_eq_getElem?_getD,List.getElem?_eq_getElem hll]
   rfl
  ·rw [List.map_append]
   exact upd_same
 ·obtain ⟨u5,u6,u7,rfl,t3,em⟩:=h
  rw [List.length_map,List.take_length] at *
  refine ⟨_,rfl,lm,_,rfl,.inl ⟨SqL.of em,fun t ht=>⟨_,rfl,by show 2≤sizeLine;decide,fun r hr'=>?_⟩⟩⟩
  exact q r t _ (same_up (same_up t3 ht) hr') upd_same (same_up (Same.refl _) hr' _ _ upd_same)
abbrev nWr:List Str:=["guise","word","made","at"]
theorem scWr:FnScope nWr ["guise","word"] (defScope sWorn):=⟨rfl,rfl,rfl,by decide +kernel,rfl,by decide +kernel,by decide +kernel⟩
theorem ok_worn {b c Cw:Addr} {bd cd:FuncData} (F:Fun K "worn" "worn" sWorn f fd)
  (G:FnOk P w K mg base (CXx P w) 1 g gd ["letters","word"] (spCheckW K Cw)) (bG:Binds K gd ["letters","word"] []) (kG:PySem.W.keepIn K (.ref g)=true) (mG:mg "check_word"=some (.ref g))
  (R:FnOk P w K mg base (CXx P w) 1 b bd ["guise"] (spBreadth K)) (bR:Binds K bd ["guise"] []) (kR:PySem.W.keepIn K (.ref b)=true) (mR:mg "breadth"=some (.ref b))
  (U:FnOk P w K mg base (CXx P w) 1 c cd ["guise","row","word"] (spReadF K)) (bU:Binds K cd ["guise","row","word"] []) (kU:PySem.W.keepIn K (.ref c)=true) (mU:mg "read_from"=some (.ref c)):FnOk P w K mg base (CXx P w) 2 f fd ["guise","word"] (spWorn K Cw):=by
 refine F.okx scWr (fun vs H Q E h=>?_) (fun cdv A outer s H vs Q E hr h=>?_)
 ·obtain ⟨v,u,rows,n,w,rfl,_⟩:=h
  rfl
 obtain ⟨v,u,rows,n,wd,rfl,dv,dw,GM,hn,h5,gv,gx⟩:=h
 refine ⟨_,pss_cons (ps_expr (pe_call G hr rfl mG kG bG .nil (passX fun _ _ _ z=>z) (pa_cons (pe_call R hr rfl mR kR bR .nil passN (pa_cons (pv 0) pa_nil)) (pa_cons (pv 1) pa_nil))))
  (pss_cons (ps_asg (pe_call U hr rfl mU kU bU .nil passN (pa_cons (pv 0) (pa_cons pe_int (pa_cons (pv 1) pa_nil)))) (pg_tup rfl (pgs_cons (pg_name (i:=2) scWr.nd rfl (Or.inl rfl)) (pgs_cons (pg_name (i:=3) scWr.nd rfl (Or.inl rfl)) pgs_nil))))
  (pss_one (ps_ret (pv 2)))),?_⟩
 have h1:=GM.some
 obtain ⟨r0,rt,er⟩:∃ r0 rt,rows=r0::rt:=by
  cases rows with
  | nil=>simp at h1
  | cons r0 rt=>exact ⟨r0,rt,rfl⟩
 have hp0:=GM.perm r0 (by rw [er];simp)
 have hl0:=hp0.len
 refine ⟨_,rfl,v,r0,rowsD rt,rfl,(by rw [er] at dv;exact dv),by omega,fun H1 s1=>⟨_,rfl,n,u,wd,(by rw [hl0];rfl),dw.mono s1,by omega,fun hw H2 s2=>?_,fun hw ea H2 s2=>gx hw ea H2 (s1.trans s2)⟩⟩
 have s02:=s1.trans s2
 refine ⟨_,rfl,_,rfl,v,u,rows,n,wd,0,rfl,dv.mono s02,dw.mono s02,GM,hn,h5,hw,Int.le_refl 0,by omega,fun r t H3 s3 er' et=>?_⟩
 exact ⟨r,_,rfl,SqT.of er',rfl,_,_,rfl,_,_,rfl,rfl,_,rfl,gv hw t H3 (s02.trans s3) et⟩
end
end Gu

set_option Elab.async false
set_option linter.all false
set_option maxRecDepth 100000
set_option maxHeartbeats 4000000
namespace Gu
open PySem L2
section
variable {P:Program} {w:World} {K:PySem.W.Frag} {mg:Str→Option Value} {base:Heap} {f g:Addr} {fd gd:FuncData} {CX:CXT} [NoE CX]
abbrev nRows:List Str:=["_law_letters_here","_law_cell_here","_law_nums","_law_many","_law_kind","_law_rows_here","_law_at","_law_pick","_law_first","_law_goings"]
theorem scRows:FnScope nRows ["_law_letters_here","_law_cell_here"] (defScope sRows):=⟨rfl,rfl,rfl,by decide +kernel,rfl,by decide +kernel,by decide +kernel⟩
theorem csRows1:CompS nRows (defScope sRows) ["_law_k","_law_many","_law_pick"] [none,some 3,some 7] (csc [(".0",.local),("_law_k",.local),("_law_many",.free),("_law_pick",.free)]):=⟨rfl,by decide +kernel,by decide +kernel,by decide +kernel,rfl,by decide +kernel,by decide +kernel⟩
theorem csRows2:CompS nRows (defScope sRows) ["_law_to","_law_at","_law_many"] [none,some 6,some 3] (csc [(".0",.local),("_law_to",.local),("min",.globalImplicit),("_law_at",.free),("_law_many",.free)]):=⟨rfl,by decide +kernel,by decide +kernel,by decide +kernel,rfl,by decide +kernel,by decide +kernel⟩
theorem csRows3:CompS nRows (defScope sRows) ["_law_k","_law_goings","_law_letters_here","_law_many","_law_pick"] [none,some 9,some 0,some 3,some 7] (csc [(".0",.local),("_law_k",.local),("_law_goings",.free),("_law_letters_here",.free),("_law_many",.free),("_law_pick",.free)]):=⟨rfl,by decide +kernel,by decide +kernel,by decide +kernel,rfl,by decide +kernel,by decide +kernel⟩
theorem ok_rows {k:Addr} {kd:FuncData} (F:Fun K "_law_rows" "_law_rows" sRows f fd) (mr:mg "range"=none) (mt:mg "tuple"=none) (mm:mg "min"=none)
  (G:FnOk P w K mg base CX 1 g gd ["_law_cell_here","_law_many"] (spNumbers K)) (bG:Binds K gd ["_law_cell_here","_law_many"] []) (kG:PySem.W.keepIn K (.ref g)=true) (mG:mg "_law_numbers"=some (.ref g))
  (T:FnOk P w K mg base CX 1 k kd ["_law_pick","_law_letters_here"] (spRear K)) (bT:Binds K kd ["_law_pick","_law_letters_here"] []) (kT:PySem.W.keepIn K (.ref k)=true) (mT:mg "_law_rearranged"=some (.ref k)):FnOk P w K mg base CX 2 f fd ["_law_letters_here","_law_cell_here"] (spRows K):=by
 refine F.okc scRows (fun vs H Q E h=>?_) (fun cdv A outer s H vs Q E hr h=>?_)
 ·obtain ⟨n,c,rfl,_⟩:=h
  rfl
 obtain ⟨n,c,rfl,hn2,hn5,q⟩:=h
 refine ⟨_,pss_cons (ps_set (i:=2) scRows.nd rfl (Or.inl rfl) (pe_call G hr rfl mG kG bG .nil passN (pa_cons (pv 1) (pa_cons pe_int pa_nil))))
  (pss_cons (ps_set (i:=3) scRows.nd rfl (Or.inr rfl) (pe_op op_add pe_int (pe_op op_mod (pe_ix ix_list (pv 2) pe_int (fun _ _=>rfl)) pe_int)))
  (pss_cons (ps_set (i:=4) scRows.nd rfl (Or.inl rfl) (pe_op op_mod (pe_ix ix_list (pv 2) pe_int (fun _ _=>rfl)) pe_int))
  (pss_cons (ps_set (i:=5) scRows.nd rfl (Or.inl rfl) (pe_lst pa_nil))
  (pss_cons (ps_for PassesOwn.never rfl (pi_range1 rfl mr (pa_cons (pv 3) pa_nil)) (pg_name (i:=6) scRows.nd rfl (Or.inr rfl))
   (pss_cons (ps_set (i:=7) scRows.nd rfl (Or.inr rfl) (pe_slice sl_list (pv 2) (po_some (pe_op op_add pe_int (pe_op op_mul pe_int (pv 6)))) (po_some (pe_op op_add pe_int (pe_op op_mul pe_int (pv 6))))))
   (pss_cons (ps_set (i:=8) scRows.nd rfl (Or.inl rfl) (pe_call T hr rfl mT kT bT .nil passN (pa_cons (pe_ix ix_list (pv 7) pe_int (fun _ _=>rfl)) (pa_cons (pv 0) pa_nil))))
   (pss_cons (ps_set (i:=9) scRows.nd rfl (Or.inr rfl) (pe_comp rfl csRows1 (pi_range1 rfl mr (pa_cons (pv 0) pa_nil)) (fun _ _ _ _ _=>pg_name (i:=0) csRows1.nd rfl (Or.inl rfl)) (fun _ _ _ _ _=>pe_op op_mod (pe_ix (ixL K rfl) (pv 2) (pe_op op_add pe_int (pv 0)) (fun _ _=>rfl)) (pv 1))))
   (pss_cons (PS.weak (tRI K) (ps_if (pt_cmp (pc_eqI (pv 4) pe_int)) (pss_one (ps_set (i:=9) scRows.nd rfl (Or.inr rfl) (pe_comp rfl csRows2 (pi_list (pv 9)) (fun _ _ _ _ _=>pg_name (i:=0) csRows2.nd rfl (Or.inl rfl)) (fun _ _ _ _ _=>pe_callB (call_min2 rfl) rfl mm PyProof.Rows.boot_min (pa_cons (pe_op op_sub (pv 2) pe_int) (pa_cons (pe_op op_add (pe_op op_add (pv 1) pe_int) (pv 0)) pa_nil)))))) pss_nil) ?_)
   (pss_cons (PS.weak (tRI K) (ps_if (pt_cmp (pc_eqI (pv 4) pe_int)) (pss_one (ps_set (i:=9) scRows.nd rfl (Or.inr rfl) (pe_comp rfl csRows3 (pi_range1 rfl mr (pa_cons (pv 0) pa_nil)) (fun _ _ _ _ _=>pg_name (i:=0) csRows3.nd rfl (Or.inl rfl)) (fun _ _ _ _ _=>pe_ifExp (pt_cmp (pc_eqI (pv 0) (pe_op op_mod (pe_op op_fdiv (pe_ix (ixL K rfl) (pv 4) pe_int (fun _ _=>rfl)) pe_int) (pv 2)))) (pe_ix (ixL K rfl) (pv 1) (pv 0) (fun _ _=>rfl)) (pe_op op_sub (pv 3) pe_int))))) pss_nil) ?_)
   (pss_cons (PS.weak (tRI K) (ps_if (PT.weak (tAny (PreRI K)) (PW.pt (pw_or (PW.pt (pw_and (pt_chain op_le op_le pe_int (pv 4) pe_int) (pw_and1 (pt_cmp (pc_eqI (pv 6) (pe_op op_sub (pv 3) pe_int)))))) (pw_or1 (PW.pt (pw_and (pt_cmp (pc_eqI (pv 4) pe_int)) (pw_and1 (pt_cmp (pc_eqI (pe_op op_mod (pe_ix ix_list (pv 7) pe_int (fun _ _=>rfl)) pe_int) pe_int)))))))) ?_)
    (pss_one (ps_set (i:=8) scRows.nd rfl (Or.inl rfl) (pe_callTy (call_tuple_rng rfl) rfl mt PyProof.Rows.boot_tuple (pa_cons (pe_callTy call_rng rfl mr PyProof.Rows.boot_range (pa_cons (pv 0) pa_nil)) pa_nil)))) pss_nil) ?_)
   (pss_cons (PS.weak (tRI K) (ps_if (PT.weak (tAny (PreRI K)) (PW.pt (pw_and (pt_chain op_le op_le pe_int (pv 4) pe_int) (pw_and1 (pt_cmp (pc_eqI (pv 6) (pe_op op_sub (pv 3) pe_int)))))) ?_)
    (pss_one (ps_set (i:=9) scRows.nd rfl (Or.inr rfl) (pe_op op_rep (pe_lst (pa_cons (pv 6) pa_nil)) (pv 0)))) pss_nil) ?_)
   (pss_one (ps_expr (pe_bm PySem.F.plainAttrs_list PySem.F.slot_list_append PySem.F.type_list_append mt_append (pv 5) (pa_cons (pe_tup (pa_cons (pv 8) (pa_cons (pe_callTy call_tuple_of rfl mt PyProof.Rows.boot_tuple (pa_cons (pv 9) pa_nil)) pa_nil))) pa_nil))))))))))))
  (pss_one (ps_ret (pv 5))))))),?_⟩
 ·intro D σ H h
  obtain ⟨n,m,c,kd,j,ln,lr,lp,ps,H0,rf,ri,nx⟩:=h
  obtain ⟨b,lg,p,gs,rfl,s0,db,hp,eg,hgl,hgr⟩:=ri.ex
  have h5:=rf.n5
  have hjm:=rf.jm
  refine ⟨_,rfl,_,_,rfl,rfl,_,rfl,ite2 (fun _=>?_) (fun _=>nx _ _ ri)⟩
  refine ⟨_,rfl,lg,rfl,⟨_,SqL.of eg⟩,fun l hl=>comp_list (xs:=gs.map V.int) (GI m H) (GI.nil hl) (fun i ys H2 _ h=>by obtain ⟨_,_,_,_,s⟩:=h;exact SqL.of (s _ _ eg)) (by rw [List.length_map];exact line_le (by omega)) (fun i ys H2 h=>h.len) (fun i x ys H2 hx h hy=>?_) (fun ys H2 h hy=>?_)⟩
  ·have hil:i < gs.length:=by have:=(List.getElem?_eq_some_iff.mp hx).1;rwa [List.length_map] at this
   have eg':gs[i]?=some gs[i]:=List.getElem?_eq_getElem hil
   obtain ⟨h0,h1⟩:=hgr _ (List.getElem_mem hil)
   generalize gs[i]=gi at eg' h0 h1
   have ex:x=V.int gi:=by rw [List.getElem?_map,eg'] at hx;exact (Option.some.inj hx).symm
   subst ex
   exact ⟨_,rfl,_,_,rfl,rfl,_,rfl,_,_,rfl,rfl,_,rfl,_,_,rfl,rfl,_,_,rfl,hy,h.snoc hl ⟨by split<;>omega,by split<;>omega⟩⟩
  ·obtain ⟨gs',rfl,el,r',s'⟩:=h
   rw [List.length_map] at el
   exact nx _ _ ⟨b,l,p,gs',rfl,s0.trans s',db.mono s',hp,hy,by omega,r'⟩
 ·intro D σ H h
  obtain ⟨n,m,c,kd,j,ln,lr,lp,ps,H0,rf,ri,nx⟩:=h
  obtain ⟨b,lg,p,gs,rfl,s0,db,hp,eg,hgl,hgr⟩:=ri.ex
  have h5:=rf.n5
  have h2:=rf.n2
  have hjm:=rf.jm
  have elp:=s0 _ _ rf.lp
  have h6:=rf.len
  have ep:ps[0]?=some ps[0]:=List.getElem?_eq_getElem (by omega)
  refine ⟨_,rfl,_,_,rfl,rfl,_,rfl,ite2 (fun _=>?_) (fun _=>nx _ _ ri)⟩
  refine ⟨_,rfl,(n:Int),rfl,by omega,by omega,fun l hl=>comp_range (n:=(n:Int).toNat) (GI m H) (GI.nil hl) (line_le (by omega)) (fun i ys H2 h=>h.len) (fun i ys H2 hi h hy=>?_) (fun ys H2 h hy=>?_)⟩
  ·have e0:(0:Int)+(i:Int)=(i:Int):=by omega
   rw [e0]
   have hil:i < gs.length:=by omega
   have eg':gs[i]?=some gs[i]:=List.getElem?_eq_getElem hil
   obtain ⟨h0,h1⟩:=hgr _ (List.getElem_mem hil)
   generalize gs[i]=gi at eg' h0 h1
   obtain ⟨_,_,_,_,s2⟩:=id h
   refine ⟨_,rfl,_,rfl,lp,_,_,V.int ps[0],rfl,rfl,SqL.of (s2 _ _ elp),atI_nat (j:=0) (by rw [List.getElem?_map,ep];rfl),_,_,rfl,rfl,⟨by decide,by decide⟩,_,rfl,_,_,rfl,rfl,pmod (by omega),_,_,rfl,rfl,_,rfl,ite2 (fun _=>?_) (fun _=>?_)⟩
   ·exact ⟨_,rfl,_,rfl,lg,_,_,V.int gi,rfl,rfl,SqL.of (s2 _ _ eg),atI_nat (by rw [List.getElem?_map,eg'];rfl),hy,h.snoc hl ⟨h0,h1⟩⟩
   ·exact ⟨_,rfl,_,_,rfl,rfl,hy,h.snoc hl ⟨by omega,by omega⟩⟩
  ·obtain ⟨gs',rfl,el,r',s'⟩:=h
   exact nx _ _ ⟨b,l,p,gs',rfl,s0.trans s',db.mono s',hp,hy,by omega,r'⟩
 ·intro σ H Q h
  obtain ⟨⟨n,m,c,kd,j,ln,lr,lp,ps,H0,rf,ri⟩,q⟩:=h
  obtain ⟨b,lg,p,gs,rfl,s0,db,hp,eg,hgl,hgr⟩:=ri.ex
  have elp:=s0 _ _ rf.lp
  have h6:=rf.len
  have ep:ps[0]?=some ps[0]:=List.getElem?_eq_getElem (by omega)
  refine ⟨_,rfl,_,_,rfl,rfl,_,rfl,ite2 (fun _=>⟨_,_,rfl,rfl,_,rfl,ite2 (fun _=>⟨_,rfl,_,rfl,_,_,rfl,rfl,_,_,rfl,rfl,_,rfl,ite2 (fun _=>q _) (fun _=>?_)⟩) (fun _=>iteF ?_)⟩) (fun _=>⟨_,rfl,iteF (iteF ?_)⟩)⟩
  all_goals exact ⟨_,rfl,_,_,rfl,rfl,_,rfl,ite2 (fun _=>⟨_,rfl,lp,_,_,V.int ps[0],rfl,rfl,SqL.of elp,atI_nat (j:=0) (by rw [List.getElem?_map,ep];rfl),_,_,rfl,rfl,pmod,_,_,rfl,rfl,_,rfl,q _⟩) (fun _=>q _)⟩
 ·intro D σ H h
  obtain ⟨n,m,c,kd,j,ln,lr,lp,ps,H0,rf,ri,nx⟩:=h
  obtain ⟨b,lg,p,gs,rfl,s0,db,hp,eg,hgl,hgr⟩:=ri.ex
  have h5:=rf.n5
  refine ⟨⟨n,m,c,kd,j,ln,lr,lp,ps,H0,rf,ri⟩,fun cc=>ite2 (fun _=>?_) (fun _=>nx _ _ ri)⟩
  refine ⟨_,rfl,(n:Int),rfl,by omega,by omega,fun r hr0=>⟨r,0,(n:Int),rfl,upd_same,⟨by decide,by decide,by omega,by omega⟩,by omega,fun l hl=>?_⟩⟩
  have e:((n:Int) - 0).toNat=n:=by omega
  rw [e,rint_iota]
  have s':=same_up (o:=HO.tup ((iota n).map V.int)) (same_up (o:=HO.rng 0 n) (Same.refl H) hr0) hl
  exact nx _ _ ⟨.ref l,lg,iota n,gs,rfl,s0.trans s',Dr.tup upd_same (DrL.ints _),isP_iota n,s' _ _ eg,hgl,hgr⟩
 ·intro σ H Q h
  obtain ⟨⟨n,m,c,kd,j,ln,lr,lp,ps,H0,rf,ri⟩,q⟩:=h
  obtain ⟨b,lg,p,gs,rfl,s0,db,hp,eg,hgl,hgr⟩:=ri.ex
  exact ⟨_,rfl,_,_,rfl,rfl,_,rfl,ite2 (fun _=>⟨_,_,rfl,rfl,_,rfl,ite2 (fun _=>⟨_,rfl,_,rfl,_,_,rfl,rfl,_,_,rfl,rfl,_,rfl,q _⟩) (fun _=>q _)⟩) (fun _=>⟨_,rfl,iteF (q _)⟩)⟩
 ·intro D σ H h
  obtain ⟨n,m,c,kd,j,ln,lr,lp,ps,H0,rf,ri,nx⟩:=h
  obtain ⟨b,lg,p,gs,rfl,s0,db,hp,eg,hgl,hgr⟩:=ri.ex
  have h5:=rf.n5
  have hjm:=rf.jm
  refine ⟨⟨n,m,c,kd,j,ln,lr,lp,ps,H0,rf,ri⟩,fun cc=>ite2 (fun _=>?_) (fun _=>nx _ _ ri)⟩
  refine ⟨_,rfl,by show 1≤sizeLine;decide,fun l0 hl0=>⟨_,rfl,l0,(n:Int),_,rfl,rfl,upd_same,by omega,by omega,?_,fun l hl=>?_⟩⟩
  ·show 1*(n:Int).toNat≤sizeLine
   exact line_le (by omega)
  have e:((n:Int)).toNat=n:=by omega
  rw [e,flat1]
  have s':=same_up (o:=HO.lst ((List.replicate n (j:Int)).map V.int)) (same_up (o:=HO.lst [V.int (j:Int)]) (Same.refl H) hl0) hl
  exact nx _ _ ⟨b,l,p,List.replicate n (j:Int),rfl,s0.trans s',db.mono s',hp,upd_same,List.length_replicate,fun g hg=>by rw [(List.mem_replicate.mp hg).2];omega⟩
 refine ⟨_,rfl,c,64,rfl,by omega,fun ln H1 ns s1 e1 hns=>?_⟩
 have hnl:=hns.1
 have en0:ns[0]?=some ns[0]:=List.getElem?_eq_getElem (by omega)
 have en1:ns[1]?=some ns[1]:=List.getElem?_eq_getElem (by omega)
 obtain ⟨m,hm⟩:=nat_of (x:=(1:Int)+ns[0] % 8) (by omega)
 have hm1:1≤m:=by omega
 have hm8:m≤8:=by omega
 refine ⟨_,rfl,ln,_,_,V.int ns[0],rfl,rfl,SqL.of e1,atI_nat (j:=0) (by rw [List.getElem?_map,en0];rfl),_,_,rfl,rfl,pmod,_,_,rfl,rfl,?_⟩
 generalize ns[1]=n1 at en1
 refine ⟨_,rfl,ln,_,_,V.int n1,rfl,rfl,SqL.of e1,atI_nat (j:=1) (by rw [List.getElem?_map,en1];rfl),_,_,rfl,rfl,pmod,by show 0≤sizeLine;decide,fun lr hlr=>?_⟩
 obtain ⟨kd,hkd⟩:∃ kd,kd=n1 % 6:=⟨_,rfl⟩
 have s2:=same_up (o:=HO.lst []) (Same.refl H1) hlr
 refine ⟨_,rfl,(m:Int),(by rw [←hm]),by omega,by omega,rangeO (n:=(m:Int).toNat) (fun i σ H2=>∃ (u6 u7 u8 u9:Option V) (us:List V) (rs:List Row),σ=[some (.int n),some (.int c),some (.ref ln),some (.int m),some (.int kd),some (.ref lr),u6,u7,u8,u9]∧Same H1 H2∧H2 lr=some (.lst us)∧DrL K H2 (rowsD rs) us∧rs.length=i∧GR n m rs)
  ⟨_,_,_,_,[],[],(by rw [←hm,hkd];rfl),s2,upd_same,DrL.nil,rfl,fun r hr=>by simp at hr⟩ (fun i σ H2 hi h Ed nx3=>?_) (fun σ H2 h=>?_)⟩
 ·obtain ⟨u6,u7,u8,u9,us,rs,rfl,t2,elr,drs,hrl,gr⟩:=h
  have e0:(0:Int)+(i:Int)=(i:Int):=by omega
  rw [e0]
  have him:i < m:=by omega
  obtain ⟨ps,ecut,hp6,hpr⟩:=cut6 (i:=i) hns (by omega)
  have ep:ps[0]?=some ps[0]:=List.getElem?_eq_getElem (by omega)
  refine ⟨_,rfl,_,rfl,_,_,rfl,rfl,.inl ⟨by decide,by decide⟩,_,_,rfl,rfl,_,rfl,_,rfl,_,_,rfl,rfl,.inl ⟨by decide,by decide⟩,_,_,rfl,rfl,_,rfl,ln,_,rfl,SqL.of (t2 _ _ e1),fun lp hlp=>?_⟩
  rw [ecut]
  have s3:=same_up (o:=HO.lst (ps.map V.int)) (Same.refl H2) hlp
  refine ⟨_,rfl,lp,_,_,V.int ps[0],rfl,rfl,SqL.of upd_same,atI_nat (j:=0) (by rw [List.getElem?_map,ep];rfl),_,rfl,ps[0],n,rfl,by omega,fun b H3 s4 d3=>?_⟩
  have elp3:H3 lp=some (.lst (ps.map V.int)):=s4 _ _ upd_same
  refine ⟨_,rfl,(n:Int),rfl,by omega,by omega,fun lg hlg=>comp_range (n:=(n:Int).toNat) (GI m H3) (GI.nil hlg) (line_le (by omega)) (fun i ys H h=>h.len) (fun k ys H4 hk h hy=>?_) (fun ys H4 h hy=>?_)⟩
  ·have ek:(1:Int)+(0+(k:Int))=((1+k:Nat):Int):=by omega
   have ek':ps[1+k]?=some (ps[1+k]'(by omega)):=List.getElem?_eq_getElem (by omega)
   generalize ps[1+k]'(by omega)=pk at ek'
   obtain ⟨_,_,_,_,s5⟩:=id h
   refine ⟨_,rfl,_,rfl,_,_,rfl,rfl,lp,_,_,V.int pk,rfl,rfl,SqL.of (s5 _ _ elp3),(by rw [ek];exact atI_nat (by rw [List.getElem?_map,ek'];rfl)),_,rfl,_,_,rfl,rfl,pmod (by omega),hy,h.snoc hlg ⟨?_,?_⟩⟩
   ·exact Int.emod_nonneg _ (by omega)
   ·exact Int.emod_lt_of_pos _ (by omega)
  obtain ⟨gs,rfl,hgl,hgr,s5⟩:=h
  have rf:RF n m i ps lp H3:=⟨hn2,hn5,him,hm8,elp3,hp6,hpr⟩
  refine ⟨n,m,c,kd,i,ln,lr,lp,ps,H3,rf,⟨b,lg,_,gs,rfl,s5,d3.mono s5,rearr_perm _ _,hy,by omega,hgr⟩,fun σ1 H5 r1=>⟨n,m,c,kd,i,ln,lr,lp,ps,H3,rf,r1,fun σ2 H6 r2=>⟨n,m,c,kd,i,ln,lr,lp,ps,H3,rf,r2,fun σ3 H7 r3=>⟨n,m,c,kd,i,ln,lr,lp,ps,H3,rf,r3,fun σ4 H8 r4=>?_⟩⟩⟩⟩
  clear hgl hgr hy
  obtain ⟨b,lg,p,gs,rfl,s0,db,hp,eg,hgl,hgr⟩:=r4.ex
  have s28:Same H2 H8:=(s3.trans s4).trans s0
  refine ⟨_,rfl,.inl ⟨rfl,_,SqL.of (s28 _ _ elr)⟩,_,rfl,_,rfl,lg,_,rfl,.inl ⟨SqL.of eg,fun t4 ht4=>⟨by show 2≤sizeLine;decide,fun t5 ht5=>?_⟩⟩⟩
  have s9:=same_up (o:=HO.tup (gs.map V.int)) (Same.refl H8) ht4
  have s10:=same_up (o:=HO.tup [b,.ref t4]) s9 ht5
  have elr':=s10 _ _ (s28 _ _ elr)
  have hul:us.length=i:=by have:=drs.length;unfold rowsD at this;rw [List.length_map] at this;omega
  refine ⟨lr,us,.ref t5,rfl,rfl,elr',small1000 (by omega),?_⟩
  obtain ⟨b0,rfl,eb⟩:=Dr.its_inv db
  have kk:TupK H8 (upd (upd (upd H8 t4 (.tup (gs.map V.int))) t5 (.tup [.ref b0,.ref t4])) lr (.lst (us++[.ref t5]))):=TupK.up (TupK.of s10) elr' (fun _ z=>by cases z)
  have nt5:t5≠lr:=ne_of upd_same elr' (by intro z;cases z)
  have nt4:t4≠t5:=ne_of_none upd_same ht5
  have nt4f:t4≠lr:=ne_of (show upd (upd H8 t4 (.tup (gs.map V.int))) t5 (.tup [.ref b0,.ref t4]) t4=some (.tup (gs.map V.int)) by rw [upd_ne nt4];exact upd_same) elr' (by intro z;cases z)
  refine nx3 _ _ ⟨_,_,_,_,us++[.ref t5],rs++[(p,gs)],rfl,same_over (t2.trans (s28.trans s10)) hlr,upd_same,?_,by rw [List.length_append,hrl];rfl,gr.snoc ⟨hp,hgl,hgr⟩⟩
  unfold rowsD
  rw [List.map_append]
  refine DrL.append ((drs.mono s28).keyed kk (rows_key _)) (DrL.one (rowD_mk (r:=(p,gs)) (b:=b0) (c:=t4) ?_ (kk _ _ eb) ?_))
  ·rw [upd_ne nt5];exact upd_same
  ·rw [upd_ne nt4f,upd_ne nt4];exact upd_same
 ·obtain ⟨u6,u7,u8,u9,us,rs,rfl,t2,elr,drs,hrl,gr⟩:=h
  exact ⟨_,rfl,q lr H2 rs (s1.trans t2) ⟨us,elr,drs⟩ (gr.good (by omega) hm1 (by omega)) (by omega)⟩
end
end Gu

set_option Elab.async false
set_option linter.all false
set_option maxRecDepth 100000
set_option maxHeartbeats 4000000
namespace Gu
open PySem L2
section
variable {P:Program} {w:World} {K:PySem.W.Frag} {mg:Str→Option Value} {base:Heap} {f g:Addr} {fd gd:FuncData} {CX:CXT} [NoE CX]
abbrev nIlN:List Str:=["_law_rows_here","_law_line","_law_marks","_law_place","_law_heads","_law_row"]
abbrev nIlN1:List Str:=["_law_row","_law_marks","_law_place","_law_rows_here"]
abbrev cIlN1:Scope:=csc [(".0",.local),("_law_row",.local),("tuple",.globalImplicit),("_law_marks",.free),("_law_place",.free),("_law_rows_here",.free)]
theorem scIlN:FnScope nIlN ["_law_rows_here","_law_line","_law_marks"] (defScope sInLine):=⟨rfl,rfl,rfl,by decide +kernel,rfl,by decide +kernel,by decide +kernel⟩
theorem csIlN1:CompS nIlN (defScope sInLine) nIlN1 [none,some 2,some 3,some 0] cIlN1:=⟨rfl,by decide +kernel,by decide +kernel,by decide +kernel,rfl,by decide +kernel,by decide +kernel⟩
abbrev cIlN2:Scope:=csc [(".0",.local),("_law_row",.local),("tuple",.globalImplicit),("_law_marks",.cell),("_law_place",.cell),("_law_rows_here",.cell)]
theorem csIlN2:CompS nIlN1 cIlN2 ["_law_to","_law_marks","_law_place"] [none,some 1,some 2] (csc [(".0",.local),("_law_to",.local),("_law_marks",.free),("_law_place",.free)]):=⟨rfl,by decide +kernel,by decide +kernel,by decide +kernel,rfl,by decide +kernel,by decide +kernel⟩
theorem ok_inlineN (F:Fun K "_law_in_line" "_law_in_line" sInLine f fd) (ml:mg "len"=none) (mt:mg "tuple"=none):FnOk P w K mg base CX 1 f fd ["_law_rows_here","_law_line","_law_marks"] (spInLineN K):=by
 refine F.okc scIlN (fun vs H Q E h=>?_) (fun cdv A outer s H vs Q E hr h=>?_)
 ·obtain ⟨a,l,m,n,rows,nm,us,o,k,kvs,rfl,_⟩:=h
  rfl
 obtain ⟨a,l,m,n,rows,nm,us,o,k,kvs,rfl,Sa,da,ni,GM,hn,el,em,mk,L,cl,q⟩:=h
 have hu:=hu_of hr
 refine ⟨_,pss_cons (ps_set (i:=3) scIlN.nd rfl (Or.inr rfl) pe_dnewK)
  (pss_cons (ps_set (i:=4) scIlN.nd rfl (Or.inl rfl) (pe_lst pa_nil))
  (pss_cons (ps_for PassesOwn.never rfl (pi_list (pv 1)) (pg_name (i:=5) scIlN.nd rfl (Or.inl rfl))
   (pss_one (ps_if (pt_cmp (pc_dnotin hu (pe_dget hu (pv 2) (pv 5) (fun _ _=>rfl)) (pv 3)))
    (pss_cons (ps_dput hu (pv 3) (pe_dget hu (pv 2) (pv 5) (fun _ _=>rfl)) (pe_callB call_len_seq rfl ml PySem.boot_len (pa_cons (pv 4) pa_nil)) rfl)
    (pss_one (ps_expr (pe_bm PySem.F.plainAttrs_list PySem.F.slot_list_append PySem.F.type_list_append mt_append (pv 4) (pa_cons (pv 5) pa_nil))))) pss_nil)))
  (pss_one (ps_ret (pe_callTy call_tuple_of rfl mt PyProof.Rows.boot_tuple (pa_cons (pe_comp rfl csIlN1 (pi_list (pv 4)) (fun _ _ _ _ _=>pg_name (i:=0) csIlN1.nd rfl (Or.inl rfl))
   (fun _ _ _ _ _=>pe_tup (pa_cons (pe_callTy (cTup K rfl) rfl mt PyProof.Rows.boot_tuple (pa_cons (pe_ix (ixT K rfl) (pe_ix (ixQ K rfl) (pv 3) (pv 0) (fun _ _=>rfl)) pe_int (fun _ _=>rfl)) pa_nil))
    (pa_cons (pe_callTy (cTup K rfl) rfl mt PyProof.Rows.boot_tuple (pa_cons (pe_comp rfl csIlN2 (piT K rfl (pe_ix (ixT K rfl) (pe_ix (ixQ K rfl) (pv 3) (pv 0) (fun _ _=>rfl)) pe_int (fun _ _=>rfl))) (fun _ _ _ _ _=>pg_name (i:=0) csIlN2.nd rfl (Or.inl rfl))
     (fun _ _ _ _ _=>pe_dget hu (pv 2) (pe_dget hu (pv 1) (pv 0) (fun _ _=>rfl)) (fun _ _=>rfl))) pa_nil)) pa_nil)))) pa_nil)))))),?_⟩
 have hol:=L.len
 have h400:=GM.few
 have gk:∀ r∈o,valV kvs (kN nm r)=some (V.int (k r)):=fun r hr=>by
  obtain ⟨v,hv,d⟩:=mk.get ni hr
  simp only [Dr] at d
  rw [hv,d]
 refine fun lp hlp=>⟨by show 0≤sizeLine;decide,fun lh hlh=>?_⟩
 have s1:=same_up (o:=HO.dK []) (Same.refl H) hlp
 have hlh0:H lh=none:=s1.free hlh
 have nph:lp≠lh:=ne_of_none upd_same hlh
 have s2:=same_up (o:=HO.lst []) s1 hlh
 refine ⟨_,rfl,l,rfl,⟨_,SqL.of (s2 _ _ el)⟩,listO (xs:=o.map (nV nm)) (fun i σ H2=>∃ (u:Option V),σ=[some (.ref a),some (.ref l),some (.ref m),some (.ref lp),some (.ref lh),u]∧Same H H2∧H2 lh=some (.lst ((heads k (o.take i)).map (nV nm)))∧H2 lp=some (.dK (prs Sum.inl ((heads k (o.take i)).map k))))
  ⟨_,rfl,s2,upd_same,by rw [upd_ne nph];exact upd_same⟩ (fun i σ H2 _ h=>by obtain ⟨_,_,t2,_⟩:=h;exact SqL.of (t2 _ _ el)) (fun i x σ H2 hx h Ed nx3=>?_) (fun σ H2 h=>?_)⟩
 ·obtain ⟨u,rfl,t2,e1,e2⟩:=h
  have hil:i < o.length:=by have:=(List.getElem?_eq_some_iff.mp hx).1;rwa [List.length_map] at this
  have eo:o[i]?=some o[i]:=List.getElem?_eq_getElem hil
  have hro:o[i]∈o:=List.getElem_mem hil
  generalize o[i]=r at eo hro
  have ex:x=V.int (nm r):=by rw [List.getElem?_map,eo] at hx;exact (Option.some.inj hx).symm
  subst ex
  have et:heads k (o.take (i+1))=hdStep k (heads k (o.take i)) r:=by rw [List.take_add_one,eo];exact heads_snoc k _ _
  have hhl:=(heads_has k (o.take i)).2.2
  rw [List.length_take] at hhl
  generalize heads k (o.take i)=hs at *
  have gm:DGet H2 m (V.int (nm r)) (some (V.int (k r))):=by rw [←gk r hro];exact DGet.k (k:=kN nm r) (t2 _ _ em)
  refine ⟨_,rfl,_,rfl,m,_,rfl,gm,_,rfl,lp,_,rfl,DGet.k (k:=Sum.inl (k r)) e2,_,rfl,?_⟩
  have hv:=prs_val (κ:=Key) Sum.inl inl_inj (hs.map k) (k r)
  by_cases hm:k r∈hs.map k
  ·rw [hv,if_pos hm]
   refine iteF (nx3 _ _ ⟨_,rfl,t2,?_,?_⟩)
   ·rw [et,hdStep,if_pos hm];exact e1
   ·rw [et,hdStep,if_pos hm];exact e2
  ·rw [hv,if_neg hm]
   have nlop:lh≠lp:=Ne.symm nph
   refine iteT ⟨_,rfl,lh,_,rfl,.inl (SqL.of e1),_,rfl,_,rfl,_,rfl,m,_,rfl,gm,lp,_,rfl,DPut.k (k:=Sum.inl (k r)) e2 (by rw [prsF_len,List.length_map];exact small5 (by omega)),?_⟩
   have e1':upd H2 lp (.dK (putK (prs Sum.inl (hs.map k)) (Sum.inl (k r):Key) (V.int ((hs.map (nV nm)).length:Nat)))) lh=some (.lst (hs.map (nV nm))):=by rw [upd_ne nlop];exact e1
   refine ⟨_,rfl,.inl ⟨rfl,_,SqL.of e1'⟩,_,rfl,lh,_,_,rfl,rfl,e1',by rw [List.length_map];exact small5 (by omega),?_⟩
   refine nx3 _ _ ⟨_,rfl,same_over (same_over t2 hlp) hlh0,?_,?_⟩
   ·rw [upd_same,et,hdStep,if_neg hm,List.map_append];rfl
   ·rw [upd_ne nph,upd_same,et,hdStep,if_neg hm,List.map_append]
    have:=prs_put (κ:=Key) Sum.inl inl_inj hm
    rw [List.length_map] at this ⊢
    rw [this];rfl
 ·obtain ⟨u,rfl,t2,e1,e2⟩:=h
  rw [List.length_map,List.take_length] at e1 e2
  obtain ⟨hh1,hh2,hh3⟩:=heads_has k o
  unfold inLine at q
  generalize heads k o=hs at *
  refine ⟨_,rfl,lh,rfl,⟨_,SqL.of e1⟩,fun l3 hl3=>comp_list (xs:=hs.map (nV nm)) (fun i ys H3=>i≤hs.length∧ys.length=i∧Same H2 H3∧DrL K H3 (((hs.take i).map fun r=>rowD ((row rows r).1,(row rows r).2.map fun g=>(((hs.map k).idxOf (k g):Nat):Int)))) ys) ⟨Nat.zero_le _,rfl,same_up (Same.refl H2) hl3,DrL.nil⟩ (fun i ys H3 _ h=>SqL.of (h.2.2.1 _ _ e1)) (by rw [List.length_map];exact line_le (by omega)) (fun i ys H3 h=>h.2.1) (fun i x ys H3 hx h hy=>?_) (fun ys H3 h hy=>?_)⟩
  ·obtain ⟨_,hyl,s3,d3⟩:=h
   have hil:i < hs.length:=by have:=(List.getElem?_eq_some_iff.mp hx).1;rwa [List.length_map] at this
   have eo:hs[i]?=some hs[i]:=List.getElem?_eq_getElem hil
   have hrh:hs[i]∈hs:=List.getElem_mem hil
   generalize hs[i]=r at eo hrh
   have hro:=hh2 r hrh
   have ex:x=V.int (nm r):=by rw [List.getElem?_map,eo] at hx;exact (Option.some.inj hx).symm
   subst ex
   obtain ⟨r0,r1⟩:=L.rg r hro
   obtain ⟨nr0,v,ev,dv⟩:=da r r0 r1
   have t3:=t2.trans s3
   obtain ⟨t,b,cc,rfl,et,eb,ec⟩:=rowD_inv (dv.mono t3)
   dsimp only [rowN] at eb ec
   have hgl:=GM.len _ (row_mem r0 r1)
   have hgo:=cl r hro
   have esn:=take_snoc (fun r=>rowD ((row rows r).1,(row rows r).2.map fun g=>(((hs.map k).idxOf (k g):Nat):Int))) eo
   generalize hrr:(row rows r).2=gs at *
   refine ⟨_,rfl,_,rfl,a,_,nm r,.ref t,rfl,rfl,Sa.mono t3,atI_of nr0 ev,t,_,_,.ref b,rfl,rfl,SqT.of et,atI_nat (j:=0) rfl,b,_,rfl,.inr ⟨SqT.of eb,?_⟩⟩
   refine ⟨_,rfl,_,rfl,a,_,nm r,.ref t,rfl,rfl,Sa.mono t3,atI_of nr0 ev,t,_,_,.ref cc,rfl,rfl,SqT.of et,atI_nat (j:=1) rfl,cc,rfl,⟨_,SqT.of ec⟩,fun l4 hl4=>comp_tup (xs:=(gs.map nm).map V.int) (fun j zs H4=>j≤gs.length∧zs=((gs.take j).map fun g=>(((hs.map k).idxOf (k g):Nat):Int)).map V.int∧Same H3 H4) ⟨Nat.zero_le _,rfl,same_up (Same.refl H3) hl4⟩ (fun j zs H4 _ h=>SqT.of (h.2.2 _ _ ec)) (by rw [List.length_map,List.length_map];exact line_le (by omega)) (fun j zs H4 h=>?_) (fun j x zs H4 hx h hy4=>?_) (fun zs H4 h hy4=>?_)⟩
   ·obtain ⟨hj,rfl,_⟩:=h
    rw [List.length_map,List.length_map,List.length_take]
    omega
   ·obtain ⟨hj,rfl,s4⟩:=h
    have hjl:j < gs.length:=by have:=(List.getElem?_eq_some_iff.mp hx).1;rwa [List.length_map,List.length_map] at this
    have eg:gs[j]?=some gs[j]:=List.getElem?_eq_getElem hjl
    have hgm:=hgo _ (List.getElem_mem hjl)
    generalize gs[j]=gj at eg hgm
    have ex:x=V.int (nm gj):=by rw [List.getElem?_map,List.getElem?_map,eg] at hx;exact (Option.some.inj hx).symm
    subst ex
    have t4:=t3.trans s4
    have gm:DGet H4 m (V.int (nm gj)) (some (V.int (k gj))):=by rw [←gk gj hgm];exact DGet.k (k:=kN nm gj) (t4 _ _ em)
    have hv:=prs_val (κ:=Key) Sum.inl inl_inj (hs.map k) (k gj)
    rw [if_pos (hh1 gj hgm)] at hv
    refine ⟨_,rfl,_,rfl,_,rfl,m,_,rfl,gm,lp,_,rfl,(by rw [←hv];exact DGet.k (k:=Sum.inl (k gj)) (s4 _ _ (s3 _ _ e2))),hy4,hjl,?_,same_over s4 hl4⟩
    rw [take_snoc _ eg,List.map_append]
    rfl
   ·obtain ⟨_,rfl,s4⟩:=h
    rw [List.length_map,List.length_map,List.take_length] at hy4
    refine ⟨l4,_,rfl,.inl ⟨SqL.of hy4,fun t4 ht4=>⟨by show 2≤sizeLine;decide,fun t5 ht5=>?_⟩⟩⟩
    have s5:=same_up (o:=HO.tup ((gs.map fun g=>(((hs.map k).idxOf (k g):Nat):Int)).map V.int)) s4 ht4
    have s6:=same_up (o:=HO.tup [.ref b,.ref t4]) s5 ht5
    have hy6:=s6 _ _ hy
    refine ⟨hy6,hil,by rw [List.length_append,hyl];rfl,same_over (s3.trans s6) hl3,?_⟩
    have kk:TupK H3 (upd (upd (upd H4 t4 (.tup ((gs.map fun g=>(((hs.map k).idxOf (k g):Nat):Int)).map V.int))) t5 (.tup [.ref b,.ref t4])) l3 (.lst (ys++[.ref t5]))):=TupK.up (TupK.of s6) hy6 (fun _ z=>by cases z)
    have nt5:t5≠l3:=ne_of upd_same hy6 (by intro z;cases z)
    have nt4:t4≠t5:=ne_of_none upd_same ht5
    have nt4f:t4≠l3:=ne_of (show upd (upd H4 t4 (.tup ((gs.map fun g=>(((hs.map k).idxOf (k g):Nat):Int)).map V.int))) t5 (.tup [.ref b,.ref t4]) t4=_ by rw [upd_ne nt4];exact upd_same) hy6 (by intro z;cases z)
    rw [esn]
    refine DrL.append (d3.keyed kk (by have:=rows_key ((hs.take i).map fun r=>((row rows r).1,(row rows r).2.map fun g=>(((hs.map k).idxOf (k g):Nat):Int)));unfold rowsD at this;rw [List.map_map] at this;exact this)) (DrL.one (rowD_mk (b:=b) (c:=t4) ?_ (kk _ _ eb) ?_))
    ·rw [upd_ne nt5];exact upd_same
    ·rw [upd_ne nt4f,upd_ne nt4];exact upd_same
  ·obtain ⟨_,_,s3,d3⟩:=h
   rw [List.length_map,List.take_length] at d3
   refine ⟨l3,_,rfl,.inl ⟨SqL.of hy,fun t ht=>?_⟩⟩
   refine q _ _ ((t2.trans s3).trans (same_up (Same.refl H3) ht)) (Dr.tup upd_same ?_)
   unfold rowsD
   rw [List.map_map]
   exact d3.mono (same_up (Same.refl H3) ht)
end
end Gu

set_option Elab.async false
set_option linter.all false
set_option maxRecDepth 100000
set_option maxHeartbeats 4000000
namespace Gu
open PySem L2
section
variable {P:Program} {w:World} {K:PySem.W.Frag} {mg:Str→Option Value} {base:Heap} {f g:Addr} {fd gd:FuncData} {CX:CXT} [NoE CX]
abbrev nShN:List Str:=["_law_rows_here","_law_start","_law_line","_law_marks","_law_at","_law_to","_law_many","_law_grown","_law_known","_law_fresh","_law_row","_law_key"]
theorem scShN:FnScope nShN ["_law_rows_here","_law_start"] (defScope sShrunk):=⟨rfl,rfl,rfl,by decide +kernel,rfl,by decide +kernel,by decide +kernel⟩
theorem csShN:CompS nShN (defScope sShrunk) ["_law_to","_law_marks"] [none,some 3] (csc [(".0",.local),("_law_to",.local),("_law_marks",.free)]):=⟨rfl,by decide +kernel,by decide +kernel,by decide +kernel,rfl,by decide +kernel,by decide +kernel⟩
theorem put_addN2 (u:List D) (d:D) (hn:u.Nodup):putK (prs id u) d ((valV (prs id u) d).getD (V.int ((prs id u).length:Nat)))=prs id (addN u d):=by
 have hv:valV (prs id u) d=_:=prs_val id (fun _ _ e=>e) u d
 by_cases hm:d∈u
 ·rw [hv,if_pos hm,addN_mem hm]
  have:=prs_put_same 0 u d hm hn
  rw [Nat.zero_add] at this
  exact this
 ·rw [hv,if_neg hm,addN_new hm,←prs_put id (fun _ _ e=>e) hm]
  rw [prsF_len]
  rfl
theorem ok_shrunkN (F:Fun K "_law_shrunk" "_law_shrunk" sShrunk f fd) (ml:mg "len"=none) (mt:mg "tuple"=none)
  (G:FnOk P w K mg base CX 1 g gd ["_law_rows_here","_law_line","_law_marks"] (spInLineN K)) (bG:Binds K gd ["_law_rows_here","_law_line","_law_marks"] []) (kG:PySem.W.keepIn K (.ref g)=true) (mG:mg "_law_in_line"=some (.ref g)):FnOk P w K mg base CX 2 f fd ["_law_rows_here","_law_start"] (spShrunkN K):=by
 refine F.okc scShN (fun vs H Q E h=>?_) (fun cdv A outer s H vs Q E hr h=>?_)
 ·obtain ⟨a,n,rows,nm,us,rfl,_⟩:=h
  rfl
 obtain ⟨a,n,rows,nm,us,rfl,Sa,da,ni,GM,hn,q⟩:=h
 have hu:=hu_of hr
 have hu9:(A.deeper (PyProof.Rows.envOfC "_law_shrunk" (defScope sShrunk) s.heap.objs.size f cdv)).units+9 < cLine:=by have:=hr.units;omega
 refine ⟨_,pss_cons (ps_set (i:=2) scShN.nd rfl (Or.inl rfl) (pe_lst (pa_cons (pv 1) pa_nil)))
  (pss_cons (ps_set (i:=3) scShN.nd rfl (Or.inr rfl) (pe_disp (pps_cons (pv 1) (pe_ix ix_tup (pe_ix (ixQ K rfl) (pv 0) (pv 1) (fun _ _=>rfl)) pe_int (fun _ _=>rfl)) pps_nil) rfl rfl (by simp) (by decide)))
  (pss_cons (ps_set (i:=4) scShN.nd rfl (Or.inl rfl) pe_int)
  (pss_cons (ps_while PassesOwn.never (pt_cmpR op_lt (pv 4) (pe_callB call_len_seq rfl ml PySem.boot_len (pa_cons (pv 2) pa_nil)) (nomark _))
   (pss_cons (ps_for PassesOwn.never rfl (pi_tup (pe_ix ix_tup (pe_ix (ixQ K rfl) (pv 0) (pe_ix ix_list (pv 2) (pv 4) (fun _ _=>rfl)) (fun _ _=>rfl)) pe_int (fun _ _=>rfl))) (pg_name (i:=5) scShN.nd rfl (Or.inl rfl))
    (pss_one (ps_if (pt_cmp (pc_dnotin hu (pv 5) (pv 3)))
     (pss_cons (ps_dput hu (pv 3) (pv 5) (pe_ix ix_tup (pe_ix (ixQ K rfl) (pv 0) (pv 5) (fun _ _=>rfl)) pe_int (fun _ _=>rfl)) rfl)
     (pss_one (ps_expr (pe_bm PySem.F.plainAttrs_list PySem.F.slot_list_append PySem.F.type_list_append mt_append (pv 2) (pa_cons (pv 5) pa_nil))))) pss_nil)))
   (pss_one (ps_aug (i:=4) scShN.nd rfl (Or.inl rfl) pe_int ip_add))))
  (pss_cons (ps_set (i:=6) scShN.nd rfl (Or.inl rfl) pe_int)
  (pss_cons (ps_set (i:=7) scShN.nd rfl (Or.inl rfl) pe_bl)
  (pss_cons (ps_while PassesOwn.never (pt_val (pv 7))
   (pss_cons (ps_set (i:=8) scShN.nd rfl (Or.inl rfl) (pe_newD (K:=K)))
   (pss_cons (ps_set (i:=9) scShN.nd rfl (Or.inl rfl) pe_dnewK)
   (pss_cons (ps_for PassesOwn.never rfl (pi_list (pv 2)) (pg_name (i:=10) scShN.nd rfl (Or.inl rfl))
    (pss_cons (ps_set (i:=11) scShN.nd rfl (Or.inl rfl) (pe_tup (pa_cons (pe_dget hu (pv 3) (pv 10) (fun _ _=>rfl)) (pa_cons (pe_callTy call_tuple_of rfl mt PyProof.Rows.boot_tuple (pa_cons
     (pe_comp rfl csShN (pi_tup (pe_ix ix_tup (pe_ix (ixQ K rfl) (pv 0) (pv 10) (fun _ _=>rfl)) pe_int (fun _ _=>rfl))) (fun _ _ _ _ _=>pg_name (i:=0) csShN.nd rfl (Or.inl rfl)) (fun _ _ _ _ _=>pe_dget hu (pv 1) (pv 0) (fun _ _=>rfl))) pa_nil)) pa_nil))))
    (pss_cons (ps_putD (K:=K) hu9 (pv 8) (pv 11) (pe_get2D (K:=K) hu9 (pv 8) (pv 11) (pe_callB (cLenD K) rfl ml PySem.boot_len (pa_cons (pv 8) pa_nil)) ⟨rfl,rfl,rfl,rfl⟩))
    (pss_one (ps_dput hu (pv 9) (pv 10) (pe_getD (K:=K) hu9 (pv 8) (pv 11) (fun _ _=>rfl)) rfl)))))
   (pss_cons (ps_set (i:=7) scShN.nd rfl (Or.inl rfl) (pe_cmpR op_gt (pe_callB (cLenD K) rfl ml PySem.boot_len (pa_cons (pv 8) pa_nil)) (pv 6) (nomark _)))
   (pss_cons (ps_set (i:=6) scShN.nd rfl (Or.inl rfl) (pe_callB (cLenD K) rfl ml PySem.boot_len (pa_cons (pv 8) pa_nil)))
   (pss_one (ps_set (i:=3) scShN.nd rfl (Or.inr rfl) (pv 9)))))))))
  (pss_one (ps_ret (pe_call G hr rfl mG kG bG .nil passN (pa_cons (pv 0) (pa_cons (pv 2) (pa_cons (pv 3) pa_nil)))))))))))),?_⟩
 have h400:=GM.few
 have h1:=GM.some
 have hz1:(0:Int) < (rows.length:Int):=by omega
 refine ⟨_,rfl,by show 1≤sizeLine;decide,fun lo hlo=>?_⟩
 refine fun lm hlm=>⟨_,rfl,?_⟩
 have s1:=same_up (o:=HO.lst [V.int (nm 0)]) (Same.refl H) hlo
 have s2:=same_up (o:=HO.dK []) s1 hlm
 have nlo:lo≠lm:=ne_of_none upd_same hlm
 have hlm0:H lm=none:=s1.free hlm
 obtain ⟨nz0,v0,ev0,dv0⟩:=da 0 (Int.le_refl 0) hz1
 obtain ⟨t0,b0,c0,rfl,et0,eb0,ec0⟩:=rowD_inv (dv0.mono s2)
 refine ⟨_,rfl,_,rfl,a,_,nm 0,.ref t0,rfl,rfl,Sa.mono s2,atI_of nz0 ev0,t0,_,_,.ref b0,rfl,rfl,SqT.of et0,atI_nat (j:=0) rfl,upd_same,[(Sum.inl (nm 0),V.ref b0)],rfl,by simp,?_⟩
 have s3:Same H (upd (upd (upd H lo (.lst [.int (nm 0)])) lm (.dK [])) lm (.dK (mergeK [] [(Sum.inl (nm 0),V.ref b0)]))):=same_over s2 hlm0
 have hF0:=FK.its rows
 have L0:=line0 GM
 have OL:=order_line GM
 have hol:=OL.1.len
 show tWhile _ _ _ _ _
 refine cutW (fun σ' H'=>∃ (i0:Int) (o:List Int) (u5:Option V) (kvs:List (Key × V)),σ'=[some (.ref a),some (.int (nm 0)),some (.ref lo),some (.ref lm),some (.int i0),u5,none,none,none,none,none,none]∧Same H H'∧H' lo=some (.lst (o.map (nV nm)))∧H' lm=some (.dK kvs)∧MkN nm K H' o (fun r=>D.its (row rows r).1) kvs∧Line rows o∧order rows=o) (fun Ed nx=>?_) (fun σ' H' p=>?_)
 rotate_left
 ·obtain ⟨i0,o,u5,kvs,rfl,t2,glo,glm,mk2,L,eoo⟩:=p
  have cl:∀ r∈o,∀ g∈(row rows r).2,g∈o:=by have:=OL.2;rwa [eoo] at this
  have hln:=L.len
  refine ⟨fun m σ H3=>∃ (f:Int→D) (many:Nat) (gr:Bool) (lm:Addr) (kvs:List (Key × V)) (u8 u9 u10 u11:Option V),σ=[some (.ref a),some (.int (nm 0)),some (.ref lo),some (.ref lm),some (.int i0),u5,some (.int many),some (.bl gr),u8,u9,u10,u11]∧Same H H3∧H3 lo=some (.lst (o.map (nV nm)))∧H3 lm=some (.dK kvs)∧MkN nm K H3 o f kvs∧FK f ∧
    ((gr=true∧o.length+2≤m+many∧many≤o.length∧sloop rows o m many f=smarks rows)∨(gr=false∧f=smarks rows)),
   ⟨rows.length+2,_,0,true,lm,kvs,_,_,_,_,rfl,t2,glo,glm,mk2,hF0,.inl ⟨rfl,by omega,by omega,by unfold smarks;rw [eoo]⟩⟩,?_⟩
  clear glm mk2
  rintro m σ H3 ⟨f,many,gr,lm,kvs,u8,u9,u10,u11,rfl,t3,elo,elm,mk3,hf,alt⟩
  refine ⟨_,rfl,_,rfl,ite2 (fun c=>?_) (fun c=>?_)⟩
  ·obtain ⟨_,hm1,hm2,hsl⟩:=alt.resolve_right fun z=>by rw [z.1] at c;cases c
   clear alt
   refine cutN fun N nx2=>?_
   intro lk hlk ob0 g0 lf hlf
   have s4:=same_up (o:=ob0) (Same.refl H3) hlk
   have hlf0:H3 lf=none:=s4.free hlf
   have nkf:lk≠lf:=ne_of_none upd_same hlf
   have s5:=same_up (o:=HO.dK []) s4 hlf
   refine ⟨_,rfl,lo,rfl,⟨_,SqL.of (s5 _ _ elo)⟩,listO (xs:=o.map (nV nm)) (fun i σ H4=>∃ (u10 u11:Option V) (kv4:List (Key × V)),σ=[some (.ref a),some (.int (nm 0)),some (.ref lo),some (.ref lm),some (.int i0),u5,some (.int many),some (.bl gr),some (.ref lk),some (.ref lf),u10,u11]∧Same H3 H4∧DD P w K H4 lk (prs id (uniq ((skeys rows o f).take i)))∧H4 lf=some (.dK kv4)∧MkN nm K H4 (o.take i) (sround rows o f) kv4)
    ⟨_,_,[],rfl,s5,?_,upd_same,MkN.nil⟩ (fun i σ H4 _ h=>by obtain ⟨_,_,_,_,t4,_⟩:=h;exact SqL.of (t4 _ _ elo)) (fun i x σ H4 hx h Ed nx3=>?_) (fun σ H4 h=>?_)⟩
   ·exact g0.mono (same_up (Same.refl _) hlf)
   ·obtain ⟨u10,u11,kv4,rfl,t4,g4,elf,mk4⟩:=h
    have hil:i < o.length:=by have:=(List.getElem?_eq_some_iff.mp hx).1;rwa [List.length_map] at this
    have eo:o[i]?=some o[i]:=List.getElem?_eq_getElem hil
    have hro:o[i]∈o:=List.getElem_mem hil
    have hnew:o[i]∉o.take i:=nd_take L.nd eo
    generalize o[i]=r at eo hro hnew
    have ex:x=V.int (nm r):=by rw [List.getElem?_map,eo] at hx;exact (Option.some.inj hx).symm
    subst ex
    obtain ⟨r0,r1⟩:=L.rg r hro
    have t34:=t3.trans t4
    obtain ⟨nr0,vr,evr,dvr⟩:=da r r0 r1
    obtain ⟨t,b,cc,rfl,et,eb,ec⟩:=rowD_inv (dvr.mono t34)
    dsimp only [rowN] at eb ec
    have hgl:=GM.len _ (row_mem r0 r1)
    have hgo:=cl r hro
    obtain ⟨v,hv,dv⟩:=mk3.get ni hro
    have gm:DGet H4 lm (V.int (nm r)) (some v):=by rw [←hv];exact DGet.k (k:=kN nm r) (t4 _ _ elm)
    have ekey:keyOf rows f r=D.tup [f r,D.tup ((row rows r).2.map f)]:=rfl
    have ks:=hf.key (rows:=rows) r
    have esk:(skeys rows o f)[i]?=some (keyOf rows f r):=by unfold skeys;rw [List.getElem?_map,eo];rfl
    have hidx:(((uniq ((skeys rows o f).take (i+1))).idxOf (keyOf rows f r):Nat):Int)=sroundI rows o f r:=by
     unfold sroundI
     obtain ⟨m2,e2⟩:=addAll_sub ((skeys rows o f).drop (i+1)) (uniq ((skeys rows o f).take (i+1)))
     have e3:uniq (skeys rows o f)=uniq ((skeys rows o f).take (i+1))++m2:=by
      rw [←e2]
      unfold uniq addAll
      rw [←List.foldl_append,List.take_append_drop]
     rw [e3,idxOf_app]
     refine addAll_mem.mpr (.inr ?_)
     rw [List.take_add_one,esk]
     simp
    have hun:uniq ((skeys rows o f).take (i+1))=addN (uniq ((skeys rows o f).take i)) (keyOf rows f r):=by
     unfold uniq
     rw [List.take_add_one,esk]
     exact addAll_snoc _ _ _
    have hund:(uniq ((skeys rows o f).take i)).Nodup:=addAll_nodup _ _ List.nodup_nil
    have hunl:(uniq ((skeys rows o f).take i)).length≤4000:=by
     have:=uniq_le ((skeys rows o f).take i)
     rw [List.length_take] at this
     omega
    rw [hun] at hidx
    generalize uniq ((skeys rows o f).take i)=un at *
    generalize hgs:(row rows r).2=gs at *
    dsimp only [gName]
    refine cutQ (fun σ' H'=>∃ t7:Addr,σ'=[some (.ref a),some (.int (nm 0)),some (.ref lo),some (.ref lm),some (.int i0),u5,some (.int many),some (.bl gr),some (.ref lk),some (.ref lf),some (.int (nm r)),some (.ref t7)]∧Same H4 H'∧Dr K H' (keyOf rows f r) (.ref t7)) (fun Eq nxq=>?_) (fun σ' H7 p=>?_)
    rotate_left
    ·obtain ⟨t7,rfl,s47,dk⟩:=p
     have g7:=g4.mono s47
     have e7f:=s47 _ _ elf
     have t7':=t4.trans s47
     refine ⟨_,rfl,lk,_,rfl,g7,_,rfl,_,rfl,lk,_,rfl,g7,_,_,g7,keyV ks dk,_,rfl,_,rfl,lk,_,_,rfl,g7,keyV ks dk,by rw [prsF_len];exact small5 (by omega),fun ob g8=>?_⟩
     rw [put_addN2 un _ hund] at g8
     have k8:TupK H7 (upd H7 lk ob):=by
      obtain ⟨xs,e0,_⟩:=g7
      exact TupK.up (TupK.refl _) e0 (fun _ z=>by unfold dExt at z;cases z)
     have dk8:=dk.keyed k8 ks.1
     have hval:valV (prs id (addN un (keyOf rows f r))) (keyOf rows f r)=some (V.int (sroundI rows o f r)):=by
      have:=prs_val (κ:=D) id (fun _ _ e=>e) (addN un (keyOf rows f r)) (keyOf rows f r)
      rw [if_pos (addN_has _ _),hidx] at this
      exact this
     have e8f:upd H7 lk ob lf=some (.dK kv4):=by rw [upd_ne nkf.symm];exact e7f
     refine ⟨_,rfl,_,rfl,lk,_,_,_,rfl,g8,keyV ks dk8,hval,_,rfl,_,rfl,lf,_,rfl,DPut.k (k:=kN nm r) e8f (by rw [mk4.len,List.length_take];exact small5 (by omega)),?_⟩
     have k9:TupK (upd H7 lk ob) (upd (upd H7 lk ob) lf (.dK (putK kv4 (kN nm r) (V.int (sroundI rows o f r))))):=TupK.up (TupK.refl _) e8f (fun _ z=>by cases z)
     refine nx3 _ _ ⟨_,_,_,rfl,same_over (same_over t7' hlk) hlf0,?_,upd_same,?_⟩
     ·rw [hun]
      exact DD.keyed g8 k9 (by rw [upd_ne nkf])
     ·rw [List.take_add_one,eo]
      exact (mk4.mono s47).put ni hnew (((mk4.mono s47).keyed k8 (FK.int _)).keyed k9 (FK.int _)) (Dr.int _)
    refine ⟨_,rfl,_,rfl,lm,v,rfl,gm,_,rfl,_,rfl,a,_,nm r,.ref t,rfl,rfl,Sa.mono t34,atI_of nr0 evr,t,_,_,.ref cc,rfl,rfl,SqT.of et,atI_nat (j:=1) rfl,cc,rfl,⟨_,SqT.of ec⟩,fun l5 hl5=>comp_tup (xs:=(gs.map nm).map V.int) (fun j zs H5=>j≤gs.length∧zs.length=j∧Same H4 H5∧DrL K H5 ((gs.take j).map f) zs) ⟨Nat.zero_le _,rfl,same_up (Same.refl H4) hl5,DrL.nil⟩ (fun j zs H5 _ h=>SqT.of (h.2.2.1 _ _ ec)) (by rw [List.length_map,List.length_map];exact line_le (by omega)) (fun j zs H5 h=>h.2.1) (fun j x zs H5 hx h hy5=>?_) (fun zs H5 h hy5=>?_)⟩
    ·obtain ⟨hj,hzl,s5',d5⟩:=h
     have hjl:j < gs.length:=by have:=(List.getElem?_eq_some_iff.mp hx).1;rwa [List.length_map,List.length_map] at this
     have eg:gs[j]?=some gs[j]:=List.getElem?_eq_getElem hjl
     have hgm:=hgo _ (List.getElem_mem hjl)
     generalize gs[j]=gj at eg hgm
     have ex:x=V.int (nm gj):=by rw [List.getElem?_map,List.getElem?_map,eg] at hx;exact (Option.some.inj hx).symm
     subst ex
     obtain ⟨vg,hvg,dvg⟩:=mk3.get ni hgm
     have gmg:DGet H5 lm (V.int (nm gj)) (some vg):=by rw [←hvg];exact DGet.k (k:=kN nm gj) (s5' _ _ (t4 _ _ elm))
     have kk:TupK H5 (upd H5 l5 (.lst (zs++[vg]))):=TupK.up (TupK.refl _) hy5 (fun _ z=>by cases z)
     refine ⟨_,rfl,_,rfl,lm,vg,rfl,gmg,hy5,hjl,by rw [List.length_append,hzl];rfl,same_over s5' hl5,?_⟩
     rw [take_snoc _ eg]
     exact DrL.append (d5.keyed kk (hf.keyL _)) (DrL.one ((dvg.mono (t4.trans s5')).keyed kk (hf gj).1))
    ·obtain ⟨_,hzl,s5',d5⟩:=h
     rw [List.length_map,List.length_map,List.take_length] at d5
     refine ⟨l5,_,rfl,.inl ⟨SqL.of hy5,fun t6 ht6=>⟨by show 2≤sizeLine;decide,fun t7 ht7=>?_⟩⟩⟩
     have s6:=same_up (o:=HO.tup zs) (Same.refl H5) ht6
     have s7:=same_up (o:=HO.tup [v,.ref t6]) s6 ht7
     have s47:=s5'.trans s7
     have nt6:t6≠t7:=ne_of_none upd_same ht7
     have dk:Dr K (upd (upd H5 t6 (.tup zs)) t7 (.tup [v,.ref t6])) (keyOf rows f r) (.ref t7):=by
      rw [ekey]
      exact Dr.tup upd_same (DrL.cons (dv.mono (t4.trans s47)) (DrL.one (Dr.tup (by rw [upd_ne nt6];exact upd_same) (d5.mono s7))))
     exact nxq _ _ ⟨t7,rfl,s47,dk⟩
   ·obtain ⟨u10,u11,kv4,rfl,t4,g4,elf,mk4⟩:=h
    rw [List.length_map] at g4 mk4
    rw [List.take_length] at mk4
    rw [List.take_of_length_le (by unfold skeys;rw [List.length_map];omega)] at g4
    have hcl:=scount_le rows o f
    refine ⟨_,rfl,lk,_,rfl,g4,_,rfl,_,_,rfl,rfl,_,rfl,lk,_,rfl,g4,_,rfl,?_⟩
    have hpl:(prs id (uniq (skeys rows o f))).length=scount rows o f:=prsF_len _ _ _
    cases m with
    | zero=>omega
    | succ m =>
     refine nx2 m _ _ (Nat.lt_succ_self m) ⟨sround rows o f,scount rows o f,decide ((many:Int) < (scount rows o f:Nat)),lf,kv4,_,_,_,_,(by rw [←hpl];rfl),t3.trans t4,t4 _ _ elo,elf,mk4,FK.int _,?_⟩
     unfold sloop at hsl
     by_cases hc:many < scount rows o f
     ·rw [if_pos hc] at hsl
      exact .inl ⟨decide_eq_true (by omega),by omega,hcl,hsl⟩
     ·rw [if_neg hc] at hsl
      exact .inr ⟨decide_eq_false (by omega),hsl⟩
  ·rcases alt with ⟨hg,_⟩ | ⟨_,hfs⟩
   ·exact absurd hg c
   refine ⟨_,rfl,_,rfl,_,rfl,a,lo,lm,n,rows,nm,us,o,kOf rows,kvs,rfl,Sa.mono t3,da.mono t3,ni,GM,hn,elo,elm,?_,L,cl,fun v H4 s4 d4=>?_⟩
   ·rw [hfs,smarks_int rows] at mk3;exact mk3
   ·refine q v H4 (t3.trans s4) ?_
    unfold shr
    rw [eoo]
    exact d4
 refine ⟨fun m σ H2=>∃ (i:Nat) (o:List Int) (u5:Option V) (kvs:List (Key × V)),m=rows.length+1 - i∧σ=[some (.ref a),some (.int (nm 0)),some (.ref lo),some (.ref lm),some (.int i),u5,none,none,none,none,none,none]∧Same H H2∧H2 lo=some (.lst (o.map (nV nm)))∧H2 lm=some (.dK kvs) ∧
   MkN nm K H2 o (fun r=>D.its (row rows r).1) kvs∧Line rows o∧i≤o.length∧bfs rows (rows.length+1 - i) i o=order rows,
  ⟨_,0,[0],none,_,rfl,rfl,s3,?_,upd_same,?_,L0,by simp,rfl⟩,?_⟩
 ·rw [upd_ne nlo,upd_ne nlo];exact upd_same
 ·refine ⟨[.ref b0],rfl,?_⟩
  show DrL K _ [D.its (row rows 0).1] [.ref b0]
  exact DrL.one (Dr.tup (by rw [upd_ne (ne_of eb0 upd_same (by intro z;cases z))];exact eb0) (DrL.ints _))
 rintro m σ H2 ⟨i,o,u5,kvs,rfl,rfl,t2,glo,glm,mk2,L,hi,hb⟩
 have hol2:(o.map (nV nm)).length=o.length:=List.length_map _
 refine ⟨_,rfl,_,rfl,lo,_,rfl,.inl (SqL.of glo),_,_,rfl,rfl,_,rfl,ite2 (fun c=>?_) (fun c=>?_)⟩
 ·have c':=of_decide_eq_true c
  rw [hol2] at c'
  have hio:i < o.length:=by omega
  have eo:o[i]?=some o[i]:=List.getElem?_eq_getElem hio
  have hro:o[i]∈o:=List.getElem_mem hio
  generalize o[i]=r at eo hro
  obtain ⟨r0,r1⟩:=L.rg r hro
  obtain ⟨nr0,v,ev,dv⟩:=da r r0 r1
  obtain ⟨t,b,cc,rfl,et,eb,ec⟩:=rowD_inv (dv.mono t2)
  dsimp only [rowN] at eb ec
  have hrow:=row_mem r0 r1
  have hgl:=GM.len _ hrow
  have hgo:=GM.go _ hrow
  have hlen:=L.len
  refine cutN fun N nx2=>?_
  refine ⟨_,rfl,_,rfl,_,rfl,lo,_,_,V.int (nm r),rfl,rfl,SqL.of glo,atI_nat (by rw [List.getElem?_map,eo];rfl),a,_,nm r,.ref t,rfl,rfl,Sa.mono t2,atI_of nr0 ev,t,_,_,.ref cc,rfl,rfl,SqT.of et,atI_nat (j:=1) rfl,cc,rfl,⟨_,SqT.of ec⟩,?_⟩
  generalize hgs:(row rows r).2=gs at *
  refine tupO (xs:=(gs.map nm).map V.int) (fun j σ H3=>∃ (u:Option V) (kv3:List (Key × V)),σ=[some (.ref a),some (.int (nm 0)),some (.ref lo),some (.ref lm),some (.int i),u,none,none,none,none,none,none]∧Same H H3∧TupK H2 H3∧H3 lo=some (.lst ((addAll o (gs.take j)).map (nV nm)))∧H3 lm=some (.dK kv3)∧MkN nm K H3 (addAll o (gs.take j)) (fun r=>D.its (row rows r).1) kv3)
   ⟨_,kvs,rfl,t2,TupK.refl _,glo,glm,mk2⟩ (fun j σ H3 _ h=>by obtain ⟨_,_,_,_,k3,_⟩:=h;exact SqT.of (k3 _ _ ec)) (fun j x σ H3 hx h Ed nx3=>?_) (fun σ H3 h=>?_)
  ·obtain ⟨u,kv3,rfl,t3,k3,e1,e2,mk3⟩:=h
   have hjl:j < gs.length:=by have:=(List.getElem?_eq_some_iff.mp hx).1;rwa [List.length_map,List.length_map] at this
   have eg:gs[j]?=some gs[j]:=List.getElem?_eq_getElem hjl
   obtain ⟨g0,g1⟩:=hgo _ (List.getElem_mem hjl)
   generalize gs[j]=gj at eg g0 g1
   have ex:x=V.int (nm gj):=by rw [List.getElem?_map,List.getElem?_map,eg] at hx;exact (Option.some.inj hx).symm
   subst ex
   have et':addAll o (gs.take (j+1))=addN (addAll o (gs.take j)) gj:=by rw [List.take_add_one,eg];exact addAll_snoc _ _ _
   have hal:(addAll o (gs.take j)).length≤4500:=by
    have:=addAll_len (gs.take j) o
    rw [List.length_take] at this
    omega
   generalize addAll o (gs.take j)=oj at *
   refine ⟨_,rfl,_,rfl,lm,_,rfl,DGet.k (k:=kN nm gj) e2,_,rfl,?_⟩
   by_cases hm:gj∈oj
   ·obtain ⟨v',hv',_⟩:=mk3.get ni hm
    rw [hv']
    refine iteF (nx3 _ _ ⟨_,kv3,rfl,t3,k3,?_,e2,?_⟩)
    ·rw [et',addN_mem hm];exact e1
    ·rw [et',addN_mem hm];exact mk3
   ·rw [mk3.no ni hm]
    have nlop:lo≠lm:=nlo
    obtain ⟨ng0,v',ev',dv'⟩:=da gj g0 g1
    obtain ⟨t',b',c'',rfl,et'',eb'',ec''⟩:=rowD_inv (dv'.mono t3)
    refine iteT ⟨_,rfl,_,rfl,a,_,nm gj,.ref t',rfl,rfl,Sa.mono t3,atI_of ng0 ev',t',_,_,.ref b',rfl,rfl,SqT.of et'',atI_nat (j:=0) rfl,_,rfl,_,rfl,lm,_,rfl,DPut.k (k:=kN nm gj) e2 (by rw [mk3.len];exact small5 (by omega)),?_⟩
    have e1':upd H3 lm (.dK (putK kv3 (kN nm gj) (V.ref b'))) lo=some (.lst (oj.map (nV nm))):=by rw [upd_ne nlop];exact e1
    refine ⟨_,rfl,.inl ⟨rfl,_,SqL.of e1'⟩,_,rfl,lo,_,_,rfl,rfl,e1',by rw [List.length_map];exact small5 (by omega),?_⟩
    have kk:TupK H3 (upd (upd H3 lm (.dK (putK kv3 (kN nm gj) (V.ref b')))) lo (.lst (oj.map (nV nm)++[V.int (nm gj)]))):=TupK.up (TupK.up (TupK.refl _) e2 (fun _ z=>by cases z)) e1' (fun _ z=>by cases z)
    refine nx3 _ _ ⟨_,_,rfl,same_over (same_over t3 hlm0) hlo,k3.trans kk,?_,(by rw [upd_ne nlo.symm];exact upd_same),?_⟩
    ·rw [upd_same,et',addN_new hm,List.map_append];rfl
    ·rw [et',addN_new hm]
     exact mk3.put ni hm (mk3.keyed kk hF0) (Dr.tup (kk _ _ eb'') (DrL.ints _))
  ·obtain ⟨u,kv3,rfl,t3,k3,e1,e2,mk3⟩:=h
   rw [List.length_map,List.length_map,List.take_length] at e1 mk3
   obtain ⟨mm,em⟩:=bfs_sub rows (rows.length+1 - (i+1)) (i+1) (addAll o gs)
   have hb':bfs rows (rows.length+1 - (i+1)) (i+1) (addAll o gs)=order rows:=by
    rw [←hb,show rows.length+1 - i=(rows.length+1 - (i+1))+1 by omega,bfs_step eo,hgs]
   have L':Line rows (addAll o gs):=by rw [←hgs];exact L.add GM hro
   obtain ⟨m1,em1⟩:=addAll_sub gs o
   have hi':i+1≤(addAll o gs).length:=by rw [em1,List.length_append];omega
   exact ⟨_,rfl,_,_,rfl,rfl,nx2 (rows.length+1 - (i+1)) _ _ (by omega) ⟨i+1,addAll o gs,_,kv3,rfl,rfl,t3,e1,e2,mk3,L',hi',hb'⟩⟩
 have c':=of_decide_eq_false (Bool.eq_false_iff.mpr c)
 rw [hol2] at c'
 have eoo:order rows=o:=by rw [←hb];exact bfs_stop (by omega)
 exact nx _ _ ⟨_,o,u5,kvs,rfl,t2,glo,glm,mk2,L,eoo⟩
theorem scGuise:FnScope ["_law_letters_here","_law_cell_here"] ["_law_letters_here","_law_cell_here"] (defScope sGuise):=⟨rfl,rfl,rfl,by decide +kernel,rfl,by decide +kernel,by decide +kernel⟩
theorem ok_guise {k:Addr} {kd:FuncData} (F:Fun K "_law_guise" "_law_guise" sGuise f fd)
  (G:FnOk P w K mg base CX 2 g gd ["_law_letters_here","_law_cell_here"] (spRows K)) (bG:Binds K gd ["_law_letters_here","_law_cell_here"] []) (kG:PySem.W.keepIn K (.ref g)=true) (mG:mg "_law_rows"=some (.ref g))
  (T:FnOk P w K mg base CX 2 k kd ["_law_rows_here","_law_start"] (spShrunk K)) (bT:Binds K kd ["_law_rows_here","_law_start"] []) (kT:PySem.W.keepIn K (.ref k)=true) (mT:mg "_law_shrunk"=some (.ref k)):FnOk P w K mg base CX 3 f fd ["_law_letters_here","_law_cell_here"] (spGuise K):=by
 refine F.okc scGuise (fun vs H Q E h=>?_) (fun cdv A outer s H vs Q E hr h=>?_)
 ·obtain ⟨n,c,rfl,_⟩:=h
  rfl
 obtain ⟨n,c,rfl,h2,h5,q⟩:=h
 refine ⟨_,pss_one (ps_ret (pe_call T hr rfl mT kT bT .nil passN (pa_cons (pe_call G hr rfl mG kG bG .nil passN (pa_cons (pv 0) (pa_cons (pv 1) pa_nil))) (pa_cons pe_int pa_nil)))),?_⟩
 refine ⟨_,rfl,_,rfl,n,c,rfl,h2,h5,fun r H1 rows s1 hr1 G1 h8=>⟨r,n,rows,rfl,hr1,G1,by omega,fun v H2 s2 d=>q v H2 rows (s1.trans s2) G1 h8 d⟩⟩
end
end Gu

set_option Elab.async false
set_option linter.all false
set_option maxRecDepth 100000
set_option maxHeartbeats 4000000
namespace Gu
open PySem L2
section
variable {P:Program} {w:World} {K:PySem.W.Frag} {mg:Str→Option Value} {base:Heap} {f g:Addr} {fd gd:FuncData} {CX:CXT} [NoE CX]
abbrev nLt:List Str:=["ways","number","camp","seen","at","way","going"]
theorem scLt:FnScope nLt ["ways","number"] (defScope sLedTo):=⟨rfl,rfl,rfl,by decide +kernel,rfl,by decide +kernel,by decide +kernel⟩
theorem ok_ledto (ml:mg "len"=none) (mso:mg "sorted"=none) (F:Fun K "led_to" "led_to" sLedTo f fd):FnOk P w K mg base CX 1 f fd ["ways","number"] (spLedTo K):=by
 refine F.okc scLt (fun vs H Q E h=>?_) (fun cdv A outer s H vs Q E hr h=>?_)
 ·obtain ⟨a,x,L,W,rfl,_⟩:=h
  rfl
 obtain ⟨a,x,L,W,rfl,⟨bs,ea,hbl,hbs⟩,hW,hL,x0,x1,q⟩:=h
 have hu:=hu_of hr
 refine ⟨_,pss_cons (ps_set (i:=2) scLt.nd rfl (Or.inl rfl) (pe_lst (pa_cons (pv 1) pa_nil)))
  (pss_cons (ps_set (i:=3) scLt.nd rfl (Or.inl rfl) (pe_disp (pps_cons (pv 1) pe_bl pps_nil) rfl rfl (by simp) (by decide)))
  (pss_cons (ps_set (i:=4) scLt.nd rfl (Or.inl rfl) pe_int)
  (pss_cons (ps_while PassesOwn.never (pt_cmpR op_lt (pv 4) (pe_callB call_len_seq rfl ml PySem.boot_len (pa_cons (pv 2) pa_nil)) (nomark _))
   (pss_cons (ps_for PassesOwn.never rfl (pi_list (pv 0)) (pg_name (i:=5) scLt.nd rfl (Or.inl rfl))
    (pss_cons (ps_set (i:=6) scLt.nd rfl (Or.inl rfl) (pe_ix ix_list (pv 5) (pe_ix ix_list (pv 2) (pv 4) (fun _ _=>rfl)) (fun _ _=>rfl)))
    (pss_one (ps_if (pt_cmp (pc_dnotin hu (pv 6) (pv 3))) (pss_cons (ps_dput hu (pv 3) (pv 6) pe_bl rfl)
     (pss_one (ps_expr (pe_bm PySem.F.plainAttrs_list PySem.F.slot_list_append PySem.F.type_list_append mt_append (pv 2) (pa_cons (pv 6) pa_nil))))) pss_nil))))
   (pss_one (ps_aug (i:=4) scLt.nd rfl (Or.inl rfl) pe_int ip_add))))
  (pss_one (ps_ret (pe_callB (cSortG K rfl) rfl mso PyProof.Rows.boot_sorted (pa_cons (pv 2) pa_nil))))))),?_⟩
 refine ⟨_,rfl,by show 1≤sizeLine;decide,fun lo hlo=>fun ld hld=>⟨_,rfl,upd_same,[(Sum.inl x,V.bl true)],rfl,by show 1≤15;decide,?_⟩⟩
 have s1:Same H (upd H lo (.lst [.int x])):=same_up (Same.refl H) hlo
 have hld0:H ld=none:=s1.free hld
 have nlo:lo≠ld:=ne_of_none upd_same hld
 have s2:Same H (upd (upd (upd H lo (.lst [.int x])) ld (.dK [])) ld (.dK (mergeK [] [(Sum.inl x,V.bl true)]))):=same_over (same_up s1 hld) hld0
 refine ⟨fun m σ H2=>∃ (i:Nat) (o:List Int) (u5 u6:Option V),m=L+1 - i∧σ=[some (.ref a),some (.int x),some (.ref lo),some (.ref ld),some (.int i),u5,u6]∧Same H H2∧H2 lo=some (.lst (o.map V.int))∧H2 ld=some (.dK (kvT o))∧o.Nodup∧(∀ y∈o,0≤y∧y < (L:Int))∧i≤o.length∧lbf (gof W) (L+1 - i) i o=cmp L W x,⟨_,0,[x],none,none,rfl,rfl,s2,?_,upd_same,by simp,fun y hy=>by rw [List.mem_singleton.mp hy];exact ⟨x0,x1⟩,by simp,rfl⟩,?_⟩
 ·rw [upd_ne nlo,upd_ne nlo];exact upd_same
 rintro m σ H2 ⟨i,o,u5,u6,rfl,rfl,t2,glo,gld,nd,rg,hi,hb⟩
 have hol:=nodup_len nd rg
 refine ⟨_,rfl,_,rfl,lo,_,rfl,.inl (SqL.of glo),_,_,rfl,rfl,_,rfl,?_⟩
 have hol2:(o.map V.int).length=o.length:=List.length_map _
 refine ite2 (fun c=>?_) (fun c=>?_)
 ·have c':=of_decide_eq_true c
  rw [hol2] at c'
  have hio:i < o.length:=by omega
  have eo:o[i]?=some o[i]:=List.getElem?_eq_getElem hio
  have hro:o[i]∈o:=List.getElem_mem hio
  generalize o[i]=r at eo hro
  obtain ⟨r0,r1⟩:=rg r hro
  refine ⟨fun σ' H'=>∃ m',m' < L+1 - i∧_,fun _ _ z=>z,?_⟩
  refine ⟨_,rfl,a,rfl,⟨_,SqL.of (t2 _ _ ea)⟩,listO (xs:=bs.map V.ref) (fun j σ H3=>∃ u5 u6:Option V,σ=[some (.ref a),some (.int x),some (.ref lo),some (.ref ld),some (.int i),u5,u6]∧Same H H3∧H3 lo=some (.lst ((addAll o ((gof W r).take j)).map V.int))∧H3 ld=some (.dK (kvT (addAll o ((gof W r).take j)))))
   ⟨_,_,rfl,t2,glo,gld⟩ (fun j σ H3 _ h=>by obtain ⟨_,_,_,t3,_⟩:=h;exact SqL.of (t3 _ _ ea)) (fun j y σ H3 hx h Ed nx=>?_) (fun σ H3 h=>?_)⟩
  ·obtain ⟨u5,u6,rfl,t3,e1,e2⟩:=h
   have hjl:j < W.length:=by have:=(List.getElem?_eq_some_iff.mp hx).1;rw [List.length_map,hbl] at this;exact this
   have ew:W[j]?=some W[j]:=List.getElem?_eq_getElem hjl
   have hw:=hW _ (List.getElem_mem hjl)
   generalize W[j]=w at ew hw
   obtain ⟨b,eb,hb2⟩:=hbs j w ew
   have ey:y=V.ref b:=by rw [List.getElem?_map,eb] at hx;exact (Option.some.inj hx).symm
   subst ey
   have eg:(gof W r)[j]?=some (w.getD r.toNat 0):=by unfold gof;rw [List.getElem?_map,ew];rfl
   have et':addAll o ((gof W r).take (j+1))=addN (addAll o ((gof W r).take j)) (w.getD r.toNat 0):=by rw [List.take_add_one,eg];exact addAll_snoc _ _ _
   have hgr:=gof_rg hW r r0 r1
   have hal:(addAll o ((gof W r).take j)).length≤L:=nodup_len (addAll_nodup _ _ nd) fun y hy=>by
    rcases addAll_mem.mp hy with z | z
    ·exact rg y z
    ·exact hgr y (List.mem_of_mem_take z)
   obtain ⟨m1,em1⟩:=addAll_sub ((gof W r).take j) o
   have ei:(addAll o ((gof W r).take j))[i]?=some r:=by rw [em1,List.getElem?_append_left hio];exact eo
   generalize addAll o ((gof W r).take j)=oj at *
   have hwl:=hw.len
   refine ⟨_,rfl,_,rfl,_,rfl,lo,_,_,.int r,rfl,rfl,SqL.of e1,atI_nat (by rw [List.getElem?_map,ei];rfl),b,_,_,.int (w.getD r.toNat 0),rfl,rfl,SqL.of (t3 _ _ hb2),?_,?_⟩
   ·obtain ⟨k,rfl⟩:=nat_of r0
    refine atI_nat ?_
    rw [List.getElem?_map,List.getD_eq_getElem?_getD,Int.toNat_natCast,List.getElem?_eq_getElem (by omega)]
    rfl
   generalize w.getD r.toNat 0=gj at *
   refine ⟨_,rfl,_,rfl,ld,_,rfl,DGet.k (k:=Sum.inl gj) e2,_,rfl,?_⟩
   have hv:=kvT_val oj gj
   by_cases hm:gj∈oj
   ·rw [decide_eq_true hm] at hv
    rw [hv]
    refine iteF (nx _ _ ⟨_,_,rfl,t3,?_,?_⟩)
    ·rw [et',addN_mem hm];exact e1
    ·rw [et',addN_mem hm];exact e2
   ·rw [decide_eq_false hm] at hv
    rw [hv]
    have nlop:lo≠ld:=nlo
    refine iteT ⟨_,rfl,_,rfl,ld,_,rfl,DPut.k (k:=Sum.inl gj) e2 (by rw [kvT_len];exact Nat.lt_of_le_of_lt (Nat.le_trans hal hL) (by decide)),?_⟩
    have e1':upd H3 ld (.dK (putK (kvT oj) (Sum.inl gj:Key) (V.bl true))) lo=some (.lst (oj.map V.int)):=by rw [upd_ne nlop];exact e1
    refine ⟨_,rfl,.inl ⟨rfl,_,SqL.of e1'⟩,_,rfl,lo,_,_,rfl,rfl,e1',by rw [List.length_map];exact Nat.lt_of_le_of_lt (Nat.le_trans hal hL) (by decide),?_⟩
    refine nx _ _ ⟨_,_,rfl,same_over (same_over t3 hld0) hlo,?_,?_⟩
    ·rw [upd_same,et',addN_new hm,List.map_append];rfl
    ·rw [upd_ne nlop.symm,upd_same,kvT_put,et']
  ·obtain ⟨u5,u6,rfl,t3,e1,e2⟩:=h
   have hgl:(gof W r).length=(bs.map V.ref).length:=by unfold gof;rw [List.length_map,List.length_map,hbl]
   rw [←hgl,List.take_length] at e1 e2
   have hb':lbf (gof W) (L+1 - (i+1)) (i+1) (addAll o (gof W r))=cmp L W x:=by
    rw [←hb,show L+1 - i=(L+1 - (i+1))+1 by omega,lbf_step eo]
   obtain ⟨m1,em1⟩:=addAll_sub (gof W r) o
   have hgr:=gof_rg hW r r0 r1
   refine ⟨_,rfl,_,_,rfl,rfl,L+1 - (i+1),by omega,i+1,addAll o (gof W r),_,_,rfl,rfl,t3,e1,e2,addAll_nodup _ _ nd,fun y hy=>?_,by rw [em1,List.length_append];omega,hb'⟩
   rcases addAll_mem.mp hy with z | z
   ·exact rg y z
   ·exact hgr y z
 ·have c':¬ ((i:Int) < ((o.map V.int).length:Int)):=fun z=>c (decide_eq_true z)
  rw [hol2] at c'
  rw [lbf_stop (by omega)] at hb
  subst hb
  refine ⟨_,rfl,lo,cmp L W x,rfl,SqL.of glo,fun ns' hp hs l hl=>?_⟩
  have e:=led_sorted hW x0 x1 hp hs
  subst e
  exact q l _ (same_up t2 hl) (t2.free hl) upd_same
abbrev nCm:List Str:=["guises","many","ways","seen","told","number","camp","member"]
theorem scCm:FnScope nCm ["guises","many"] (defScope sCamps):=⟨rfl,rfl,rfl,by decide +kernel,rfl,by decide +kernel,by decide +kernel⟩
theorem csCm:CompS nCm (defScope sCamps) ["guise","many"] [none,some 1] (csc [(".0",.local),("guise",.local),("floor",.globalImplicit),("many",.free)]):=⟨rfl,by decide +kernel,by decide +kernel,by decide +kernel,rfl,by decide +kernel,by decide +kernel⟩
theorem ok_camps {Ct Cb:Addr} (ml:mg "len"=none) (mr:mg "range"=none) (F:Fun K "camps" "camps" sCamps f fd)
  {aFL:Addr} {dFL:FuncData} (FL:FnOk P w K mg base (CXx P w) 3 aFL dFL ["guise","many"] (spFloor K Ct Cb)) (bFL:Binds K dFL ["guise","many"] []) (kFL:PySem.W.keepIn K (.ref aFL)=true) (mFL:mg "floor"=some (.ref aFL))
  {aLD:Addr} {dLD:FuncData} (LD:FnOk P w K mg base (CXx P w) 3 aLD dLD ["ways","number"] (spLedTo K)) (bLD:Binds K dLD ["ways","number"] []) (kLD:PySem.W.keepIn K (.ref aLD)=true) (mLD:mg "led_to"=some (.ref aLD)):FnOk P w K mg base (CXx P w) 4 f fd ["guises","many"] (spCamps K Ct Cb):=by
 refine F.okx scCm (fun vs H Q E h=>?_) (fun cdv A outer s H vs Q E hr h=>?_)
 ·obtain ⟨a,gs,n,many,rfl,_⟩:=h
  rfl
 obtain ⟨a,gs,n,many,rfl,⟨us,ea,dus⟩,hgs,hg1,hg10,n2,n5,hm,gb,gx,q⟩:=h
 have hu:=hu_of hr
 refine ⟨_,pss_cons (ps_compX (E0:=E) (i:=2) rfl csCm (pi_list (pv 0)) rfl rfl rfl passA (fun _ _ _ _ _=>pg_name (i:=0) csCm.nd rfl (Or.inl rfl)) (fun _ _ _ _ _=>pe_call FL hr rfl mFL kFL bFL .nil passE (pa_cons (pv 0) (pa_cons (pv 1) pa_nil))) scCm.nd rfl rfl)
  (pss_cons (ps_set (i:=3) scCm.nd rfl (Or.inl rfl) pe_dnewK)
  (pss_cons (ps_set (i:=4) scCm.nd rfl (Or.inl rfl) (pe_lst pa_nil))
  (pss_cons (ps_for PassesOwn.leaving rfl (pi_range1 rfl mr (pa_cons (pe_callB call_len_seq rfl ml PySem.boot_len (pa_cons (pe_ix ix_list (pv 2) pe_int (fun _ _=>rfl)) pa_nil)) pa_nil)) (pg_name (i:=5) scCm.nd rfl (Or.inl rfl))
   (pss_one (ps_if (pt_cmp (pc_dnotin hu (pv 5) (pv 3))) (pss_cons (ps_set (i:=6) scCm.nd rfl (Or.inl rfl) (pe_call LD hr rfl mLD kLD bLD .nil passN (pa_cons (pv 2) (pa_cons (pv 5) pa_nil))))
    (pss_cons (ps_for PassesOwn.leaving rfl (pi_list (pv 6)) (pg_name (i:=7) scCm.nd rfl (Or.inl rfl))
     (pss_one (ps_dput hu (pv 3) (pv 7) pe_bl rfl)))
    (pss_one (ps_expr (pe_bm PySem.F.plainAttrs_list PySem.F.slot_list_append PySem.F.type_list_append mt_append (pv 4) (pa_cons (pv 6) pa_nil)))))) pss_nil)))
  (pss_one (ps_ret (pv 4)))))),?_⟩
 have hul:us.length=gs.length:=by have:=dus.length;rw [List.length_map] at this;omega
 by_cases bad:many < 0∨1024 < n ^ many.toNat
 ·refine ⟨_,rfl,a,rfl,⟨_,SqL.of ea⟩,fun l1 hl1=>comp_list (xs:=us) (fun i ys H4=>i=ys.length∧i=0∧Same H H4) ⟨rfl,rfl,same_up (Same.refl H) hl1⟩ (fun i ys H4 _ h=>SqL.of (h.2.2 _ _ ea)) (Nat.le_trans (by omega:us.length≤10) (by decide)) (fun i ys H4 h=>h.1.symm) (fun i x ys H4 hx h hy=>?_) (fun ys H4 h hy=>absurd h.2.1 (by omega))⟩
  obtain ⟨_,rfl,s4⟩:=h
  have e0:gs[0]?=some gs[0]:=List.getElem?_eq_getElem (by omega)
  obtain ⟨v,ev,dv⟩:=dus.get (show (gs.map fun g=>D.tup (rowsD g))[0]?=some (D.tup (rowsD gs[0])) by rw [List.getElem?_map,e0];rfl)
  rw [hx] at ev
  cases ev
  obtain ⟨GM,_⟩:=hgs _ (List.getElem_mem (show 0 < gs.length by omega))
  exact ⟨_,rfl,_,rfl,x,_,n,many,rfl,dv.mono s4,GM,n2,n5,hm,fun z ea H2 s2=>gb z ea H2 (s4.trans s2),fun z y ea H2 s2=>gx z y ea H2 (s4.trans s2),fun z y=>absurd bad (by omega)⟩
 have m0:0≤many:=by omega
 have hmp:n ^ many.toNat≤1024:=by omega
 replace q:=q m0 hmp
 have n0:0 < n:=by omega
 refine ⟨_,rfl,a,rfl,⟨_,SqL.of ea⟩,fun l1 hl1=>comp_list (xs:=us) (fun i ys H4=>i≤gs.length∧Same H H4∧∃ bs:List Addr,ys=bs.map V.ref∧bs.length=i∧∀ (j:Nat) (g:List Row),j < i→gs[j]?=some g→∃ b,bs[j]?=some b∧H4 b=some (.lst ((tabW n g many.toNat).map V.int))∧b≠l1) ⟨Nat.zero_le _,same_up (Same.refl H) hl1,[],rfl,rfl,fun j g z=>absurd z (Nat.not_lt_zero _)⟩ (fun i ys H4 _ h=>SqL.of (h.2.1 _ _ ea)) (Nat.le_trans (by omega:us.length≤10) (by decide)) (fun i ys H4 h=>?_) (fun i x ys H4 hx h hy=>?_) (fun ys H4 h hy=>?_)⟩
 ·obtain ⟨_,_,bs,rfl,hb,_⟩:=h
  rw [List.length_map];exact hb
 ·obtain ⟨hi,s4,bs,rfl,hb,hbs⟩:=h
  have hil:i < gs.length:=by have:=(List.getElem?_eq_some_iff.mp hx).1;omega
  have eg:gs[i]?=some gs[i]:=List.getElem?_eq_getElem hil
  obtain ⟨v,ev,dv⟩:=dus.get (show (gs.map fun g=>D.tup (rowsD g))[i]?=some (D.tup (rowsD gs[i])) by rw [List.getElem?_map,eg];rfl)
  rw [hx] at ev
  cases ev
  obtain ⟨GM,_⟩:=hgs _ (List.getElem_mem hil)
  refine ⟨_,rfl,_,rfl,x,_,n,many,rfl,dv.mono s4,GM,n2,n5,hm,fun z=>absurd z (by omega),fun _ z=>absurd z (by omega),fun _ _ lf H5 s5 f5 e5=>?_⟩
  have hne:lf≠l1:=fun z=>by rw [z,hy] at f5;cases f5
  refine ⟨s5 _ _ hy,hil,same_over (s4.trans s5) hl1,bs++[lf],by rw [List.map_append];rfl,by rw [List.length_append,hb];rfl,fun j g hj ej=>?_⟩
  rcases Nat.lt_or_ge j i with z | z
  ·obtain ⟨b,h1,h2,h3⟩:=hbs j g z ej
   exact ⟨b,by rw [List.getElem?_append_left (by omega)];exact h1,by rw [upd_ne h3];exact s5 _ _ h2,h3⟩
  ·have:j=i:=by omega
   subst this
   rw [eg] at ej
   cases ej
   exact ⟨lf,by rw [List.getElem?_append_right (by omega),hb,Nat.sub_self];rfl,by rw [upd_ne hne];exact e5,hne⟩
 obtain ⟨_,s4,bs,rfl,hb,hbs⟩:=h
 generalize hm':many.toNat=m at *
 generalize hL:n ^ m=L at *
 generalize hWd:gs.map (fun g=>tabW n g m)=W at *
 have hWl:W.length=gs.length:=by rw [←hWd,List.length_map]
 have hW:∀ w∈W,IsP L w:=fun w hw=>by
  rw [←hWd] at hw
  obtain ⟨g,hg,rfl⟩:=List.mem_map.mp hw
  obtain ⟨GM,h8⟩:=hgs g hg
  rw [←hL]
  exact tab_perm GM h8 n0
 have hws:WaysAt H4 l1 W:=⟨bs,hy,by rw [hb,hul,hWl],fun j w ej=>by
  rw [←hWd,List.getElem?_map] at ej
  obtain ⟨g,eg,rfl⟩:=Option.map_eq_some_iff.mp ej
  obtain ⟨b,h1,h2,_⟩:=hbs j g (by have:=(List.getElem?_eq_some_iff.mp eg).1;omega) eg
  exact ⟨b,h1,h2⟩⟩
 obtain ⟨b0,eb0,hb0⟩:∃ b0,bs[0]?=some b0∧∃ w0:List Int,w0.length=L∧H4 b0=some (.lst (w0.map V.int)):=by
  have eg:gs[0]?=some gs[0]:=List.getElem?_eq_getElem (by omega)
  obtain ⟨b,h1,h2,_⟩:=hbs 0 _ (by omega) eg
  exact ⟨b,h1,_,by rw [tabW_len];exact hL,h2⟩
 obtain ⟨w0,hw0,hb0⟩:=hb0
 intro d hd
 refine ⟨by show 0≤sizeLine;decide,fun lt hlt=>?_⟩
 have hlt0:H4 lt=none:=(same_up (Same.refl H4) hd).free hlt
 have ndl:d≠lt:=ne_of_none upd_same hlt
 have sA:Same H4 (upd (upd H4 d (.dK [])) lt (.lst [])):=same_up (same_up (Same.refl H4) hd) hlt
 have eA:(upd (upd H4 d (HO.dK [])) lt (HO.lst [])) d=some (.dK (kvT [])):=by rw [upd_ne ndl];exact upd_same
 refine ⟨_,rfl,l1,_,_,.ref b0,rfl,rfl,SqL.of (sA _ _ hy),atI_nat (j:=0) (by rw [List.getElem?_map,eb0];rfl),b0,_,rfl,.inl (SqL.of (sA _ _ hb0)),(L:Int),by rw [List.length_map,hw0],by omega,by omega,for_range (n:=(L:Int).toNat) (fun i σ H2=>∃ (o:List Int) (cs:List Addr) (u5 u6 u7:Option V),σ=[some (.ref a),some (.int many),some (.ref l1),some (.ref d),some (.ref lt),u5,u6,u7]∧Same H4 H2∧H2 d=some (.dK (kvT o))∧H2 lt=some (.lst (cs.map V.ref))∧Seen L W i o∧cs.length=(campsL L W i).length∧cs.Nodup∧(∀ c∈cs,H4 c=none∧c≠d∧c≠lt)∧∀ (j:Nat) (xs:List Int),(campsL L W i)[j]?=some xs→∃ b,cs[j]?=some b∧H2 b=some (.lst (xs.map V.int)))
  ⟨[],[],none,none,none,rfl,sA,eA,upd_same,Seen.zero L W,rfl,List.nodup_nil,fun c hc=>absurd hc (by simp),fun j xs e=>by simp [campsL,iota] at e⟩ (fun i σ H2 hi h=>?_) (fun σ H2 h=>?_)⟩
 ·obtain ⟨o,cs,u5,u6,u7,rfl,s2,ed,el,sn,hcl,hcn,hcf,hcs⟩:=h
  have hi':i < L:=by omega
  have e0:(0:Int)+(i:Int)=(i:Int):=by omega
  rw [e0]
  refine ⟨_,rfl,_,rfl,d,_,rfl,DGet.k (k:=Sum.inl (i:Int)) ed,_,rfl,?_⟩
  have hv:=kvT_val o (i:Int)
  have hh:=sn.head hW hi'
  by_cases hm2:(i:Int)∈o
  ·rw [decide_eq_true hm2] at hv
   rw [hv]
   have hno:=hh.mp hm2
   refine iteF ⟨o,cs,_,_,_,rfl,s2,ed,el,sn.no hW hi' hm2,?_,hcn,hcf,?_⟩
   ·rw [campsL_no hno];exact hcl
   ·rw [campsL_no hno];exact hcs
  ·rw [decide_eq_false hm2] at hv
   rw [hv]
   have hyes:isHead L W (i:Int)=true:=by
    cases e:isHead L W (i:Int) with
    | true=>rfl
    | false=>exact absurd (hh.mpr e) hm2
   refine iteT ⟨_,rfl,_,rfl,l1,(i:Int),L,W,rfl,?_,hW,hmp,by omega,by omega,fun cl H3 s3 f3 e3=>?_⟩
   ·obtain ⟨bs',h1,h2,h3⟩:=hws
    exact ⟨bs',s2 _ _ h1,h2,fun j w ej=>by obtain ⟨b,h4,h5⟩:=h3 j w ej;exact ⟨b,h4,s2 _ _ h5⟩⟩
   have ncd:cl≠d:=fun z=>by rw [z,ed] at f3;cases f3
   have ncl:cl≠lt:=fun z=>by rw [z,el] at f3;cases f3
   have i0:(0:Int)≤(i:Int):=by omega
   have i1:(i:Int) < (L:Int):=by omega
   have hcL:(campsL L W i).length≤1024:=by
    unfold campsL
    rw [List.length_map]
    have:=List.length_filter_le (isHead L W) (iota i)
    rw [iota_len] at this
    omega
   refine ⟨_,rfl,cl,rfl,⟨_,SqL.of e3⟩,for_list (xs:=(led L W (i:Int)).map V.int) (fun j σ H5=>∃ u7:Option V,σ=[some (.ref a),some (.int many),some (.ref l1),some (.ref d),some (.ref lt),some (.int i),some (.ref cl),u7]∧Same H4 H5∧(∀ c,c≠d→∀ ob,H3 c=some ob→H5 c=some ob)∧H5 d=some (.dK (kvT (addAll o ((led L W (i:Int)).take j)))))
    ⟨_,rfl,s2.trans s3,fun _ _ _ h=>h,s3 _ _ ed⟩ (fun j σ H5 _ h=>by obtain ⟨_,_,_,k5,_⟩:=h;exact SqL.of (k5 cl ncd _ e3)) (fun j y σ H5 hx h=>?_) (fun σ H5 h=>?_)⟩
   ·obtain ⟨u7,rfl,s5,k5,e5⟩:=h
    rw [List.getElem?_map] at hx
    obtain ⟨g,eg,rfl⟩:=Option.map_eq_some_iff.mp hx
    have hal:(addAll o ((led L W (i:Int)).take j)).length≤L:=nodup_len (addAll_nodup _ _ sn.1) fun y hy=>by
     rcases addAll_mem.mp hy with z | z
     ·exact sn.2.1 y z
     ·exact (cmp_facts hW i0 i1).2.1 y ((led_mem hW i0 i1 y).mp (List.mem_of_mem_take z))
    refine ⟨_,rfl,_,rfl,d,_,rfl,DPut.k (k:=Sum.inl g) e5 (by rw [kvT_len];exact Nat.lt_of_le_of_lt (Nat.le_trans hal hmp) (by decide)),?_⟩
    refine ⟨_,rfl,same_over s5 hd,fun c hc ob h=>by rw [upd_ne hc];exact k5 c hc ob h,?_⟩
    rw [upd_same,kvT_put,List.take_add_one,eg]
    exact congrArg (fun z=>some (HO.dK (kvT z))) (addAll_snoc _ _ _).symm
   ·obtain ⟨u7,rfl,s5,k5,e5⟩:=h
    rw [List.length_map,List.take_length] at e5
    have el5:=k5 lt ndl.symm _ (s3 _ _ el)
    refine ⟨_,rfl,.inl ⟨rfl,_,SqL.of el5⟩,_,rfl,lt,_,_,rfl,rfl,el5,by rw [List.length_map,hcl];exact Nat.lt_of_le_of_lt hcL (by decide),?_⟩
    have hsome:∀ c∈cs,∃ xs:List Int,H2 c=some (.lst (xs.map V.int)):=fun c hc=>by
     obtain ⟨j,hj,ej⟩:=List.getElem_of_mem hc
     obtain ⟨b,h1,h2⟩:=hcs j _ (List.getElem?_eq_getElem (by omega))
     rw [List.getElem?_eq_getElem hj,ej] at h1
     cases h1
     exact ⟨_,h2⟩
    refine ⟨addAll o (led L W (i:Int)),cs++[cl],_,_,_,rfl,same_over s5 hlt0,by rw [upd_ne ndl];exact e5,by rw [upd_same,List.map_append];rfl,sn.yes hW hi',?_,?_,?_,?_⟩
    ·rw [campsL_yes hyes,List.length_append,List.length_append,hcl];rfl
    ·refine List.nodup_append.mpr ⟨hcn,by simp,fun c hc c' hc' e=>?_⟩
     rw [List.mem_singleton.mp hc'] at e
     obtain ⟨xs,hx⟩:=hsome c hc
     rw [e,f3] at hx
     cases hx
    ·intro c hc
     rcases List.mem_append.mp hc with z | z
     ·exact hcf c z
     ·rw [List.mem_singleton.mp z]
      exact ⟨s2.free f3,ncd,ncl⟩
    ·intro j xs ej
     rw [campsL_yes hyes] at ej
     rcases Nat.lt_or_ge j (campsL L W i).length with z | z
     ·rw [List.getElem?_append_left z] at ej
      obtain ⟨b,h1,h2⟩:=hcs j xs ej
      obtain ⟨_,n1,n2'⟩:=hcf b (List.mem_of_getElem? h1)
      exact ⟨b,by rw [List.getElem?_append_left (by omega)];exact h1,by rw [upd_ne n2'];exact k5 b n1 _ (s3 _ _ h2)⟩
     ·rw [List.getElem?_append_right z] at ej
      have hj:j=(campsL L W i).length:=by have:=(List.getElem?_eq_some_iff.mp ej).1;simp at this;omega
      rw [hj,Nat.sub_self] at ej
      cases ej
      exact ⟨cl,by rw [List.getElem?_append_right (by omega),hj,hcl,Nat.sub_self];rfl,by rw [upd_ne ncl];exact k5 cl ncd _ e3⟩
 ·obtain ⟨o,cs,u5,u6,u7,rfl,s2,ed,el,sn,hcl,hcn,hcf,hcs⟩:=h
  rw [Int.toNat_natCast] at hcl hcs
  exact ⟨_,rfl,q lt cs H2 (s4.trans s2) (s4.free hlt0) el hcl hcn (fun b hb=>s4.free (hcf b hb).1) hcs⟩
end
end Gu

set_option Elab.async false
set_option linter.all false
set_option maxRecDepth 100000
set_option maxHeartbeats 4000000
namespace Gu
open PySem L2
section
variable {P:Program} {w:World} {K:PySem.W.Frag} {mg:Str→Option Value} {base:Heap} {f g:Addr} {fd gd:FuncData} {CX:CXT} [NoE CX]
abbrev nD24:List Str:=["_law_guises","_law_many","_law_tables","_law_paint","_law_changed","_law_table_here","_law_number_here","_law_there","_law_low","_law_sets"]
theorem scD24:FnScope nD24 ["_law_guises","_law_many"] (defScope sDueL):=⟨rfl,rfl,rfl,by decide +kernel,rfl,by decide +kernel,by decide +kernel⟩
theorem csD24:CompS nD24 (defScope sDueL) ["_law_low","_law_sets"] [none,some 9] (csc [(".0",.local),("_law_low",.local),("_law_sets",.free)]):=⟨rfl,by decide +kernel,by decide +kernel,by decide +kernel,rfl,by decide +kernel,by decide +kernel⟩
theorem csD242:CompS nD24 (defScope sDueL) ["_law_one","_law_many"] [none,some 1] (csc [(".0",.local),("_law_one",.local),("_law_table",.globalImplicit),("_law_many",.free)]):=⟨rfl,by decide +kernel,by decide +kernel,by decide +kernel,rfl,by decide +kernel,by decide +kernel⟩
theorem ok_due24 (ml:mg "len"=none) (mli:mg "list"=none) (mr:mg "range"=none) (men:mg "enumerate"=none) (mmin:mg "min"=none) (mso:mg "sorted"=none) (F:Fun K "_law_due" "_law_due" sDueL f fd)
  {aT:Addr} {dT:FuncData} (T:FnOk P w K mg base CX 2 aT dT ["_law_one","_law_many"] (spTable K)) (bT:Binds K dT ["_law_one","_law_many"] []) (kT:PySem.W.keepIn K (.ref aT)=true) (mT:mg "_law_table"=some (.ref aT)):FnOk P w K mg base CX 3 f fd ["_law_guises","_law_many"] (spDue24 K):=by
 refine F.okc scD24 (fun vs H Q E h=>?_) (fun cdv A outer s H vs Q E hr h=>?_)
 ·obtain ⟨a,gs,n,m,rfl,_⟩:=h
  rfl
 obtain ⟨a,gs,n,m,rfl,⟨us,ea,dus⟩,hgs,hg1,hg10,n2,n5,hmp,q⟩:=h
 have hu:=hu_of hr
 refine ⟨_,pss_cons (ps_comp (i:=2) rfl csD242 (pi_list (pv 0)) (fun _ _ _ _ _=>pg_name (i:=0) csD242.nd rfl (Or.inl rfl)) (fun _ _ _ _ _=>pe_call T hr rfl mT kT bT .nil passN (pa_cons (pv 0) (pa_cons (pv 1) pa_nil))) scD24.nd rfl rfl)
  (pss_cons (ps_set (i:=3) scD24.nd rfl (Or.inl rfl) (pe_callTy (call_list_rng rfl) rfl mli PyProof.Rows.boot_list (pa_cons (pe_callTy call_rng rfl mr PyProof.Rows.boot_range (pa_cons (pe_callB call_len_seq rfl ml PySem.boot_len (pa_cons (pe_ix ix_list (pv 2) pe_int (fun _ _=>rfl)) pa_nil)) pa_nil)) pa_nil)))
  (pss_cons (ps_set (i:=4) scD24.nd rfl (Or.inl rfl) pe_bl)
  (pss_cons (ps_while PassesOwn.never (pt_val (pv 4))
   (pss_cons (ps_set (i:=4) scD24.nd rfl (Or.inl rfl) pe_bl)
   (pss_one (ps_for PassesOwn.never rfl (pi_list (pv 2)) (pg_name (i:=5) scD24.nd rfl (Or.inl rfl))
    (pss_one (ps_for PassesOwn.never rfl (pi_enumL rfl men (pa_cons (pv 5) pa_nil)) (pg_tup rfl (pgs_cons (pg_name (i:=6) scD24.nd rfl (Or.inl rfl)) (pgs_cons (pg_name (i:=7) scD24.nd rfl (Or.inl rfl)) pgs_nil)))
     (pss_cons (ps_set (i:=8) scD24.nd rfl (Or.inl rfl) (pe_callB (call_min2 rfl) rfl mmin PyProof.Rows.boot_min (pa_cons (pe_ix ix_list (pv 3) (pv 6) (fun _ _=>rfl)) (pa_cons (pe_ix ix_list (pv 3) (pv 7) (fun _ _=>rfl)) pa_nil))))
     (pss_one (ps_if (PW.pt (pw_or (pt_cmp (pc_neI (pe_ix ix_list (pv 3) (pv 6) (fun _ _=>rfl)) (pv 8))) (pw_or1 (pt_cmp (pc_neI (pe_ix ix_list (pv 3) (pv 7) (fun _ _=>rfl)) (pv 8)))))) (pss_cons (ps_asg (pv 8) (pg_sub (pv 3) (pv 6) set_list))
      (pss_cons (ps_asg (pv 8) (pg_sub (pv 3) (pv 7) set_list))
      (pss_one (ps_set (i:=4) scD24.nd rfl (Or.inl rfl) pe_bl)))) pss_nil)))))))))
  (pss_cons (ps_set (i:=9) scD24.nd rfl (Or.inr rfl) pe_dnewK)
  (pss_cons (ps_for PassesOwn.never rfl (pi_enumL rfl men (pa_cons (pv 3) pa_nil)) (pg_tup rfl (pgs_cons (pg_name (i:=6) scD24.nd rfl (Or.inl rfl)) (pgs_cons (pg_name (i:=8) scD24.nd rfl (Or.inl rfl)) pgs_nil)))
   (pss_one (ps_dput hu (pv 9) (pv 8) (pe_op op_cat (pe_dget2 hu (pv 9) (pv 8) (pe_lst pa_nil) ⟨rfl,rfl,rfl,rfl⟩) (pe_lst (pa_cons (pv 6) pa_nil))) rfl)))
  (pss_one (ps_ret (pe_comp rfl csD24 (pi_list (pe_callB (cSortD K rfl rfl) rfl mso PyProof.Rows.boot_sorted (pa_cons (pv 9) pa_nil))) (fun _ _ _ _ _=>pg_name (i:=0) csD24.nd rfl (Or.inl rfl)) (fun _ _ _ _ _=>pe_dget hu (pv 1) (pv 0) (fun _ _=>rfl)))))))))),?_⟩
 have hul:us.length=gs.length:=by have:=dus.length;rw [List.length_map] at this;omega
 have n0:0 < n:=by omega
 refine ⟨_,rfl,a,rfl,⟨_,SqL.of ea⟩,fun l1 hl1=>comp_list (xs:=us) (fun i ys H4=>i≤gs.length∧Same H H4∧∃ bs:List Addr,ys=bs.map V.ref∧bs.length=i∧∀ (j:Nat) (g:List Row),j < i→gs[j]?=some g→∃ b,bs[j]?=some b∧H4 b=some (.lst ((tabW n g m).map V.int))∧b≠l1) ⟨Nat.zero_le _,same_up (Same.refl H) hl1,[],rfl,rfl,fun j g z=>absurd z (Nat.not_lt_zero _)⟩ (fun i ys H4 _ h=>SqL.of (h.2.1 _ _ ea)) (Nat.le_trans (by omega:us.length≤10) (by decide)) (fun i ys H4 h=>?_) (fun i x ys H4 hx h hy=>?_) (fun ys H4 h hy=>?_)⟩
 ·obtain ⟨_,_,bs,rfl,hb,_⟩:=h
  rw [List.length_map];exact hb
 ·obtain ⟨hi,s4,bs,rfl,hb,hbs⟩:=h
  have hil:i < gs.length:=by have:=(List.getElem?_eq_some_iff.mp hx).1;omega
  have eg:gs[i]?=some gs[i]:=List.getElem?_eq_getElem hil
  obtain ⟨v,ev,dv⟩:=dus.get (show (gs.map fun g=>D.tup (rowsD g))[i]?=some (D.tup (rowsD gs[i])) by rw [List.getElem?_map,eg];rfl)
  rw [hx] at ev
  cases ev
  obtain ⟨GM,_⟩:=hgs _ (List.getElem_mem hil)
  refine ⟨_,rfl,_,rfl,x,_,n,m,rfl,dv.mono s4,GM,n2,n5,hmp,fun lf H5 s5 f5 e5=>?_⟩
  have hne:lf≠l1:=fun z=>by rw [z,hy] at f5;cases f5
  refine ⟨s5 _ _ hy,hil,same_over (s4.trans s5) hl1,bs++[lf],by rw [List.map_append];rfl,by rw [List.length_append,hb];rfl,fun j g hj ej=>?_⟩
  rcases Nat.lt_or_ge j i with z | z
  ·obtain ⟨b,h1,h2,h3⟩:=hbs j g z ej
   exact ⟨b,by rw [List.getElem?_append_left (by omega)];exact h1,by rw [upd_ne h3];exact s5 _ _ h2,h3⟩
  ·have:j=i:=by omega
   subst this
   rw [eg] at ej
   cases ej
   exact ⟨lf,by rw [List.getElem?_append_right (by omega),hb,Nat.sub_self];rfl,by rw [upd_ne hne];exact e5,hne⟩
 obtain ⟨_,s4,bs,rfl,hb,hbs⟩:=h
 generalize hL:n ^ m=L at *
 generalize hWd:gs.map (fun g=>tabW n g m)=W at *
 have hWl:W.length=gs.length:=by rw [←hWd,List.length_map]
 have hW:∀ w∈W,IsP L w:=fun w hw=>by
  rw [←hWd] at hw
  obtain ⟨g,hg,rfl⟩:=List.mem_map.mp hw
  obtain ⟨GM,h8⟩:=hgs g hg
  rw [←hL]
  exact tab_perm GM h8 n0
 have hbl:bs.length=W.length:=by rw [hb,hul,hWl]
 have hws:∀ (j:Nat) (w:List Int),W[j]?=some w→∃ b,bs[j]?=some b∧H4 b=some (.lst (w.map V.int)):=fun j w ej=>by
  rw [←hWd,List.getElem?_map] at ej
  obtain ⟨g,eg,rfl⟩:=Option.map_eq_some_iff.mp ej
  obtain ⟨b,h1,h2,_⟩:=hbs j g (by have:=(List.getElem?_eq_some_iff.mp eg).1;omega) eg
  exact ⟨b,h1,h2⟩
 obtain ⟨b0,eb0,w0,hw0,hb0⟩:∃ b0,bs[0]?=some b0∧∃ w0:List Int,w0.length=L∧H4 b0=some (.lst (w0.map V.int)):=by
  have eg:gs[0]?=some gs[0]:=List.getElem?_eq_getElem (by omega)
  obtain ⟨b,h1,h2,_⟩:=hbs 0 _ (by omega) eg
  exact ⟨b,h1,_,by rw [tabW_len];exact hL,h2⟩
 clear hbs dus hgs hWd hL
 refine ⟨_,rfl,l1,_,_,.ref b0,rfl,rfl,SqL.of hy,atI_nat (j:=0) (by rw [List.getElem?_map,eb0];rfl),b0,_,rfl,.inl (SqL.of hb0),(L:Int),by rw [List.length_map,hw0],by omega,by omega,fun tr htr=>⟨tr,0,(L:Int),rfl,upd_same,⟨by decide,by decide,by omega,by omega⟩,by show ((L:Int) - 0).toNat≤2 ^ 24;omega,fun lp hlp=>?_⟩⟩
 have eL:((L:Int) - 0).toNat=L:=by omega
 rw [eL,rint_iota]
 have s5:Same H4 (upd H4 tr (.rng 0 (L:Int))):=same_up (Same.refl H4) htr
 have hlp0:H4 lp=none:=s5.free hlp
 have s6:Same H4 (upd (upd H4 tr (.rng 0 (L:Int))) lp (.lst ((iota L).map V.int))):=same_up s5 hlp
 have e6:(upd (upd H4 tr (.rng 0 (L:Int))) lp (.lst ((iota L).map V.int))) lp=some (.lst ((iota L).map V.int)):=upd_same
 generalize upd (upd H4 tr (.rng 0 (L:Int))) lp (.lst ((iota L).map V.int))=H6 at s6 e6 ⊢
 show tSeq (tWhile _ _) _ _ _ _
 refine cutQ (fun σ H7=>∃ (p:List Int) (u5 u6 u7 u8:Option V),σ=[some (.ref a),some (.int m),some (.ref l1),some (.ref lp),some (.bl false),u5,u6,u7,u8,none]∧Same H4 H7∧H7 lp=some (.lst (p.map V.int))∧Pend L W p) (fun Ed nxE=>?_) (fun σ H7 h=>?_)
 ·refine ⟨fun μ σ H7=>∃ (p:List Int) (ch:Bool) (u5 u6 u7 u8:Option V),μ=tot p+(if ch=true then 1 else 0)∧σ=[some (.ref a),some (.int m),some (.ref l1),some (.ref lp),some (.bl ch),u5,u6,u7,u8,none]∧Same H4 H7∧H7 lp=some (.lst (p.map V.int))∧Pnt L W p∧(ch=false→Pend L W p),⟨_,iota L,true,none,none,none,none,rfl,rfl,s6,e6,Pnt.start hW,fun z=>by cases z⟩,?_⟩
  rintro μ σ H7 ⟨p,ch,u5,u6,u7,u8,rfl,rfl,s7,e7,hp,hpe⟩
  cases ch with
  | false =>
   exact ⟨_,rfl,_,rfl,iteF (nxE _ _ ⟨p,u5,u6,u7,u8,rfl,s7,e7,hpe rfl⟩)⟩
  | true =>
   refine ⟨_,rfl,_,rfl,iteT ?_⟩
   refine cutN fun N hN=>?_
   refine ⟨_,rfl,l1,rfl,⟨_,SqL.of (s7 _ _ hy)⟩,listO (xs:=bs.map V.ref) (fun j σ H8=>∃ (q:List Int) (ch:Bool) (u5 u6 u7 u8:Option V),σ=[some (.ref a),some (.int m),some (.ref l1),some (.ref lp),some (.bl ch),u5,u6,u7,u8,none]∧Same H4 H8∧H8 lp=some (.lst (q.map V.int))∧Pnt L W q∧(ch=true→tot q < tot p)∧(ch=false→q=p∧∀ (i:Nat) (w:List Int),i < j→W[i]?=some w→∀ x:Int,0≤x→x < (L:Int)→p.getD (w.getD x.toNat 0).toNat 0=p.getD x.toNat 0))
    ⟨p,false,_,_,_,_,rfl,s7,e7,hp,(fun z=>by cases z),fun _=>⟨rfl,fun i w z=>absurd z (Nat.not_lt_zero _)⟩⟩ (fun j σ H8 _ h=>by obtain ⟨_,_,_,_,_,_,_,t8,_⟩:=h;exact SqL.of (t8 _ _ hy)) (fun j y σ H8 hx h Ed2 nx2=>?_) (fun σ H8 h=>?_)⟩
   ·obtain ⟨q,ch,u5,u6,u7,u8,rfl,s8,e8,hq,ht,hf⟩:=h
    have hjl:j < W.length:=by have:=(List.getElem?_eq_some_iff.mp hx).1;rw [List.length_map,hbl] at this;exact this
    have ew:W[j]?=some W[j]:=List.getElem?_eq_getElem hjl
    have hwW:=List.getElem_mem hjl
    generalize W[j]=w at ew hwW
    have hw:=hW w hwW
    obtain ⟨b,eb,hb2⟩:=hws j w ew
    have ey:y=V.ref b:=by rw [List.getElem?_map,eb] at hx;exact (Option.some.inj hx).symm
    subst ey
    have hwl:=hw.len
    refine ⟨_,rfl,b,rfl,⟨_,SqL.of (s8 _ _ hb2)⟩,enumLO (xs:=w.map V.int) (fun k σ H9=>∃ (q:List Int) (ch:Bool) (u6 u7 u8:Option V),σ=[some (.ref a),some (.int m),some (.ref l1),some (.ref lp),some (.bl ch),some (.ref b),u6,u7,u8,none]∧Same H4 H9∧H9 lp=some (.lst (q.map V.int))∧Pnt L W q∧(ch=true→tot q < tot p)∧(ch=false→q=p∧(∀ (i:Nat) (w:List Int),i < j→W[i]?=some w→∀ x:Int,0≤x→x < (L:Int)→p.getD (w.getD x.toNat 0).toNat 0=p.getD x.toNat 0)∧∀ x:Int,0≤x→x < (k:Int)→p.getD (w.getD x.toNat 0).toNat 0=p.getD x.toNat 0))
     ⟨q,ch,_,_,_,rfl,s8,e8,hq,ht,fun z=>⟨(hf z).1,(hf z).2,fun x x0 x1=>by omega⟩⟩ (fun k σ H9 _ h=>by obtain ⟨_,_,_,_,_,_,t9,_⟩:=h;exact SqL.of (t9 _ _ hb2)) (fun k x pt σ H9 hx h hpt Ed3 nx3=>?_) (fun σ H9 h=>?_)⟩
    ·obtain ⟨q,ch,u6,u7,u8,rfl,s9,e9,hq,ht,hf⟩:=h
     have hkl:k < L:=by have:=(List.getElem?_eq_some_iff.mp hx).1;rw [List.length_map,hwl] at this;exact this
     have k0:(0:Int)≤(k:Int):=by omega
     have k1:(k:Int) < (L:Int):=by omega
     have ex:x=V.int (w.getD k 0):=by
      rw [List.getElem?_map,List.getElem?_eq_getElem (show k < w.length by omega)] at hx
      rw [List.getD_eq_getElem?_getD,List.getElem?_eq_getElem (show k < w.length by omega)]
      exact (Option.some.inj hx).symm
     obtain ⟨y0,y1⟩:=perm_get hw hkl
     generalize hyd:w.getD k 0=y at ex y0 y1
     subst ex
     have hql:=hq.len
     have hlt:lp≠pt:=ne_of_none e9 hpt
     have e10:upd H9 pt (.tup [.int (k:Nat),.int y]) lp=some (.lst (q.map V.int)):=by rw [upd_ne hlt];exact e9
     have s10:Same H4 (upd H9 pt (.tup [.int (k:Nat),.int y])):=same_up s9 hpt
     have e11:upd H9 pt (.tup [.int (k:Nat),.int y]) pt=some (.tup [.int (k:Nat),.int y]):=upd_same
     generalize upd H9 pt (.tup [.int (k:Nat),.int y])=H10 at e10 s10 e11 ⊢
     have gk:atI (q.map V.int) (k:Int)=some (V.int (q.getD k 0)):=atI_nat (by rw [List.getElem?_map,List.getD_eq_getElem?_getD,List.getElem?_eq_getElem (by omega)];rfl)
     obtain ⟨j',ej'⟩:=nat_of y0
     have gy:atI (q.map V.int) y=some (V.int (q.getD y.toNat 0)):=by
      rw [ej']
      exact atI_nat (by rw [List.getElem?_map,Int.toNat_natCast,List.getD_eq_getElem?_getD,List.getElem?_eq_getElem (by omega)];rfl)
     refine ⟨pt,_,rfl,SqT.of e11,rfl,_,_,rfl,_,_,rfl,rfl,_,rfl,_,rfl,lp,_,_,_,rfl,rfl,SqL.of e10,gk,_,rfl,_,rfl,lp,_,_,_,rfl,rfl,SqL.of e10,gy,_,_,rfl,?_⟩
     obtain ⟨st1,st2⟩:=hq.step hW hwW (x:=(k:Int)) (y:=y) k0 k1 (by rw [Int.toNat_natCast];exact hyd) rfl
     rw [Int.toNat_natCast] at st1 st2
     generalize hlow:(if q.getD y.toNat 0 < q.getD k 0 then q.getD y.toNat 0 else q.getD k 0)=low at st1 st2 ⊢
     have same:q.getD k 0=low→q.getD y.toNat 0=low→(q.set k low).set y.toNat low=q∧q.getD y.toNat 0=q.getD k 0:=fun a1 a2=>by
      refine ⟨?_,by rw [a1,a2]⟩
      have z1:q.set k low=q:=by
       rw [←a1,List.getD_eq_getElem?_getD,List.getElem?_eq_getElem (show k < q.length by omega)]
       exact List.set_getElem_self _
      rw [z1,←a2,List.getD_eq_getElem?_getD,List.getElem?_eq_getElem (show y.toNat < q.length by omega)]
      exact List.set_getElem_self _
     have done:∀ (H11:Hp),Same H4 H11→H11 lp=some (.lst (((q.set k low).set y.toNat low).map V.int))→(q.getD k 0≠low∨q.getD y.toNat 0≠low)→Ed3.nx [some (.ref a),some (.int m),some (.ref l1),some (.ref lp),some (.bl true),some (.ref b),some (.int k),some (.int y),some (.int low),none] H11:=fun H11 s11 e11 hne=>by
      refine nx3 _ _ ⟨_,true,_,_,_,rfl,s11,e11,st1,fun _=>?_,fun z=>by cases z⟩
      have:=st2 hne
      cases ch with
      | true=>have:=ht rfl;omega
      | false=>rw [(hf rfl).1] at this ⊢;exact this
     have ix1:ixN (q.map V.int).length (k:Int)=some k:=by
      unfold ixN
      rw [List.length_map,if_pos k0,if_pos (by omega),Int.toNat_natCast]
     have ix2:ixN ((q.set k low).map V.int).length y=some y.toNat:=by
      unfold ixN
      rw [List.length_map,List.length_set,if_pos y0,if_pos (by omega)]
     refine ⟨_,rfl,_,rfl,lp,_,_,_,rfl,rfl,SqL.of e10,gk,_,rfl,_,_,rfl,rfl,_,rfl,?_⟩
     have go:(q.getD k 0≠low∨q.getD y.toNat 0≠low)→tSeq (tAsg (tVar 8) (gSub (tVar 3) (tVar 6) rSetL)) (tSeq (tAsg (tVar 8) (gSub (tVar 3) (tVar 7) rSetL)) (tAsg (tC (V.bl true)) (gName 4))) Ed3 [some (.ref a),some (.int m),some (.ref l1),some (.ref lp),some (.bl ch),some (.ref b),some (.int k),some (.int y),some (.int low),none] H10:=fun hne=>by
      have em1:(q.map V.int).set k (.int low)=(q.set k low).map V.int:=(List.map_set ..).symm
      have em2:((q.set k low).map V.int).set y.toNat (.int low)=((q.set k low).set y.toNat low).map V.int:=(List.map_set ..).symm
      refine ⟨_,rfl,_,rfl,_,rfl,lp,_,_,_,rfl,rfl,e10,ix1,?_⟩
      rw [em1]
      refine ⟨_,rfl,_,rfl,_,rfl,lp,_,_,_,rfl,rfl,upd_same,ix2,?_⟩
      rw [em2]
      exact done _ (same_over (same_over s10 hlp0) hlp0) upd_same hne
     refine ite2 (fun c1=>?_) (fun c1=>?_)
     ·exact go (.inl (by simpa using c1))
     ·refine ⟨_,rfl,_,rfl,lp,_,_,_,rfl,rfl,SqL.of e10,gy,_,rfl,_,_,rfl,rfl,_,rfl,ite2 (fun c2=>?_) (fun c2=>?_)⟩
      ·exact go (.inr (by simpa using c2))
      ·have a1:q.getD k 0=low:=by simpa using c1
       have a2:q.getD y.toNat 0=low:=by simpa using c2
       refine nx3 _ _ ⟨q,ch,_,_,_,rfl,s10,e10,hq,ht,fun z=>⟨(hf z).1,(hf z).2.1,fun x x0 x1=>?_⟩⟩
       by_cases c:x=(k:Int)
       ·subst c
        rw [Int.toNat_natCast,hyd,←(hf z).1,a1,a2]
       ·exact (hf z).2.2 x x0 (by omega)
    ·obtain ⟨q,ch,u6,u7,u8,rfl,s9,e9,hq,ht,hf⟩:=h
     rw [List.length_map,hwl] at hf
     refine nx2 _ _ ⟨q,ch,_,_,_,_,rfl,s9,e9,hq,ht,fun z=>⟨(hf z).1,fun i w' hi ei=>?_⟩⟩
     rcases Nat.lt_or_ge i j with c | c
     ·exact (hf z).2.1 i w' c ei
     ·have:i=j:=by omega
      subst this
      rw [ew] at ei
      cases ei
      exact (hf z).2.2
   ·obtain ⟨q,ch,u5,u6,u7,u8,rfl,s8,e8,hq,ht,hf⟩:=h
    rw [List.length_map,hbl] at hf
    have hpe:ch=false→Pend L W q:=fun z=>by
     obtain ⟨rfl,h2⟩:=hf z
     exact ⟨hq,fun w hw=>by
      obtain ⟨i,hi,ei⟩:=List.getElem_of_mem hw
      exact h2 i w hi (by rw [List.getElem?_eq_getElem hi,ei])⟩
    refine hN _ _ _ ?_ ⟨q,ch,_,_,_,_,rfl,rfl,s8,e8,hq,hpe⟩
    cases ch with
    | true =>
     have:=ht rfl
     show tot q+1 < tot p+1
     omega
    | false =>
     rw [(hf rfl).1]
     show tot p+0 < tot p+1
     omega
 obtain ⟨p,u5,u6,u7,u8,rfl,s7,e7,hp⟩:=h
 have hpl:=hp.pn.len
 have hpx:∀ k,k < L→(p.map V.int)[k]?=some (V.int (p.getD k 0)):=fun k hk=>by
  rw [List.getElem?_map,List.getD_eq_getElem?_getD,List.getElem?_eq_getElem (by omega)];rfl
 intro d hd
 have ndl:lp≠d:=ne_of_none e7 hd
 have ed0:upd H7 d (.dK []) d=some (.dK (kvR (phd p 0) fun _=>d)):=upd_same
 have el0:upd H7 d (.dK []) lp=some (.lst (p.map V.int)):=by rw [upd_ne ndl];exact e7
 have sd0:Same H7 (upd H7 d (.dK [])):=same_up (Same.refl H7) hd
 refine ⟨_,rfl,lp,rfl,⟨_,SqL.of el0⟩,enumLO (xs:=p.map V.int) (fun k σ H8=>∃ (c:Int→Addr) (u6 u8:Option V),σ=[some (.ref a),some (.int m),some (.ref l1),some (.ref lp),some (.bl false),u5,u6,u7,u8,some (.ref d)]∧Same H7 H8∧H8 d=some (.dK (kvR (phd p k) c))∧(∀ h∈phd p k,H8 (c h)=some (.lst ((grp p k h).map V.int))∧H7 (c h)=none∧c h≠d)∧(∀ h∈phd p k,∀ h'∈phd p k,c h=c h'→h=h'))
  ⟨fun _=>d,_,_,rfl,sd0,ed0,fun h hh=>by simp [phd,iota] at hh,fun h hh=>by simp [phd,iota] at hh⟩ (fun k σ H8 _ h=>by obtain ⟨_,_,_,_,t8,_⟩:=h;exact SqL.of (t8 _ _ e7)) (fun k x pt σ H8 hx h hpt Ed3 nx3=>?_) (fun σ H8 h=>?_)⟩
 ·obtain ⟨c,u6,u8,rfl,s8,ed,hc,hinj⟩:=h
  have hkl:k < L:=by have:=(List.getElem?_eq_some_iff.mp hx).1;rw [List.length_map,hpl] at this;exact this
  rw [hpx k hkl] at hx
  cases hx
  have hold:=hp.old hW hkl
  have hnew:=hp.new hW hkl
  have hgy:=grp_yes p k
  have hgn:=fun h=>grp_no (p:=p) (k:=k) (h:=h)
  have hgl:=grp_len p k (p.getD k 0)
  have hhl:=phd_len p k
  generalize p.getD k 0=low at hold hnew hgy hgn hgl ⊢
  refine ⟨pt,_,rfl,SqT.of upd_same,rfl,_,_,rfl,_,_,rfl,rfl,?_⟩
  have s9:Same H8 (upd H8 pt (.tup [.int (k:Nat),.int low])):=same_up (Same.refl H8) hpt
  generalize upd H8 pt (.tup [.int (k:Nat),.int low])=H9 at s9 ⊢
  have ed9:=s9 _ _ ed
  refine ⟨_,rfl,d,rfl,.inl ⟨_,.of ed9⟩,_,rfl,by show 0≤sizeLine;decide,fun le hle=>?_⟩
  have s10:Same H9 (upd H9 le (.lst [])):=same_up (Same.refl H9) hle
  have e10:upd H9 le (.lst []) le=some (.lst []):=upd_same
  generalize upd H9 le (.lst [])=H10 at s10 e10 ⊢
  have ed10:=s10 _ _ ed9
  obtain ⟨ol,eol,hol⟩:∃ ol:Addr,(valV (kvR (phd p k) c) (Sum.inl low)).getD (V.ref le)=.ref ol∧H10 ol=some (.lst ((grp p k low).map V.int)):=by
   rw [kvR_val]
   by_cases e:low=(k:Int)
   ·obtain ⟨_,h2,h3⟩:=hnew e
    subst e
    rw [if_neg h3,h2]
    exact ⟨le,rfl,e10⟩
   ·obtain ⟨_,h2⟩:=hold e
    rw [if_pos h2]
    exact ⟨c low,rfl,s10 _ _ (s9 _ _ (hc low h2).1)⟩
  refine ⟨_,DGet.k (k:=Sum.inl low) ed10,?_⟩
  rw [eol]
  refine ⟨_,rfl,by show 1≤sizeLine;decide,fun l2 hl2=>?_⟩
  have s11:Same H10 (upd H10 l2 (.lst [.int k])):=same_up (Same.refl H10) hl2
  have e11:upd H10 l2 (.lst [.int k]) l2=some (.lst [.int k]):=upd_same
  generalize upd H10 l2 (.lst [.int k])=H11 at s11 e11 ⊢
  refine ⟨ol,l2,_,_,rfl,rfl,s11 _ _ hol,e11,?_,fun l3 hl3=>?_⟩
  ·rw [List.length_map]
   exact Nat.le_trans (show (grp p k low).length+1≤1025 by omega) (by decide)
  have s12:Same H11 (upd H11 l3 (.lst ((grp p k low).map V.int++[.int k]))):=same_up (Same.refl H11) hl3
  have e12:upd H11 l3 (.lst ((grp p k low).map V.int++[.int k])) l3=some (.lst ((grp p k low).map V.int++[.int k])):=upd_same
  have s812:=s9.trans (s10.trans (s11.trans s12))
  have n8:H8 l3=none:=(s9.trans (s10.trans s11)).free hl3
  generalize upd H11 l3 (.lst ((grp p k low).map V.int++[.int k]))=H12 at s12 e12 s812 ⊢
  have hput:putK (kvR (phd p k) c) (Sum.inl low:Key) (.ref l3)=kvR (phd p (k+1)) (setC c low l3)∧(∀ h∈phd p (k+1),h≠low→h∈phd p k):=by
   by_cases e:low=(k:Int)
   ·obtain ⟨h1,h2,h3⟩:=hnew e
    subst e
    rw [h1]
    exact ⟨kvR_new l3 h3,fun h hh hn=>(List.mem_append.mp hh).elim id fun z=>absurd (List.mem_singleton.mp z) hn⟩
   ·obtain ⟨h1,h2⟩:=hold e
    rw [h1]
    exact ⟨kvR_in l3 h2,fun h hh _=>hh⟩
  obtain ⟨hput,hold2⟩:=hput
  have n3d:l3≠d:=fun z=>by rw [z,ed] at n8;cases n8
  refine ⟨_,rfl,_,rfl,d,_,rfl,DPut.k (k:=Sum.inl low) (s812 _ _ ed) (by rw [kvR_len];exact Nat.lt_of_le_of_lt (Nat.le_trans hhl (by omega:k≤1024)) (by decide)),?_⟩
  rw [hput]
  have hne3:∀ h∈phd p k,c h≠l3:=fun h hh z=>by
   have:=(hc h hh).1
   rw [z,n8] at this
   cases this
  refine nx3 _ _ ⟨setC c low l3,_,_,rfl,same_over (s8.trans s812) hd,upd_same,fun h hh=>?_,fun h hh h' hh' e=>?_⟩
  ·unfold setC
   by_cases z:h=low
   ·subst z
    rw [if_pos rfl,hgy,upd_ne n3d,e12,List.map_append]
    exact ⟨rfl,s8.free n8,n3d⟩
   ·obtain ⟨q1,q2,q3⟩:=hc h (hold2 h hh z)
    rw [if_neg z,hgn h z,upd_ne q3]
    exact ⟨s812 _ _ q1,q2,q3⟩
  ·unfold setC at e
   by_cases z:h=low
   ·by_cases z':h'=low
    ·rw [z,z']
    ·rw [if_pos z,if_neg z'] at e
     exact absurd e.symm (hne3 h' (hold2 h' hh' z'))
   ·by_cases z':h'=low
    ·rw [if_neg z,if_pos z'] at e
     exact absurd e (hne3 h (hold2 h hh z))
    ·rw [if_neg z,if_neg z'] at e
     exact hinj h (hold2 h hh z) h' (hold2 h' hh' z') e
 obtain ⟨c,u6,u8,rfl,s8,ed,hc,hinj⟩:=h
 rw [List.length_map,hpl] at ed hc hinj
 have hhl:=phd_len p L
 refine ⟨_,rfl,d,_,phd p L,rfl,ed,kvR_keys _ _,fun ns' hpm hs ls hls=>?_⟩
 have e:=phd_sorted hpm hs
 subst e
 have s9:Same H8 (upd H8 ls (.lst ((phd p L).map V.int))):=same_up (Same.refl H8) hls
 have e9:upd H8 ls (.lst ((phd p L).map V.int)) ls=some (.lst ((phd p L).map V.int)):=upd_same
 generalize upd H8 ls (.lst ((phd p L).map V.int))=H9 at s9 e9 ⊢
 refine ⟨ls,rfl,⟨_,SqL.of e9⟩,fun lr hlr=>comp_list (xs:=(phd p L).map V.int) (fun i ys H10=>ys=((phd p L).take i).map (fun h=>V.ref (c h))∧i≤(phd p L).length∧Same H9 H10) ⟨rfl,Nat.zero_le _,same_up (Same.refl H9) hlr⟩ (fun i ys H10 _ h=>SqL.of (h.2.2 _ _ e9)) (by rw [List.length_map];exact Nat.le_trans (Nat.le_trans hhl hmp) (by decide)) (fun i ys H10 h=>?_) (fun i x ys H10 hx h hy=>?_) (fun ys H10 h hy=>?_)⟩
 ·obtain ⟨rfl,h2,_⟩:=h
  rw [List.length_map,List.length_take];omega
 ·obtain ⟨rfl,h2,s10⟩:=h
  rw [List.getElem?_map] at hx
  obtain ⟨h,eh,rfl⟩:=Option.map_eq_some_iff.mp hx
  have hil:i < (phd p L).length:=(List.getElem?_eq_some_iff.mp eh).1
  refine ⟨_,rfl,_,rfl,d,.ref (c h),rfl,?_,hy,?_,hil,same_over s10 hlr⟩
  ·have:=DGet.k (k:=Sum.inl h) (s10 _ _ (s9 _ _ ed))
   rw [kvR_val,if_pos (List.mem_of_getElem? eh)] at this
   exact this
  ·rw [List.take_add_one,eh,List.map_append];rfl
 obtain ⟨rfl,_,s10⟩:=h
 rw [List.length_map,List.take_length] at hy
 rw [hp.camps hW] at q
 have hy':H10 lr=some (.lst (((phd p L).map c).map V.ref)):=by rw [hy,List.map_map];rfl
 refine q lr ((phd p L).map c) H10 (s4.trans (s7.trans (s8.trans (s9.trans s10)))) ((s4.trans (s7.trans (s8.trans s9))).free hlr) hy' (by rw [List.length_map,List.length_map]) ?_ (fun b hb=>?_) (fun j xs ej=>?_)
 ·rw [List.nodup_iff_pairwise_ne,List.pairwise_map]
  exact List.Pairwise.imp_of_mem (fun {x y} hx hy hxy e=>hxy (hinj x hx y hy e)) (List.nodup_iff_pairwise_ne.mp (phd_nodup p L))
 ·obtain ⟨h,hh,rfl⟩:=List.mem_map.mp hb
  exact (s4.trans s7).free (hc h hh).2.1
 ·rw [List.getElem?_map] at ej
  obtain ⟨h,eh,rfl⟩:=Option.map_eq_some_iff.mp ej
  exact ⟨c h,by rw [List.getElem?_map,eh];rfl,s10 _ _ (s9 _ _ (hc h (List.mem_of_getElem? eh)).1)⟩
end
end Gu

set_option Elab.async false
set_option linter.all false
set_option maxRecDepth 100000
set_option maxHeartbeats 4000000
namespace Gu
open PySem L2
section
variable {P:Program} {w:World} {K:PySem.W.Frag} {mg:Str→Option Value} {base:Heap} {f g:Addr} {fd gd:FuncData} {CX:CXT} [NoE CX]
abbrev nRo:List Str:=["_law_rows_here","_law_at","_law_word","_law_made","_law_letter"]
theorem scRo:FnScope nRo ["_law_rows_here","_law_at","_law_word"] (defScope sReadL):=⟨rfl,rfl,rfl,by decide +kernel,rfl,by decide +kernel,by decide +kernel⟩
theorem ok_reado (F:Fun K "_law_read" "_law_read" sReadL f fd) (mt:mg "tuple"=none):FnOk P w K mg base CX 1 f fd ["_law_rows_here","_law_at","_law_word"] (spReadO K):=by
 refine F.okc scRo (fun vs H Q E h=>?_) (fun cdv A outer s H vs Q E hr h=>?_)
 ·obtain ⟨v,u,rows,n,wd,s0,rfl,_⟩:=h
  rfl
 obtain ⟨v,u,rows,n,wd,s0,rfl,dv,dw,GM,hn,h1000,hw,h0,h1,q⟩:=h
 obtain ⟨av,us,rfl,eav,dus⟩:∃ (av:Addr) (us:List V),v=.ref av∧H av=some (.tup us)∧DrL K H (rowsD rows) us:=by
  simp only [Dr] at dv
  exact dv
 obtain ⟨aw,rfl,eaw⟩:=Dr.its_inv dw
 refine ⟨_,pss_cons (ps_set (i:=3) scRo.nd rfl (Or.inl rfl) (pe_lst pa_nil))
  (pss_cons (ps_for PassesOwn.never rfl (pi_tup (pv 2)) (pg_name (i:=4) scRo.nd rfl (Or.inl rfl))
   (pss_cons (ps_expr (pe_bm PySem.F.plainAttrs_list PySem.F.slot_list_append PySem.F.type_list_append mt_append (pv 3) (pa_cons (pe_ix ix_tup (pe_ix ix_tup (pe_ix ix_tup (pv 0) (pv 1) (fun _ _=>rfl)) pe_int (fun _ _=>rfl)) (pv 4) (fun _ _=>rfl)) pa_nil)))
   (pss_one (ps_set (i:=1) scRo.nd rfl (Or.inl rfl) (pe_ix ix_tup (pe_ix ix_tup (pe_ix ix_tup (pv 0) (pv 1) (fun _ _=>rfl)) pe_int (fun _ _=>rfl)) (pv 4) (fun _ _=>rfl))))))
  (pss_one (ps_ret (pe_tup (pa_cons (pe_callTy call_tuple_of rfl mt PyProof.Rows.boot_tuple (pa_cons (pv 3) pa_nil)) (pa_cons (pv 1) pa_nil)))))),?_⟩
 refine ⟨by show 0≤sizeLine;decide,fun lm hlm=>?_⟩
 have s1:=same_up (o:=HO.lst []) (Same.refl H) hlm
 refine ⟨_,rfl,aw,rfl,⟨_,SqT.of (s1 _ _ eaw)⟩,for_tup (xs:=wd.map V.int) (fun i σ H3=>∃ (u4:Option V),σ=[some (.ref av),some (.int (goW rows s0 (wd.take i))),some (.ref aw),some (.ref lm),u4]∧Same H H3∧H3 lm=some (.lst ((outW rows s0 (wd.take i)).map V.int)))
  ⟨_,rfl,s1,upd_same⟩ (fun i σ H3 _ h=>by obtain ⟨_,_,t3,_⟩:=h;exact SqT.of (t3 _ _ eaw)) (fun i x σ H3 hx h=>?_) (fun σ H3 h=>?_)⟩
 ·obtain ⟨u4,rfl,t3,em⟩:=h
  have hil:i < wd.length:=by have:=(List.getElem?_eq_some_iff.mp hx).1;rwa [List.length_map] at this
  have eg:wd[i]?=some wd[i]:=List.getElem?_eq_getElem hil
  obtain ⟨l0,l1⟩:=hw _ (List.getElem_mem hil)
  generalize wd[i]=l at eg l0 l1
  have ex:x=V.int l:=by rw [List.getElem?_map,eg] at hx;exact (Option.some.inj hx).symm
  subst ex
  have hwt:LW n (wd.take i):=fun x hx=>hw x (List.mem_of_mem_take hx)
  obtain ⟨g0,g1⟩:=goW_rg GM hwt h0 h1
  have est:goW rows s0 (wd.take (i+1))=(row rows (goW rows s0 (wd.take i))).2.getD l.toNat 0:=by
   rw [List.take_add_one,eg,Option.toList,goW_app]
   rfl
  have eot:outW rows s0 (wd.take (i+1))=outW rows s0 (wd.take i)++[(row rows (goW rows s0 (wd.take i))).1.getD l.toNat 0]:=by
   rw [List.take_add_one,eg,Option.toList,outW_app]
   rfl
  have hol:(outW rows s0 (wd.take i)).length=i:=by rw [outW_len,List.length_take];omega
  rw [est,eot]
  generalize outW rows s0 (wd.take i)=ms at em hol
  generalize goW rows s0 (wd.take i)=g at g0 g1
  obtain ⟨vr,evr,dvr⟩:=rows_at dus (row_get g0 g1)
  obtain ⟨t,b',c',rfl,et,eb,ec⟩:=rowD_inv (dvr.mono t3)
  have hgl:=GM.len _ (row_mem g0 g1)
  have hpl:=(GM.perm _ (row_mem g0 g1)).len
  have hll:l.toNat < (row rows g).2.length:=by omega
  have hl1:l.toNat < (row rows g).1.length:=by omega
  refine ⟨_,rfl,.inl ⟨rfl,_,SqL.of em⟩,_,rfl,_,rfl,av,_,g,.ref t,rfl,rfl,SqT.of (t3 _ _ eav),atI_of g0 evr,t,_,_,.ref b',rfl,rfl,SqT.of et,atI_nat (j:=0) rfl,_,rfl,b',_,l,V.int ((row rows g).1.getD l.toNat 0),rfl,rfl,SqT.of eb,atI_of l0 ?_,lm,_,_,rfl,rfl,em,small5 (by rw [List.length_map];omega),?_⟩
  ·rw [List.getElem?_map,List.getD_eq_getElem?_getD,List.getElem?_eq_getElem hl1]
   rfl
  have kk:TupK H3 (upd H3 lm (.lst (ms.map V.int++[V.int ((row rows g).1.getD l.toNat 0)]))):=TupK.up (TupK.refl _) em (fun _ z=>by cases z)
  have t4:Same H (upd H3 lm (.lst (ms.map V.int++[V.int ((row rows g).1.getD l.toNat 0)]))):=same_over t3 hlm
  refine ⟨_,rfl,_,rfl,av,_,g,.ref t,rfl,rfl,SqT.of (t4 _ _ eav),atI_of g0 evr,t,_,_,.ref c',rfl,rfl,SqT.of (kk _ _ et),atI_nat (j:=1) rfl,_,rfl,c',_,l,V.int ((row rows g).2.getD l.toNat 0),rfl,rfl,SqT.of (kk _ _ ec),atI_of l0 ?_,_,rfl,t4,?_⟩
  ·rw [List.getElem?_map,List.getD_eq_getElem?_getD,List.getElem?_eq_getElem hll]
   rfl
  ·rw [List.map_append]
   exact upd_same
 ·obtain ⟨u4,rfl,t3,em⟩:=h
  rw [List.length_map,List.take_length] at *
  refine ⟨_,rfl,lm,_,rfl,.inl ⟨SqL.of em,fun t ht=>⟨_,rfl,by show 2≤sizeLine;decide,fun r hr'=>?_⟩⟩⟩
  exact q r t _ (same_up (same_up t3 ht) hr') upd_same (same_up (Same.refl _) hr' _ _ upd_same)
abbrev nNL:List Str:=["_law_letters_here","_law_word","_law_number_here","_law_letter"]
theorem scNL:FnScope nNL ["_law_letters_here","_law_word"] (defScope sNumberL):=⟨rfl,rfl,rfl,by decide +kernel,rfl,by decide +kernel,by decide +kernel⟩
theorem ok_numl (F:Fun K "_law_number" "_law_number" sNumberL f fd):FnOk P w K mg base CX 1 f fd ["_law_letters_here","_law_word"] (spNumL K):=by
 refine F.okc scNL (fun vs H Q E h=>?_) (fun cdv A outer s H vs Q E hr h=>?_)
 ·obtain ⟨n,u,wd,rfl,_⟩:=h
  rfl
 obtain ⟨n,u,wd,rfl,dw,hn,gv⟩:=h
 refine ⟨_,pss_cons (ps_set (i:=2) scNL.nd rfl (Or.inl rfl) pe_int)
  (pss_cons (ps_for PassesOwn.never rfl (pi_tup (pv 1)) (pg_name (i:=3) scNL.nd rfl (Or.inl rfl))
   (pss_one (ps_set (i:=2) scNL.nd rfl (Or.inl rfl) (pe_op op_add (pe_op op_mul (pv 2) (pv 0)) (pv 3)))))
  (pss_one (ps_ret (pv 2)))),?_⟩
 obtain ⟨aw,rfl,eaw⟩:=Dr.its_inv dw
 refine ⟨_,rfl,aw,rfl,⟨_,SqT.of eaw⟩,for_tup (xs:=wd.map V.int) (fun i σ H3=>∃ (u3:Option V),σ=[some (.int n),some (.ref aw),some (.int (numW n (wd.take i))),u3]∧H3=H)
  ⟨_,rfl,rfl⟩ (fun i σ H3 _ h=>by obtain ⟨_,_,t3⟩:=h;rw [t3];exact SqT.of eaw) (fun i x σ H3 hx h=>?_) (fun σ H3 h=>?_)⟩
 ·obtain ⟨u3,rfl,t3⟩:=h
  have hil:i < wd.length:=by have:=(List.getElem?_eq_some_iff.mp hx).1;rwa [List.length_map] at this
  have eg:wd[i]?=some wd[i]:=List.getElem?_eq_getElem hil
  generalize wd[i]=l at eg
  have ex:x=V.int l:=by rw [List.getElem?_map,eg] at hx;exact (Option.some.inj hx).symm
  subst ex
  have est:numW n (wd.take (i+1))=numW n (wd.take i)*(n:Int)+l:=by
   rw [List.take_add_one,eg,Option.toList,numW_snoc]
  rw [est]
  exact ⟨_,rfl,_,rfl,_,_,rfl,rfl,Or.inr ⟨by omega,by omega⟩,_,rfl,_,_,rfl,rfl,_,rfl,t3⟩
 ·obtain ⟨u3,rfl,t3⟩:=h
  rw [List.length_map,List.take_length]
  exact ⟨_,rfl,gv H3 (by rw [t3];exact Same.refl H)⟩
abbrev nFS:List Str:=["_law_letters_here","_law_many","_law_found","_law_turn"]
theorem scFS:FnScope nFS ["_law_letters_here","_law_many"] (defScope sFloorSize):=⟨rfl,rfl,rfl,by decide +kernel,rfl,by decide +kernel,by decide +kernel⟩
theorem ok_fsize (F:Fun K "_law_floor_size" "_law_floor_size" sFloorSize f fd) (mr:mg "range"=none):FnOk P w K mg base CX 1 f fd ["_law_letters_here","_law_many"] (spFSize K):=by
 refine F.okc scFS (fun vs H Q E h=>?_) (fun cdv A outer s H vs Q E hr h=>?_)
 ·obtain ⟨n,m,rfl,_⟩:=h
  rfl
 obtain ⟨n,m,rfl,n0,hn,hm,q⟩:=h
 refine ⟨_,pss_cons (ps_set (i:=2) scFS.nd rfl (Or.inl rfl) pe_int)
  (pss_cons (ps_for PassesOwn.never rfl (pi_range1 rfl mr (pa_cons (pv 1) pa_nil)) (pg_name (i:=3) scFS.nd rfl (Or.inl rfl))
   (pss_one (ps_set (i:=2) scFS.nd rfl (Or.inl rfl) (pe_op op_mul (pv 2) (pv 0)))))
  (pss_one (ps_ret (pv 2)))),?_⟩
 refine ⟨_,rfl,(m:Int),rfl,by omega,by omega,for_range (n:=(m:Int).toNat) (fun i σ H3=>∃ (u3:Option V),σ=[some (.int n),some (.int m),some (.int ((n:Int) ^ i)),u3]∧H3=H) ⟨_,rfl,rfl⟩ (fun i σ H3 hi h=>?_) (fun σ H3 h=>?_)⟩
 ·obtain ⟨u3,rfl,t3⟩:=h
  rw [Int.pow_succ]
  exact ⟨_,rfl,_,rfl,_,_,rfl,rfl,Or.inr ⟨by omega,by omega⟩,_,rfl,t3⟩
 ·obtain ⟨u3,rfl,t3⟩:=h
  rw [Int.toNat_natCast,t3]
  exact ⟨_,rfl,q⟩
abbrev nFg:List Str:=["_law_letters_here","_law_many","_law_number_here","_law_made","_law_turn"]
theorem scFg:FnScope nFg ["_law_letters_here","_law_many","_law_number_here"] (defScope sFigures):=⟨rfl,rfl,rfl,by decide +kernel,rfl,by decide +kernel,by decide +kernel⟩
theorem ok_figs (F:Fun K "_law_figures" "_law_figures" sFigures f fd) (mr:mg "range"=none):FnOk P w K mg base CX 1 f fd ["_law_letters_here","_law_many","_law_number_here"] (spFigs K):=by
 refine F.okc scFg (fun vs H Q E h=>?_) (fun cdv A outer s H vs Q E hr h=>?_)
 ·obtain ⟨n,m,x,rfl,_⟩:=h
  rfl
 obtain ⟨n,m,x,rfl,n0,hn,hm,q⟩:=h
 refine ⟨_,pss_cons (ps_set (i:=3) scFg.nd rfl (Or.inl rfl) (pe_tup pa_nil))
  (pss_cons (ps_for PassesOwn.never rfl (pi_range1 rfl mr (pa_cons (pv 1) pa_nil)) (pg_name (i:=4) scFg.nd rfl (Or.inl rfl))
   (pss_cons (ps_set (i:=3) scFg.nd rfl (Or.inl rfl) (pe_op op_catU (pe_tup (pa_cons (pe_op op_mod (pv 2) (pv 0)) pa_nil)) (pv 3)))
   (pss_one (ps_set (i:=2) scFg.nd rfl (Or.inl rfl) (pe_op op_fdiv (pv 2) (pv 0))))))
  (pss_one (ps_ret (pv 3)))),?_⟩
 refine ⟨by show 0≤sizeLine;decide,fun p0 hp0=>?_⟩
 have s0:=same_up (o:=HO.tup []) (Same.refl H) hp0
 refine ⟨_,rfl,(m:Int),rfl,by omega,by omega,for_range (n:=(m:Int).toNat) (fun i σ H3=>∃ (u4:Option V) (t:Addr),σ=[some (.int n),some (.int m),some (.int (dvn n i x)),some (.ref t),u4]∧Same H H3∧H3 t=some (.tup ((figW n i x).map V.int))) ⟨_,p0,rfl,s0,upd_same⟩ (fun i σ H3 hi h=>?_) (fun σ H3 h=>?_)⟩
 ·obtain ⟨u4,t,rfl,s3,e3⟩:=h
  refine ⟨_,rfl,_,rfl,_,_,rfl,rfl,by omega,by show 1≤sizeLine;decide,fun p hp=>?_⟩
  have s4:=same_up (o:=HO.tup [V.int (dvn n i x % (n:Int))]) (Same.refl H3) hp
  refine ⟨_,rfl,p,t,_,_,rfl,rfl,upd_same,s4 _ _ e3,?_,fun p2 H4 s5 e4=>?_⟩
  ·rw [List.length_map,figW_len]
   show 1+i≤sizeLine
   exact line_le (by omega)
  refine ⟨_,rfl,_,rfl,_,_,rfl,rfl,⟨by omega,by omega⟩,?_⟩
  rw [dvn_snoc]
  refine ⟨_,p2,rfl,s3.trans (s4.trans s5),?_⟩
  show H4 p2=some (.tup ((lit n (i+1) x).reverse.map V.int))
  rw [lit_snoc,List.reverse_append]
  exact e4
 ·obtain ⟨u4,t,rfl,s3,e3⟩:=h
  rw [Int.toNat_natCast] at e3
  exact ⟨_,rfl,q t H3 s3 e3⟩
end
end Gu

set_option Elab.async false
set_option linter.all false
set_option maxRecDepth 100000
set_option maxHeartbeats 4000000
namespace Gu
open PySem L2
section
variable {P:Program} {w:World} {K:PySem.W.Frag} {mg:Str→Option Value} {base:Heap} {f g:Addr} {fd gd:FuncData} {CX:CXT} [NoE CX]
abbrev nNO:List Str:=["letters","word","number","letter"]
theorem scNO:FnScope nNO ["letters","word"] (defScope sNumberOf):=⟨rfl,rfl,rfl,by decide +kernel,rfl,by decide +kernel,by decide +kernel⟩
theorem ok_numberof {Ct aCk:Addr} {dCk:FuncData} (F:Fun K "number_of" "number_of" sNumberOf f fd)
  (Ck:FnOk P w K mg base (CXx P w) 1 aCk dCk ["letters","word"] (spCheckW K Ct)) (bCk:Binds K dCk ["letters","word"] []) (kCk:PySem.W.keepIn K (.ref aCk)=true) (mCk:mg "check_word"=some (.ref aCk)):FnOk P w K mg base (CXx P w) 2 f fd ["letters","word"] (spNumOf K Ct):=by
 refine F.okx scNO (fun vs H Q E h=>?_) (fun cdv A outer s H vs Q E hr h=>?_)
 ·obtain ⟨n,u,wd,rfl,_⟩:=h
  rfl
 obtain ⟨n,u,wd,rfl,dw,hn,h5,gv,gx⟩:=h
 refine ⟨_,pss_cons (ps_expr (pe_call Ck hr rfl mCk kCk bCk .nil (passX fun _ _ _ z=>z) (pa_cons (pv 0) (pa_cons (pv 1) pa_nil))))
  (pss_cons (ps_set (i:=2) scNO.nd rfl (Or.inl rfl) pe_int)
  (pss_cons (ps_for PassesOwn.leaving rfl (pi_tup (pv 1)) (pg_name (i:=3) scNO.nd rfl (Or.inl rfl))
   (pss_one (ps_set (i:=2) scNO.nd rfl (Or.inl rfl) (pe_op op_add (pe_op op_mul (pv 2) (pv 0)) (pv 3)))))
  (pss_one (ps_ret (pv 2))))),?_⟩
 refine ⟨_,rfl,_,rfl,n,u,wd,rfl,dw,by omega,fun hw H2 s2=>?_,fun hw ea H2 s2=>gx hw ea H2 s2⟩
 obtain ⟨aw,rfl,eaw⟩:=Dr.its_inv dw
 refine ⟨_,rfl,aw,rfl,⟨_,SqT.of (s2 _ _ eaw)⟩,for_tup (xs:=wd.map V.int) (fun i σ H3=>∃ (u3:Option V),σ=[some (.int n),some (.ref aw),some (.int (numW n (wd.take i))),u3]∧Same H H3)
  ⟨_,rfl,s2⟩ (fun i σ H3 _ h=>by obtain ⟨_,_,t3⟩:=h;exact SqT.of (t3 _ _ eaw)) (fun i x σ H3 hx h=>?_) (fun σ H3 h=>?_)⟩
 ·obtain ⟨u3,rfl,t3⟩:=h
  have hil:i < wd.length:=by have:=(List.getElem?_eq_some_iff.mp hx).1;rwa [List.length_map] at this
  have eg:wd[i]?=some wd[i]:=List.getElem?_eq_getElem hil
  generalize wd[i]=l at eg
  have ex:x=V.int l:=by rw [List.getElem?_map,eg] at hx;exact (Option.some.inj hx).symm
  subst ex
  have est:numW n (wd.take (i+1))=numW n (wd.take i)*(n:Int)+l:=by
   rw [List.take_add_one,eg,Option.toList,numW_snoc]
  rw [est]
  exact ⟨_,rfl,_,rfl,_,_,rfl,rfl,Or.inr ⟨by omega,by omega⟩,_,rfl,_,_,rfl,rfl,_,rfl,t3⟩
 ·obtain ⟨u3,rfl,t3⟩:=h
  rw [List.length_map,List.take_length]
  exact ⟨_,rfl,gv hw H3 t3⟩
abbrev nWO:List Str:=["letters","many","number","lightest_first","left","place","letter"]
theorem scWO:FnScope nWO ["letters","many","number"] (defScope sWordOf):=⟨rfl,rfl,rfl,by decide +kernel,rfl,by decide +kernel,by decide +kernel⟩
theorem ok_wordof {Cb:Addr} {bmB:List Value} {B newId initId:String} {tm:Tok} (mC:mg "BadCount"=some (.ref Cb)) (xC:PySem.W.excIn K Cb bmB newId=true) (hB:ExcBaseFacts B newId initId bmB) (m_MOST_LETTERS_TOLD:mg "MOST_LETTERS_TOLD"=some (.int 1000 tm)) (mr:mg "range"=none) (mdm:mg "divmod"=none) (mt:mg "tuple"=none) (F:Fun K "word_of" "word_of" sWordOf f fd):FnOk P w K mg base (CXx P w) 1 f fd ["letters","many","number"] (spWordOf K Cb):=by
 refine F.okx scWO (fun vs H Q E h=>?_) (fun cdv A outer s H vs Q E hr h=>?_)
 ·obtain ⟨n,many,x,rfl,_⟩:=h
  rfl
 obtain ⟨n,many,x,rfl,n0,hn,gv,gb⟩:=h
 refine ⟨_,pss_cons (ps_if (pt_not (pt_chain op_le op_le pe_int (pv 1) (pe_glob (v:=.int 1000) rfl m_MOST_LETTERS_TOLD ⟨_,rfl⟩))) (pss_one (ps_raise mC rfl xC hB pe_str)) pss_nil)
  (pss_cons (ps_set (i:=3) scWO.nd rfl (Or.inl rfl) (pe_lst pa_nil))
  (pss_cons (ps_set (i:=4) scWO.nd rfl (Or.inl rfl) (pv 2))
  (pss_cons (ps_for PassesOwn.leaving rfl (pi_range1 rfl mr (pa_cons (pv 1) pa_nil)) (pg_name (i:=5) scWO.nd rfl (Or.inl rfl))
   (pss_cons (ps_asg (pe_callB call_divmod rfl mdm PyProof.Rows.boot_divmod (pa_cons (pv 4) (pa_cons (pv 0) pa_nil))) (pg_tup rfl (pgs_cons (pg_name (i:=4) scWO.nd rfl (Or.inl rfl)) (pgs_cons (pg_name (i:=6) scWO.nd rfl (Or.inl rfl)) pgs_nil))))
   (pss_one (ps_expr (pe_bm PySem.F.plainAttrs_list PySem.F.slot_list_append PySem.F.type_list_append mt_append (pv 3) (pa_cons (pv 6) pa_nil))))))
  (pss_cons (ps_if (pt_cmp (pc_neI (pv 4) pe_int)) (pss_one (ps_raise mC rfl xC hB pe_str)) pss_nil)
  (pss_one (ps_ret (pe_callTy call_tuple_of rfl mt PyProof.Rows.boot_tuple (pa_cons (pe_revL (pv 3) (pe_un un_neg pe_int)) pa_nil)))))))),?_⟩
 have bad:¬ (0≤many∧many≤1000)→∀ ea:Addr,E (.ref ea) (some Cb) H:=fun z ea=>gb (fun y=>z ⟨y.1,y.2.1⟩) ea H (Same.refl _)
 refine ⟨_,rfl,_,_,rfl,rfl,_,rfl,ite2 (fun c1=>⟨_,_,rfl,rfl,_,rfl,?_⟩) (fun c1=>?_)⟩
 rotate_left
 ·have c1':=of_decide_eq_false (Bool.eq_false_iff.mpr c1)
  refine ⟨_,rfl,ite2 (fun _=>bad (by omega)) (fun z=>absurd rfl z)⟩
 have c1':=of_decide_eq_true c1
 refine ite2 (fun z=>bad (fun y=>by rw [decide_eq_true y.2] at z;cases z)) (fun z=>?_)
 have c2':many≤1000:=by
  by_cases y:many≤1000
  ·exact y
  ·exact absurd (by rw [decide_eq_false y];rfl) z
 obtain ⟨m,rfl⟩:=nat_of c1'
 have hgx:GoodX n m x↔dvn n m x=0:=by
  rw [dvn_zero (by omega)]
  unfold GoodX
  rw [Int.toNat_natCast]
  constructor
  ·exact fun h=>h.2.2
  ·exact fun h=>⟨by omega,c2',h⟩
 refine ⟨by show 0≤sizeLine;decide,fun lm hlm=>?_⟩
 have s1:=same_up (o:=HO.lst []) (Same.refl H) hlm
 refine ⟨_,rfl,_,rfl,(m:Int),rfl,by omega,by omega,for_range (n:=(m:Int).toNat) (fun i σ H3=>∃ (u5 u6:Option V),σ=[some (.int n),some (.int m),some (.int x),some (.ref lm),some (.int (dvn n i x)),u5,u6]∧Same H H3∧H3 lm=some (.lst ((lit n i x).map V.int))) ⟨_,_,rfl,s1,upd_same⟩ (fun i σ H3 hi h=>?_) (fun σ H3 h=>?_)⟩
 ·obtain ⟨u5,u6,rfl,s3,e3⟩:=h
  refine ⟨_,rfl,_,rfl,_,_,rfl,⟨by omega,by omega⟩,fun p hp=>?_⟩
  have s4:=same_up (o:=HO.tup [V.int (dvn n i x / (n:Int)),V.int (dvn n i x % (n:Int))]) (Same.refl H3) hp
  refine ⟨p,_,rfl,SqT.of upd_same,rfl,_,_,rfl,_,_,rfl,rfl,?_⟩
  refine ⟨_,rfl,.inl ⟨rfl,_,SqL.of (s4 _ _ e3)⟩,_,rfl,lm,_,_,rfl,rfl,s4 _ _ e3,small5 (by rw [List.length_map,lit_len];omega),?_⟩
  rw [dvn_snoc,lit_snoc,List.map_append]
  exact ⟨_,_,rfl,same_over (s3.trans s4) hlm,upd_same⟩
 ·obtain ⟨u5,u6,rfl,s3,e3⟩:=h
  rw [Int.toNat_natCast] at *
  refine ⟨_,rfl,_,_,rfl,rfl,_,rfl,ite2 (fun c=>?_) (fun c=>?_)⟩
  ·exact fun ea=>gb (fun y=>by have:=hgx.mp y;simp [this] at c) ea H3 s3
  ·have c':dvn n m x=0:=Classical.byContradiction fun y=>c (by simp [y])
   refine ⟨_,rfl,_,rfl,rfl,lm,_,rfl,SqL.of e3,fun p hp=>?_⟩
   have s4:=same_up (o:=HO.lst ((lit n m x).map V.int).reverse) (Same.refl H3) hp
   refine ⟨p,_,rfl,.inl ⟨SqL.of upd_same,fun l hl=>?_⟩⟩
   refine gv (hgx.mpr c') l _ ((s3.trans s4).trans (same_up (Same.refl _) hl)) ?_
   show upd _ l _ l=some (.tup ((lit n m x).reverse.map V.int))
   rw [←List.map_reverse]
   exact upd_same
abbrev nOF:List Str:=["letters","many","count","place"]
theorem scOF:FnScope nOF ["letters","many"] (defScope sOnFloor):=⟨rfl,rfl,rfl,by decide +kernel,rfl,by decide +kernel,by decide +kernel⟩
theorem ok_onfloor {Ct Cb:Addr} {bmB bmB2:List Value} {B newId initId B2 newId2 initId2:String} {tm:Tok} (mC:mg "BadCount"=some (.ref Cb)) (xC:PySem.W.excIn K Cb bmB newId=true) (hB:ExcBaseFacts B newId initId bmB) (mC2:mg "TooMany"=some (.ref Ct)) (xC2:PySem.W.excIn K Ct bmB2 newId2=true) (hB2:ExcBaseFacts B2 newId2 initId2 bmB2) (m_MOST_WORDS:mg "MOST_WORDS"=some (.int 1024 tm)) (mr:mg "range"=none) (F:Fun K "words_on_floor" "words_on_floor" sOnFloor f fd):FnOk P w K mg base (CXx P w) 1 f fd ["letters","many"] (spOnFloor K Ct Cb):=by
 refine F.okx scOF (fun vs H Q E h=>?_) (fun cdv A outer s H vs Q E hr h=>?_)
 ·obtain ⟨n,many,rfl,_⟩:=h
  rfl
 obtain ⟨n,many,rfl,n2,n5,hm,gb,gx,gv⟩:=h
 refine ⟨_,pss_cons (ps_if (pt_cmpR op_lt (pv 1) pe_int (nomark _)) (pss_one (ps_raise mC rfl xC hB pe_str)) pss_nil)
  (pss_cons (ps_set (i:=2) scOF.nd rfl (Or.inl rfl) pe_int)
  (pss_cons (ps_for PassesOwn.leaving rfl (pi_range1 rfl mr (pa_cons (pv 1) pa_nil)) (pg_name (i:=3) scOF.nd rfl (Or.inl rfl))
   (pss_cons (ps_set (i:=2) scOF.nd rfl (Or.inl rfl) (pe_op op_mul (pv 2) (pv 0)))
   (pss_one (ps_if (pt_cmpR op_gt (pv 2) (pe_glob (v:=.int 1024) rfl m_MOST_WORDS ⟨_,rfl⟩) (nomark _)) (pss_one (ps_raise mC2 rfl xC2 hB2 pe_str)) pss_nil))))
  (pss_one (ps_ret (pv 2))))),?_⟩
 refine ⟨_,rfl,_,_,rfl,rfl,_,rfl,ite2 (fun c=>?_) (fun c=>?_)⟩
 ·exact fun ea=>gb (of_decide_eq_true c) ea H (Same.refl _)
 have c':=of_decide_eq_false (Bool.eq_false_iff.mpr c)
 obtain ⟨m,rfl⟩:=nat_of (x:=many) (by omega)
 rw [Int.toNat_natCast] at gx gv
 refine ⟨_,rfl,(m:Int),rfl,by omega,by omega,for_range (n:=(m:Int).toNat) (fun i σ H3=>∃ (u3:Option V),σ=[some (.int n),some (.int m),some (.int ((n ^ i:Nat):Int)),u3]∧H3=H∧n ^ i≤1024) ⟨_,rfl,rfl,by simp⟩ (fun i σ H3 hi h=>?_) (fun σ H3 h=>?_)⟩
 ·obtain ⟨u3,rfl,rfl,h4⟩:=h
  refine ⟨_,rfl,_,rfl,_,_,rfl,rfl,Or.inr ⟨by omega,by omega⟩,?_⟩
  have ep:((n ^ i:Nat):Int)*(n:Int)=((n ^ (i+1):Nat):Int):=by rw [Nat.pow_succ,Int.natCast_mul]
  refine ⟨_,rfl,_,_,rfl,rfl,_,rfl,ite2 (fun c2=>?_) (fun c2=>?_)⟩
  ·have c2':=of_decide_eq_true c2
   rw [ep] at c2'
   have him:i+1≤m:=by omega
   have:=Nat.pow_le_pow_right (show 1≤n by omega) him
   exact fun ea=>gx (by omega) (by omega) ea _ (Same.refl _)
  ·have c2':=of_decide_eq_false (Bool.eq_false_iff.mpr c2)
   rw [ep] at c2'
   refine ⟨some (V.int (0+(i:Int))),?_,rfl,by omega⟩
   show [some (V.int n),some (V.int m),some (V.int (((n ^ i:Nat):Int)*(n:Int))),some (V.int (0+(i:Int)))]=_
   rw [ep]
 ·obtain ⟨u3,rfl,rfl,h4⟩:=h
  rw [Int.toNat_natCast] at *
  exact ⟨_,rfl,gv (by omega) h4⟩
abbrev nFl:List Str:=["guise","many","letters","count"]
theorem scFl:FnScope nFl ["guise","many"] (defScope sFloor):=⟨rfl,rfl,rfl,by decide +kernel,rfl,by decide +kernel,by decide +kernel⟩
theorem csFl:CompS nFl (defScope sFloor) ["number","guise","letters","many"] [none,some 0,some 2,some 1] (csc [(".0",.local),("number",.local),("number_of",.globalImplicit),("worn",.globalImplicit),("word_of",.globalImplicit),("guise",.free),("letters",.free),("many",.free)]):=⟨rfl,by decide +kernel,by decide +kernel,by decide +kernel,rfl,by decide +kernel,by decide +kernel⟩
theorem ok_floor {Ct Cb Cw aR aO aN aW aV:Addr} {dR dO dN dW dV:FuncData} (mr:mg "range"=none) (F:Fun K "floor" "floor" sFloor f fd)
  (R:FnOk P w K mg base (CXx P w) 2 aR dR ["guise"] (spBreadth K)) (bR:Binds K dR ["guise"] []) (kR:PySem.W.keepIn K (.ref aR)=true) (mR:mg "breadth"=some (.ref aR))
  (O:FnOk P w K mg base (CXx P w) 2 aO dO ["letters","many"] (spOnFloor K Ct Cb)) (bO:Binds K dO ["letters","many"] []) (kO:PySem.W.keepIn K (.ref aO)=true) (mO:mg "words_on_floor"=some (.ref aO))
  (N:FnOk P w K mg base (CXx P w) 2 aN dN ["letters","word"] (spNumOf K Cw)) (bN:Binds K dN ["letters","word"] []) (kN:PySem.W.keepIn K (.ref aN)=true) (mN:mg "number_of"=some (.ref aN))
  (W:FnOk P w K mg base (CXx P w) 2 aW dW ["guise","word"] (spWorn K Cw)) (bW:Binds K dW ["guise","word"] []) (kW:PySem.W.keepIn K (.ref aW)=true) (mW:mg "worn"=some (.ref aW))
  (Vo:FnOk P w K mg base (CXx P w) 2 aV dV ["letters","many","number"] (spWordOf K Cb)) (bV:Binds K dV ["letters","many","number"] []) (kV:PySem.W.keepIn K (.ref aV)=true) (mV:mg "word_of"=some (.ref aV)):FnOk P w K mg base (CXx P w) 3 f fd ["guise","many"] (spFloor K Ct Cb):=by
 refine F.okx scFl (fun vs H Q E h=>?_) (fun cdv A outer s H vs Q E hr h=>?_)
 ·obtain ⟨v,one,n,many,rfl,_⟩:=h
  rfl
 obtain ⟨v,one,n,many,rfl,dv,GM,n2,n5,hm,gb,gx,gv⟩:=h
 refine ⟨_,pss_cons (ps_set (i:=2) scFl.nd rfl (Or.inr rfl) (pe_call R hr rfl mR kR bR .nil passN (pa_cons (pv 0) pa_nil)))
  (pss_cons (ps_set (i:=3) scFl.nd rfl (Or.inl rfl) (pe_call O hr rfl mO kO bO .nil (passX fun _ _ _ z=>z) (pa_cons (pv 2) (pa_cons (pv 1) pa_nil))))
  (pss_one (ps_ret (pe_comp rfl csFl (pi_range1 rfl mr (pa_cons (pv 3) pa_nil)) (fun _ _ _ _ _=>pg_name (i:=0) csFl.nd rfl (Or.inl rfl)) (fun _ _ _ _ _=>pe_call N hr rfl mN kN bN .nil passN (pa_cons (pv 2) (pa_cons (pe_call W hr rfl mW kW bW .nil passN (pa_cons (pv 1) (pa_cons (pe_call Vo hr rfl mV kV bV .nil passN (pa_cons (pv 2) (pa_cons (pv 3) (pa_cons (pv 0) pa_nil)))) pa_nil))) pa_nil))))))),?_⟩
 have h1:=GM.some
 obtain ⟨r0,rt,er⟩:∃ r0 rt,one=r0::rt:=by
  cases one with
  | nil=>simp at h1
  | cons r0 rt=>exact ⟨r0,rt,rfl⟩
 have hl0:=(GM.perm r0 (by rw [er];simp)).len
 refine ⟨_,rfl,v,r0,rowsD rt,rfl,(by rw [er] at dv;exact dv),by omega,fun H1 s1=>?_⟩
 refine ⟨_,rfl,_,rfl,n,many,(by rw [hl0];rfl),n2,n5,hm,fun z ea H2 s2=>gb z ea H2 (s1.trans s2),fun z y ea H2 s2=>gx z y ea H2 (s1.trans s2),fun m0 hf=>?_⟩
 replace gv:=gv m0 hf
 obtain ⟨m,rfl⟩:=nat_of m0
 rw [Int.toNat_natCast] at hf gv
 have hm10:=floor_few n2 hf
 refine ⟨_,rfl,((n ^ m:Nat):Int),rfl,by omega,by omega,fun l hl0'=>comp_range (n:=((n ^ m:Nat):Int).toNat) (fun i ys H3=>i≤n ^ m∧ys=((tabW n one m).take i).map V.int∧Same H1 H3) ⟨Nat.zero_le _,rfl,same_up (Same.refl H1) hl0'⟩ (by rw [Int.toNat_natCast];exact line_le (by omega)) (fun i ys H3 h=>?_) (fun i ys H3 hi h hy=>?_) (fun ys H3 h hy=>?_)⟩
 ·obtain ⟨_,rfl,_⟩:=h
  rw [List.length_map,List.length_take,tabW_len]
  omega
 ·obtain ⟨_,rfl,s3⟩:=h
  have hi':i < n ^ m:=by omega
  have gx:GoodX n m (i:Int):=⟨by omega,by omega,by omega,by rw [Int.toNat_natCast,←Int.natCast_pow];omega⟩
  have lf:=figW_lw (n:=n) (by omega) m (i:Int)
  have ll:=figW_len (n:Int) m (i:Int)
  refine ⟨_,rfl,_,rfl,_,rfl,_,rfl,_,rfl,n,m,(i:Int),(by rw [hl0,Int.zero_add];rfl),by omega,by omega,fun _ t H4 s4 e4=>?_,fun z=>absurd gx z⟩
  rw [Int.toNat_natCast] at e4
  refine ⟨v,.ref t,one,n,_,rfl,dv.mono (s1.trans (s3.trans s4)),Dr.tup e4 (DrL.ints _),GM,by omega,by omega,fun _ t5 H5 s5 e5=>?_,fun z=>absurd lf z⟩
  have lo:=outW_lw GM _ 0 lf (Int.le_refl 0) (by omega)
  refine ⟨n,.ref t5,_,(by rw [hl0];rfl),Dr.tup e5 (DrL.ints _),by omega,by rw [outW_len];omega,fun _ H6 s6=>?_,fun z=>absurd lo z⟩
  have s36:=s4.trans (s5.trans s6)
  refine ⟨s36 _ _ hy,by omega,?_,same_over (s3.trans s36) hl0'⟩
  unfold tabW
  rw [iota_map_take _ _ _ hi',List.map_append]
  rfl
 ·obtain ⟨_,rfl,s3⟩:=h
  rw [Int.toNat_natCast,List.take_of_length_le (by rw [tabW_len];exact Nat.le_refl _)] at hy
  exact gv l H3 (s1.trans s3) (Decidable.byContradiction fun z=>by
   cases e:H l with
   | none=>exact z e
   | some o=>have:=s1 l o e;rw [hl0'] at this;cases this) hy
end
end Gu

set_option Elab.async false
set_option linter.all false
set_option maxRecDepth 100000
set_option maxHeartbeats 4000000
namespace Gu
open PySem L2
section
variable {P:Program} {w:World} {K:PySem.W.Frag} {mg:Str→Option Value} {base:Heap} {f g:Addr} {fd gd:FuncData} {CX:CXT} [NoE CX]
abbrev nSt:List Str:=["_law_letters_here"]
theorem scSt:FnScope nSt ["_law_letters_here"] (defScope sStories):=⟨rfl,rfl,rfl,by decide +kernel,rfl,by decide +kernel,by decide +kernel⟩
theorem ok_stories (F:Fun K "_law_stories" "_law_stories" sStories f fd):FnOk P w K mg base CX 1 f fd ["_law_letters_here"] (spStories K):=by
 refine F.okc scSt (fun vs H Q E h=>?_) (fun cdv A outer s H vs Q E hr h=>?_)
 ·obtain ⟨n,rfl,_⟩:=h
  rfl
 obtain ⟨n,rfl,n2,n5,q⟩:=h
 refine ⟨_,pss_one (ps_ret (pe_ix ix_tup (pe_tup (pa_cons pe_int (pa_cons pe_int (pa_cons pe_int (pa_cons pe_int pa_nil))))) (pe_op op_sub (pv 0) pe_int) (fun _ _=>rfl))),?_⟩
 refine ⟨by show 4≤sizeLine;decide,fun tq htq=>?_⟩
 exact ⟨_,rfl,_,_,rfl,rfl,tq,_,_,V.int (stor n),rfl,rfl,SqT.of upd_same,stor_at n2 n5,q _ (same_up (Same.refl H) htq)⟩
abbrev nTb:List Str:=["_law_one","_law_many","_law_letters_here","_law_made","_law_number_here","_law_word"]
theorem scTb:FnScope nTb ["_law_one","_law_many"] (defScope sTable):=⟨rfl,rfl,rfl,by decide +kernel,rfl,by decide +kernel,by decide +kernel⟩
theorem ok_table {aZ aR aG aN:Addr} {dZ dR dG dN:FuncData} (ml:mg "len"=none) (mr:mg "range"=none) (F:Fun K "_law_table" "_law_table" sTable f fd)
  (Z:FnOk P w K mg base CX 1 aZ dZ ["_law_letters_here","_law_many"] (spFSize K)) (bZ:Binds K dZ ["_law_letters_here","_law_many"] []) (kZ:PySem.W.keepIn K (.ref aZ)=true) (mZ:mg "_law_floor_size"=some (.ref aZ))
  (R:FnOk P w K mg base CX 1 aR dR ["_law_rows_here","_law_at","_law_word"] (spReadO K)) (bR:Binds K dR ["_law_rows_here","_law_at","_law_word"] []) (kR:PySem.W.keepIn K (.ref aR)=true) (mR:mg "_law_read"=some (.ref aR))
  (G:FnOk P w K mg base CX 1 aG dG ["_law_letters_here","_law_many","_law_number_here"] (spFigs K)) (bG:Binds K dG ["_law_letters_here","_law_many","_law_number_here"] []) (kG:PySem.W.keepIn K (.ref aG)=true) (mG:mg "_law_figures"=some (.ref aG))
  (N:FnOk P w K mg base CX 1 aN dN ["_law_letters_here","_law_word"] (spNumL K)) (bN:Binds K dN ["_law_letters_here","_law_word"] []) (kN:PySem.W.keepIn K (.ref aN)=true) (mN:mg "_law_number"=some (.ref aN)):FnOk P w K mg base CX 2 f fd ["_law_one","_law_many"] (spTable K):=by
 refine F.okc scTb (fun vs H Q E h=>?_) (fun cdv A outer s H vs Q E hr h=>?_)
 ·obtain ⟨v,one,n,m,rfl,_⟩:=h
  rfl
 obtain ⟨v,one,n,m,rfl,dv,GM,n2,n5,hf,gv⟩:=h
 refine ⟨_,pss_cons (ps_set (i:=2) scTb.nd rfl (Or.inl rfl) (pe_callB call_len_seq rfl ml PySem.boot_len (pa_cons (pe_ix ix_tup (pe_ix ix_tup (pv 0) pe_int (fun _ _=>rfl)) pe_int (fun _ _=>rfl)) pa_nil)))
  (pss_cons (ps_set (i:=3) scTb.nd rfl (Or.inl rfl) (pe_lst pa_nil))
  (pss_cons (ps_for PassesOwn.never rfl (pi_range1 rfl mr (pa_cons (pe_call Z hr rfl mZ kZ bZ .nil passN (pa_cons (pv 2) (pa_cons (pv 1) pa_nil))) pa_nil)) (pg_name (i:=4) scTb.nd rfl (Or.inl rfl))
   (pss_cons (ps_set (i:=5) scTb.nd rfl (Or.inl rfl) (pe_ix ix_tup (pe_call R hr rfl mR kR bR .nil passN (pa_cons (pv 0) (pa_cons pe_int (pa_cons (pe_call G hr rfl mG kG bG .nil passN (pa_cons (pv 2) (pa_cons (pv 1) (pa_cons (pv 4) pa_nil)))) pa_nil)))) pe_int (fun _ _=>rfl)))
   (pss_one (ps_expr (pe_bm PySem.F.plainAttrs_list PySem.F.slot_list_append PySem.F.type_list_append mt_append (pv 3) (pa_cons (pe_call N hr rfl mN kN bN .nil passN (pa_cons (pv 2) (pa_cons (pv 5) pa_nil))) pa_nil))))))
  (pss_one (ps_ret (pv 3))))),?_⟩
 have h1:=GM.some
 have hm10:=floor_few n2 hf
 obtain ⟨r0,rt,er⟩:∃ r0 rt,one=r0::rt:=by
  cases one with
  | nil=>simp at h1
  | cons r0 rt=>exact ⟨r0,rt,rfl⟩
 have hl0:=(GM.perm r0 (by rw [er];simp)).len
 obtain ⟨av,us,rfl,eav,dus⟩:∃ (av:Addr) (us:List V),v=.ref av∧H av=some (.tup us)∧DrL K H (rowsD one) us:=by
  simp only [Dr] at dv
  exact dv
 obtain ⟨x0,ex0,dx0⟩:=rows_at dus (show one[0]?=some r0 by rw [er];rfl)
 obtain ⟨t,b',c',rfl,et,eb,ec⟩:=rowD_inv dx0
 refine ⟨_,rfl,av,_,_,.ref t,rfl,rfl,SqT.of eav,atI_nat (j:=0) ex0,t,_,_,.ref b',rfl,rfl,SqT.of et,atI_nat (j:=0) rfl,b',_,rfl,.inr (SqT.of eb),?_⟩
 rw [List.length_map,hl0]
 refine ⟨by show 0≤sizeLine;decide,fun lm hlm=>?_⟩
 have s1:=same_up (o:=HO.lst []) (Same.refl H) hlm
 refine ⟨_,rfl,_,rfl,n,m,rfl,by omega,by omega,by omega,((n ^ m:Nat):Int),(by rw [Int.natCast_pow]),by omega,by omega,for_range (n:=((n ^ m:Nat):Int).toNat) (fun i σ H3=>∃ (u4 u5:Option V),σ=[some (.ref av),some (.int m),some (.int n),some (.ref lm),u4,u5]∧Same H H3∧H3 lm=some (.lst (((tabW n one m).take i).map V.int))) ⟨_,_,rfl,s1,upd_same⟩ (fun i σ H3 hi h=>?_) (fun σ H3 h=>?_)⟩
 ·obtain ⟨u4,u5,rfl,s3,e3⟩:=h
  have hi':i < n ^ m:=by omega
  have lf:=figW_lw (n:=n) (by omega) m (i:Int)
  have ll:=figW_len (n:Int) m (i:Int)
  refine ⟨_,rfl,_,rfl,_,rfl,_,rfl,n,m,(i:Int),(by rw [Int.zero_add];rfl),by omega,by omega,by omega,fun t H4 s4 e4=>?_⟩
  refine ⟨_,.ref t,one,n,_,0,rfl,dv.mono (s3.trans s4),Dr.tup e4 (DrL.ints _),GM,by omega,by omega,lf,Int.le_refl 0,by omega,fun r t5 H5 s5 e5 et5=>?_⟩
  refine ⟨r,_,_,.ref t5,rfl,rfl,SqT.of e5,atI_nat (j:=0) rfl,?_⟩
  have s35:=s4.trans s5
  refine ⟨_,rfl,.inl ⟨rfl,_,SqL.of (s35 _ _ e3)⟩,_,rfl,_,rfl,n,.ref t5,_,rfl,Dr.tup et5 (DrL.ints _),by omega,fun H6 s6=>?_⟩
  refine ⟨lm,_,_,rfl,rfl,s6 _ _ (s35 _ _ e3),small5 (by rw [List.length_map,List.length_take,tabW_len];omega),?_⟩
  refine ⟨_,_,rfl,same_over (s3.trans (s35.trans s6)) hlm,?_⟩
  unfold tabW
  rw [iota_map_take _ _ _ hi',List.map_append]
  exact upd_same
 ·obtain ⟨u4,u5,rfl,s3,e3⟩:=h
  rw [Int.toNat_natCast,List.take_of_length_le (by rw [tabW_len];exact Nat.le_refl _)] at e3
  exact ⟨_,rfl,gv lm H3 s3 hlm e3⟩
abbrev nT24:List Str:=["_law_guises","_law_many","_law_told_here"]
theorem scT24:FnScope nT24 ["_law_guises","_law_many"] (defScope sTold):=⟨rfl,rfl,rfl,by decide +kernel,rfl,by decide +kernel,by decide +kernel⟩
theorem ok_told24 {Ct Cb:Addr} {bmB bmB2:List Value} {newId newId2:String} (mC:mg "BadCount"=some (.ref Cb)) (xC:PySem.W.excIn K Cb bmB newId=true) (hB:bmB.contains (.type "BaseException")=true) (mC2:mg "TooMany"=some (.ref Ct)) (xC2:PySem.W.excIn K Ct bmB2 newId2=true) (hB2:bmB2.contains (.type "BaseException")=true) (hap:apartIn K Ct Cb=true) (F:Fun K "_law_told" "_law_told" sTold f fd)
  {aW:Addr} {dW:FuncData} (W:FnOk P w K mg base (CXx P w) 4 aW dW ["guises","many"] (spCamps K Ct Cb)) (bW:Binds K dW ["guises","many"] []) (kW:PySem.W.keepIn K (.ref aW)=true) (mW:mg "camps"=some (.ref aW)):FnOk P w K mg base (CXx P w) 5 f fd ["_law_guises","_law_many"] (spTold24 K):=by
 refine F.okc scT24 (fun vs H Q E h=>?_) (fun cdv A outer s H vs Q E hr h=>?_)
 ·obtain ⟨a,gs,n,many,rfl,_⟩:=h
  rfl
 obtain ⟨a,gs,n,many,rfl,hgs,hg,g1,g10,n2,n5,hm,gb,gx,gv⟩:=h
 refine ⟨_,pss_cons (ps_set (i:=2) scT24.nd rfl (Or.inl rfl) pe_str)
  (pss_cons (ps_try2 rfl rfl mC rfl xC hB mC2 rfl xC2 hB2 hap (fun pn E1 D pass=>(pss_one (ps_set (i:=2) scT24.nd rfl (Or.inl rfl) (pe_call W hr rfl mW kW bW .nil pass (pa_cons (pv 0) (pa_cons (pv 1) pa_nil)))))) (fun e=>(pss_one (ps_set (i:=2) scT24.nd rfl (Or.inl rfl) pe_str))) (fun e=>(pss_one (ps_set (i:=2) scT24.nd rfl (Or.inl rfl) pe_str))))
  (pss_one (ps_ret (pv 2)))),?_⟩
 have fin:∀ (x:Str) (σ:St),σ.length=3→(σ.set 2 (some (V.str x)))[2]?=some (some (V.str x)):=fun x σ hσ=>by
  rw [List.getElem?_set_self (by omega)]
 exact ⟨_,rfl,_,rfl,a,gs,n,many,rfl,hgs,hg,g1,g10,n2,n5,hm,fun z ea H1 s1=>.inl ⟨rfl,fun σ hσ=>⟨.str "count",fin _ σ hσ,gb z H1 s1⟩⟩,fun z y ea H1 s1=>.inr ⟨rfl,fun σ hσ=>⟨.str "many",fin _ σ hσ,gx z y H1 s1⟩⟩,fun z y r bs H1 s1 e1 e2 e3 e4 e5 e6=>⟨_,rfl,gv z y r bs H1 s1 e1 e2 e3 e4 e5 e6⟩⟩
end
end Gu

set_option Elab.async false
set_option linter.all false
set_option maxRecDepth 100000
set_option maxHeartbeats 4000000
namespace Gu
open PySem L2
section
variable {P:Program} {w:World} {K:PySem.W.Frag} {mg:Str→Option Value} {base:Heap} {f g:Addr} {fd gd:FuncData} {CX:CXT} [NoE CX]
abbrev nL24:List Str:=["_law_script","_law_letters_here","_law_guises","_law_most","_law_many","_law_handed","_law_due_here","_law_found"]
theorem scL24:FnScope nL24 ["_law_script"] (defScope sLaw):=⟨rfl,rfl,rfl,by decide +kernel,rfl,by decide +kernel,by decide +kernel⟩
theorem csL24:CompS nL24 (defScope sLaw) ["_law_k","_law_letters_here","_law_script"] [none,some 1,some 0] (csc [(".0",.local),("_law_k",.local),("_law_guise",.globalImplicit),("_law_cell",.globalImplicit),("_law_letters_here",.free),("_law_script",.free)]):=⟨rfl,by decide +kernel,by decide +kernel,by decide +kernel,rfl,by decide +kernel,by decide +kernel⟩
abbrev gD (g:List Row):D:=D.tup (rowsD g)
theorem ok_law (ml:mg "len"=none) (mr:mg "range"=none) (mli:mg "list"=none) (F:Fun K "law" "law" sLaw f fd)
  {aC:Addr} {dC:FuncData} (C:FnOk P w K mg base (CXx P w) 7 aC dC ["_law_script","_law_at"] (spCell K)) (bC:Binds K dC ["_law_script","_law_at"] []) (kC:PySem.W.keepIn K (.ref aC)=true) (mC:mg "_law_cell"=some (.ref aC))
  {aL:Addr} {dL:FuncData} (L:FnOk P w K mg base (CXx P w) 7 aL dL ["_law_script","_law_at"] (spLetters K)) (bL:Binds K dL ["_law_script","_law_at"] []) (kL:PySem.W.keepIn K (.ref aL)=true) (mL:mg "_law_letters"=some (.ref aL))
  {aG:Addr} {dG:FuncData} (G:FnOk P w K mg base (CXx P w) 7 aG dG ["_law_letters_here","_law_cell_here"] (spGuise K)) (bG:Binds K dG ["_law_letters_here","_law_cell_here"] []) (kG:PySem.W.keepIn K (.ref aG)=true) (mG:mg "_law_guise"=some (.ref aG))
  {aS:Addr} {dS:FuncData} (S:FnOk P w K mg base (CXx P w) 7 aS dS ["_law_letters_here"] (spStories K)) (bS:Binds K dS ["_law_letters_here"] []) (kS:PySem.W.keepIn K (.ref aS)=true) (mS:mg "_law_stories"=some (.ref aS))
  {aT:Addr} {dT:FuncData} (T:FnOk P w K mg base (CXx P w) 7 aT dT ["_law_guises","_law_many"] (spTold24 K)) (bT:Binds K dT ["_law_guises","_law_many"] []) (kT:PySem.W.keepIn K (.ref aT)=true) (mT:mg "_law_told"=some (.ref aT))
  {aU:Addr} {dU:FuncData} (U:FnOk P w K mg base (CXx P w) 7 aU dU ["_law_guises","_law_many"] (spDue24 K)) (bU:Binds K dU ["_law_guises","_law_many"] []) (kU:PySem.W.keepIn K (.ref aU)=true) (mU:mg "_law_due"=some (.ref aU))
  {aI:Addr} {dI:FuncData} (I:FnOk P w K mg base (CXx P w) 7 aI dI ["_law_found","_law_due_here"] (spLike K 4)) (bI:Binds K dI ["_law_found","_law_due_here"] []) (kI:PySem.W.keepIn K (.ref aI)=true) (mI:mg "_law_like"=some (.ref aI)):FnOk P w K mg base (CXx P w) 8 f fd ["_law_script"] (spLaw K):=by
 refine F.okc scL24 (fun vs H Q E h=>?_) (fun cdv A' outer s H vs Q E' hr h=>?_)
 ·obtain ⟨a,ns,rfl,_⟩:=h
  rfl
 obtain ⟨a,ns,rfl,hS,h63,q⟩:=h
 refine ⟨_,pss_cons (ps_set (i:=1) scL24.nd rfl (Or.inr rfl) (pe_call L hr rfl mL kL bL .nil passN (pa_cons (pv 0) (pa_cons pe_int pa_nil))))
  (pss_cons (ps_comp (i:=2) rfl csL24 (pi_range1 rfl mr (pa_cons (pe_op op_add pe_int (pe_op op_mod (pe_call C hr rfl mC kC bC .nil passN (pa_cons (pv 0) (pa_cons pe_int pa_nil))) pe_int)) pa_nil)) (fun _ _ _ _ _=>pg_name (i:=0) csL24.nd rfl (Or.inl rfl)) (fun _ _ _ _ _=>pe_call G hr rfl mG kG bG .nil passN (pa_cons (pv 1) (pa_cons (pe_call C hr rfl mC kC bC .nil passN (pa_cons (pv 2) (pa_cons (pe_op op_add pe_int (pv 0)) pa_nil))) pa_nil))) scL24.nd rfl rfl)
  (pss_cons (ps_set (i:=3) scL24.nd rfl (Or.inl rfl) (pe_call S hr rfl mS kS bS .nil passN (pa_cons (pv 1) pa_nil)))
  (pss_cons (ps_set (i:=4) scL24.nd rfl (Or.inl rfl) (pe_op op_mod (pe_call C hr rfl mC kC bC .nil passN (pa_cons (pv 0) (pa_cons pe_int pa_nil))) (pe_op op_add (pv 3) pe_int)))
  (pss_cons (ps_set (i:=5) scL24.nd rfl (Or.inl rfl) (pe_callTy call_list_of rfl mli PyProof.Rows.boot_list (pa_cons (pv 2) pa_nil)))
  (pss_cons (ps_if (PW.pt (pw_or (pt_cmpR op_ne (pe_call T hr rfl mT kT bT .nil passN (pa_cons (pv 5) (pa_cons (pe_op op_add (pv 3) pe_int) pa_nil))) pe_str (nomark _)) (pw_or1 (pt_cmpR op_ne (pe_call T hr rfl mT kT bT .nil passN (pa_cons (pv 5) (pa_cons (pe_op op_sub (pe_op op_sub pe_int pe_int) (pv 3)) pa_nil))) pe_str (nomark _))))) (pss_one (ps_ret pe_bl)) pss_nil)
  (pss_cons (ps_set (i:=6) scL24.nd rfl (Or.inl rfl) (pe_call U hr rfl mU kU bU .nil passN (pa_cons (pv 2) (pa_cons (pv 4) pa_nil))))
  (pss_cons (ps_set (i:=7) scL24.nd rfl (Or.inl rfl) (pe_call T hr rfl mT kT bT .nil passN (pa_cons (pv 5) (pa_cons (pv 4) pa_nil))))
  (pss_cons (ps_if (PW.pt (pw_or (pt_not (pt_val (pe_call I hr rfl mI kI bI .nil passN (pa_cons (pv 7) (pa_cons (pv 6) pa_nil))))) (pw_or1 (pt_cmpR (op_neL hr.units0) (pv 5) (pv 2) (nomark _))))) (pss_one (ps_ret pe_bl)) pss_nil)
  (pss_cons (ps_expr (pe_bm PySem.F.plainAttrs_list PySem.F.slot_list_append PySem.F.type_list_append mt_append (pe_ix ix_list (pv 7) pe_int (fun _ _=>rfl)) (pa_cons (pe_op op_sub pe_int pe_int) pa_nil)))
  (pss_cons (ps_expr (pe_bm0 PySem.F.plainAttrs_list PySem.F.slot_list_pop PySem.F.type_list_pop mt_pop (pv 7)))
  (pss_cons (ps_if (pt_not (pt_val (pe_call I hr rfl mI kI bI .nil passN (pa_cons (pe_call T hr rfl mT kT bT .nil passN (pa_cons (pv 5) (pa_cons (pe_op op_fdiv (pv 4) pe_int) pa_nil))) (pa_cons (pe_call U hr rfl mU kU bU .nil passN (pa_cons (pv 2) (pa_cons (pe_op op_fdiv (pv 4) pe_int) pa_nil))) pa_nil))))) (pss_one (ps_ret pe_bl)) pss_nil)
  (pss_cons (ps_if (pt_not (pt_val (pe_call I hr rfl mI kI bI .nil passN (pa_cons (pe_call T hr rfl mT kT bT .nil passN (pa_cons (pe_slice sl_list (pv 5) po_none (po_some pe_int)) (pa_cons (pv 4) pa_nil))) (pa_cons (pe_call U hr rfl mU kU bU .nil passN (pa_cons (pe_slice sl_list (pv 2) po_none (po_some pe_int)) (pa_cons (pv 4) pa_nil))) pa_nil))))) (pss_one (ps_ret pe_bl)) pss_nil)
  (pss_one (ps_ret (pe_call I hr rfl mI kI bI .nil passN (pa_cons (pe_call T hr rfl mT kT bT .nil passN (pa_cons (pv 5) (pa_cons (pv 4) pa_nil))) (pa_cons (pv 6) pa_nil))))))))))))))))),?_⟩
 have n2:=letN_ge ns 0
 have n5:=letN_le ns 0
 generalize hn:letN ns 0=n at *
 have hs:0 < stor n+1∧stor n≤10∧0≤stor n:=by
  unfold stor
  split
  ·omega
  ·split
   ·omega
   ·split<;>omega
 refine ⟨_,rfl,a,ns,0,rfl,hS,h63,by omega,?_⟩
 rw [hn]
 have c4:=Int.emod_nonneg (cell ns 1) (show (4:Int)≠0 by decide)
 have c5:=Int.emod_lt_of_pos (cell ns 1) (show (0:Int) < 4 by decide)
 obtain ⟨N,hN⟩:=nat_of (x:=1+cell ns 1 % 4) (by omega)
 refine ⟨_,rfl,a,ns,1,rfl,hS,h63,by omega,_,_,rfl,rfl,pmod,_,_,rfl,rfl,1+cell ns 1 % 4,rfl,by omega,by omega,fun lg hlg=>comp_range (n:=(1+cell ns 1 % 4).toNat) (fun i ys H2=>ys.length=i∧Same H H2∧∃ gs:List (List Row),gs.length=i∧(∀ g∈gs,GoodM n g∧g.length≤8)∧DrL K H2 (gs.map gD) ys) ⟨rfl,same_up (Same.refl H) hlg,[],rfl,fun g hg=>absurd hg (by simp),DrL.nil⟩ (Nat.le_trans (by omega:(1+cell ns 1 % 4).toNat≤4) (by decide)) (fun i ys H2 h=>h.1) (fun i ys H2 hi h hy=>?_) (fun ys H2 h hy=>?_)⟩
 ·obtain ⟨hyl,s2,gs,hgl,hgs,dgs⟩:=h
  refine ⟨_,rfl,_,rfl,_,rfl,_,_,rfl,rfl,a,ns,2+i,(by show [V.ref a,V.int (2+(0+(i:Int)))]=[V.ref a,V.int ((2+i:Nat):Int)];rw [show (2+(0+(i:Int)))=((2+i:Nat):Int) by omega]),s2.seq hS,h63,by omega,n,_,rfl,n2,n5,fun v3 H3 r3 s3 G3 l3 d3=>?_⟩
  have hy3:=s3 _ _ hy
  have kk:TupK H3 (upd H3 lg (.lst (ys++[v3]))):=TupK.up (TupK.refl _) hy3 (fun _ z=>by cases z)
  refine ⟨hy3,by rw [List.length_append,hyl];rfl,same_over (s2.trans s3) hlg,gs++[shr r3],by rw [List.length_append,hgl];rfl,fun g hg=>?_,?_⟩
  ·rcases List.mem_append.mp hg with z | z
   ·exact hgs g z
   ·rw [List.mem_singleton.mp z]
    exact ⟨shr_good G3,by have:=shr_le G3;omega⟩
  ·rw [List.map_append]
   exact DrL.append ((dgs.mono s3).keyed kk (gs_key _)) (DrL.one (d3.keyed kk (by have:=gs_key [shr r3];simp only [List.map_cons,List.map_nil,D.keyL] at this;exact this.1)))
 obtain ⟨hyl,s2,gs,hgl,hgs,dgs⟩:=h
 have hgN:gs.length=N:=by omega
 have hg1:1≤gs.length:=by omega
 have hg4:gs.length≤10:=by omega
 clear hlg
 refine ⟨_,rfl,n,rfl,n2,n5,fun H3 s3=>?_⟩
 refine ⟨_,rfl,a,ns,6,rfl,(s2.trans s3).seq hS,h63,by omega,_,rfl,_,_,rfl,rfl,_,_,rfl,rfl,hs.1,?_⟩
 have m0:=Int.emod_nonneg (cell ns 6) (show stor n+1≠0 by omega)
 have m1:=Int.emod_lt_of_pos (cell ns 6) hs.1
 obtain ⟨m,hm⟩:=nat_of m0
 have hmt:(cell ns 6 % (stor n+1)).toNat=m:=by rw [hm];exact Int.toNat_natCast m
 have hmp:n ^ m≤1024:=Nat.le_of_not_lt fun z=>absurd ((stor_iff n2 n5 m).mpr z) (by omega)
 have hmi:V.int (cell ns 6 % (stor n+1))=V.int (m:Int):=by rw [hm]
 have n0:0 < n:=by omega
 have hys:=s3 _ _ hy
 refine ⟨_,rfl,lg,ys,rfl,.inl (SqL.of hys),fun lh hlh=>?_⟩
 have s4:Same H3 (upd H3 lh (.lst ys)):=same_up (Same.refl H3) hlh
 have e4:upd H3 lh (.lst ys) lh=some (.lst ys):=upd_same
 generalize upd H3 lh (.lst ys)=H4 at s4 e4 ⊢
 have dg4:=dgs.mono (s3.trans s4)
 have eg4:=s4 _ _ hys
 have gh:∀ {H'},Same H4 H'→GsAt K H' lh gs:=fun s=>⟨ys,s _ _ e4,dg4.mono s⟩
 have gg:∀ {H'},Same H4 H'→GsAt K H' lg gs:=fun s=>⟨ys,s _ _ eg4,dg4.mono s⟩
 have big:1024 < n ^ (stor n+1).toNat:=(stor_iff n2 n5 (stor n+1).toNat).mp (by omega)
 refine ⟨_,rfl,_,rfl,_,_,rfl,rfl,lh,gs,n,stor n+1,rfl,gh (Same.refl _),hgs,hg1,hg4,n2,n5,by omega,fun z=>absurd z (by omega),fun _ _ H5 s5=>?_,fun _ z=>absurd z (by omega)⟩
 refine ⟨rfl,_,rfl,iteF ?_⟩
 refine ⟨_,rfl,_,_,rfl,rfl,_,rfl,_,_,rfl,rfl,lh,gs,n,_,rfl,gh s5,hgs,hg1,hg4,n2,n5,by omega,fun z H6 s6=>?_,fun z=>absurd z (by omega),fun z=>absurd z (by omega)⟩
 refine ⟨rfl,_,rfl,iteF ?_⟩
 have s46:=s5.trans s6
 clear s5 big
 refine ⟨_,rfl,_,rfl,lg,gs,n,m,(by show [V.ref lg,V.int (cell ns 6 % (stor n+1))]=_;rw [hm]),gg s46,hgs,hg1,hg4,n2,n5,hmp,fun ld bd H7 s7 f7 e7 l7 nd7 fb7 x7=>?_⟩
 refine ⟨_,rfl,_,rfl,lh,gs,n,_,rfl,gh (s46.trans s7),hgs,hg1,hg4,n2,n5,by omega,fun z=>absurd z (by omega),fun _ z=>absurd z (by rw [hmt];omega),fun _ _ lf bf H8 s8 f8 e8 l8 nd8 fb8 x8=>?_⟩
 rw [hmt] at l8 x8
 have hW:∀ w∈gs.map (fun g=>tabW n g m),IsP (n ^ m) w:=fun w hw=>by
  obtain ⟨g,hg,rfl⟩:=List.mem_map.mp hw
  exact tab_perm (hgs g hg).1 (hgs g hg).2 n0
 obtain ⟨xs0,ex0,hx0⟩:=campsL_some hW (Nat.pow_pos n0)
 have cs:=campsL_small (W:=gs.map (fun g=>tabW n g m)) hmp
 generalize hCL:campsL (n ^ m) (gs.map fun g=>tabW n g m) (n ^ m)=CL at *
 have dd:∀ {H'},Same H7 H'→Dr K H' (dLL CL) (.ref ld):=fun s=>drLL (s _ _ e7) l7 fun j xs e=>by obtain ⟨b,h1,h2⟩:=x7 j xs e;exact ⟨b,h1,s _ _ h2⟩
 refine ⟨_,rfl,_,rfl,.ref lf,.ref ld,dLL CL,rfl,drLL e8 l8 x8,dd s8,Nat.lt_of_le_of_lt (dLL_dep _) (by decide),cs,fun H9 s9=>⟨_,rfl,iteF ?_⟩⟩
 have s49:=s46.trans (s7.trans (s8.trans s9))
 refine ⟨_,rfl,_,rfl,lh,lg,ys,rfl,rfl,SqL.of (s49 _ _ e4),SqL.of (s49 _ _ eg4),fun v hv=>?_,_,rfl,iteF ?_⟩
 ·obtain ⟨i,hi,ei⟩:=List.getElem_of_mem hv
  obtain ⟨v',ev,dv⟩:=dg4.get (show (gs.map gD)[i]?=some (gD (gs[i]'(by omega))) by rw [List.getElem?_map,List.getElem?_eq_getElem (show i < gs.length by omega)];rfl)
  rw [List.getElem?_eq_getElem hi,ei] at ev
  cases ev
  simp only [Dr] at dv
  obtain ⟨c,_,e,_⟩:=dv
  exact ⟨c,e⟩
 obtain ⟨b0,eb0,hb0⟩:=x8 0 xs0 ex0
 have e89:=s9 _ _ e8
 have h09:=s9 _ _ hb0
 have hL:n ^ m≤1024:=hmp
 have hbl:0 < bf.length:=by rw [l8];exact (List.getElem?_eq_some_iff.mp ex0).1
 have nb0:b0≠lf:=fun z=>by
  have:=fb8 b0 (List.mem_of_getElem? eb0)
  rw [z,e8] at hb0
  have hh:=congrArg (fun o=>match o with | some (HO.lst (V.ref _::_))=>true | _=>false) hb0
  cases bf with
  | nil=>cases hbl
  | cons b bf=>cases xs0<;>simp at hh
 have f0:=fb8 b0 (List.mem_of_getElem? eb0)
 refine ⟨_,rfl,lf,_,_,.ref b0,rfl,rfl,SqL.of e89,atI_nat (j:=0) (by rw [List.getElem?_map,eb0];rfl),.inl ⟨rfl,_,SqL.of h09⟩,_,_,rfl,rfl,b0,_,_,rfl,rfl,h09,by rw [List.length_map];exact Nat.lt_of_le_of_lt (Nat.le_trans hx0 hL) (by decide),?_⟩
 have t1:Same H7 (upd H9 b0 (.lst (xs0.map V.int++[.int (0 - 1)]))):=same_over (s8.trans s9) f0
 have t2:upd H9 b0 (.lst (xs0.map V.int++[.int (0 - 1)])) lf=some (.lst (bf.map V.ref)):=by rw [upd_ne nb0.symm];exact e89
 have hlast:(bf.map V.ref)[(bf.map V.ref).length - 1]?=some ((bf.map V.ref)[(bf.map V.ref).length - 1]'(by rw [List.length_map];omega)):=List.getElem?_eq_getElem _
 refine ⟨_,rfl,.inl ⟨rfl,_,SqL.of t2⟩,lf,_,_,rfl,rfl,t2,hlast,?_⟩
 have t3:Same H7 (upd (upd H9 b0 (.lst (xs0.map V.int++[.int (0 - 1)]))) lf (.lst (bf.map V.ref).dropLast)):=same_over t1 f8
 generalize upd (upd H9 b0 (.lst (xs0.map V.int++[.int (0 - 1)]))) lf (.lst (bf.map V.ref).dropLast)=H10 at t3 ⊢
 have s410:=s46.trans (s7.trans t3)
 have hm2:cell ns 6 % (stor n+1) / 2=((m / 2:Nat):Int):=by omega
 have hmt2:(cell ns 6 % (stor n+1) / 2).toNat=m / 2:=by omega
 have hmp2:n ^ (m / 2)≤1024:=Nat.le_trans (Nat.pow_le_pow_right n0 (by omega)) hmp
 clear t1 t2 hlast x8 e89 h09 e8
 refine ⟨_,rfl,_,rfl,_,_,rfl,rfl,⟨by decide,by decide⟩,lh,gs,n,_,rfl,gh s410,hgs,hg1,hg4,n2,n5,by omega,fun z=>absurd z (by omega),fun _ z=>absurd z (by rw [hmt2];omega),fun _ _ la ba H11 s11 f11 e11 l11 _ _ x11=>?_⟩
 rw [hmt2] at l11 x11
 refine ⟨_,rfl,_,rfl,_,_,rfl,rfl,⟨by decide,by decide⟩,lg,gs,n,m / 2,(by show [V.ref lg,V.int (cell ns 6 % (stor n+1) / 2)]=_;rw [hm2]),gg (s410.trans s11),hgs,hg1,hg4,n2,n5,hmp2,fun lb bb H12 s12 f12 e12 l12 _ _ x12=>?_⟩
 have fin:∀ {H' H'':Hp} {CL:List (List Int)} {r:Addr} {bs:List Addr},Same H' H''→H' r=some (.lst (bs.map V.ref))→bs.length=CL.length→(∀ (j:Nat) (xs:List Int),CL[j]?=some xs→∃ b,bs[j]?=some b∧H' b=some (.lst (xs.map V.int)))→Dr K H'' (dLL CL) (.ref r):=fun s e l x=>drLL (s _ _ e) l fun j xs e=>by obtain ⟨b,h1,h2⟩:=x j xs e;exact ⟨b,h1,s _ _ h2⟩
 refine ⟨.ref la,.ref lb,dLL _,rfl,fin s12 e11 l11 x11,fin (Same.refl _) e12 l12 x12,Nat.lt_of_le_of_lt (dLL_dep _) (by decide),campsL_small hmp2,fun H13 s13=>⟨_,rfl,iteF ?_⟩⟩
 have s1013:=s11.trans (s12.trans s13)
 have s413:=s410.trans s1013
 clear x11 x12
 have cut1:cutV ys none (some 1)=ys.take 1:=cutV_to ys 1 (by omega)
 have hgt:(gs.take 1).length=1:=by rw [List.length_take];omega
 have dt:∀ {H'},Same H4 H'→DrL K H' ((gs.take 1).map gD) (ys.take 1):=fun s=>by
  have:=dg4.mono s
  obtain ⟨g0,gr,rfl⟩:∃ g0 gr,gs=g0::gr:=by
   cases gs with
   | nil=>simp at hg1
   | cons g0 gr=>exact ⟨g0,gr,rfl⟩
  simp only [List.map_cons,DrL] at this
  obtain ⟨w0,wr,rfl,dw,_⟩:=this
  exact DrL.one dw
 have hgs1:∀ g∈gs.take 1,GoodM n g∧g.length≤8:=fun g hg=>hgs g (List.mem_of_mem_take hg)
 refine ⟨_,rfl,1,rfl,lh,ys,rfl,SqL.of (s413 _ _ e4),fun p1 hp1=>?_⟩
 rw [cut1]
 have s14:Same H13 (upd H13 p1 (.lst (ys.take 1))):=same_up (Same.refl H13) hp1
 have e14:upd H13 p1 (.lst (ys.take 1)) p1=some (.lst (ys.take 1)):=upd_same
 generalize upd H13 p1 (.lst (ys.take 1))=H14 at s14 e14 ⊢
 refine ⟨_,rfl,p1,gs.take 1,n,_,rfl,⟨_,e14,dt (s413.trans s14)⟩,hgs1,by omega,by omega,n2,n5,by omega,fun z=>absurd z (by omega),fun _ z=>absurd z (by rw [hmt];omega),fun _ _ la ba H15 s15 f15 e15 l15 _ _ x15=>?_⟩
 rw [hmt] at l15 x15
 have s415:=s413.trans (s14.trans s15)
 refine ⟨_,rfl,1,rfl,lg,ys,rfl,SqL.of (s415 _ _ eg4),fun p2 hp2=>?_⟩
 rw [cut1]
 have s16:Same H15 (upd H15 p2 (.lst (ys.take 1))):=same_up (Same.refl H15) hp2
 have e16:upd H15 p2 (.lst (ys.take 1)) p2=some (.lst (ys.take 1)):=upd_same
 generalize upd H15 p2 (.lst (ys.take 1))=H16 at s16 e16 ⊢
 refine ⟨_,rfl,p2,gs.take 1,n,m,(by show [V.ref p2,V.int (cell ns 6 % (stor n+1))]=_;rw [hm]),⟨_,e16,dt (s415.trans s16)⟩,hgs1,by omega,by omega,n2,n5,hmp,fun lb bb H17 s17 f17 e17 l17 _ _ x17=>?_⟩
 refine ⟨.ref la,.ref lb,dLL _,rfl,fin (s16.trans s17) e15 l15 x15,fin (Same.refl _) e17 l17 x17,Nat.lt_of_le_of_lt (dLL_dep _) (by decide),campsL_small hmp,fun H18 s18=>⟨_,rfl,iteF ?_⟩⟩
 have s1318:=s14.trans (s15.trans (s16.trans (s17.trans s18)))
 have s418:=s413.trans s1318
 refine ⟨_,rfl,_,rfl,lh,gs,n,_,rfl,gh s418,hgs,hg1,hg4,n2,n5,by omega,fun z=>absurd z (by omega),fun _ z=>absurd z (by rw [hmt];omega),fun _ _ la ba H19 s19 f19 e19 l19 _ _ x19=>?_⟩
 rw [hmt] at l19 x19
 rw [hCL] at l19 x19
 exact ⟨_,rfl,.ref la,.ref ld,dLL CL,rfl,fin (Same.refl _) e19 l19 x19,dd (t3.trans (s1013.trans (s1318.trans s19))),Nat.lt_of_le_of_lt (dLL_dep _) (by decide),cs,fun H20 s20=>q H20⟩
end
end Gu

set_option Elab.async false
set_option linter.all false
set_option maxRecDepth 100000
set_option maxHeartbeats 4000000
namespace Gu
open PySem L2
structure FA (K:PySem.W.Frag) (f:Addr) (x:Str) (st:Stmt):Prop where
 a:PySem.W.nsIn K mainGlobals x=some (some (.ref f))
 l:∃ oc od kV dc pm an cd ct sl,K.lookup f=some ⟨oc,od,.func (PySem.W.fnOf x x (defArgs st) (defBody st) (defScope st) .none kV dc pm an cd ct),sl⟩∧PySem.W.codeIn K cd x=true
 k:PySem.W.keepIn K (.ref f)=true
theorem FA.of {K:PySem.W.Frag} {f:Addr} {x:Str} {st:Stmt} {oc kV dc pm cd ct:Value} {od an:Option Addr} {sl:Array (Option Value)} (a:PySem.W.nsIn K mainGlobals x=some (some (.ref f))) (l:K.lookup f=some ⟨oc,od,.func (PySem.W.fnOf x x (defArgs st) (defBody st) (defScope st) .none kV dc pm an cd ct),sl⟩) (c:PySem.W.codeIn K cd x=true) (k:PySem.W.keepIn K (.ref f)=true):FA K f x st:=⟨a,⟨_,_,_,_,_,_,_,_,_,l,c⟩,k⟩
theorem FA.go {K:PySem.W.Frag} {f:Addr} {x:Str} {st:Stmt} {h:Heap} {mg:Str→Option Value} (A:FA K f x st) (X:K.In h) (G:h.Ns mainGlobals mg):∃ fd,Fun K x x st f fd∧mg x=some (.ref f)∧PySem.W.keepIn K (.ref f)=true:=by
 obtain ⟨a,⟨_,_,_,_,_,_,_,_,_,l,c⟩,k⟩:=A
 exact ⟨_,fun_mk l c k,PySem.W.mg_of X G a,k⟩

abbrev fnY (x:Str) (st:Stmt) (kV dc pm:Value) (an:Option Addr) (cd ct:Value):=PySem.W.fnOf x x (defArgs st) (defBody st) (defScope st) .none kV dc pm an cd ct
section
variable {K:PySem.W.Frag} {x:Str} {st:Stmt} {f:Addr} {fd:FuncData}
theorem bnd1 {a:Str} (F:Fun K x x st f fd) (h:∀ (kV dc pm:Value) (an:Option Addr) (cd ct u:Value),bindArgs (fnY x st kV dc pm an cd ct) ⟨[u],[]⟩=pure [(a,u)]):Binds K fd [a] []:=F.binds fun _ _ _ _ _ _ us hl=>by obtain ⟨_,rfl⟩:=len1 hl;exact h _ _ _ _ _ _ _
theorem bnd2 {a b:Str} (F:Fun K x x st f fd) (h:∀ (kV dc pm:Value) (an:Option Addr) (cd ct u v:Value),bindArgs (fnY x st kV dc pm an cd ct) ⟨[u,v],[]⟩=pure [(a,u),(b,v)]):Binds K fd [a,b] []:=F.binds fun _ _ _ _ _ _ us hl=>by obtain ⟨_,_,rfl⟩:=len2 hl;exact h _ _ _ _ _ _ _ _
theorem bnd3 {a b c:Str} (F:Fun K x x st f fd) (h:∀ (kV dc pm:Value) (an:Option Addr) (cd ct u v w:Value),bindArgs (fnY x st kV dc pm an cd ct) ⟨[u,v,w],[]⟩=pure [(a,u),(b,v),(c,w)]):Binds K fd [a,b,c] []:=F.binds fun _ _ _ _ _ _ us hl=>by obtain ⟨_,_,_,rfl⟩:=len3 hl;exact h _ _ _ _ _ _ _ _ _
end
theorem all_mk {l:PySem.W.OpenLaw} {w:World} {K:PySem.W.Frag} {h:Heap} {mg:Str→Option Value} {fa f1 f2 f3 f4 f5 f6 f7 f8 f9 f10 f11 f12 f13 f14 f15 f16 f17 f18 f19 f20 f21 f22 f23 f24 f25 f26 f27 f28 f29:Addr} (X:K.In h) (G:h.Ns mainGlobals mg) (hfa:mg "law"=some (.ref fa))
  {od29 an29:Option Addr} {sl29:Array (Option Value)} {tk1 tk2:Tok}
  {oc29 kV29 dc29 pm29 cd29 ct29:Value}
  (h1:FA K f1 "breadth" sBreadth)
  (h2:FA K f2 "read_from" sReadF)
  (h3:FA K f3 "check_word" sCheckW)
  (h4:FA K f4 "worn" sWorn)
  (h5:FA K f5 "number_of" sNumberOf)
  (h6:FA K f6 "word_of" sWordOf)
  (h7:FA K f7 "words_on_floor" sOnFloor)
  (h8:FA K f8 "floor" sFloor)
  (h9:FA K f9 "camps" sCamps)
  (h10:FA K f10 "led_to" sLedTo)
  (h11:FA K f11 "_law_floor_size" sFloorSize)
  (h12:FA K f12 "_law_read" sReadL)
  (h13:FA K f13 "_law_figures" sFigures)
  (h14:FA K f14 "_law_number" sNumberL)
  (h15:FA K f15 "_law_table" sTable)
  (h16:FA K f16 "_law_cell" sCell)
  (h17:FA K f17 "_law_letters" sLetters)
  (h18:FA K f18 "_law_in_line" sInLine)
  (h19:FA K f19 "_law_shrunk" sShrunk)
  (h20:FA K f20 "_law_numbers" sNumbers)
  (h21:FA K f21 "_law_rearranged" sRear)
  (h22:FA K f22 "_law_rows" sRows)
  (h23:FA K f23 "_law_guise" sGuise)
  (h24:FA K f24 "_law_stories" sStories)
  (h25:FA K f25 "_law_whole" sWhole)
  (h26:FA K f26 "_law_like" sLike)
  (h27:FA K f27 "_law_due" sDueL)
  (h28:FA K f28 "_law_told" sTold)
  (a29:PySem.W.nsIn K mainGlobals "law"=some (some (.ref f29))) (l29:K.lookup f29=some ⟨oc29,od29,.func (PySem.W.fnOf "law" "law" (defArgs sLaw) (defBody sLaw) (defScope sLaw) .none kV29 dc29 pm29 an29 cd29 ct29),sl29⟩) (c29:PySem.W.codeIn K cd29 "law"=true) (k29:PySem.W.keepIn K (.ref f29)=true)
  (i1:PySem.W.nsIn K mainGlobals "MOST_WORDS"=some (some (.int 1024 tk1)))
  (i2:PySem.W.nsIn K mainGlobals "MOST_LETTERS_TOLD"=some (some (.int 1000 tk2)))
  (z1:PySem.W.nsIn K mainGlobals "len"=some none)
  (z2:PySem.W.nsIn K mainGlobals "tuple"=some none)
  (z3:PySem.W.nsIn K mainGlobals "list"=some none)
  (z4:PySem.W.nsIn K mainGlobals "range"=some none)
  (z5:PySem.W.nsIn K mainGlobals "isinstance"=some none)
  (z6:PySem.W.nsIn K mainGlobals "int"=some none)
  (z7:PySem.W.nsIn K mainGlobals "bool"=some none)
  (z8:PySem.W.nsIn K mainGlobals "str"=some none)
  (z9:PySem.W.nsIn K mainGlobals "all"=some none)
  (z10:PySem.W.nsIn K mainGlobals "any"=some none)
  (z11:PySem.W.nsIn K mainGlobals "sorted"=some none)
  (z12:PySem.W.nsIn K mainGlobals "zip"=some none)
  (z13:PySem.W.nsIn K mainGlobals "max"=some none)
  (z14:PySem.W.nsIn K mainGlobals "min"=some none)
  (z15:PySem.W.nsIn K mainGlobals "enumerate"=some none)
  (z16:PySem.W.nsIn K mainGlobals "abs"=some none)
  (z17:PySem.W.nsIn K mainGlobals "divmod"=some none)
  {CtBadWord:Addr} (yBadWord:PySem.W.nsIn K mainGlobals "BadWord"=some (some (.ref CtBadWord))) (xBadWord:PySem.W.excIn K CtBadWord [.type "ValueError",.type "Exception",.type "BaseException",.type "object"] "ValueError.__new__"=true)
  {CtBadCount:Addr} (yBadCount:PySem.W.nsIn K mainGlobals "BadCount"=some (some (.ref CtBadCount))) (xBadCount:PySem.W.excIn K CtBadCount [.type "ValueError",.type "Exception",.type "BaseException",.type "object"] "ValueError.__new__"=true)
  {CtTooMany:Addr} (yTooMany:PySem.W.nsIn K mainGlobals "TooMany"=some (some (.ref CtTooMany))) (xTooMany:PySem.W.excIn K CtTooMany [.type "ValueError",.type "Exception",.type "BaseException",.type "object"] "ValueError.__new__"=true)
  (vTooManyBadCount:apartIn K CtTooMany CtBadCount=true)
  : ∃ fd:FuncData,(∀ (s:Shared) (v:Value),BindsTo s fd ⟨[v],[]⟩ [("_law_script",v)])∧∀ base:Heap,K.In base→base.Ns mainGlobals mg→FnOk l.prog w K mg base (CXx l.prog w) 8 fa fd ["_law_script"] (spLaw K):=by
 have e:=hfa.symm.trans (PySem.W.mg_of X G a29)
 cases e
 obtain ⟨d1,F1,m1,k1⟩:=h1.go X G
 have b1:Binds K d1 ["guise"] []:=bnd1 F1 fun _ _ _ _ _ _ _=>rfl
 obtain ⟨d2,F2,m2,k2⟩:=h2.go X G
 have b2:Binds K d2 ["guise","row","word"] []:=bnd3 F2 fun _ _ _ _ _ _ _ _ _=>rfl
 obtain ⟨d3,F3,m3,k3⟩:=h3.go X G
 have b3:Binds K d3 ["letters","word"] []:=bnd2 F3 fun _ _ _ _ _ _ _ _=>rfl
 obtain ⟨d4,F4,m4,k4⟩:=h4.go X G
 have b4:Binds K d4 ["guise","word"] []:=bnd2 F4 fun _ _ _ _ _ _ _ _=>rfl
 obtain ⟨d5,F5,m5,k5⟩:=h5.go X G
 have b5:Binds K d5 ["letters","word"] []:=bnd2 F5 fun _ _ _ _ _ _ _ _=>rfl
 obtain ⟨d6,F6,m6,k6⟩:=h6.go X G
 have b6:Binds K d6 ["letters","many","number"] []:=bnd3 F6 fun _ _ _ _ _ _ _ _ _=>rfl
 obtain ⟨d7,F7,m7,k7⟩:=h7.go X G
 have b7:Binds K d7 ["letters","many"] []:=bnd2 F7 fun _ _ _ _ _ _ _ _=>rfl
 obtain ⟨d8,F8,m8,k8⟩:=h8.go X G
 have b8:Binds K d8 ["guise","many"] []:=bnd2 F8 fun _ _ _ _ _ _ _ _=>rfl
 obtain ⟨d9,F9,m9,k9⟩:=h9.go X G
 have b9:Binds K d9 ["guises","many"] []:=bnd2 F9 fun _ _ _ _ _ _ _ _=>rfl
 obtain ⟨d10,F10,m10,k10⟩:=h10.go X G
 have b10:Binds K d10 ["ways","number"] []:=bnd2 F10 fun _ _ _ _ _ _ _ _=>rfl
 obtain ⟨d11,F11,m11,k11⟩:=h11.go X G
 have b11:Binds K d11 ["_law_letters_here","_law_many"] []:=bnd2 F11 fun _ _ _ _ _ _ _ _=>rfl
 obtain ⟨d12,F12,m12,k12⟩:=h12.go X G
 have b12:Binds K d12 ["_law_rows_here","_law_at","_law_word"] []:=bnd3 F12 fun _ _ _ _ _ _ _ _ _=>rfl
 obtain ⟨d13,F13,m13,k13⟩:=h13.go X G
 have b13:Binds K d13 ["_law_letters_here","_law_many","_law_number_here"] []:=bnd3 F13 fun _ _ _ _ _ _ _ _ _=>rfl
 obtain ⟨d14,F14,m14,k14⟩:=h14.go X G
 have b14:Binds K d14 ["_law_letters_here","_law_word"] []:=bnd2 F14 fun _ _ _ _ _ _ _ _=>rfl
 obtain ⟨d15,F15,m15,k15⟩:=h15.go X G
 have b15:Binds K d15 ["_law_one","_law_many"] []:=bnd2 F15 fun _ _ _ _ _ _ _ _=>rfl
 obtain ⟨d16,F16,m16,k16⟩:=h16.go X G
 have b16:Binds K d16 ["_law_script","_law_at"] []:=bnd2 F16 fun _ _ _ _ _ _ _ _=>rfl
 obtain ⟨d17,F17,m17,k17⟩:=h17.go X G
 have b17:Binds K d17 ["_law_script","_law_at"] []:=bnd2 F17 fun _ _ _ _ _ _ _ _=>rfl
 obtain ⟨d18,F18,m18,k18⟩:=h18.go X G
 have b18:Binds K d18 ["_law_rows_here","_law_line","_law_marks"] []:=bnd3 F18 fun _ _ _ _ _ _ _ _ _=>rfl
 obtain ⟨d19,F19,m19,k19⟩:=h19.go X G
 have b19:Binds K d19 ["_law_rows_here","_law_start"] []:=bnd2 F19 fun _ _ _ _ _ _ _ _=>rfl
 obtain ⟨d20,F20,m20,k20⟩:=h20.go X G
 have b20:Binds K d20 ["_law_cell_here","_law_many"] []:=bnd2 F20 fun _ _ _ _ _ _ _ _=>rfl
 obtain ⟨d21,F21,m21,k21⟩:=h21.go X G
 have b21:Binds K d21 ["_law_pick","_law_letters_here"] []:=bnd2 F21 fun _ _ _ _ _ _ _ _=>rfl
 obtain ⟨d22,F22,m22,k22⟩:=h22.go X G
 have b22:Binds K d22 ["_law_letters_here","_law_cell_here"] []:=bnd2 F22 fun _ _ _ _ _ _ _ _=>rfl
 obtain ⟨d23,F23,m23,k23⟩:=h23.go X G
 have b23:Binds K d23 ["_law_letters_here","_law_cell_here"] []:=bnd2 F23 fun _ _ _ _ _ _ _ _=>rfl
 obtain ⟨d24,F24,m24,k24⟩:=h24.go X G
 have b24:Binds K d24 ["_law_letters_here"] []:=bnd1 F24 fun _ _ _ _ _ _ _=>rfl
 obtain ⟨d25,F25,m25,k25⟩:=h25.go X G
 have b25:Binds K d25 ["_law_found"] []:=bnd1 F25 fun _ _ _ _ _ _ _=>rfl
 obtain ⟨d26,F26,m26,k26⟩:=h26.go X G
 have b26:Binds K d26 ["_law_found","_law_due_here"] []:=bnd2 F26 fun _ _ _ _ _ _ _ _=>rfl
 obtain ⟨d27,F27,m27,k27⟩:=h27.go X G
 have b27:Binds K d27 ["_law_guises","_law_many"] []:=bnd2 F27 fun _ _ _ _ _ _ _ _=>rfl
 obtain ⟨d28,F28,m28,k28⟩:=h28.go X G
 have b28:Binds K d28 ["_law_guises","_law_many"] []:=bnd2 F28 fun _ _ _ _ _ _ _ _=>rfl
 have F29:=fun_mk (st:=sLaw) l29 c29 k29
 have m29:=PySem.W.mg_of X G a29
 have mBadWord:=PySem.W.mg_of X G yBadWord
 have mBadCount:=PySem.W.mg_of X G yBadCount
 have mTooMany:=PySem.W.mg_of X G yTooMany
 have j1:=PySem.W.mg_of X G i1
 have j2:=PySem.W.mg_of X G i2
 have n_len:=PySem.W.mg_none_of X G z1
 have n_tuple:=PySem.W.mg_none_of X G z2
 have n_list:=PySem.W.mg_none_of X G z3
 have n_range:=PySem.W.mg_none_of X G z4
 have n_isinstance:=PySem.W.mg_none_of X G z5
 have n_int:=PySem.W.mg_none_of X G z6
 have n_bool:=PySem.W.mg_none_of X G z7
 have n_str:=PySem.W.mg_none_of X G z8
 have n_all:=PySem.W.mg_none_of X G z9
 have n_any:=PySem.W.mg_none_of X G z10
 have n_sorted:=PySem.W.mg_none_of X G z11
 have n_zip:=PySem.W.mg_none_of X G z12
 have n_max:=PySem.W.mg_none_of X G z13
 have n_min:=PySem.W.mg_none_of X G z14
 have n_enumerate:=PySem.W.mg_none_of X G z15
 have n_abs:=PySem.W.mg_none_of X G z16
 have n_divmod:=PySem.W.mg_none_of X G z17
 have B:Blt mg:=⟨n_len,n_tuple,n_list,n_range,n_isinstance,n_int,n_bool,n_str,n_all⟩
 refine ⟨PySem.W.fnOf "law" "law" (defArgs sLaw) (defBody sLaw) (defScope sLaw) .none kV29 dc29 pm29 an29 cd29 ct29,fun s v=>.of_eq rfl,fun base _ _=>?_⟩
 have O3:FnOk l.prog w K mg base (CXx l.prog w) 1 f3 _ ["letters","word"] (spCheckW K CtBadWord):=ok_checkw mBadWord xBadWord PySem.F.excBase_ValueError F3 n_any
 have O1:FnOk l.prog w K mg base (CXx l.prog w) 1 f1 _ ["guise"] (spBreadth K):=ok_breadth F1 B.len
 have O2:FnOk l.prog w K mg base (CXx l.prog w) 1 f2 _ ["guise","row","word"] (spReadF K):=ok_readf F2 B.tup
 have O4:FnOk l.prog w K mg base (CXx l.prog w) 2 f4 _ ["guise","word"] (spWorn K CtBadWord):=ok_worn F4 O3 b3 k3 m3 O1 b1 k1 m1 O2 b2 k2 m2
 have O5:FnOk l.prog w K mg base (CXx l.prog w) 2 f5 _ ["letters","word"] (spNumOf K CtBadWord):=ok_numberof F5 O3 b3 k3 m3
 have O6:FnOk l.prog w K mg base (CXx l.prog w) 1 f6 _ ["letters","many","number"] (spWordOf K CtBadCount):=ok_wordof mBadCount xBadCount PySem.F.excBase_ValueError j2 B.rng n_divmod B.tup F6
 have O7:FnOk l.prog w K mg base (CXx l.prog w) 1 f7 _ ["letters","many"] (spOnFloor K CtTooMany CtBadCount):=ok_onfloor mBadCount xBadCount PySem.F.excBase_ValueError mTooMany xTooMany PySem.F.excBase_ValueError j1 B.rng F7
 have O8:FnOk l.prog w K mg base (CXx l.prog w) 3 f8 _ ["guise","many"] (spFloor K CtTooMany CtBadCount):=ok_floor B.rng F8 (O1.mono (by decide)) b1 k1 m1 (O7.mono (by decide)) b7 k7 m7 O5 b5 k5 m5 O4 b4 k4 m4 (O6.mono (by decide)) b6 k6 m6
 have O10:FnOk l.prog w K mg base (CXx l.prog w) 1 f10 _ ["ways","number"] (spLedTo K):=ok_ledto B.len n_sorted F10
 have O9:FnOk l.prog w K mg base (CXx l.prog w) 4 f9 _ ["guises","many"] (spCamps K CtTooMany CtBadCount):=ok_camps B.len B.rng F9 O8 b8 k8 m8 (O10.mono (by decide)) b10 k10 m10
 have O16:FnOk l.prog w K mg base (CXx l.prog w) 1 f16 _ ["_law_script","_law_at"] (spCell K):=ok_cell F16 B.len
 have O17:FnOk l.prog w K mg base (CXx l.prog w) 2 f17 _ ["_law_script","_law_at"] (spLetters K):=ok_letters F17 O16 b16 k16 m16
 have O20:FnOk l.prog w K mg base (CXx l.prog w) 1 f20 _ ["_law_cell_here","_law_many"] (spNumbers K):=ok_numbers F20 B.len
 have O21:FnOk l.prog w K mg base (CXx l.prog w) 1 f21 _ ["_law_pick","_law_letters_here"] (spRear K):=ok_rear F21 B.len B.tup B.rng B.lst
 have O22:FnOk l.prog w K mg base (CXx l.prog w) 2 f22 _ ["_law_letters_here","_law_cell_here"] (spRows K):=ok_rows F22 B.rng B.tup n_min O20 b20 k20 m20 O21 b21 k21 m21
 have O18:FnOk l.prog w K mg base (CXx l.prog w) 1 f18 _ ["_law_rows_here","_law_line","_law_marks"] (spInLineN K):=ok_inlineN F18 B.len B.tup
 have O19:FnOk l.prog w K mg base (CXx l.prog w) 2 f19 _ ["_law_rows_here","_law_start"] (spShrunkN K):=ok_shrunkN F19 B.len B.tup O18 b18 k18 m18
 have O25:FnOk l.prog w K mg base (CXx l.prog w) 1 f25 _ ["_law_found"] (spWhole K):=ok_whole F25 B
 have O23:FnOk l.prog w K mg base (CXx l.prog w) 3 f23 _ ["_law_letters_here","_law_cell_here"] (spGuise K):=ok_guise F23 O22 b22 k22 m22 ((O19.mono (by decide)).sub shrunk_sub) b19 k19 m19
 have O26:FnOk l.prog w K mg base (CXx l.prog w) 5 f26 _ ["_law_found","_law_due_here"] (spLike K 4):=all_like F26 B O25 b25 k25 m25 b26 k26 m26 4
 have O12:FnOk l.prog w K mg base (CXx l.prog w) 1 f12 _ ["_law_rows_here","_law_at","_law_word"] (spReadO K):=ok_reado F12 B.tup
 have O24:FnOk l.prog w K mg base (CXx l.prog w) 1 f24 _ ["_law_letters_here"] (spStories K):=ok_stories F24
 have O14:FnOk l.prog w K mg base (CXx l.prog w) 1 f14 _ ["_law_letters_here","_law_word"] (spNumL K):=ok_numl F14
 have O11:FnOk l.prog w K mg base (CXx l.prog w) 1 f11 _ ["_law_letters_here","_law_many"] (spFSize K):=ok_fsize F11 B.rng
 have O13:FnOk l.prog w K mg base (CXx l.prog w) 1 f13 _ ["_law_letters_here","_law_many","_law_number_here"] (spFigs K):=ok_figs F13 B.rng
 have O15:FnOk l.prog w K mg base (CXx l.prog w) 2 f15 _ ["_law_one","_law_many"] (spTable K):=ok_table B.len B.rng F15 O11 b11 k11 m11 O12 b12 k12 m12 O13 b13 k13 m13 O14 b14 k14 m14
 have O27:FnOk l.prog w K mg base (CXx l.prog w) 3 f27 _ ["_law_guises","_law_many"] (spDue24 K):=ok_due24 B.len B.lst B.rng n_enumerate n_min n_sorted F27 O15 b15 k15 m15
 have O28:FnOk l.prog w K mg base (CXx l.prog w) 5 f28 _ ["_law_guises","_law_many"] (spTold24 K):=ok_told24 mBadCount xBadCount PySem.F.excBase_ValueError.hasBase mTooMany xTooMany PySem.F.excBase_ValueError.hasBase vTooManyBadCount F28 O9 b9 k9 m9
 exact ok_law B.len B.rng B.lst F29 (O16.mono (by decide)) b16 k16 m16 (O17.mono (by decide)) b17 k17 m17 (O23.mono (by decide)) b23 k23 m23 (O24.mono (by decide)) b24 k24 m24 (O28.mono (by decide)) b28 k28 m28 (O27.mono (by decide)) b27 k27 m27 (O26.mono (by decide)) b26 k26 m26
theorem walk {l:PySem.W.OpenLaw} {q:Program} {loose:List Str} {XP:(Str→Option Value)→Heap→Prop} {YP:World→Heap→Prop} {d:DefRec} {K:Params→PySem.W.Frag} (hn:l.most=some 63) (hdf:d.params.defaults=[])
  (hY:∀ (w:World) (h:Heap),YP w h→(K w.params).In h)
  (F:∀ (w:World) (mg:Str→Option Value) (fa:Addr) (h:Heap),(K w.params).In h→h.Ns mainGlobals mg→mg d.name=some (.ref fa) →
   ∃ fd:FuncData,(∀ (s:Shared) (u:Value),BindsTo s fd ⟨[u],[]⟩ [("_law_script",u)])∧∀ base:Heap,(K w.params).In base→base.Ns mainGlobals mg→FnOk l.prog w (K w.params) mg base (CXx l.prog w) 8 fa fd ["_law_script"] (spLaw (K w.params))) :
  PySem.W.WalkO q loose XP YP l.row.toRowW d [] (fun f vs=>PySem.call f vs) :=
 L2.walk_of (n:=63) (k:=8) (x:="_law_script") (CX:=fun w=>(CXx l.prog w)) (sp:=fun w=>spLaw (K w.params)) hn (by decide) hdf ⟨rfl,by decide,by decide⟩ hY F (fun _ _ a ns hl _ hS=>⟨a,ns,rfl,hS,hl,fun _=>rfl⟩) fun _ _ _ _ _ z=>(by obtain ⟨_,_,_,_,_,_,_,_,_,h⟩:=z;exact h)
end Gu
open PySem PySem.W PyProof.Rows
set_option maxRecDepth 100000 in
set_option maxHeartbeats 0 in
theorem PySem.Challenge.cw_guisery_k24_camps_told_holds : PySem.Challenge.rw_guisery_k24_camps_told.Holds := by
 w_on;o_law;refine holds_open (q:=Gu.viewOf Gu.pY) (loose:=[]) (Xt:=fun s=>xlAt (Gu.viewOf Gu.pY) [] s && recOk (RowW.records Gu.rY.toRowW) s) (XP:=XL (Gu.viewOf Gu.pY) []) (Yf:=Hook.obs Gu.HK) (Ya:=Hook.val Gu.HK) (YP:=Hook.says (PySem.W.kHook Gu.KH Gu.KA (fun _=>by kernel_rfl))) (N:=3674) Gu.left (Hook.of Gu.HK) (Hook.keeps Gu.HK) (fun s e=>xl_of s (Bool.and_eq_true_iff.mp e).1) XL.keeps (by rfl) (by rfl) (by rfl) (fun s e=>recFacts_of (Bool.and_eq_true_iff.mp e).2) (by rfl) (by first | assumption | decide +kernel) (by decide +kernel) ⟨rfl,rfl,rfl,rfl,rfl,by decide +kernel⟩ ?hw ?hc;(case hw=>w_witness2)
 k_fill
 refine Gu.walk (l:=PySem.Challenge.rw_guisery_k24_camps_told) rfl rfl (fun w h Y=>PySem.W.kIn_of Y) ?F
 case F =>
  intro w mg fa h KX G hmg
  refine' Gu.all_mk KX G hmg ?h1 ?h2 ?h3 ?h4 ?h5 ?h6 ?h7 ?h8 ?h9 ?h10 ?h11 ?h12 ?h13 ?h14 ?h15 ?h16 ?h17 ?h18 ?h19 ?h20 ?h21 ?h22 ?h23 ?h24 ?h25 ?h26 ?h27 ?h28 ?a29 ?l29 ?c29 ?k29 ?i1 ?i2 ?z1 ?z2 ?z3 ?z4 ?z5 ?z6 ?z7 ?z8 ?z9 ?z10 ?z11 ?z12 ?z13 ?z14 ?z15 ?z16 ?z17 ?yBadWord ?xBadWord ?yBadCount ?xBadCount ?yTooMany ?xTooMany ?vTooManyBadCount
  all_goals try (refine' Gu.FA.of ?_ ?_ ?_ ?_<;>try k_is)
  (case a29=>k_is);(case l29=>k_is);(case c29=>k_is);(case k29=>k_is)
  (case i1=>k_is)
  (case i2=>k_is)
  (case z1=>k_is)
  (case z2=>k_is)
  (case z3=>k_is)
  (case z4=>k_is)
  (case z5=>k_is)
  (case z6=>k_is)
  (case z7=>k_is)
  (case z8=>k_is)
  (case z9=>k_is)
  (case z10=>k_is)
  (case z11=>k_is)
  (case z12=>k_is)
  (case z13=>k_is)
  (case z14=>k_is)
  (case z15=>k_is)
  (case z16=>k_is)
  (case z17=>k_is)
  (case yBadWord=>k_is)
  (case xBadWord=>k_exc)
  (case yBadCount=>k_is)
  (case xBadCount=>k_exc)
  (case yTooMany=>k_is)
  (case xTooMany=>k_exc)
  (case vTooManyBadCount=>(first | kernel_rfl | k_is | decide))

