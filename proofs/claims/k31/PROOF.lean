import PyProof.Rows.All
import Wide.All
import OpenK.AllK
import Wide.FinOn
import Lean
import PyProof.EqAt
import PyProof.EqKinds
import PyProof.TupleCall
import PyProof.ListRange
import PyProof.TupleOfSeq
import PyProof.ConsumeWalk
import PyProof.WalksMore
import PyProof.Draws
import PyProof.EnumMake
import PyProof.ZipIter
import PyProof.Rows.EnumRows
import PyProof.Rows.FactsT2
import PyProof.MeetsSeq3
import PyProof.DictRoadsH
import PyProof.Rows.TupTab
import PyProof.Rows.SortWalk
import PyProof.Rows.SeqCalls
import PyProof.ListMulRoad
import KE.KDictLaws
import OpenK.KRaise
import KE.KLam
import KE.KNestM
import PyProof.IsRules
import PySem.Challenge.RW_guisery_k31_refusals_of_counts
set_option Elab.async false
set_option linter.all false
set_option maxRecDepth 100000
/-! THE HAND LAYER,for ints,bools,texts,own classes,LISTS and tuples (index,slices,in,append,pop ..),calls,loops. Paste it whole ahead of your own text;what your proof does not reach may be deleted. -/
namespace L2
open PySem PySem.Spec PyProof.Rows

abbrev Key:=Sum Int Str
def keyIs:Key→Value→Bool
 | .inl k,v=>Value.isInt k v
 | .inr x,v=>Value.isStrOf x v
def keyH (w:World):Key→Int
 | .inl k=>hashInt k
 | .inr x=>hashStr w x
theorem keyIs_shape:∀ {k:Key} {v:Value},keyIs k v=true→(∃ i t,k=Sum.inl i∧v=Value.int i t)∨(∃ x t,k=Sum.inr x∧v=Value.str x t)
 | .inl i,v,h=>by
  obtain ⟨t,e⟩:=Value.isInt_shape (k:=i) (v:=v) h
  exact .inl ⟨i,t,rfl,e⟩
 | .inr x,v,h=>by
  obtain ⟨t,e⟩:=Value.isStrOf_shape (x:=x) (v:=v) h
  exact .inr ⟨x,t,rfl,e⟩
theorem keyIs_int (i:Int) (t:Tok):keyIs (.inl i) (.int i t)=true:=by simp [keyIs,Value.isInt]
theorem keyIs_str (x:Str) (t:Tok):keyIs (.inr x) (.str x t)=true:=by simp [keyIs,Value.isStrOf]
theorem key_ll (a b:Int):decide ((Sum.inl a:Key)=Sum.inl b)=(a == b):=by
 by_cases e:a=b
 ·subst e;simp
 ·have h:¬ (Sum.inl a:Key)=Sum.inl b:=fun q=>e (Sum.inl.inj q)
  rw [decide_eq_false h]
  exact (beq_eq_false_iff_ne.mpr e).symm
theorem key_rr (a b:Str):decide ((Sum.inr a:Key)=Sum.inr b)=decide (a=b):=by
 by_cases e:a=b
 ·subst e;simp
 ·have h:¬ (Sum.inr a:Key)=Sum.inr b:=fun q=>e (Sum.inr.inj q)
  rw [decide_eq_false h,decide_eq_false e]
theorem key_lr (a:Int) (b:Str):decide ((Sum.inl a:Key)=Sum.inr b)=false:=decide_eq_false (fun q=>nomatch q)
theorem key_rl (a:Str) (b:Int):decide ((Sum.inr a:Key)=Sum.inl b)=false:=decide_eq_false (fun q=>nomatch q)

def mixKind (prog:Program) (w:World):PySem.KeyKind prog w Key where
 is:=keyIs
 hash:=keyH w
 inj:=fun v a b ha hb=>by
  rcases keyIs_shape ha with ⟨i,t,rfl,rfl⟩ | ⟨x,t,rfl,rfl⟩
  ·rcases keyIs_shape hb with ⟨j,u,rfl,e⟩ | ⟨y,u,rfl,e⟩
   ·injection e with e1 _;rw [e1]
   ·exact nomatch e
  ·rcases keyIs_shape hb with ⟨j,u,rfl,e⟩ | ⟨y,u,rfl,e⟩
   ·exact nomatch e
   ·injection e with e1 _;rw [e1]
 byValue:=fun k v h=>by
  rcases keyIs_shape h with ⟨i,t,rfl,rfl⟩ | ⟨x,t,rfl,rfl⟩<;>rfl
 pyHash:=fun hv h=>by
  rcases keyIs_shape hv with ⟨i,t,rfl,rfl⟩ | ⟨x,t,rfl,rfl⟩
  ·exact wpAny_pyHash_int h
  ·exact wpAny_pyHash_str h
 eqBool:=fun hu hv h=>by
  rcases keyIs_shape hu with ⟨i,t,rfl,rfl⟩ | ⟨x,t,rfl,rfl⟩
  ·rcases keyIs_shape hv with ⟨j,u,rfl,rfl⟩ | ⟨y,u,rfl,rfl⟩
   ·rw [key_ll] at h;exact wpAny_eqBool_int h
   ·rw [key_lr] at h;exact SeqAt.EqAt.int_str i t y u _ _ _ _ h
  ·rcases keyIs_shape hv with ⟨j,u,rfl,rfl⟩ | ⟨y,u,rfl,rfl⟩
   ·rw [key_rl] at h;exact SeqAt.EqAt.str_int x t j u _ _ _ _ h
   ·rw [key_rr] at h;exact wpAny_eqBool_str h
 «strs»:=fun k x t v h=>by
  rcases keyIs_shape h with ⟨i,u,rfl,e⟩ | ⟨y,u,rfl,e⟩
  ·exact nomatch e
  ·injection e with e1 _
   subst e1
   cases v<;>rfl

theorem mixKind_int (prog:Program) (w:World) (i:Int) (t:Tok):(mixKind prog w).is (.inl i) (.int i t)=true:=keyIs_int i t
theorem mixKind_str (prog:Program) (w:World) (x:Str) (t:Tok):(mixKind prog w).is (.inr x) (.str x t)=true:=keyIs_str x t
end L2

namespace L2
open PySem PySem.Spec PyProof.Rows

inductive V where
 | non | bl (b:Bool) | int (i:Int) | str (x:Str) | byt (b:Array UInt8) | flt (b:UInt64) | ref (a:Addr) | ty (n:String)
 deriving DecidableEq

def RelV:V→Value→Prop
 | .non,u=>u=Value.none
 | .bl b,u=>u=Value.bool b
 | .int i,u=>∃ t,u=Value.int i t
 | .str x,u=>∃ t,u=Value.str x t
 | .byt b,u=>∃ t,u=Value.bytes b t
 | .flt b,u=>∃ t,u=Value.float b t
 | .ref a,u=>u=Value.ref a
 | .ty n,u=>u=Value.type n

abbrev Vals:List V→List Value→Prop:=Paired RelV
theorem Vals.length {xs:List V} {us:List Value} (r:Vals xs us):xs.length=us.length:=Paired.length r
theorem Vals.get:∀ {xs:List V} {us:List Value} {i:Nat} {x:V},Vals xs us→xs[i]?=some x→∃ u,us[i]?=some u∧RelV x u
 | _,_,_,_,.nil,e=>by simp at e
 | _,_,0,_,.cons r _,e=>by simp at e;subst e;exact ⟨_,rfl,r⟩
 | _,_,i+1,x,.cons _ t,e=>by
  obtain ⟨u,h1,h2⟩:=Vals.get (i:=i) (x:=x) t (by simpa using e)
  exact ⟨u,by simpa using h1,h2⟩
theorem Vals.set {x:V} {u:Value} (r:RelV x u):∀ {xs:List V} {us:List Value} (i:Nat),Vals xs us→Vals (xs.set i x) (us.set i u)
 | _,_,_,.nil=>.nil
 | _,_,0,.cons _ t=>.cons r t
 | _,_,i+1,.cons q t=>.cons q (Vals.set r i t)
theorem Vals.append:∀ {xs ys:List V} {us ws:List Value},Vals xs us→Vals ys ws→Vals (xs++ys) (us++ws)
 | _,_,_,_,.nil,s=>s
 | _,_,_,_,.cons r t,s=>.cons r (Vals.append t s)
theorem Vals.take:∀ {xs:List V} {us:List Value} (n:Nat),Vals xs us→Vals (xs.take n) (us.take n)
 | _,_,0,_=>.nil
 | _,_,_+1,.nil=>.nil
 | _,_,n+1,.cons r t=>.cons r (Vals.take n t)
theorem Vals.drop:∀ {xs:List V} {us:List Value} (n:Nat),Vals xs us→Vals (xs.drop n) (us.drop n)
 | _,_,0,r=>r
 | _,_,_+1,.nil=>.nil
 | _,_,n+1,.cons _ t=>Vals.drop n t
def RelO:Option V→Option Value→Prop
 | some v,some u=>RelV v u
 | none,none=>True
 | _,_=>False
def KV {κ:Type}:List (κ × V)→List (κ × Value)→Prop:=Paired fun (p:κ × V) (q:κ × Value)=>p.1=q.1∧RelV p.2 q.2

def kV:Key→V
 | .inl i=>.int i
 | .inr x=>.str x

inductive HO where
 /-- a list -/
 | lst (xs:List V)
 /-- a tuple (never changes) -/
 | tup (xs:List V)
 /-- a dict whose keys are ints and texts;one whose keys are tuples of ints and texts (the empty one is both) -/
 | dK (kvs:List (Key × V)) | dT (kvs:List (List Key × V))
 /-- a set of ints: its members,its size -/
 | set (S:Int→Bool) (n:Nat)
 /-- an instance of the class at C,its dict at dx,its attributes -/
 | ins (C dx:Addr) (fs:List (Str × V))
 /-- the dict of the instance at x -/
 | own (x:Addr)
 /-- the dict of an exception -/
 | xd (fs:List (Str × V))
 /-- a bound method,f of x -/
 | met (f x:Addr)
 /-- a range object lo,lo+1,.. below hi -/
 | rng (lo hi:Int)
 /-- a thing that is known to the object (the script;a dict while a loop walks it): read,never written while it is so -/
 | frz (o:Obj) (u:HO)
 /-- a code object's table -/
 | tbl (ps:Array Value)
 /-- any other thing,by what is true of its one object (a def of one's own: SetO a S n:=HO.ext fun h=>..) -/
 | ext (φ:Heap→Prop)

abbrev Hp:=Addr→Option HO
def upd (H:Hp) (a:Addr) (o:HO):Hp:=fun b=>if b=a then some o else H b
theorem upd_same {H:Hp} {a:Addr} {o:HO}:upd H a o a=some o:=by unfold upd;rw [if_pos rfl]
theorem upd_ne {H:Hp} {a b:Addr} {o:HO} (h:b≠a):upd H a o b=H b:=by unfold upd;rw [if_neg h]
theorem ne_of {H:Hp} {a b:Addr} {o u:HO} (h:H a=some o) (h':H b=some u) (d:o≠u):a≠b:=by
 intro e;subst e;rw [h] at h';exact d (Option.some.inj h')
theorem ne_of_none {H:Hp} {a b:Addr} {o:HO} (h:H a=some o) (h':H b=none):a≠b:=by
 intro e;subst e;rw [h] at h';cases h'

section
variable (P:Program) (w:World)
def ObjOk (H:Hp) (h:Heap) (a:Addr):HO→Prop
 | .lst xs=>xs.length≤sizeLine∧∃ (its:List Value) (n:Nat),Vals xs its∧h.get? a=some { cls:=.type "list",data:=.seq its.toArray n }
 | .tup xs=>xs.length≤sizeLine∧∃ (its:List Value) (n:Nat),Vals xs its∧h.get? a=some { cls:=.type "tuple",data:=.seq its.toArray n }
 | .dK kvs=>kvs.length≤sizeLine∧(a == sysModules)=false∧∃ vs,KV kvs vs∧h.DictOf (mixKind P w) a vs
 | .dT kvs=>kvs.length≤sizeLine∧(a == sysModules)=false∧∃ xs:List (List Key × Addr × Value),
   Paired (fun (p:List Key × V) (q:List Key × Addr × Value)=>p.1=q.1∧H q.2.1=some (.tup (p.1.map kV))∧RelV p.2 q.2.2) kvs xs ∧
   ∃ o es ep,h.get? a=some o∧o.ExactDict∧o.data=.dict es ep∧es.toList=xs.map (entryOfKey (tupleKind (mixKind P w)))∧(xs.map (·.1)).Nodup
 | .set S n=>h.SetOf (intKind P w) a S n
 | .ins C dx fs=>H dx=some (.own a)∧fs.length≤1000∧dx≠a∧h.get? a=some (PySem.W.instObj C dx) ∧
   ∃ mA,h.Ns1 dx mA∧(∀ f,RelO (fs.lookup f) (mA f))∧PySem.Within mA (fs.map (·.1))
 | .own _=>∃ o,h.get? a=some o
 | .xd fs=>∃ mA,h.Ns1 a mA∧∀ f,RelO (fs.lookup f) (mA f)
 | .rng lo hi=>∃ t u v,h.get? a=some { cls:=.type "range",data:=.fields #[.int lo t,.int hi u,.int 1 v] }
 | .frz o u=>h.get? a=some o∧ObjOk H h a u
 | .tbl ps=>h.get? a=some { cls:=.none,data:=.fields ps }
 | .met f x=>h.get? a=some (PySem.W.methodObj (.ref f) (.ref x))
 | .ext φ=>φ h∧(∃ o,h.get? a=some o)∧∀ h1 h2:Heap,φ h1→(∀ o,h1.get? a=some o→h2.get? a=some o)→φ h2
def HOk (H:Hp) (h:Heap):Prop:=∀ a o,H a=some o→ObjOk P w H h a o
end

section
variable {P:Program} {w:World} {H H':Hp} {h h':Heap} {a:Addr} {o:HO}
theorem ObjOk.lt (x:ObjOk P w H h a o):a < h.objs.size:=by
 cases o with
 | lst xs=>obtain ⟨_,_,_,_,e⟩:=x;exact Heap.lt_size e
 | tup xs=>obtain ⟨_,_,_,_,e⟩:=x;exact Heap.lt_size e
 | dK kvs=>obtain ⟨_,_,_,_,o,_,_,e,_⟩:=x;exact Heap.lt_size e
 | dT kvs=>obtain ⟨_,_,_,_,o,_,_,e,_⟩:=x;exact Heap.lt_size e
 | set S n=>obtain ⟨o,_,_,_,e,_⟩:=x;exact Heap.lt_size e
 | ins C dx fs=>obtain ⟨_,_,_,e,_⟩:=x;exact Heap.lt_size e
 | own y=>obtain ⟨_,e⟩:=x;exact Heap.lt_size e
 | xd fs=>obtain ⟨_,⟨_,_,_,e,_⟩,_⟩:=x;exact Heap.lt_size e
 | rng lo hi=>obtain ⟨_,_,_,e⟩:=x;exact Heap.lt_size e
 | frz ob u=>obtain ⟨e,_⟩:=x;exact Heap.lt_size e
 | tbl ps=>exact Heap.lt_size (show h.get? a=some _ from x)
 | met f y=>exact Heap.lt_size (show h.get? a=some _ from x)
 | ext φ=>obtain ⟨_,⟨_,e⟩,_⟩:=x;exact Heap.lt_size e
theorem Paired.mapP {α β:Type} {F G:α→β→Prop}:∀ {l₁:List α} {l₂:List β},Paired F l₁ l₂→(∀ a b,F a b→G a b)→Paired G l₁ l₂
 | _,_,.nil,_=>.nil
 | _,_,.cons r t,f=>.cons (f _ _ r) (Paired.mapP t f)
theorem ObjOk.stay (x:ObjOk P w H h a o) (k:∀ b u,(b=a∨H b=some (.own a))→h.get? b=some u→h'.get? b=some u)
  (ho:∀ b,H b=some (.own a)→H' b=some (.own a)) (ht:∀ b xs,H b=some (.tup xs)→H' b=some (.tup xs)):ObjOk P w H' h' a o:=by
 induction o with
 | lst xs=>obtain ⟨z,its,n,r,e⟩:=x;exact ⟨z,its,n,r,k _ _ (.inl rfl) e⟩
 | tup xs=>obtain ⟨z,its,n,r,e⟩:=x;exact ⟨z,its,n,r,k _ _ (.inl rfl) e⟩
 | dK kvs=>obtain ⟨z,y,vs,r,ob,es,ep,e,c⟩:=x;exact ⟨z,y,vs,r,ob,es,ep,k _ _ (.inl rfl) e,c⟩
 | dT kvs =>
  obtain ⟨z,y,xs,r,ob,es,ep,e,c⟩:=x
  exact ⟨z,y,xs,Paired.mapP r fun p q z=>⟨z.1,ht _ _ z.2.1,z.2.2⟩,ob,es,ep,k _ _ (.inl rfl) e,c⟩
 | set S n=>obtain ⟨ob,es,ep,t,e,c⟩:=x;exact ⟨ob,es,ep,t,k _ _ (.inl rfl) e,c⟩
 | ins C dx fs =>
  obtain ⟨d,z,ne,e,mA,⟨od,es,ep,e2,c⟩,r⟩:=x
  exact ⟨ho _ d,z,ne,k _ _ (.inl rfl) e,mA,⟨od,es,ep,k _ _ (.inr d) e2,c⟩,r⟩
 | own y=>obtain ⟨ob,e⟩:=x;exact ⟨ob,k _ _ (.inl rfl) e⟩
 | xd fs=>obtain ⟨mA,⟨od,es,ep,e,c⟩,r⟩:=x;exact ⟨mA,⟨od,es,ep,k _ _ (.inl rfl) e,c⟩,r⟩
 | rng lo hi=>obtain ⟨t,u,v,e⟩:=x;exact ⟨t,u,v,k _ _ (.inl rfl) e⟩
 | frz ob u ih=>obtain ⟨e,q⟩:=x;exact ⟨k _ _ (.inl rfl) e,ih q⟩
 | tbl ps =>
  have e:h.get? a=some { cls:=.none,data:=.fields ps }:=x
  show h'.get? a=some { cls:=.none,data:=.fields ps }
  exact k a _ (.inl rfl) e
 | met f y =>
  have e:h.get? a=some (PySem.W.methodObj (.ref f) (.ref y)):=x
  show h'.get? a=some (PySem.W.methodObj (.ref f) (.ref y))
  exact k a _ (.inl rfl) e
 | ext φ=>obtain ⟨p,⟨o,e⟩,st⟩:=x;exact ⟨st _ _ p fun o q=>k _ _ (.inl rfl) q,⟨o,k _ _ (.inl rfl) e⟩,st⟩
theorem HOk.lt (x:HOk P w H h) (e:H a=some o):a < h.objs.size:=(x a o e).lt
theorem HOk.fresh (x:HOk P w H h) (e:h.objs.size≤a):H a=none:=by
 cases q:H a with
 | none=>rfl
 | some u=>exact absurd (Nat.lt_of_lt_of_le (x.lt q) e) (Nat.lt_irrefl _)
theorem HOk.kept (x:HOk P w H h) (k:∀ b u,h.get? b=some u→h'.get? b=some u):HOk P w H h':=fun a o e =>
 (x a o e).stay (fun b u _ q=>k b u q) (fun _ q=>q) fun _ _ q=>q
theorem HOk.laid (x:HOk P w H h) (k:∀ b u,h.get? b=some u→h'.get? b=some u) (hp:h.objs.size≤a) (new:ObjOk P w (upd H a o) h' a o):HOk P w (upd H a o) h':=fun b u e=>by
 have hn:=x.fresh hp
 by_cases hb:b=a
 ·subst hb;rw [upd_same] at e;cases e;exact new
 ·rw [upd_ne hb] at e
  exact (x b u e).stay (fun c v _ q=>k c v q) (fun c q=>by rw [upd_ne (ne_of_none q hn)];exact q) fun c xs q=>by rw [upd_ne (ne_of_none q hn)];exact q
end

def Rd (H:Hp) (a:Addr) (u:HO):Prop:=H a=some u∨∃ o,H a=some (.frz o u)
theorem Rd.ok {P:Program} {w:World} {H:Hp} {h:Heap} {a:Addr} {u:HO} (r:Rd H a u) (x:HOk P w H h):ObjOk P w H h a u:=by
 rcases r with r | ⟨o,r⟩
 ·exact x a u r
 ·obtain ⟨_,q⟩:=x a _ r
  exact q
def Mut:Option HO→Prop
 | some (.lst _)=>True
 | some (.dK _)=>True
 | some (.dT _)=>True
 | some (.set _ _)=>True
 | some (.ins _ _ _)=>True
 | some (.ext _)=>True
 | _=>False
section
variable {P:Program} {w:World} {H:Hp} {h h':Heap} {x e:Addr} {o':HO}
theorem HOk.write (ok:HOk P w H h) (mu:Mut (H x)) (he:e=x∨H e=some (.own x)) (k:∀ b u,b≠e→h.get? b=some u→h'.get? b=some u) (heo:∃ u,h'.get? e=some u)
  (new:ObjOk P w (upd H x o') h' x o'):HOk P w (upd H x o') h':=fun b u q=>by
 have nown:∀ c y,H c=some (.own y)→c≠x:=fun c y r z=>by subst z;rw [r] at mu;exact mu
 have ntup:∀ c xs,H c=some (.tup xs)→c≠x:=fun c xs r z=>by subst z;rw [r] at mu;exact mu
 by_cases hb:b=x
 ·subst hb;rw [upd_same] at q;cases q;exact new
 ·rw [upd_ne hb] at q
  by_cases hbe:b=e
  ·have q':H b=some (.own x):=by
    rcases he with z | z
    ·exact absurd (hbe.trans z) hb
    ·rw [hbe];exact z
   rw [q] at q';cases q'
   obtain ⟨v,hv⟩:=heo
   exact ⟨v,by rw [hbe];exact hv⟩
  ·refine (ok b u q).stay (fun c v hc r=>k c v ?_ r) (fun c r=>by rw [upd_ne (nown c b r)];exact r) fun c xs r=>by rw [upd_ne (ntup c xs r)];exact r
   rcases hc with rfl | hc
   ·exact hbe
   ·rintro rfl
    rcases he with z | z
    ·exact nown c b hc z
    ·rw [hc] at z;cases z;exact hb rfl
end

/-! ### kept unless tracked;of the frames at fs (the callers') the slots may change (an exception that passes writes there);of the records at ex (iterators) nothing is said -/
structure Un (fs ex:List Addr) (H H':Hp) (h h':Heap):Prop where
 keep:∀ b o,h.get? b=some o→H b=none→b∉fs→b∉ex→h'.get? b=some o
 slot:∀ b o,h.get? b=some o→H b=none→b∈fs→b∉ex→∃ sl,h'.get? b=some { o with slots:=sl }
 free:∀ b o,h.get? b=some o→H b=none→b∉ex→H' b=none
 there:∀ b o,h.get? b=some o→b∉ex→∃ o',h'.get? b=some o'
 tups:∀ b xs,H b=some (.tup xs)→H' b=some (.tup xs)
 frzs:∀ b o u,H b=some (.frz o u)→H' b=some (.frz o u)
 tbls:∀ b ps,H b=some (.tbl ps)→∃ more,H' b=some (.tbl (ps++more))
section
variable {fs fs' ex ex':List Addr} {H H1 H2:Hp} {h h1 h2 h':Heap} {a x e:Addr} {o:HO}
theorem Un.any (u:Un fs ex H H1 h h1) {b:Addr} {ob:Obj} (q:h.get? b=some ob) (n:H b=none) (hx:b∉ex):∃ sl,h1.get? b=some { ob with slots:=sl }:=by
 by_cases hb:b∈fs
 ·exact u.slot b ob q n hb hx
 ·exact ⟨ob.slots,u.keep b ob q n hb hx⟩
theorem Un.kept (k:∀ b u,h.get? b=some u→h'.get? b=some u):Un fs ex H H h h' :=
 ⟨fun b ob q _ _ _=>k b ob q,fun b ob q _ _ _=>⟨ob.slots,k b ob q⟩,fun _ _ _ n _=>n,fun b ob q _=>⟨ob,k b ob q⟩,fun _ _ q=>q,fun _ _ _ q=>q,fun _ ps q=>⟨#[],by rw [q];simp⟩⟩
theorem Un.refl:Un fs ex H H h h:=Un.kept fun _ _ q=>q
theorem Un.laid (k:∀ b u,h.get? b=some u→h'.get? b=some u) (hp:h.objs.size≤a) (hn:H a=none):Un fs ex H (upd H a o) h h' where
 keep:=fun b u q _ _ _=>k b u q
 slot:=fun b u q _ _ _=>⟨u.slots,k b u q⟩
 free:=fun b u q n _=>by rw [upd_ne (Nat.ne_of_lt (Nat.lt_of_lt_of_le (Heap.lt_size q) hp))];exact n
 there:=fun b u q _=>⟨u,k b u q⟩
 tups:=fun b xs q=>by rw [upd_ne (ne_of_none q hn)];exact q
 frzs:=fun b u xs q=>by rw [upd_ne (ne_of_none q hn)];exact q
 tbls:=fun b ps q=>⟨#[],by rw [upd_ne (ne_of_none q hn),q];simp⟩
theorem Un.write (mu:Mut (H x)) (he:e=x∨H e=some (.own x)) (k:∀ b u,b≠e→h.get? b=some u→h'.get? b=some u) (heo:∃ u,h'.get? e=some u):Un fs ex H (upd H x o) h h':=by
 have hx:∀ b,H b=none→b≠x:=fun b n z=>by subst z;rw [n] at mu;exact mu
 have hb:∀ b,H b=none→b≠e:=fun b n z=>by
  subst z
  rcases he with r | r
  ·exact hx b n r
  ·rw [n] at r;cases r
 have hm:∀ b u,H b=some u→¬ Mut (some u)→b≠x:=fun b u q nm z=>by subst z;rw [q] at mu;exact nm mu
 refine ⟨fun b u q n _ _=>k b u (hb b n) q,fun b u q n _ _=>⟨u.slots,k b u (hb b n) q⟩,fun b u q n _=>by rw [upd_ne (hx b n)];exact n,fun b u q _=>?_,
  fun b xs q=>by rw [upd_ne (hm b _ q fun z=>z)];exact q,fun b u xs q=>by rw [upd_ne (hm b _ q fun z=>z)];exact q,fun b ps q=>⟨#[],by rw [upd_ne (hm b _ q fun z=>z),q];simp⟩⟩
 by_cases hbe:b=e
 ·subst hbe;exact heo
 ·exact ⟨u,k b u hbe q⟩
end

/-! ### the heap without what is tracked -/
def trk (h:Heap) (H:Hp):List Addr:=(List.range h.objs.size).filter fun a=>(H a).isSome
def hidT (h:Heap) (H:Hp):Heap:=PySem.W.hideAll h (trk h H)
theorem hidT_size (h:Heap) (H:Hp):(hidT h H).objs.size=h.objs.size:=PySem.W.hideAll_size _ _
theorem hidT_get {h:Heap} {H:Hp} {b:Addr} {o:Obj} (e:h.get? b=some o) (n:H b=none):(hidT h H).get? b=some o :=
 PySem.W.hideAll_get _ e fun hm=>by
  have q:(H b).isSome=true:=(List.mem_filter.mp hm).2
  rw [n] at q;simp at q
theorem of_hidT {h:Heap} {H:Hp} {b:Addr} {o:Obj} (e:(hidT h H).get? b=some o):h.get? b=some o∧H b=none:=by
 have e':h.get? b=some o:=PySem.W.of_hideAll (trk h H) e
 refine ⟨e',?_⟩
 cases q:H b with
 | none=>rfl
 | some x =>
  have hm:b∈trk h H:=List.mem_filter.mpr ⟨List.mem_range.mpr (Heap.lt_size e'),by simp [q]⟩
  have z:(hidT h H).get? b=none:=PySem.W.hideAll_none (trk h H) hm
  rw [z] at e;cases e

/-! ### OpenK's ledger,filled with every new object but one -/
def allNews (g h:Heap) (L:Addr):List (Addr × Obj):=(List.range h.objs.size).filterMap fun a=>if a=L∨(g.get? a).isSome=true then none else (h.get? a).map fun o=>(a,o)
def rest (g h:Heap) (L d:Addr):List (Addr × Obj):=(allNews g h L).filter fun p=>decide (p.1≠d)
end L2

namespace L2
open PySem PySem.Spec PyProof.Rows

structure Mod (K:PySem.W.Frag) (mg:Str→Option Value) (base:Heap):Prop where
 kin:K.In base
 glob:base.Ns mainGlobals mg
 blt:∃ mb,base.Ns builtinsNs mb∧∀ x:Str,x≠"__name__"→mb x=bootBuiltins x
 nolimit:base.NoLimit

/-- the context: a def's body (or a comprehension's block) running. base: fixed through the whole law;s₀,H₀: the entry;outer: the frames whose slots others may change (a def's callers);stack: all frames that run;
   ex: iterators that were made ahead of the entry and are walked here (a comprehension's);fn: the names whose cells were made at the entry (a def: all;a comprehension's block: its own);calm: not within an except suite;pn: pins that every state bears;xe: what is wanted of an exception that leaves the code -/
structure Cx where
 prog:Program
 w:World
 K:PySem.W.Frag
 mg:Str→Option Value
 base:Heap
 A:Around
 N:List Str
 s₀:Shared
 H₀:Hp
 env:Env
 outer:List Env
 stack:List Env
 ex:List Addr
 fn:Str→Bool
 calm:Bool
 pn:List (Addr × Obj)
 xe:Value→Shared→Prop
def frs (l:List Env):List Addr:=l.filterMap (·.frame)
abbrev Cx.fs (X:Cx):List Addr:=frs X.outer

def Vis (sc:Scope) (x:Str):Prop:=sc.names.lookup x=some .local∨sc.names.lookup x=some .cell∨sc.names.lookup x=some .free
def Loc (sc:Scope) (x:Str):Prop:=sc.names.lookup x=some .local∨sc.names.lookup x=some .cell
def Look (env:Env) (h:Heap) (m:Str→Option Value) (x:Str) (u:Value):Prop :=
 (env.kindOf x=some .local∧m x=some u)∨((env.kindOf x=some .cell∨env.kindOf x=some .free)∧∃ c,env.cells.lookup x=some c∧h.IsCell c (some u))

structure Cx.Ok (X:Cx):Prop where
 mod:Mod X.K X.mg X.base
 kind:X.env.scope.kind=.function
 glob:X.env.globals=mainGlobals
 blt:X.env.builtins=builtinsNs
 above:X.s₀.heap.objs.size≤X.env.locals
 inj:∀ x y c,X.env.cells.lookup x=some c→X.env.cells.lookup y=some c→x=y
 has:∀ x,(X.env.kindOf x=some .cell∨X.env.kindOf x=some .free)→∃ c,X.env.cells.lookup x=some c
 cab:∀ x c,X.fn x=true→X.env.cells.lookup x=some c→X.s₀.heap.objs.size≤c
 hd:X.calm=true→X.A.handled=none
 frames:X.A.frames=some X.stack
 stk:X.stack=X.outer∨(X.stack=X.env::X.outer∧X.env.frame=some X.env.locals)
 exf:∀ b∈X.ex,b≠X.env.locals∧∀ x c,X.env.cells.lookup x=some c→c≠b
 bs:∀ b o,X.base.get? b=some o→X.s₀.heap.get? b=some o∧X.H₀ b=none
 bsz:X.base.objs.size≤X.s₀.heap.objs.size
 noex:∀ b o,X.base.get? b=some o→b∉X.ex
 exfs:∀ b∈X.ex,b∉X.fs
 funs:X.s₀.heap.FunFrames X.base X.outer
 frf:∀ b∈X.fs,X.H₀ b=none

structure Inv (X:Cx) (pins:List (Addr × Obj)) (σ:List (Option V)) (H:Hp) (s:Shared):Prop where
 ok:X.Ok
 os:s.os=X.s₀.os
 bare:AllBare s.gens
 base:Un X.fs X.ex X.H₀ H X.s₀.heap s.heap
 loc:∃ m,s.heap.Ns X.env.locals m∧∀ (i:Nat) (x:Str) (v:V),X.N[i]?=some x→σ[i]?=some (some v)→Vis X.env.scope x→∃ u,RelV v u∧Look X.env s.heap m x u
 cell:∀ x c,X.env.cells.lookup x=some c→∃ v,s.heap.IsCell c v
 free:H X.env.locals=none
 freeC:∀ x c,X.env.cells.lookup x=some c→H c=none
 pin:∀ p∈X.pn++pins,s.heap.get? p.1=some p.2∧H p.1=none∧p.1≠X.env.locals∧p.1∉X.fs∧∀ v,p.2.data≠.cell v
 hok:HOk X.prog X.w H s.heap
 len:σ.length=X.N.length

section
variable {X:Cx} {pins:List (Addr × Obj)} {σ:List (Option V)} {H H':Hp} {s:Shared} {h':Heap}

theorem Cx.Ok.nofr (ok:X.Ok) {b:Addr} {o:Obj} (e:X.base.get? b=some o):b∉X.fs:=fun hb=>by
 have:=(ok.funs.mem hb).1
 rw [e] at this;cases this
theorem Inv.bs (I:Inv X pins σ H s):∀ b o,X.base.get? b=some o→s.heap.get? b=some o∧H b=none:=fun b o e =>
 ⟨I.base.keep b o (I.ok.bs b o e).1 (I.ok.bs b o e).2 (I.ok.nofr e) (I.ok.noex b o e),I.base.free b o (I.ok.bs b o e).1 (I.ok.bs b o e).2 (I.ok.noex b o e)⟩
theorem Inv.bk (I:Inv X pins σ H s):∀ b o,X.base.get? b=some o→s.heap.get? b=some o:=fun b o e=>(I.bs b o e).1
theorem Inv.mod (I:Inv X pins σ H s):Mod X.K X.mg X.base:=I.ok.mod
theorem Inv.kIn (I:Inv X pins σ H s):X.K.In s.heap:=I.ok.mod.kin.keeps I.bk
theorem Inv.lt (I:Inv X pins σ H s):X.env.locals < s.heap.objs.size:=let ⟨_,hn,_⟩:=I.loc;hn.lt
theorem Inv.sz (I:Inv X pins σ H s):X.s₀.heap.objs.size≤s.heap.objs.size:=Nat.le_trans I.ok.above (Nat.le_of_lt I.lt)
theorem Inv.nofs (I:Inv X pins σ H s) {a:Addr} (h:s.heap.objs.size≤a):a∉X.fs:=fun hb=>by
 obtain ⟨_,o,ho,_⟩:=I.ok.funs.mem hb
 exact absurd (Nat.lt_of_lt_of_le (Heap.lt_size ho) (Nat.le_trans I.sz h)) (Nat.lt_irrefl _)
theorem Inv.cne (I:Inv X pins σ H s):∀ x c,X.env.cells.lookup x=some c→c≠X.env.locals:=fun x c e z=>by
 obtain ⟨v,o,ho,hd⟩:=I.cell x c e
 obtain ⟨m,⟨o',es,ep,ho',hd',_⟩,_⟩:=I.loc
 rw [z,ho'] at ho;cases ho;rw [hd'] at hd;cases hd
theorem Inv.funs (I:Inv X pins σ H s):s.heap.FunFrames X.base X.outer:=by
 have all:∀ (l:List Env),(∀ b∈frs l,b∈X.fs)→X.s₀.heap.FunFrames X.base l→s.heap.FunFrames X.base l:=by
  intro l
  induction l with
  | nil=>intro _ _;trivial
  | cons env r ih =>
   intro hs hl
   obtain ⟨hk,⟨L,o,hf,hn,ho,hd⟩,hr⟩:=hl
   have hL:L∈X.fs:=hs L (by unfold frs;rw [List.filterMap_cons,hf];exact List.mem_cons_self)
   obtain ⟨sl,e⟩:=I.base.slot L o ho (I.ok.frf L hL) hL fun z=>I.ok.exfs L z hL
   exact ⟨hk,⟨L,_,hf,hn,e,hd⟩,ih (fun b hb=>hs b (by unfold frs;rw [List.filterMap_cons,hf];exact List.mem_cons_of_mem _ hb)) hr⟩
 exact all X.outer (fun _ hb=>hb) I.ok.funs

theorem Inv.stack (I:Inv X pins σ H s):s.heap.FunFrames X.base X.stack:=by
 rcases I.ok.stk with e | ⟨e,hf⟩
 ·rw [e];exact I.funs
 ·rw [e]
  obtain ⟨m,hn,_⟩:=I.loc
  refine .cons (by rw [I.ok.kind];decide) hf hn ?_ I.funs
  exact Heap.get?_none_of_le (Nat.le_trans I.ok.bsz I.ok.above)
theorem Inv.stkSub (I:Inv X pins σ H s):∀ b∈frs X.stack,b∈X.env.locals::X.fs:=fun b hb=>by
 rcases I.ok.stk with e | ⟨e,hf⟩
 ·rw [e] at hb;exact List.mem_cons_of_mem _ hb
 ·rw [e] at hb
  unfold frs at hb
  rw [List.filterMap_cons,hf] at hb
  exact hb
theorem Inv.stkFree (I:Inv X pins σ H s):∀ b∈frs X.stack,H b=none:=fun b hb=>by
 rcases List.mem_cons.mp (I.stkSub b hb) with e | hb
 ·rw [e];exact I.free
 ·obtain ⟨_,o,ho,_⟩:=I.ok.funs.mem hb
  exact I.base.free b o ho (I.ok.frf b hb) fun z=>I.ok.exfs b z hb

theorem Inv.step {g':Array GenState} {t':Nat} {d':Drawn} {ch:List Addr} (I:Inv X pins σ H s)
  (hch:∀ b∈ch,(b∈X.ex∨X.s₀.heap.objs.size≤b)∧b≠X.env.locals∧(∀ x c,X.env.cells.lookup x=some c→c≠b)∧∀ p∈X.pn++pins,p.1≠b)
  (keep:∀ b o,b≠X.env.locals→b∉X.fs→b∉ch→s.heap.get? b=some o→H b=none→h'.get? b=some o)
  (slot:∀ b o,b≠X.env.locals→b∈X.fs→b∉ch→s.heap.get? b=some o→H b=none→∃ sl,h'.get? b=some { o with slots:=sl }) (free:∀ b o,b∉ch→s.heap.get? b=some o→H b=none→H' b=none)
  (there:∀ b o,b∉ch→s.heap.get? b=some o→∃ o',h'.get? b=some o')
  (tups:∀ b xs,H b=some (.tup xs)→H' b=some (.tup xs)) (frzs:∀ b o u,H b=some (.frz o u)→H' b=some (.frz o u)) (tbls:∀ b ps,H b=some (.tbl ps)→∃ more,H' b=some (.tbl (ps++more)))
  (ns:∀ m,s.heap.Ns X.env.locals m→h'.Ns X.env.locals m) (hok:HOk X.prog X.w H' h') (hg:AllBare g') :
  Inv X pins σ H' { s with heap:=h',gens:=g',drawn:=d',toks:=t' }:=by
 have neL:∀ b o,X.s₀.heap.get? b=some o→b≠X.env.locals:=fun b o e=>Nat.ne_of_lt (Nat.lt_of_lt_of_le (Heap.lt_size e) I.ok.above)
 have neC:∀ b o,X.s₀.heap.get? b=some o→b∉X.ex→b∉ch:=fun b o e hx hb=>by
  rcases (hch b hb).1 with z | z
  ·exact hx z
  ·exact absurd (Nat.lt_of_lt_of_le (Heap.lt_size e) z) (Nat.lt_irrefl _)
 have cellK:∀ x c,X.env.cells.lookup x=some c→∀ v,s.heap.IsCell c v→h'.IsCell c v:=fun x c e v ⟨o,ho,hd⟩=>by
  have nch:c∉ch:=fun z=>(hch c z).2.2.1 x c e rfl
  by_cases hc:c∈X.fs
  ·obtain ⟨sl,q⟩:=slot c o (I.cne x c e) hc nch ho (I.freeC x c e)
   exact ⟨_,q,hd⟩
  ·exact ⟨o,keep c o (I.cne x c e) hc nch ho (I.freeC x c e),hd⟩
 refine ⟨I.ok,I.os,hg,⟨fun b o e n hb hx=>?_,fun b o e n hb hx=>?_,fun b o e n hx=>?_,fun b o e hx=>?_,fun b xs e=>tups b xs (I.base.tups b xs e),fun b o xs e=>frzs b o xs (I.base.frzs b o xs e),fun b ps e=>?_⟩,?_,fun x c e=>?_,?_,fun x c e=>?_,fun p hp=>?_,hok,I.len⟩
 ·exact keep b o (neL b o e) hb (neC b o e hx) (I.base.keep b o e n hb hx) (I.base.free b o e n hx)
 ·obtain ⟨sl,e1⟩:=I.base.slot b o e n hb hx
  obtain ⟨sl',e2⟩:=slot b _ (neL b o e) hb (neC b o e hx) e1 (I.base.free b o e n hx)
  exact ⟨sl',e2⟩
 ·obtain ⟨o',e1⟩:=I.base.there b o e hx
  exact free b o' (neC b o e hx) e1 (I.base.free b o e n hx)
 ·obtain ⟨o',e1⟩:=I.base.there b o e hx
  exact there b o' (neC b o e hx) e1
 ·obtain ⟨m1,e1⟩:=I.base.tbls b ps e
  obtain ⟨m2,e2⟩:=tbls b _ e1
  exact ⟨m1++m2,by rw [e2,Array.append_assoc]⟩
 ·obtain ⟨m,hn,hl⟩:=I.loc
  refine ⟨m,ns m hn,fun i x v e1 e2 e3=>?_⟩
  obtain ⟨u,r,l⟩:=hl i x v e1 e2 e3
  refine ⟨u,r,?_⟩
  rcases l with l | ⟨k,c,e,z⟩
  ·exact .inl l
  ·exact .inr ⟨k,c,e,cellK x c e _ z⟩
 ·obtain ⟨v,z⟩:=I.cell x c e
  exact ⟨v,cellK x c e v z⟩
 ·obtain ⟨m,⟨o,_,_,ho,_⟩,_⟩:=I.loc
  exact free _ o (fun z=>(hch _ z).2.1 rfl) ho I.free
 ·obtain ⟨v,o,ho,hd⟩:=I.cell x c e
  exact free c o (fun z=>(hch c z).2.2.1 x c e rfl) ho (I.freeC x c e)
 ·obtain ⟨e,n,ne,nf,d⟩:=I.pin p hp
  have nch:p.1∉ch:=fun z=>(hch p.1 z).2.2.2 p hp rfl
  exact ⟨keep p.1 p.2 ne nf nch e n,free p.1 p.2 nch e n,ne,nf,d⟩
theorem Inv.un {t':Nat} (I:Inv X pins σ H s) (u:Un X.fs [] H H' s.heap h') (hok:HOk X.prog X.w H' h'):Inv X pins σ H' { s with heap:=h',toks:=t' }:=by
 obtain ⟨m,⟨o,es,ep,ho,r⟩,_⟩:=id I.loc
 obtain ⟨sl,hL⟩:=u.any ho I.free (by simp)
 exact I.step (g':=s.gens) (d':=s.drawn) (ch:=[]) (fun _ z=>nomatch z) (fun b o _ hb _ e n=>u.keep b o e n hb (by simp)) (fun b o _ hb _ e n=>u.slot b o e n hb (by simp)) (fun b o _ e n=>u.free b o e n (by simp)) (fun b o _ e=>u.there b o e (by simp)) u.tups u.frzs u.tbls (fun m' hm=>by
  obtain ⟨o',es',ep',ho',r'⟩:=hm
  rw [ho] at ho';cases ho'
  exact ⟨_,es',ep',hL,r'⟩) hok I.bare
theorem Inv.call {g':Array GenState} {t':Nat} {d':Drawn} {ch:List Addr} (I:Inv X pins σ H s) (u:Un (frs X.stack) ch H H' s.heap h') (hok:HOk X.prog X.w H' h') (hg:AllBare g')
  (hch:∀ b∈ch,(b∈X.ex∨X.s₀.heap.objs.size≤b)∧b≠X.env.locals∧(∀ x c,X.env.cells.lookup x=some c→c≠b)∧∀ p∈X.pn++pins,p.1≠b) :
  Inv X pins σ H' { s with heap:=h',gens:=g',drawn:=d',toks:=t' }:=by
 obtain ⟨m,⟨o,es,ep,ho,r⟩,_⟩:=id I.loc
 obtain ⟨sl,hL⟩:=u.any ho I.free fun z=>(hch _ z).2.1 rfl
 exact I.step (ch:=ch) hch (fun b o hL hb hc e n=>u.keep b o e n (fun z=>(List.mem_cons.mp (I.stkSub b z)).elim hL hb) hc) (fun b o _ _ hc e n=>u.any e n hc) (fun b o hc e n=>u.free b o e n hc) (fun b o hc e=>u.there b o e hc) u.tups u.frzs u.tbls (fun m' hm=>by
  obtain ⟨o',es',ep',ho',r'⟩:=hm
  rw [ho] at ho';cases ho'
  exact ⟨_,es',ep',hL,r'⟩) hok hg
theorem Inv.turned {t':Nat} {it:Addr} (I:Inv X pins σ H s) (k:∀ b o,b≠it→s.heap.get? b=some o→h'.get? b=some o) (hn:H it=none) (hL:it≠X.env.locals)
  (h1:it∈X.ex∨X.s₀.heap.objs.size≤it) (h2:∀ x c,X.env.cells.lookup x=some c→c≠it) (h3:∀ p∈X.pn++pins,p.1≠it):Inv X pins σ H { s with heap:=h',toks:=t' }:=by
 have nit:∀ b u,H b=some u→b≠it:=fun b u e z=>by rw [z,hn] at e;cases e
 refine I.step (g':=s.gens) (d':=s.drawn) (ch:=[it]) (fun b hb=>?_) (fun b o _ _ hc e _=>k b o (fun z=>hc (by simp [z])) e) (fun b o _ _ hc e _=>⟨o.slots,k b o (fun z=>hc (by simp [z])) e⟩) (fun _ _ _ _ n=>n)
  (fun b o hc e=>⟨o,k b o (fun z=>hc (by simp [z])) e⟩) (fun _ _ e=>e) (fun _ _ _ e=>e) (fun b ps e=>⟨#[],by rw [e];simp⟩) (fun m hm=>?_) (fun b u e=>?_) I.bare
 ·have e:b=it:=by simpa using hb
  subst e
  exact ⟨h1,hL,h2,h3⟩
 ·obtain ⟨o,es,ep,ho,r⟩:=hm
  exact ⟨o,es,ep,k _ o (Ne.symm hL) ho,r⟩
 ·refine (I.hok b u e).stay (fun c v hc q=>k c v ?_ q) (fun _ q=>q) fun _ _ q=>q
  rcases hc with z | z
  ·rw [z];exact nit b u e
  ·exact nit c _ z
theorem Inv.tok (I:Inv X pins σ H s) (t:Nat):Inv X pins σ H { s with toks:=t }:=I.un (h':=s.heap) (t':=t) Un.refl I.hok
theorem Inv.kept {t':Nat} (I:Inv X pins σ H s) (k:∀ b u,s.heap.get? b=some u→h'.get? b=some u):Inv X pins σ H { s with heap:=h',toks:=t' }:=I.un (Un.kept k) (I.hok.kept k)
theorem Inv.laid {a:Addr} {o:HO} {t':Nat} (I:Inv X pins σ H s) (k:∀ b u,s.heap.get? b=some u→h'.get? b=some u) (hp:s.heap.objs.size≤a) (new:ObjOk X.prog X.w (upd H a o) h' a o) :
  Inv X pins σ (upd H a o) { s with heap:=h',toks:=t' }:=I.un (Un.laid k hp (I.hok.fresh hp)) (I.hok.laid k hp new)
theorem Inv.write {x e:Addr} {o:HO} {t':Nat} (I:Inv X pins σ H s) (mu:Mut (H x)) (he:e=x∨H e=some (.own x)) (k:∀ b u,b≠e→s.heap.get? b=some u→h'.get? b=some u) (heo:∃ u,h'.get? e=some u)
  (new:ObjOk X.prog X.w (upd H x o) h' x o):Inv X pins σ (upd H x o) { s with heap:=h',toks:=t' }:=I.un (Un.write mu he k heo) (I.hok.write mu he k heo new)
theorem Inv.pins_of {pins':List (Addr × Obj)} (I:Inv X pins σ H s) (h:∀ p∈pins',s.heap.get? p.1=some p.2∧H p.1=none∧p.1≠X.env.locals∧p.1∉X.fs∧∀ v,p.2.data≠.cell v):Inv X pins' σ H s :=
 ⟨I.ok,I.os,I.bare,I.base,I.loc,I.cell,I.free,I.freeC,fun p hp=>(List.mem_append.mp hp).elim (fun z=>I.pin p (List.mem_append_left _ z)) (h p),I.hok,I.len⟩

theorem nodup_ix {N:List Str} (hN:N.Nodup) {i j:Nat} {x:Str} (a:N[i]?=some x) (b:N[j]?=some x):i=j:=by
 obtain ⟨h1,e1⟩:=List.getElem?_eq_some_iff.mp a
 obtain ⟨h2,e2⟩:=List.getElem?_eq_some_iff.mp b
 exact (List.getElem_inj hN).mp (e1.trans e2.symm)

theorem store_ok2 {M:Model} {A:Around} {E:Value→Shared→Prop} {i:Nat} {x:Str} {v:V} {u:Value} {Q:Unit→Shared→Prop} (I:Inv X pins σ H s) (hN:X.N.Nodup) (hi:X.N[i]?=some x) (hx:Loc X.env.scope x) (r:RelV v u)
  (h:∀ s',Inv X pins (σ.set i (some v)) H s'→(∃ a,Heap.SameBut a s.heap s'.heap∧(a=X.env.locals∨X.env.cells.lookup x=some a))→Q () s') (hf:X.fn x=true∨X.env.scope.names.lookup x=some .local:=by first | exact .inl rfl | exact .inr rfl | assumption):wpAny M A (storeName X.env x u) Q E s:=by
 obtain ⟨m,hn,hl⟩:=id I.loc
 have hcls:(X.env.scope.kind == .class || (X.env.scope.kind == .module && X.env.locals != X.env.globals))=false:=by rw [I.ok.kind];rfl
 have hiσ:i < σ.length:=by rw [I.len];exact (List.getElem?_eq_some_iff.mp hi).1
 have cne:=I.cne
 have tracked:∀ {a:Addr} {h':Heap},(∃ o,s.heap.get? a=some o∧H a=none)→Heap.SameBut a s.heap h'→HOk X.prog X.w H h':=fun {a h'} ha hs b ob e=>by
  obtain ⟨_,_,hfree⟩:=ha
  refine (I.hok b ob e).stay (fun c w' hc q=>(hs.2 c ?_).trans q) (fun _ q=>q) fun _ _ q=>q
  rintro rfl
  rcases hc with rfl | hc
  ·rw [hfree] at e;cases e
  ·rw [hfree] at hc;cases hc
 rcases hx with hk | hk
 ·refine wpAny_storeName_local hk hn (fun h' hn' hs=>?_) hcls
  obtain ⟨oL,_,_,hoL,_⟩:=id hn
  refine h _ ⟨I.ok,I.os,I.bare,⟨fun b o e n hb hx=>?_,fun b o e n hb hx=>?_,I.base.free,fun b o e hx=>?_,I.base.tups,I.base.frzs,I.base.tbls⟩,⟨_,hn',fun j y v' e1 e2 e3=>?_⟩,fun y c e=>?_,I.free,I.freeC,fun p hp=>?_,tracked ⟨oL,hoL,I.free⟩ hs,by simpa using I.len⟩ ⟨_,hs,.inl rfl⟩
  ·exact (hs.2 b (Nat.ne_of_lt (Nat.lt_of_lt_of_le (Heap.lt_size e) I.ok.above))).trans (I.base.keep b o e n hb hx)
  ·obtain ⟨sl,e1⟩:=I.base.slot b o e n hb hx
   exact ⟨sl,(hs.2 b (Nat.ne_of_lt (Nat.lt_of_lt_of_le (Heap.lt_size e) I.ok.above))).trans e1⟩
  ·obtain ⟨o',e1⟩:=I.base.there b o e hx
   exact ⟨o',(hs.2 b (Nat.ne_of_lt (Nat.lt_of_lt_of_le (Heap.lt_size e) I.ok.above))).trans e1⟩
  ·by_cases hj:j=i
   ·subst hj
    rw [hi] at e1;cases e1
    rw [List.getElem?_set_self hiσ] at e2
    cases e2
    exact ⟨u,r,.inl ⟨hk,by simp⟩⟩
   ·rw [List.getElem?_set_ne (Ne.symm hj)] at e2
    obtain ⟨u',r',q⟩:=hl j y v' e1 e2 e3
    refine ⟨u',r',?_⟩
    rcases q with ⟨k,e⟩ | ⟨k,c,e,z⟩
    ·refine .inl ⟨k,?_⟩
     have:y≠x:=fun e=>hj (nodup_ix hN e1 (e ▸ hi))
     simp [this,e]
    ·exact .inr ⟨k,c,e,z.sameBut hs (cne y c e)⟩
  ·obtain ⟨w',z⟩:=I.cell y c e
   exact ⟨w',z.sameBut hs (cne y c e)⟩
  ·obtain ⟨e,n,ne,nf,d⟩:=I.pin p hp
   exact ⟨(hs.2 p.1 ne).trans e,n,ne,nf,d⟩
 ·have hfn:X.fn x=true:=by
   rcases hf with z | z
   ·exact z
   ·rw [z] at hk;cases hk
  obtain ⟨c,hc⟩:=I.ok.has x (.inl hk)
  obtain ⟨w',z⟩:=I.cell x c hc
  refine wpAny_storeName_cell I.ok.kind hk hc z (fun h' hc' hs=>?_)
  obtain ⟨oc,hoc,hocd⟩:=id z
  refine h { s with heap:=h' } ⟨I.ok,I.os,I.bare,⟨fun b o e n hb hx=>?_,fun b o e n hb hx=>?_,I.base.free,fun b o e hx=>?_,I.base.tups,I.base.frzs,I.base.tbls⟩,⟨m,hn.sameBut hs (Ne.symm (cne x c hc)),fun j y v' e1 e2 e3=>?_⟩,fun y c' e=>?_,I.free,I.freeC,fun p hp=>?_,tracked ⟨oc,hoc,I.freeC x c hc⟩ hs,by simpa using I.len⟩ ⟨c,hs,.inr hc⟩
  ·exact (hs.2 b (Nat.ne_of_lt (Nat.lt_of_lt_of_le (Heap.lt_size e) (I.ok.cab x c hfn hc)))).trans (I.base.keep b o e n hb hx)
  ·obtain ⟨sl,e1⟩:=I.base.slot b o e n hb hx
   exact ⟨sl,(hs.2 b (Nat.ne_of_lt (Nat.lt_of_lt_of_le (Heap.lt_size e) (I.ok.cab x c hfn hc)))).trans e1⟩
  ·obtain ⟨o',e1⟩:=I.base.there b o e hx
   exact ⟨o',(hs.2 b (Nat.ne_of_lt (Nat.lt_of_lt_of_le (Heap.lt_size e) (I.ok.cab x c hfn hc)))).trans e1⟩
  ·by_cases hj:j=i
   ·subst hj
    rw [hi] at e1;cases e1
    rw [List.getElem?_set_self hiσ] at e2
    cases e2
    exact ⟨u,r,.inr ⟨.inl hk,c,hc,hc'⟩⟩
   ·rw [List.getElem?_set_ne (Ne.symm hj)] at e2
    obtain ⟨u',r',q⟩:=hl j y v' e1 e2 e3
    refine ⟨u',r',?_⟩
    rcases q with q | ⟨k,c',e,z'⟩
    ·exact .inl q
    ·refine .inr ⟨k,c',e,z'.sameBut hs ?_⟩
     rintro rfl
     exact hj (nodup_ix hN e1 (I.ok.inj _ _ _ e hc ▸ hi))
  ·by_cases hcc:c'=c
   ·subst hcc;exact ⟨_,hc'⟩
   ·obtain ⟨w2,z2⟩:=I.cell y c' e
    exact ⟨w2,z2.sameBut hs hcc⟩
  ·obtain ⟨e,n,ne,nf,d⟩:=I.pin p hp
   refine ⟨(hs.2 p.1 ?_).trans e,n,ne,nf,d⟩
   intro q
   rw [q,hoc] at e
   have q':oc=p.2:=Option.some.inj e
   exact d w' (by rw [←q'];exact hocd)
theorem store_ok {M:Model} {A:Around} {E:Value→Shared→Prop} {i:Nat} {x:Str} {v:V} {u:Value} {Q:Unit→Shared→Prop} (I:Inv X pins σ H s) (hN:X.N.Nodup) (hi:X.N[i]?=some x) (hx:Loc X.env.scope x) (r:RelV v u)
  (h:∀ s',Inv X pins (σ.set i (some v)) H s'→Q () s') (hf:X.fn x=true∨X.env.scope.names.lookup x=some .local:=by first | exact .inl rfl | exact .inr rfl | assumption):wpAny M A (storeName X.env x u) Q E s :=
 store_ok2 I hN hi hx r (fun s' I' _=>h s' I') hf
theorem Inv.call' {s':Shared} {ch:List Addr} (I:Inv X pins σ H s) (ho:s'.os=s.os) (u:Un (frs X.stack) ch H H' s.heap s'.heap) (hok:HOk X.prog X.w H' s'.heap) (hg:AllBare s'.gens)
  (hch:∀ b∈ch,(b∈X.ex∨X.s₀.heap.objs.size≤b)∧b≠X.env.locals∧(∀ x c,X.env.cells.lookup x=some c→c≠b)∧∀ p∈X.pn++pins,p.1≠b):Inv X pins σ H' s':=by
 obtain ⟨h',g',d',t',o'⟩:=s'
 have e:o'=s.os:=ho
 subst e
 exact I.call (g':=g') (t':=t') (d':=d') u hok hg hch
end

/-! ### the judgements -/
abbrev XK:=Value→Option Addr→Hp→Prop
abbrev St:=List (Option V)
abbrev VK:=V→Hp→Prop
abbrev TE:=St→Hp→VK→Prop
abbrev TT:=St→Hp→(Bool→Hp→Prop)→Prop
abbrev TA:=St→Hp→(List V→Hp→Prop)→Prop
structure Ends where
 nx:St→Hp→Prop
 rt:VK
 bk:St→Hp→Prop:=fun _ _=>False
 ct:St→Hp→Prop:=fun _ _=>False
abbrev TS:=Ends→St→Hp→Prop

def EP (X:Cx) (pins:List (Addr × Obj)) (σ:St) (Q:VK) (u:Value) (s':Shared):Prop:=∃ v H',Inv X pins σ H' s'∧RelV v u∧Q v H'
def TP (X:Cx) (pins:List (Addr × Obj)) (σ:St) (Q:Bool→Hp→Prop) (b:Bool) (s':Shared):Prop:=∃ H',Inv X pins σ H' s'∧Q b H'
def AP (X:Cx) (pins:List (Addr × Obj)) (σ:St) (Q:List V→Hp→Prop) (us:List Value) (s':Shared):Prop:=∃ vs H',Inv X pins σ H' s'∧Vals vs us∧Q vs H'
def SP (X:Cx) (pins:List (Addr × Obj)) (D:Ends) (f:Flow) (s':Shared):Prop :=
 match f with
 | .next=>∃ σ' H',Inv X pins σ' H' s'∧D.nx σ' H'
 | .brk=>∃ σ' H',Inv X pins σ' H' s'∧D.bk σ' H'
 | .cont=>∃ σ' H',Inv X pins σ' H' s'∧D.ct σ' H'
 | .ret u=>∃ v σ' H',Inv X pins σ' H' s'∧RelV v u∧D.rt v H'

def PE (X:Cx) (e:Expr) (t:TE):Prop :=
 ∀ (pins:List (Addr × Obj)) (s:Shared) (σ:St) (H:Hp) (Q:VK),Inv X pins σ H s→t σ H Q→wpAny (model X.prog X.w) X.A (eval e X.env) (EP X pins σ Q) X.xe s
def PT (X:Cx) (e:Expr) (t:TT):Prop :=
 ∀ (pins:List (Addr × Obj)) (s:Shared) (σ:St) (H:Hp) (Q:Bool→Hp→Prop),Inv X pins σ H s→t σ H Q→wpAny (model X.prog X.w) X.A (isTrue e X.env (eval e X.env)) (TP X pins σ Q) X.xe s
def PW (X:Cx) (e:Expr) (t:TT):Prop :=
 ∀ (whole:Sem Value) (pins:List (Addr × Obj)) (s:Shared) (σ:St) (H:Hp) (Q:Bool→Hp→Prop),Inv X pins σ H s→t σ H Q→wpAny (model X.prog X.w) X.A (isTrue e X.env whole) (TP X pins σ Q) X.xe s
theorem PW.pt {X:Cx} {e:Expr} {t:TT} (h:PW X e t):PT X e t:=h _
def PA (X:Cx) (es:List Expr) (t:TA):Prop :=
 ∀ (pos:Pos) (pins:List (Addr × Obj)) (s:Shared) (σ:St) (H:Hp) (Q:List V→Hp→Prop),Inv X pins σ H s→t σ H Q→wpAny (model X.prog X.w) X.A (spliced (backTo pos (starEach es X.env))) (AP X pins σ Q) X.xe s
def PS (X:Cx) (st:Stmt) (t:TS):Prop :=
 ∀ (pins:List (Addr × Obj)) (s:Shared) (σ:St) (H:Hp) (D:Ends),Inv X pins σ H s→t D σ H→wpAny (model X.prog X.w) X.A (exec st X.env) (SP X pins D) X.xe s
def PSs (X:Cx) (st:List Stmt) (t:TS):Prop :=
 ∀ (pins:List (Addr × Obj)) (s:Shared) (σ:St) (H:Hp) (D:Ends),Inv X pins σ H s→t D σ H→wpAny (model X.prog X.w) X.A (execs st X.env) (SP X pins D) X.xe s
theorem thn {α:Type} {t:Sem α} {Q Q':α→Shared→Prop} {M:Model} {A:Around} {E:Value→Shared→Prop} {s:Shared} (h:wpAny M A t Q E s) (hQ:∀ a s,Q a s→Q' a s):wpAny M A t Q' E s:=wpAny_mono h hQ fun _ _ x=>x
end L2

namespace L2
open PySem PySem.Spec PyProof.Rows
section
variable {X:Cx}

theorem bin {a b:Expr} {ta tb:TE} (ha:PE X a ta) (hb:PE X b tb) {pins:List (Addr × Obj)} {s:Shared} {σ:St} {H:Hp} {R:V→V→Hp→Prop} (I:Inv X pins σ H s) (h:ta σ H fun x H1=>tb σ H1 fun y H2=>R x y H2)
  {α:Type} {Q:α→Shared→Prop} {f:Value→Value→Sem α}
  (hf:∀ v u s2 x y H2,Inv X pins σ H2 s2→RelV x v→RelV y u→R x y H2→wpAny (model X.prog X.w) X.A (f v u) Q X.xe s2) :
  wpAny (model X.prog X.w) X.A (eval a X.env) (fun v s₁=>wpAny (model X.prog X.w) X.A (eval b X.env) (fun u s₂=>wpAny (model X.prog X.w) X.A (f v u) Q X.xe s₂) X.xe s₁) X.xe s:=by
 refine thn (ha pins s σ H _ I h) fun v s1 ⟨x,H1,I1,r1,q1⟩=>?_
 refine thn (hb pins s1 σ H1 _ I1 q1) fun u s2 ⟨y,H2,I2,r2,q2⟩=>?_
 exact hf v u s2 x y H2 I2 r1 r2 q2

/-! ### names and constants -/
def tVar (i:Nat):TE:=fun σ H Q=>∃ v,σ[i]?=some (some v)∧Q v H
def tC (v:V):TE:=fun _ H Q=>Q v H
theorem pe_var {i:Nat} {x:Str} {pos:Pos} (hN:X.N[i]?=some x) (hv:Vis X.env.scope x) (hd:(x == ("__debug__":Str))=false:=by decide) (hcd:(x == ("__classdict__":Str))=false:=by decide):PE X (.Name x pos) (tVar i):=by
 intro pins s σ H Q I h
 obtain ⟨v,e,h⟩:=h
 obtain ⟨m,hn,hl⟩:=I.loc
 obtain ⟨u,r,l⟩:=hl i x v hN e hv
 have fin:EP X pins σ Q u s:=⟨v,H,I,r,h⟩
 rcases l with ⟨hk,hm⟩ | ⟨hk,c,hc,hcell⟩
 ·exact wpAny_Name (wpAny_loadName_local I.ok.kind hk hn hm fin) hd
 ·rcases hk with hk | hk
  ·exact wpAny_Name (wpAny_loadName_cell I.ok.kind hk hc hcell fin) hd
  ·exact wpAny_Name (wpAny_loadName_free I.ok.kind hk hc hcell fin hcd) hd
theorem pe_int {i j pos}:PE X (.Constant (.int i) j pos) (tC (.int i)):=fun _ _ _ H _ I h=>wpAny_Constant_int ⟨.int i,H,I.tok _,⟨_,rfl⟩,h⟩
theorem pe_bl {b j pos}:PE X (.Constant (.bool b) j pos) (tC (.bl b)):=fun _ _ _ H _ I h=>Constant_bool ⟨.bl b,H,I,rfl,h⟩
theorem pe_str {x j pos}:PE X (.Constant (.str x) j pos) (tC (.str x)):=fun _ _ _ H _ I h=>Calls.Constant_str ⟨.str x,H,I.tok _,⟨_,rfl⟩,h⟩

def Gl (X:Cx) (x:Str):Prop:=X.env.kindOf x=some .globalImplicit
theorem ld_glob {E:Value→Shared→Prop} {pins:List (Addr × Obj)} {s:Shared} {σ:St} {H:Hp} {x:Str} {u:Value} {pos:Pos} {Q:Value→Shared→Prop} (I:Inv X pins σ H s) (hg:Gl X x) (hm:X.mg x=some u) (h:Q u s)
  (hd:(x == ("__debug__":Str))=false:=by decide):wpAny (model X.prog X.w) X.A (eval (.Name x pos) X.env) Q E s :=
 Calls.Name_function_global I.ok.kind hg (Calls.loadGlobal_global (by rw [I.ok.glob];exact I.mod.glob.keeps I.bk) hm h) hd
theorem ld_blt {E:Value→Shared→Prop} {pins:List (Addr × Obj)} {s:Shared} {σ:St} {H:Hp} {x:Str} {u:Value} {pos:Pos} {Q:Value→Shared→Prop} (I:Inv X pins σ H s) (hg:Gl X x) (hm:X.mg x=none) (hv:bootBuiltins x=some u) (h:Q u s)
  (hn:x≠"__name__":=by decide) (hd:(x == ("__debug__":Str))=false:=by decide):wpAny (model X.prog X.w) X.A (eval (.Name x pos) X.env) Q E s:=by
 obtain ⟨mb,h1,h2⟩:=I.mod.blt
 exact Calls.Name_function_global I.ok.kind hg (Calls.loadGlobal_builtin (by rw [I.ok.glob];exact I.mod.glob.keeps I.bk) hm (by rw [I.ok.blt];exact h1.keeps I.bk) ((h2 x hn).trans hv) h) hd
theorem pe_glob {x:Str} {v:V} {u:Value} {pos:Pos} (hg:Gl X x) (hm:X.mg x=some u) (r:RelV v u) (hd:(x == ("__debug__":Str))=false:=by decide):PE X (.Name x pos) (tC v) :=
 fun _ _ _ H _ I h=>ld_glob I hg hm ⟨v,H,I,r,h⟩ hd
/-! ### arithmetic -/
def t2I (ta tb:TE) (k:Int→Int→Hp→Prop):St→Hp→Prop:=fun σ H=>ta σ H fun x H1=>tb σ H1 fun y H2=>∃ i j,x=.int i∧y=.int j∧k i j H2
variable {a b:Expr} {ta tb:TE} {pos:Pos}
/-! ### comparisons -/
def PC (X:Cx) (op:CmpOp) (a b:Expr) (t:TE):Prop :=
 ∀ (pins:List (Addr × Obj)) (s:Shared) (σ:St) (H:Hp) (Q:VK),Inv X pins σ H s→t σ H Q →
  wpAny (model X.prog X.w) X.A (eval a X.env) (fun v s₁=>wpAny (model X.prog X.w) X.A (eval b X.env) (fun u s₂=>wpAny (model X.prog X.w) X.A (compareOp op v u) (EP X pins σ Q) X.xe s₂) X.xe s₁) X.xe s
theorem nobehind (b:Expr) {op:CmpOp} (h:op≠.In) (h2:op≠.NotIn):behindInMarks op b=false:=by
 have e1:(op == CmpOp.In)=false:=by cases op<;>first | rfl | exact absurd rfl h
 have e2:(op == CmpOp.NotIn)=false:=by cases op<;>first | rfl | exact absurd rfl h2
 cases b<;>simp [behindInMarks,e1,e2]
def tCmp (p:Int→Int→Bool) (ta tb:TE):TE:=fun σ H Q=>t2I ta tb (fun i j H2=>Q (.bl (p i j)) H2) σ H
abbrev tEqI:TE→TE→TE:=tCmp fun i j=>decide (i=j)
abbrev tNeI:TE→TE→TE:=tCmp fun i j=>!decide (i=j)
theorem pc_int {op:CmpOp} {p:Int→Int→Bool} (ha:PE X a ta) (hb:PE X b tb)
  (rule:∀ (i j:Int) (t u:Tok) (Q:Value→Shared→Prop) (s:Shared),Q (.bool (p i j)) s→wpAny (model X.prog X.w) X.A (compareOp op (.int i t) (.int j u)) Q X.xe s):PC X op a b (tCmp p ta tb):=by
 intro pins s σ H Q I h
 refine bin ha hb I h fun v u s2 x y H2 I2 rx ry q=>?_
 obtain ⟨i,j,rfl,rfl,q⟩:=q
 obtain ⟨t,rfl⟩:=rx
 obtain ⟨t',rfl⟩:=ry
 exact rule i j t t' _ s2 ⟨.bl _,H2,I2,rfl,q⟩
theorem pc_eqI (ha:PE X a ta) (hb:PE X b tb):PC X .Eq a b (tEqI ta tb):=pc_int ha hb fun _ _ _ _ _ _ h=>eq_int (by rw [Bool.beq_eq_decide_eq];exact h)
theorem pc_neI (ha:PE X a ta) (hb:PE X b tb):PC X .NotEq a b (tNeI ta tb):=pc_int ha hb fun _ _ _ _ _ _ h=>ne_int (by rw [bne,Bool.beq_eq_decide_eq];exact h)
def tB (t:TE):TT:=fun σ H Q=>t σ H fun x H1=>∃ c,x=.bl c∧Q c H1
theorem pt_cmp {op:CmpOp} {t:TE} (h:PC X op a b t) (h1:behindInMarks op b=false:=by first | exact nobehind _ (by decide) (by decide) | rfl):PT X (.Compare a [op] [b] pos) (tB t):=by
 intro pins s σ H Q I hw
 refine wpAny_isTrue_Compare1 (thn (h pins s σ H _ I hw) fun v s1 h1=>thn h1 fun u s2 h2=>thn h2 fun c s3 ⟨x,H1,I1,r1,q1⟩=>?_) h1
 obtain ⟨d,rfl,q⟩:=q1
 cases r1
 exact wpAny_truthy_bool ⟨H1,I1,q⟩
theorem pt_val {e:Expr} {t:TE} (h:PE X e t) (he:∀ whole,isTrue e X.env whole=(do let v ←whole;standAt e.pos;holding [v] (truthy v)):=by intro _;rfl):PT X e (tB t):=by
 intro pins s σ H Q I hw
 refine isTrue_plain (thn (h pins s σ H _ I hw) fun v s1 ⟨x,H1,I1,r1,q1⟩=>?_) (he _)
 obtain ⟨d,rfl,q⟩:=q1
 cases r1
 exact wpAny_truthy_bool ⟨H1,I1,q⟩

/-! ### and,or,not -/
variable {tA tB':TT} {rest:List Expr}
def tAnd (t u:TT):TT:=fun σ H Q=>t σ H fun c H1=>if c=true then u σ H1 Q else Q false H1
def tOr (t u:TT):TT:=fun σ H Q=>t σ H fun c H1=>if c=true then Q true H1 else u σ H1 Q
def tNot (t:TT):TT:=fun σ H Q=>t σ H fun c H1=>Q (!c) H1
theorem pw_and1 (ha:PT X a tA):PW X (.BoolOp .And [a] pos) tA:=by
 intro wh pins s σ H Q I h
 refine isTrue_and (thn (ha pins s σ H Q I h) fun c s1 e=>?_)
 cases c with
 | true=>exact isTrue_and_nil e
 | false=>exact e
theorem pw_or1 (ha:PT X a tA):PW X (.BoolOp .Or [a] pos) tA:=by
 intro wh pins s σ H Q I h
 refine isTrue_or (thn (ha pins s σ H Q I h) fun c s1 e=>?_)
 cases c with
 | false=>exact isTrue_or_nil e
 | true=>exact e
theorem pw_and (ha:PT X a tA) (hb:PW X (.BoolOp .And (b::rest) pos) tB'):PW X (.BoolOp .And (a::b::rest) pos) (tAnd tA tB'):=by
 intro wh pins s σ H Q I h
 refine isTrue_and (thn (ha pins s σ H _ I h) fun c s1 ⟨H1,I1,q1⟩=>?_)
 cases c with
 | true=>exact hb wh pins s1 σ H1 Q I1 q1
 | false=>exact ⟨H1,I1,q1⟩
theorem pw_or (ha:PT X a tA) (hb:PW X (.BoolOp .Or (b::rest) pos) tB'):PW X (.BoolOp .Or (a::b::rest) pos) (tOr tA tB'):=by
 intro wh pins s σ H Q I h
 refine isTrue_or (thn (ha pins s σ H _ I h) fun c s1 ⟨H1,I1,q1⟩=>?_)
 cases c with
 | true=>exact ⟨H1,I1,q1⟩
 | false=>exact hb wh pins s1 σ H1 Q I1 q1
theorem pt_not (ha:PT X a tA):PT X (.UnaryOp .Not a pos) (tNot tA):=by
 intro pins s σ H Q I h
 exact isTrue_not (ha pins s σ H (fun c H1=>Q (!c) H1) I h)
def tNotV (ta:TE):TE:=fun σ H Q=>ta σ H fun x H1=>∃ c,x=.bl c∧Q (.bl (!c)) H1
theorem pe_not (ha:PE X a ta):PE X (.UnaryOp .Not a pos) (tNotV ta):=by
 intro pins s σ H Q I h
 refine UnaryOp_ (thn (ha pins s σ H _ I h) fun v s1 ⟨x,H1,I1,r1,q1⟩=>?_)
 obtain ⟨c,rfl,q1⟩:=q1
 cases r1
 exact not_of (wpAny_truthy_bool ⟨.bl (!c),H1,I1,rfl,q1⟩)
def tIf (t:TT) (ta tb:TE):TE:=fun σ H Q=>t σ H fun c H1=>if c=true then ta σ H1 Q else tb σ H1 Q
theorem pe_ifExp {c:Expr} (hc:PT X c tA) (ha:PE X a ta) (hb:PE X b tb):PE X (.IfExp c a b pos) (tIf tA ta tb):=by
 intro pins s σ H Q I h
 refine wpAny_IfExp (thn (hc pins s σ H _ I h) fun d s1 ⟨H1,I1,q1⟩=>?_)
 cases d with
 | true=>exact ha pins s1 σ H1 Q I1 q1
 | false=>exact hb pins s1 σ H1 Q I1 q1
end
end L2

namespace L2
open PySem PySem.Spec PyProof.Rows

/-! ### a list,a tuple that is read: tracked,frozen,or an object of the module -/
def SqL (K:PySem.W.Frag) (H:Hp) (a:Addr) (xs:List V):Prop :=
 Rd H a (.lst xs) ∨
  ∃ (o:Obj) (its:Array Value) (n:Nat),K.lookup a=some o∧o.cls=.type "list"∧o.dict=none∧o.data=.seq its n∧its.size≤sizeLine∧Vals xs its.toList
def SqT (K:PySem.W.Frag) (H:Hp) (a:Addr) (xs:List V):Prop :=
 Rd H a (.tup xs) ∨
  ∃ (o:Obj) (its:Array Value) (n:Nat),K.lookup a=some o∧o.cls=.type "tuple"∧o.data=.seq its n∧its.size≤sizeLine∧Vals xs its.toList
def absV:Value→Option V
 | .none=>some .non
 | .bool b=>some (.bl b)
 | .int i _=>some (.int i)
 | .str x _=>some (.str x)
 | .bytes b _=>some (.byt b)
 | .float b _=>some (.flt b)
 | .ref a=>some (.ref a)
 | .type n=>some (.ty n)
 | _=>none
theorem RelV.abs {x:V} {u:Value} (r:RelV x u):absV u=some x:=by
 cases x with
 | non=>cases r;rfl
 | bl _=>cases r;rfl
 | int _=>obtain ⟨t,rfl⟩:=r;rfl
 | str _=>obtain ⟨t,rfl⟩:=r;rfl
 | byt _=>obtain ⟨t,rfl⟩:=r;rfl
 | flt _=>obtain ⟨t,rfl⟩:=r;rfl
 | ref _=>cases r;rfl
 | ty _=>cases r;rfl
theorem RelV.inj {x y:V} {u:Value} (r:RelV x u) (q:RelV y u):x=y:=Option.some.inj (r.abs.symm.trans q.abs)
theorem Vals.inj:∀ {xs ys:List V} {us:List Value},Vals xs us→Vals ys us→xs=ys
 | _,_,_,.nil,.nil=>rfl
 | _,_,_,.cons r t,.cons r' t'=>by rw [r.inj r',Vals.inj t t']
section
variable {X:Cx} {pins:List (Addr × Obj)} {σ:St} {H:Hp} {s:Shared} {a:Addr} {xs ys:List V}
theorem SqL.of {K:PySem.W.Frag} (h:H a=some (.lst xs)):SqL K H a xs:=.inl (.inl h)
theorem SqT.of {K:PySem.W.Frag} (h:H a=some (.tup xs)):SqT K H a xs:=.inl (.inl h)
theorem Inv.list (I:Inv X pins σ H s) (h:SqL X.K H a xs):∃ its:List Value,Vals xs its∧PlainL s.heap a its.toArray∧xs.length≤sizeLine:=by
 rcases h with h | ⟨o,its,n,hk,hc,hd,hs,hz,r⟩
 ·obtain ⟨z,its,n,r,e⟩:=h.ok I.hok
  exact ⟨its,r,⟨_,n,e,rfl,rfl,rfl⟩,z⟩
 ·refine ⟨its.toList,r,⟨o,n,I.kIn a o hk,hc,hd,by simpa using hs⟩,?_⟩
  have e:=r.length
  simp only [Array.length_toList] at e
  omega
theorem Inv.tuple (I:Inv X pins σ H s) (h:SqT X.K H a xs):∃ its:List Value,Vals xs its∧IsTup s.heap a its.toArray∧xs.length≤sizeLine:=by
 rcases h with h | ⟨o,its,n,hk,hc,hs,hz,r⟩
 ·obtain ⟨z,its,n,r,e⟩:=h.ok I.hok
  exact ⟨its,r,⟨_,e,rfl,n,rfl⟩,z⟩
 ·refine ⟨its.toList,r,⟨o,I.kIn a o hk,hc,n,by simpa using hs⟩,?_⟩
  have e:=r.length
  simp only [Array.length_toList] at e
  omega
theorem Inv.list_inj (I:Inv X pins σ H s) (h:SqL X.K H a xs) (h':SqL X.K H a ys):xs=ys:=by
 obtain ⟨its,r,⟨o,n,e,_,_,d⟩,_⟩:=I.list h
 obtain ⟨its',r',⟨o',n',e',_,_,d'⟩,_⟩:=I.list h'
 rw [e] at e';cases e'
 rw [d] at d'
 injection d' with d1 _
 have:its=its':=by simpa using congrArg Array.toList d1
 subst this
 exact r.inj r'
theorem Inv.tuple_inj (I:Inv X pins σ H s) (h:SqT X.K H a xs) (h':SqT X.K H a ys):xs=ys:=by
 obtain ⟨its,r,⟨o,e,_,n,d⟩,_⟩:=I.tuple h
 obtain ⟨its',r',⟨o',e',_,n',d'⟩,_⟩:=I.tuple h'
 rw [e] at e';cases e'
 rw [d] at d'
 injection d' with d1 _
 have:its=its':=by simpa using congrArg Array.toList d1
 subst this
 exact r.inj r'
end

/-! ### another wish about exceptions -/
abbrev Cx.wish (X:Cx) (E:Value→Shared→Prop):Cx:={ X with xe:=E }
abbrev Cx.nox (X:Cx):Cx:=X.wish fun _ _=>False
theorem Cx.Ok.wish {X:Cx} (ok:X.Ok) (E:Value→Shared→Prop):(X.wish E).Ok :=
 ⟨ok.mod,ok.kind,ok.glob,ok.blt,ok.above,ok.inj,ok.has,ok.cab,ok.hd,ok.frames,ok.stk,ok.exf,ok.bs,ok.bsz,ok.noex,ok.exfs,ok.funs,ok.frf⟩
theorem Cx.Ok.unwish {X:Cx} {E:Value→Shared→Prop} (ok:(X.wish E).Ok):X.Ok :=
 ⟨ok.mod,ok.kind,ok.glob,ok.blt,ok.above,ok.inj,ok.has,ok.cab,ok.hd,ok.frames,ok.stk,ok.exf,ok.bs,ok.bsz,ok.noex,ok.exfs,ok.funs,ok.frf⟩
section
variable {X:Cx} {pins:List (Addr × Obj)} {σ:St} {H:Hp} {s:Shared} {E:Value→Shared→Prop}
theorem Inv.wish (I:Inv X pins σ H s) (E:Value→Shared→Prop):Inv (X.wish E) pins σ H s:=⟨I.ok.wish E,I.os,I.bare,I.base,I.loc,I.cell,I.free,I.freeC,I.pin,I.hok,I.len⟩
theorem Inv.unwish (I:Inv (X.wish E) pins σ H s):Inv X pins σ H s:=⟨I.ok.unwish,I.os,I.bare,I.base,I.loc,I.cell,I.free,I.freeC,I.pin,I.hok,I.len⟩
theorem SP.unwish {D:Ends} {f:Flow} {s':Shared} (h:SP (X.wish E) pins D f s'):SP X pins D f s':=by
 cases f with
 | next=>obtain ⟨σ',H',I,q⟩:=h;exact ⟨σ',H',I.unwish,q⟩
 | brk=>obtain ⟨σ',H',I,q⟩:=h;exact ⟨σ',H',I.unwish,q⟩
 | cont=>obtain ⟨σ',H',I,q⟩:=h;exact ⟨σ',H',I.unwish,q⟩
 | ret u=>obtain ⟨v,σ',H',I,r,q⟩:=h;exact ⟨v,σ',H',I.unwish,r,q⟩
theorem PSs.nox {st:List Stmt} {t:TS} (h:PSs X.nox st t):PSs X st t:=fun pins s σ H D I hw =>
 wpAny_mono (h pins s σ H D (I.wish _) hw) (fun _ _ q=>q.unwish) fun _ _ z=>False.elim z
end

/-! ### blocks and small statements -/
section
variable {X:Cx} {st:Stmt} {rest:List Stmt} {t u:TS} {e:Expr} {te:TE} {pos:Pos}
def tNext:TS:=fun D σ H=>D.nx σ H
def tSeq (t u:TS):TS:=fun D σ H=>t { D with nx:=u D } σ H
theorem pss_nil:PSs X [] tNext:=fun _ _ σ H _ I h=>wpAny_execs_nil ⟨σ,H,I,h⟩
theorem pss_cons (h1:PS X st t) (h2:PSs X rest u):PSs X (st::rest) (tSeq t u):=by
 intro pins s σ H D I h
 refine wpAny_execs_cons (thn (h1 pins s σ H { D with nx:=u D } I h) fun f s1 q=>?_)
 cases f with
 | next =>
  obtain ⟨σ',H',I',q⟩:=q
  exact h2 pins s1 σ' H' D I' q
 | ret v=>exact q
 | brk=>exact q
 | cont=>exact q
theorem pss_one (h1:PS X st t):PSs X [st] t:=by
 intro pins s σ H D I h
 refine wpAny_execs_cons (thn (h1 pins s σ H D I h) fun f s1 q=>?_)
 cases f with
 | next=>exact wpAny_execs_nil q
 | ret v=>exact q
 | brk=>exact q
 | cont=>exact q
theorem Inv.quiet {pins:List (Addr × Obj)} {σ:St} {H:Hp} {s:Shared} (I:Inv X pins σ H s):interactive X.env=false:=by simp [interactive,I.ok.kind]
def tDrop (te:TE):TS:=fun D σ H=>te σ H fun _ H1=>D.nx σ H1
theorem ps_expr (he:PE X e te) (hs:swapsWith e none pos.line X.env=pure false:=by rfl):PS X (.Expr e pos) (tDrop te):=by
 intro pins s σ H D I h
 exact wpAny_Expr_any (thn (he pins s σ H _ I h) fun v s1 ⟨x,H1,I1,r1,q1⟩=>⟨σ,H1,I1,q1⟩) I.quiet hs
def tRet (te:TE):TS:=fun D σ H=>te σ H D.rt
theorem ps_ret (he:PE X e te):PS X (.Return (some e) pos) (tRet te):=by
 intro pins s σ H D I h
 exact wpAny_Return_some (thn (he pins s σ H _ I h) fun v s1 ⟨x,H1,I1,r1,q1⟩=>⟨x,σ,H1,I1,r1,q1⟩)
def tIfS (c:TT) (t u:TS):TS:=fun D σ H=>c σ H fun b H1=>if b=true then t D σ H1 else u D σ H1
theorem ps_if {c:Expr} {a b:List Stmt} {tc:TT} (hc:PT X c tc) (ha:PSs X a t) (hb:PSs X b u):PS X (.If c a b pos) (tIfS tc t u):=by
 intro pins s σ H D I h
 refine wpAny_If (thn (hc pins s σ H _ I h) fun d s1 ⟨H1,I1,q1⟩=>?_)
 cases d with
 | true=>exact ha pins s1 σ H1 D I1 q1
 | false=>exact hb pins s1 σ H1 D I1 q1
end

/-! ### targets -/
abbrev TG:=V→St→Hp→(St→Hp→Prop)→Prop
abbrev TGs:=List V→St→Hp→(St→Hp→Prop)→Prop
def PG (X:Cx) (target:Expr) (t:TG):Prop :=
 ∀ (pins:List (Addr × Obj)) (s:Shared) (σ:St) (H:Hp) (v:V) (u:Value) (Q:St→Hp→Prop),Inv X pins σ H s→RelV v u→t v σ H Q →
  wpAny (model X.prog X.w) X.A (assign target X.env u) (fun _ s'=>∃ σ' H',Inv X pins σ' H' s'∧Q σ' H') X.xe s
def PGs (X:Cx) (ts:List Expr) (t:TGs):Prop :=
 ∀ (pins:List (Addr × Obj)) (s:Shared) (σ:St) (H:Hp) (vs:List V) (us:List Value) (Q:St→Hp→Prop),Inv X pins σ H s→Vals vs us→t vs σ H Q →
  wpAny (model X.prog X.w) X.A (assignInOrder ((assignEach ts X.env).map (·.2)) us) (fun _ s'=>∃ σ' H',Inv X pins σ' H' s'∧Q σ' H') X.xe s
abbrev TSet:=V→V→V→Hp→(Hp→Prop)→Prop
def PSet (X:Cx) (t:TSet):Prop :=
 ∀ (pins:List (Addr × Obj)) (s:Shared) (σ:St) (H:Hp) (o i v:V) (ov iv u:Value) (Q:Hp→Prop),Inv X pins σ H s→RelV o ov→RelV i iv→RelV v u→t o i v H Q →
  wpAny (model X.prog X.w) X.A (setItem ov iv u) (fun _ s'=>∃ H',Inv X pins σ H' s'∧Q H') X.xe s
abbrev TIp:=V→V→Hp→VK→Prop
def PIp (X:Cx) (op:Operator) (t:TIp):Prop :=
 ∀ (pins:List (Addr × Obj)) (s:Shared) (σ:St) (H:Hp) (x y:V) (v u:Value) (Q:VK),Inv X pins σ H s→RelV x v→RelV y u→t x y H Q →
  wpAny (model X.prog X.w) X.A (inplaceOp op v u) (EP X pins σ Q) X.xe s
section
variable {X:Cx} {pos:Pos}
def gName (i:Nat):TG:=fun v σ H Q=>Q (σ.set i (some v)) H
theorem pg_name {i:Nat} {x:Str} (hN:X.N.Nodup) (hi:X.N[i]?=some x) (hx:Loc X.env.scope x) (hf:X.fn x=true∨X.env.scope.names.lookup x=some .local:=by first | exact .inl rfl | exact .inr rfl | assumption):PG X (.Name x pos) (gName i):=by
 intro pins s σ H v u Q I r h
 exact wpAny_assign_Name (store_ok I hN hi hx r (fun s' I'=>⟨_,H,I',h⟩) hf)
def gNil:TGs:=fun vs σ H Q=>vs=[]∧Q σ H
def gCons (t:TG) (u:TGs):TGs:=fun vs σ H Q=>∃ v r,vs=v::r∧t v σ H fun σ' H'=>u r σ' H' Q
theorem pgs_nil:PGs X [] gNil:=by
 intro pins s σ H vs us Q I r h
 obtain ⟨e,h⟩:=h
 subst e
 cases r
 exact assignInOrder_nil ⟨σ,H,I,h⟩
theorem pgs_cons {e:Expr} {es:List Expr} {t:TG} {u:TGs} (h1:PG X e t) (h2:PGs X es u)
  (hs:(assignEach (e::es) X.env).map (·.2)=assign e X.env::(assignEach es X.env).map (·.2):=by rfl):PGs X (e::es) (gCons t u):=by
 intro pins s σ H vs us Q I r h
 obtain ⟨v,vr,e1,h⟩:=h
 subst e1
 cases r with
 | cons r rr =>
  rw [hs]
  refine assignInOrder_cons (thn (h1 pins s σ H _ _ _ I r h) fun _ s1 ⟨σ1,H1,I1,q1⟩=>?_)
  exact h2 pins s1 σ1 H1 _ _ Q I1 rr q1
def gTup (K:PySem.W.Frag) (n:Nat) (t:TGs):TG:=fun v σ H Q=>∃ a xs,v=.ref a∧SqT K H a xs∧xs.length=n∧t xs σ H Q
theorem pg_tup {es:List Expr} {k:Nat} {t:TGs} {n:Nat} (hc:X.calm=true) (h:PGs X es t)
  (hn:(assignEach es X.env).length=n:=by rfl) (hst:(assignEach es X.env).findIdx? (·.1)=none:=by rfl):PG X (.Tuple es k pos) (gTup X.K n t):=by
 intro pins s σ H v u Q I r hw
 obtain ⟨a,xs,e1,hq,hl,hw⟩:=hw
 subst e1
 cases r
 obtain ⟨its,rv,ht,hz⟩:=I.tuple hq
 refine assign_Tuple_tuple (I.ok.hd hc) ht (by simp [hn,←hl,rv.length]) hst fun h' hx=>?_
 have I1:Inv X pins σ H { s with heap:=h' }:=I.kept (t':=s.toks) fun b o e=>hx b o (Nat.ne_of_lt (Heap.lt_size e)) e
 exact h pins _ σ H xs _ Q I1 (by simpa using rv) hw
def gSub (to ti:TE) (t:TSet):TG:=fun v σ H Q=>to σ H fun o H1=>ti σ H1 fun i H2=>t o i v H2 fun H3=>Q σ H3
theorem pg_sub {o i:Expr} {to ti:TE} {t:TSet} (ho:PE X o to) (hi:PE X i ti) (hs:PSet X t)
  (ha:∀ v,assign (.Subscript o i pos) X.env v=(do
   let ov ←holding [v] (eval o X.env)
   let iv ←holding [v,ov] (eval i X.env)
   standAt pos
   holding [v,ov,iv] (setItem ov iv v)
   release [v,ov,iv] []):=by intro _;rfl):PG X (.Subscript o i pos) (gSub to ti t):=by
 intro pins s σ H v u Q I r h
 rw [ha]
 refine wpAny_bind (wpAny_holding (thn (ho pins s σ H _ I h) fun ov s1 ⟨x,H1,I1,r1,q1⟩=>?_))
 refine wpAny_bind (wpAny_holding (thn (hi pins s1 σ H1 _ I1 q1) fun iv s2 ⟨y,H2,I2,r2,q2⟩=>?_))
 refine wpAny_bind (wpAny_standAt (wpAny_bind (wpAny_holding (thn (hs pins s2 σ H2 x y v ov iv u _ I2 r1 r2 r q2) fun _ s3 ⟨H3,I3,q3⟩=>?_))))
 exact wpAny_release ⟨σ,H3,I3,q3⟩
def tAsg (te:TE) (g:TG):TS:=fun D σ H=>te σ H fun x H1=>g x σ H1 D.nx
theorem ps_asg {tg e:Expr} {te:TE} {g:TG} (he:PE X e te) (hg:PG X tg g) (hs:swapsWithSole [tg] e pos.line X.env=pure false:=by rfl) (hw:swappedStores [tg] e X.env=pure none:=by rfl)
  (h1:(assignEach [tg] X.env).map (·.2)=[assign tg X.env]:=by rfl):PS X (.Assign [tg] e pos) (tAsg te g):=by
 intro pins s σ H D I h
 refine wpAny_Assign_stores (thn (he pins s σ H _ I h) fun v s1 ⟨x,H1,I1,r1,q1⟩=>?_) hs hw
 rw [h1]
 exact thn (hg pins s1 σ H1 x v _ I1 r1 q1) fun _ s2 q=>q
theorem ps_set {i:Nat} {x:Str} {e:Expr} {te:TE} {pos':Pos} (hN:X.N.Nodup) (hi:X.N[i]?=some x) (hx:Loc X.env.scope x) (he:PE X e te) (hs:swapsWith e (some (.Name x pos')) pos.line X.env=pure false:=by rfl) (hf:X.fn x=true∨X.env.scope.names.lookup x=some .local:=by first | exact .inl rfl | exact .inr rfl | assumption) :
  PS X (.Assign [.Name x pos'] e pos) (tAsg te (gName i)):=by
 intro pins s σ H D I h
 refine wpAny_Assign_Name (thn (he pins s σ H _ I h) fun v s1 ⟨y,H1,I1,r1,q1⟩=>?_) hs
 exact store_ok I1 hN hi hx r1 (fun s2 I2=>⟨_,H1,I2,q1⟩) hf
def tAug (i:Nat) (te:TE) (ti:TIp):TS:=fun D σ H=>∃ x,σ[i]?=some (some x)∧te σ H fun y H1=>ti x y H1 fun z H2=>D.nx (σ.set i (some z)) H2
theorem ps_aug {i:Nat} {x:Str} {e:Expr} {te:TE} {op:Operator} {ti:TIp} {pos':Pos} (hN:X.N.Nodup) (hi:X.N[i]?=some x) (hx:Loc X.env.scope x) (he:PE X e te) (ho:PIp X op ti) (hf:X.fn x=true∨X.env.scope.names.lookup x=some .local:=by first | exact .inl rfl | exact .inr rfl | assumption) :
  PS X (.AugAssign (.Name x pos') op e pos) (tAug i te ti):=by
 intro pins s σ H D I h
 obtain ⟨v,e1,h⟩:=h
 obtain ⟨m,hn,hl⟩:=I.loc
 have vis:Vis X.env.scope x:=by rcases hx with k | k;exact .inl k;exact .inr (.inl k)
 obtain ⟨u,r,l⟩:=hl i x v hi e1 vis
 refine wpAny_AugAssign_Name ?_
 have go:wpAny (model X.prog X.w) X.A (eval e X.env) (fun w s₂=>wpAny (model X.prog X.w) X.A (inplaceOp op u w) (fun r s₃=>wpAny (model X.prog X.w) X.A (storeName X.env x r) (fun _=>SP X pins D .next) X.xe s₃) X.xe s₂) X.xe s:=by
  refine thn (he pins s σ H _ I h) fun w s1 ⟨y,H1,I1,r1,q1⟩=>?_
  refine thn (ho pins s1 σ H1 v y u w _ I1 r r1 q1) fun z s2 ⟨zv,H2,I2,r2,q2⟩=>?_
  exact store_ok I2 hN hi hx r2 (fun s3 I3=>⟨_,H2,I3,q2⟩) hf
 rcases l with ⟨hk,hm⟩ | ⟨hk,c,hc,hcell⟩
 ·exact wpAny_loadName_local I.ok.kind hk hn hm go
 ·rcases hk with hk | hk
  ·exact wpAny_loadName_cell I.ok.kind hk hc hcell go
  ·rcases hx with k | k
   ·have:X.env.scope.names.lookup x=some .free:=hk
    rw [k] at this;cases this
   ·have:X.env.scope.names.lookup x=some .free:=hk
    rw [k] at this;cases this
def ipI (f:Int→Int→Int):TIp:=fun x y H Q=>∃ i j,x=.int i∧y=.int j∧Q (.int (f i j)) H
theorem ip_add:PIp X .Add (ipI fun i j=>i+j):=by
 intro pins s σ H x y v u Q I r1 r2 h
 obtain ⟨i,j,e1,e2,q⟩:=h
 subst e1;subst e2
 obtain ⟨t,rfl⟩:=r1
 obtain ⟨t',rfl⟩:=r2
 exact iadd_int ⟨.int _,H,I.tok _,⟨_,rfl⟩,q⟩
end

/-! ### while -/
section
variable {X:Cx} {pos:Pos}
def tWhile (c:TT) (tb:TS):TS:=fun D σ H=>∃ W:Nat→St→Hp→Prop,(∃ m,W m σ H)∧∀ m σ H,W m σ H →
 c σ H fun b H1=>if b=true then ∃ N:St→Hp→Prop,(∀ σ' H',N σ' H'→∃ m',m' < m∧W m' σ' H')∧tb { D with nx:=N,ct:=N,bk:=D.nx } σ H1 else D.nx σ H1
theorem ps_while {c:Expr} {body:List Stmt} {tc:TT} {tb:TS} (hp:PassesOwn (model X.prog X.w) X.A X.env X.xe) (hc:PT X c tc) (hb:PSs X body tb):PS X (.While c body [] pos) (tWhile tc tb):=by
 intro pins s σ H D I h
 obtain ⟨W,⟨m0,w0⟩,turn⟩:=h
 refine wpAny_While (codeAny_whileLoop (fun n s'=>∃ σ' H',Inv X pins σ' H' s'∧W n σ' H') ?_ m0 ⟨σ,H,I,w0⟩)
 rintro n s1 ⟨σ1,H1,I1,w1⟩
 refine wpAny_passesOwn hp (thn (hc pins s1 σ1 H1 _ I1 (turn n σ1 H1 w1)) fun b s2 ⟨H2,I2,q2⟩=>?_)
 cases b with
 | true =>
  obtain ⟨N,hN,q2⟩:=q2
  rw [if_pos rfl]
  refine wpAny_passesOwn hp (thn (hb pins s2 σ1 H2 _ I2 q2) fun f s3 q3=>?_)
  cases f with
  | next =>
   obtain ⟨σ3,H3,I3,n3⟩:=q3
   obtain ⟨m',hm,w3⟩:=hN σ3 H3 n3
   exact ⟨m',hm,σ3,H3,I3,w3⟩
  | cont =>
   obtain ⟨σ3,H3,I3,n3⟩:=q3
   obtain ⟨m',hm,w3⟩:=hN σ3 H3 n3
   exact ⟨m',hm,σ3,H3,I3,w3⟩
  | brk=>exact q3
  | ret v=>exact q3
 | false =>
  rw [if_neg Bool.false_ne_true]
  exact wpAny_execs_nil ⟨σ1,H2,I2,q2⟩
end

/-! ### what a loop or a comprehension walks -/
structure It where
 go:Nat→Hp→Prop
 yld:Nat→Hp→V→Hp→Prop
 stop:Nat→Hp→Prop
def FpOk (X:Cx) (pins:List (Addr × Obj)) (H:Hp) (b:Addr):Prop :=
 H b=none∧b≠X.env.locals∧b∉X.fs∧(b∈X.ex∨X.s₀.heap.objs.size≤b)∧(∀ x c,X.env.cells.lookup x=some c→c≠b)∧∀ p∈X.pn++pins,p.1≠b
theorem Inv.fpOk {X:Cx} {pins:List (Addr × Obj)} {σ:St} {H H':Hp} {s:Shared} {b:Addr} (I:Inv X pins σ H s) (hb:s.heap.objs.size≤b) (hn:H' b=none):FpOk X pins H' b:=by
 refine ⟨hn,Nat.ne_of_gt (Nat.lt_of_lt_of_le I.lt hb),I.nofs hb,.inr (Nat.le_trans I.sz hb),fun x c e z=>?_,fun p hp z=>?_⟩
 ·obtain ⟨v,q⟩:=I.cell x c e
  exact absurd (Nat.lt_of_lt_of_le q.lt (by rw [z];exact hb)) (Nat.lt_irrefl _)
 ·exact absurd (Nat.lt_of_lt_of_le (Heap.lt_size (I.pin p hp).1) (by rw [z];exact hb)) (Nat.lt_irrefl _)
structure Turn (P:Program) (w:World) (K:PySem.W.Frag) (tg:Expr) (J:It) (fp:List Addr) (it:Addr) (tn:Nat→Heap→Prop):Prop where
 mem:it∈fp
 obj:∀ i h,tn i h→∀ b∈fp,∃ o,h.get? b=some o∧∀ v,o.data≠.cell v
 keep:∀ i h h',tn i h→(∀ b∈fp,∀ o,h.get? b=some o→h'.get? b=some o)→tn i h'
 item:∀ (X:Cx),X.prog=P→X.w=w→X.K=K→X.calm=true→∀ (i:Nat) (pins:List (Addr × Obj)) (s:Shared) (σ:St) (H:Hp) (E:Value→Shared→Prop),Inv X pins σ H s→(∀ b∈fp,FpOk X pins H b)→tn i s.heap→J.go i H →
  wpAny (model P w) X.A (pyNext (.ref it)) (fun r s1=>∃ u,r=some u ∧
   wpAny (model P w) X.A (letOwnedTupleGo tg (.ref it) u) (fun _ s2=>∃ x H',Inv X pins σ H' s2∧RelV x u∧J.yld i H x H'∧tn (i+1) s2.heap∧∀ b∈fp,H' b=none) E s1) E s
 done:∀ (X:Cx),X.prog=P→X.w=w→X.K=K→X.calm=true→∀ (i:Nat) (pins:List (Addr × Obj)) (s:Shared) (σ:St) (H:Hp) (E:Value→Shared→Prop),Inv X pins σ H s→(∀ b∈fp,FpOk X pins H b)→tn i s.heap→J.stop i H →
  wpAny (model P w) X.A (pyNext (.ref it)) (fun r s1=>r=none∧Inv X pins σ H s1) E s
 self:∀ (A:Around) (i:Nat) (s:Shared) (Q:Value→Shared→Prop) (E:Value→Shared→Prop),tn i s.heap→Q (.ref it) s→wpAny (model P w) A (pyIter (.ref it)) Q E s
abbrev TI:=St→Hp→(It→Hp→Prop)→Prop
def PIE (X:Cx) (pins:List (Addr × Obj)) (σ:St) (tg:Expr) (R:It→Hp→Prop) (itv:Value) (s2:Shared):Prop :=
 ∃ (it:Addr) (fp:List Addr) (tn:Nat→Heap→Prop) (J:It) (H':Hp),itv=.ref it∧Inv X pins σ H' s2∧Turn X.prog X.w X.K tg J fp it tn∧tn 0 s2.heap∧(∀ b∈fp,FpOk X pins H' b)∧R J H'
def PI (X:Cx) (tg iter:Expr) (wi:TI):Prop :=
 ∀ (pins:List (Addr × Obj)) (s:Shared) (σ:St) (H:Hp) (R:It→Hp→Prop),Inv X pins σ H s→wi σ H R →
  wpAny (model X.prog X.w) X.A (eval iter X.env) (fun v s1=>wpAny (model X.prog X.w) X.A (pyIter v) (PIE X pins σ tg R) X.xe s1) X.xe s

theorem go_of {M:Model} {A:Around} {E:Value→Shared→Prop} {s:Shared} {tg:Expr} {it:Addr} {u:Value} {o:Obj} {n:String} {vs:Array Value} {Q:Unit→Shared→Prop} (ho:s.heap.get? it=some o) (hc:o.cls=.type n) (hd:o.data=.fields vs)
  (hn:["enumerate","zip","dict_itemiterator","dict_reverseitemiterator","odict_iterator","itertools.zip_longest","itertools.pairwise"].contains n=false) (hQ:Q () s):wpAny M A (letOwnedTupleGo tg (.ref it) u) Q E s:=by
 unfold letOwnedTupleGo
 cases tg<;>first
  | exact wpAny_pure hQ
  | (cases u<;>first
    | exact wpAny_pure hQ
    | (refine wpAny_bind (wpAny_load ho ?_)
       rw [hc,hd]
       show wpAny M A (if (["enumerate","zip","dict_itemiterator","dict_reverseitemiterator","odict_iterator","itertools.zip_longest","itertools.pairwise"].contains n && vs[0]? == some (rawInt _))=true then _ else _) Q E s
       rw [if_neg (by intro h;rw [hn,Bool.false_and] at h;cases h)]
       exact wpAny_pure hQ))

def Itl (K:PySem.W.Frag) (a:Addr):It :=
 ⟨fun i H=>∃ xs x,SqL K H a xs∧xs[i]?=some x,fun i H x H'=>H'=H∧∀ xs,SqL K H a xs→xs[i]?=some x,fun i H=>∃ xs,SqL K H a xs∧xs.length≤i⟩
def Itt (K:PySem.W.Frag) (a:Addr):It :=
 ⟨fun i H=>∃ xs x,SqT K H a xs∧xs[i]?=some x,fun i H x H'=>H'=H∧∀ xs,SqT K H a xs→xs[i]?=some x,fun i H=>∃ xs,SqT K H a xs∧xs.length≤i⟩
def Itr (lo:Int) (n:Nat):It:=⟨fun i _=>i < n,fun i H x H'=>H'=H∧x=.int (lo+i),fun i _=>n≤i⟩
theorem turn_list {P:Program} {w:World} {K:PySem.W.Frag} {tg:Expr} (a it:Addr):Turn P w K tg (Itl K a) [it] it (fun i h=>h.IsListIter it a i) where
 mem:=by simp
 obj:=fun i h st b hb=>by
  have e:b=it:=by simpa using hb
  subst e
  obtain ⟨o,e,c,d⟩:=st
  exact ⟨o,e,fun v z=>by rw [d] at z;cases z⟩
 keep:=fun i h h' st k=>st.at fun o e=>k it (by simp) o e
 item:=by
  intro X hP hw hK hc i pins s σ H E I hf st hg
  subst hP hw hK
  obtain ⟨xs,x,hq,hx⟩:=hg
  obtain ⟨its,rv,p,hz⟩:=I.list hq
  obtain ⟨u,hu,ru⟩:=rv.get hx
  obtain ⟨f0,f1,f2,f3,f4,f5⟩:=hf it (by simp)
  refine wpAny_pyNext_list_item st p.isList (x:=u) (by simpa using hu) fun h' st' sb=>?_
  have I1:Inv X pins σ H { s with heap:=h' }:=I.turned (t':=s.toks) (fun b o hb e=>(sb.2 b hb).trans e) f0 f1 f3 f4 f5
  obtain ⟨o,e,c,d⟩:=id st'
  exact ⟨u,rfl,go_of (s:={ s with heap:=h' }) e c d (by decide) ⟨x,H,I1,ru,⟨rfl,fun ys hy=>by rw [I.list_inj hy hq];exact hx⟩,st',fun b hb=>(hf b hb).1⟩⟩
 done:=by
  intro X hP hw hK hc i pins s σ H E I hf st hg
  subst hP hw hK
  obtain ⟨xs,hq,hx⟩:=hg
  obtain ⟨its,rv,p,hz⟩:=I.list hq
  obtain ⟨f0,f1,f2,f3,f4,f5⟩:=hf it (by simp)
  have hl:=rv.length
  exact wpAny_pyNext_list_end (I.ok.hd hc) st p.isList (by simp;omega) fun h' eb=>⟨rfl,I.turned (t':=s.toks) (fun b o hb e=>eb b o hb e) f0 f1 f3 f4 f5⟩
 self:=fun _ _ _ _ _ st h=>wpAny_pyIter_listiter st h
theorem turn_tuple {P:Program} {w:World} {K:PySem.W.Frag} {tg:Expr} (a it:Addr):Turn P w K tg (Itt K a) [it] it (fun i h=>h.IsTupleIter it a i) where
 mem:=by simp
 obj:=fun i h st b hb=>by
  have e:b=it:=by simpa using hb
  subst e
  obtain ⟨o,e,c,d⟩:=st
  exact ⟨o,e,fun v z=>by rw [d] at z;cases z⟩
 keep:=fun i h h' st k=>st.at fun o e=>k it (by simp) o e
 item:=by
  intro X hP hw hK hc i pins s σ H E I hf st hg
  subst hP hw hK
  obtain ⟨xs,x,hq,hx⟩:=hg
  obtain ⟨its,rv,p,hz⟩:=I.tuple hq
  obtain ⟨u,hu,ru⟩:=rv.get hx
  obtain ⟨f0,f1,f2,f3,f4,f5⟩:=hf it (by simp)
  refine wpAny_pyNext_tuple_item st (show s.heap.IsTuple a its.toArray from p) (x:=u) (by simpa using hu) fun h' st' sb=>?_
  have I1:Inv X pins σ H { s with heap:=h' }:=I.turned (t':=s.toks) (fun b o hb e=>(sb.2 b hb).trans e) f0 f1 f3 f4 f5
  obtain ⟨o,e,c,d⟩:=id st'
  exact ⟨u,rfl,go_of (s:={ s with heap:=h' }) e c d (by decide) ⟨x,H,I1,ru,⟨rfl,fun ys hy=>by rw [I.tuple_inj hy hq];exact hx⟩,st',fun b hb=>(hf b hb).1⟩⟩
 done:=by
  intro X hP hw hK hc i pins s σ H E I hf st hg
  subst hP hw hK
  obtain ⟨xs,hq,hx⟩:=hg
  obtain ⟨its,rv,p,hz⟩:=I.tuple hq
  obtain ⟨f0,f1,f2,f3,f4,f5⟩:=hf it (by simp)
  have hl:=rv.length
  exact wpAny_pyNext_tuple_end (I.ok.hd hc) st (show s.heap.IsTuple a its.toArray from p) (by simp;omega) fun h' eb=>⟨rfl,I.turned (t':=s.toks) (fun b o hb e=>eb b o hb e) f0 f1 f3 f4 f5⟩
 self:=fun _ _ _ _ _ st h=>wpAny_pyIter_tupleiter st h
theorem turn_range {P:Program} {w:World} {K:PySem.W.Frag} {tg:Expr} (it:Addr) (lo:Int) (n:Nat):Turn P w K tg (Itr lo n) [it] it (fun i h=>IsRangeIter h it (lo+(i:Nat)*1) ((n:Int) - (i:Nat)) 1) where
 mem:=by simp
 obj:=fun i h st b hb=>by
  have e:b=it:=by simpa using hb
  subst e
  exact ⟨_,st,fun v z=>by
   have z':Data.fields _=Data.cell v:=z
   cases z'⟩
 keep:=fun i h h' st k=>k it (by simp) _ st
 item:=by
  intro X hP hw hK hc i pins s σ H E I hf st hg
  subst hP hw hK
  obtain ⟨f0,f1,f2,f3,f4,f5⟩:=hf it (by simp)
  have W:=Walks.range (prog:=X.prog) (w:=X.w) (I.ok.hd hc) it lo 1 n
  refine W.item i s _ _ hg st fun v h' tk hv st' kk=>?_
  obtain ⟨t,rfl⟩:=hv
  have I1:Inv X pins σ H { s with heap:=h',toks:=tk }:=I.turned (fun b o hb e=>kk b o (by simpa using hb) e) f0 f1 f3 f4 f5
  refine ⟨_,rfl,go_of (s:={ s with heap:=h',toks:=tk }) (n:="range_iterator") st' rfl rfl (by decide) ⟨.int (lo+i),H,I1,⟨t,?_⟩,⟨rfl,rfl⟩,st',fun b hb=>(hf b hb).1⟩⟩
  rw [Int.mul_one]
 done:=by
  intro X hP hw hK hc i pins s σ H E I hf st hg
  subst hP hw hK
  obtain ⟨f0,f1,f2,f3,f4,f5⟩:=hf it (by simp)
  exact wpAny_pyNext_range_end (I.ok.hd hc) st (by have:n≤i:=hg;omega) fun h' eb=>⟨rfl,I.turned (t':=s.toks) (fun b o hb e=>eb b o hb e) f0 f1 f3 f4 f5⟩
 self:=fun _ _ _ _ _ st h=>wpAny_pyIter_rangeiter st h
end L2

namespace L2
open PySem PySem.Spec PyProof.Rows
section
variable {X:Cx} {tg:Expr}
def iList (K:PySem.W.Frag) (tl:TE):TI:=fun σ H R=>tl σ H fun x H1=>∃ a,x=.ref a∧(∃ xs,SqL K H1 a xs)∧R (Itl K a) H1
def iTup (K:PySem.W.Frag) (tl:TE):TI:=fun σ H R=>tl σ H fun x H1=>∃ a,x=.ref a∧(∃ xs,SqT K H1 a xs)∧R (Itt K a) H1
theorem pi_list {l:Expr} {tl:TE} (hl:PE X l tl):PI X tg l (iList X.K tl):=by
 intro pins s σ H R I h
 refine thn (hl pins s σ H _ I h) fun v s1 ⟨x,H1,I1,r1,q1⟩=>?_
 obtain ⟨a,e,⟨xs,hq⟩,q⟩:=q1
 subst e
 cases r1
 obtain ⟨its,rv,p,hz⟩:=I1.list hq
 refine wpAny_pyIter_list p.isList ?_
 refine ⟨s1.heap.objs.size,[s1.heap.objs.size],_,_,H1,rfl,I1.kept (t':=s1.toks) fun b o e=>Heap.get?_push_of_some _ e,turn_list a _,⟨_,Heap.get?_push_size _ rfl,rfl,rfl⟩,fun b hb=>?_,q⟩
 have e:b=s1.heap.objs.size:=by simpa using hb
 subst e
 exact I1.fpOk (Nat.le_refl _) (I1.hok.fresh (Nat.le_refl _))
theorem pi_tup {l:Expr} {tl:TE} (hl:PE X l tl):PI X tg l (iTup X.K tl):=by
 intro pins s σ H R I h
 refine thn (hl pins s σ H _ I h) fun v s1 ⟨x,H1,I1,r1,q1⟩=>?_
 obtain ⟨a,e,⟨xs,hq⟩,q⟩:=q1
 subst e
 cases r1
 obtain ⟨its,rv,p,hz⟩:=I1.tuple hq
 refine wpAny_pyIter_tuple (show s1.heap.IsTuple a its.toArray from p) ?_
 refine ⟨s1.heap.objs.size,[s1.heap.objs.size],_,_,H1,rfl,I1.kept (t':=s1.toks) fun b o e=>Heap.get?_push_of_some _ e,turn_tuple a _,⟨_,Heap.get?_push_size _ rfl,rfl,rfl⟩,fun b hb=>?_,q⟩
 have e:b=s1.heap.objs.size:=by simpa using hb
 subst e
 exact I1.fpOk (Nat.le_refl _) (I1.hok.fresh (Nat.le_refl _))
theorem range_it {pins:List (Addr × Obj)} {σ:St} {H:Hp} {s:Shared} {R:It→Hp→Prop} {E:Value→Shared→Prop} {lo hi:Int} {t u v:Tok} {tk:Nat} (I:Inv X pins σ H s) (h1:-(2 ^ 62)≤lo) (h2:lo < 2 ^ 62) (h3:-(2 ^ 62)≤hi) (h4:hi < 2 ^ 62)
  (q:R (Itr lo (hi - lo).toNat) H):wpAny (model X.prog X.w) X.A (pyIter (.ref s.heap.objs.size)) (PIE X pins σ tg R) E { s with heap:=s.heap.push { cls:=.type "range",data:=.fields #[.int lo t,.int hi u,.int 1 v] },toks:=tk }:=by
 refine wpAny_pyIter_range (IsRange.new ..) (small_one h1 h2 h3 h4) ?_
 have I1:Inv X pins σ H { s with heap:=s.heap.push { cls:=.type "range",data:=.fields #[.int lo t,.int hi u,.int 1 v] },toks:=tk }:=I.kept fun b o e=>Heap.get?_push_of_some _ e
 refine ⟨(s.heap.push { cls:=.type "range",data:=.fields #[.int lo t,.int hi u,.int 1 v] }).objs.size,[(s.heap.push { cls:=.type "range",data:=.fields #[.int lo t,.int hi u,.int 1 v] }).objs.size],_,_,H,rfl,
  I1.kept (t':=tk) fun b o e=>Heap.get?_push_of_some _ e,turn_range _ lo (hi - lo).toNat,?_,fun b hb=>?_,q⟩
 ·have e1:lo+((0:Nat):Int)*1=lo:=by simp
  have e2:(((hi - lo).toNat:Nat):Int) - ((0:Nat):Int)=Builtin.Range.rangeSize lo hi 1:=by rw [rangeSize_one];split<;>omega
  show IsRangeIter _ _ (lo+((0:Nat):Int)*1) ((((hi - lo).toNat:Nat):Int) - ((0:Nat):Int)) 1
  rw [e1,e2]
  exact Heap.get?_push_size _ rfl
 ·have e:b=(s.heap.push { cls:=.type "range",data:=.fields #[.int lo t,.int hi u,.int 1 v] }).objs.size:=by simpa using hb
  subst e
  exact I1.fpOk (Nat.le_refl _) (I1.hok.fresh (Nat.le_refl _))
def iRng1 (ta:TA):TI:=fun σ H R=>ta σ H fun vs H1=>∃ j:Int,vs=[.int j]∧-(2 ^ 62)≤j∧j < 2 ^ 62∧R (Itr 0 j.toNat) H1
theorem pi_range1 {a:Expr} {ta:TA} {p pos:Pos} (hg:Gl X "range") (hm:X.mg "range"=none) (ha:PA X [a] ta) (hs:starEach [a] X.env=[(false,eval a X.env)]:=by rfl):PI X tg (.Call (.Name "range" p) [a] [] pos) (iRng1 ta):=by
 intro pins s σ H R I h
 refine Call_ (ld_blt I hg hm boot_range (PyProof.Rows.callWith_type1 (thn (ha pos pins s σ H _ I h) fun us s1 ⟨vs,H1,I1,r1,q1⟩=>?_) hs rfl))
 obtain ⟨j,e,q1,q2,q⟩:=q1
 subst e
 cases r1 with
 | cons r rr =>
  cases rr
  obtain ⟨t,rfl⟩:=r
  exact call_range_1 (range_it I1 (by omega) (by omega) q1 q2 (by simpa using q))
/-! ### for -/
def tFor (wi:TI) (g:TG) (tb:TS):TS:=fun D σ H=>wi σ H fun J H1=>∃ W:Nat→Nat→St→Hp→Prop,(∃ m,W 0 m σ H1)∧∀ i m σ H,W i m σ H →
 (J.stop i H∧D.nx σ H)∨(J.go i H∧∃ N:St→Hp→Prop,(∀ σ' H',N σ' H'→∃ m',m' < m∧W (i+1) m' σ' H')∧∀ x H',J.yld i H x H'→g x σ H' fun σ2 H2=>tb { D with nx:=N,ct:=N,bk:=D.nx } σ2 H2)
def pinsAt (fp:List Addr) (h:Heap):List (Addr × Obj):=fp.filterMap fun b=>(h.get? b).map fun o=>(b,o)
theorem mem_pinsAt {fp:List Addr} {h:Heap} {b:Addr} {o:Obj} (hb:b∈fp) (e:h.get? b=some o):(b,o)∈pinsAt fp h:=List.mem_filterMap.mpr ⟨b,hb,by rw [e];rfl⟩
theorem of_pinsAt {fp:List Addr} {h:Heap} {p:Addr × Obj} (hp:p∈pinsAt fp h):p.1∈fp∧h.get? p.1=some p.2:=by
 obtain ⟨b,hb,e⟩:=List.mem_filterMap.mp hp
 cases q:h.get? b with
 | none=>rw [q] at e;cases e
 | some o =>
  rw [q] at e
  have e':(b,o)=p:=Option.some.inj e
  subst e'
  exact ⟨hb,q⟩
theorem Inv.pinned {pins:List (Addr × Obj)} {σ:St} {H:Hp} {s:Shared} {fp:List Addr} (I:Inv X pins σ H s) (hf:∀ b∈fp,FpOk X pins H b) (ho:∀ b∈fp,∃ o,s.heap.get? b=some o∧∀ v,o.data≠.cell v):Inv X (pins++pinsAt fp s.heap) σ H s :=
 I.pins_of fun p hp=>(List.mem_append.mp hp).elim (fun z=>I.pin p (List.mem_append_right _ z)) fun z=>by
  obtain ⟨hb,e⟩:=of_pinsAt z
  obtain ⟨f0,f1,f2,_⟩:=hf p.1 hb
  obtain ⟨o,e',d⟩:=ho p.1 hb
  rw [e] at e';cases e'
  exact ⟨e,f0,f1,f2,d⟩
theorem Inv.unpinned {pins pl:List (Addr × Obj)} {σ:St} {H:Hp} {s:Shared} (I:Inv X (pins++pl) σ H s):Inv X pins σ H s:=I.pins_of fun p hp=>I.pin p (List.mem_append_right _ (List.mem_append_left _ hp))
theorem ps_for {iter:Expr} {body:List Stmt} {wi:TI} {g:TG} {tb:TS} {pos:Pos} (hp:PassesOwn (model X.prog X.w) X.A X.env X.xe) (hc:X.calm=true) (hi:PI X tg iter wi) (hg:PG X tg g) (hb:PSs X body tb)
  (hs:∀ x,foldedSetIterable iter X.env x=pure x:=by intro _;rfl):PS X (.For tg iter body [] pos) (tFor wi g tb):=by
 intro pins s σ H D I h
 refine wpAny_For (thn (hi pins s σ H _ I h) fun v s1 h1=>thn h1 fun itv s2 h2=>?_) hs
 obtain ⟨it,fp,tn,J,H2,e,I2,T,st2,f2,W,⟨m0,w0⟩,turn⟩:=h2
 subst e
 -- what stays true of the iterator's objects through the loop
 have stat:∀ {H':Hp},(∀ b∈fp,H' b=none)→∀ b∈fp,FpOk X pins H' b:=fun hn b hb=>⟨hn b hb,(f2 b hb).2⟩
 refine codeAny_forLoop_any (fun n s'=>∃ i σ' H',Inv X pins σ' H' s'∧tn i s'.heap∧(∀ b∈fp,H' b=none)∧W i n σ' H') ?_ m0 ⟨0,σ,H2,I2,st2,fun b hb=>(f2 b hb).1,w0⟩
 rintro n s3 ⟨i,σ3,H3,I3,st3,fr3,w3⟩
 rcases turn i n σ3 H3 w3 with ⟨stop,qn⟩ | ⟨go,N,hN,step⟩
 ·refine wpAny_passesOwn hp (thn (T.done X rfl rfl rfl hc i pins s3 σ3 H3 X.xe I3 (stat fr3) st3 stop) fun r s4 ⟨hr,I4⟩=>?_)
  subst hr
  exact wpAny_execs_nil ⟨σ3,H3,I4,qn⟩
 ·refine wpAny_passesOwn hp (thn (T.item X rfl rfl rfl hc i pins s3 σ3 H3 X.xe I3 (stat fr3) st3 go) fun r s4 ⟨u,hr,h4⟩=>?_)
  subst hr
  refine wpAny_passesOwn hp (thn h4 fun _ s5 ⟨x,H5,I5,r5,y5,st5,fr5⟩=>?_)
  have I5':=I5.pinned (stat fr5) (T.obj _ _ st5)
  refine wpAny_passesOwn hp (thn (hg _ s5 σ3 H5 x u _ I5' r5 (step x H5 y5)) fun _ s6 ⟨σ6,H6,I6,q6⟩=>?_)
  refine wpAny_passesOwn hp (thn (hb _ s6 σ6 H6 _ I6 q6) fun f s7 q7=>?_)
  have again:∀ {σ7:St} {H7:Hp},Inv X (pins++pinsAt fp s5.heap) σ7 H7 s7→N σ7 H7→∃ m,m < n∧∃ i σ' H',Inv X pins σ' H' s7∧tn i s7.heap∧(∀ b∈fp,H' b=none)∧W i m σ' H':=fun {σ7 H7} I7 n7=>by
   obtain ⟨m',hm,w7⟩:=hN σ7 H7 n7
   refine ⟨m',hm,i+1,σ7,H7,I7.unpinned,T.keep _ _ _ st5 fun b hb o e=>(I7.pin (b,o) (List.mem_append_right _ (List.mem_append_right _ (mem_pinsAt hb e)))).1,fun b hb=>?_,w7⟩
   obtain ⟨o,e,d⟩:=T.obj _ _ st5 b hb
   exact (I7.pin (b,o) (List.mem_append_right _ (List.mem_append_right _ (mem_pinsAt hb e)))).2.1
  cases f with
  | next=>obtain ⟨σ7,H7,I7,n7⟩:=q7;exact again I7 n7
  | cont=>obtain ⟨σ7,H7,I7,n7⟩:=q7;exact again I7 n7
  | brk=>obtain ⟨σ7,H7,I7,q7⟩:=q7;exact ⟨σ7,H7,I7.unpinned,q7⟩
  | ret v=>obtain ⟨x7,σ7,H7,I7,r7,q7⟩:=q7;exact ⟨x7,σ7,H7,I7.unpinned,r7,q7⟩
end

/-! ### the forms one uses -/
theorem for_list {K:PySem.W.Frag} {a:Addr} {xs:List V} {g:TG} {tb:TS} {D:Ends} {σ:St} {H:Hp} (Pv:Nat→St→Hp→Prop) (h0:Pv 0 σ H) (hl:∀ i σ H,i≤xs.length→Pv i σ H→SqL K H a xs)
  (hs:∀ i x σ H,xs[i]?=some x→Pv i σ H→g x σ H fun σ2 H2=>tb { D with nx:=Pv (i+1),ct:=Pv (i+1),bk:=D.nx } σ2 H2) (hd:∀ σ H,Pv xs.length σ H→D.nx σ H) :
  ∃ W:Nat→Nat→St→Hp→Prop,(∃ m,W 0 m σ H)∧∀ i m σ H,W i m σ H →
   ((Itl K a).stop i H∧D.nx σ H)∨((Itl K a).go i H∧∃ N:St→Hp→Prop,(∀ σ' H',N σ' H'→∃ m',m' < m∧W (i+1) m' σ' H')∧∀ x H',(Itl K a).yld i H x H'→g x σ H' fun σ2 H2=>tb { D with nx:=N,ct:=N,bk:=D.nx } σ2 H2):=by
 refine ⟨fun i m σ H=>m=xs.length - i∧i≤xs.length∧Pv i σ H,⟨xs.length,by simp,Nat.zero_le _,h0⟩,?_⟩
 rintro i m σ H ⟨rfl,hi,p⟩
 have q:=hl i σ H hi p
 by_cases hlt:i < xs.length
 ·refine .inr ⟨⟨xs,xs[i],q,by simp [hlt]⟩,Pv (i+1),fun σ' H' p'=>⟨xs.length - (i+1),by omega,rfl,hlt,p'⟩,fun x H' y=>?_⟩
  obtain ⟨e,y⟩:=y
  subst e
  exact hs i x σ _ (y xs q) p
 ·have e:i=xs.length:=by omega
  subst e
  exact .inl ⟨⟨xs,q,Nat.le_refl _⟩,hd σ H p⟩
theorem for_tup {K:PySem.W.Frag} {a:Addr} {xs:List V} {g:TG} {tb:TS} {D:Ends} {σ:St} {H:Hp} (Pv:Nat→St→Hp→Prop) (h0:Pv 0 σ H) (hl:∀ i σ H,i≤xs.length→Pv i σ H→SqT K H a xs)
  (hs:∀ i x σ H,xs[i]?=some x→Pv i σ H→g x σ H fun σ2 H2=>tb { D with nx:=Pv (i+1),ct:=Pv (i+1),bk:=D.nx } σ2 H2) (hd:∀ σ H,Pv xs.length σ H→D.nx σ H) :
  ∃ W:Nat→Nat→St→Hp→Prop,(∃ m,W 0 m σ H)∧∀ i m σ H,W i m σ H →
   ((Itt K a).stop i H∧D.nx σ H)∨((Itt K a).go i H∧∃ N:St→Hp→Prop,(∀ σ' H',N σ' H'→∃ m',m' < m∧W (i+1) m' σ' H')∧∀ x H',(Itt K a).yld i H x H'→g x σ H' fun σ2 H2=>tb { D with nx:=N,ct:=N,bk:=D.nx } σ2 H2):=by
 refine ⟨fun i m σ H=>m=xs.length - i∧i≤xs.length∧Pv i σ H,⟨xs.length,by simp,Nat.zero_le _,h0⟩,?_⟩
 rintro i m σ H ⟨rfl,hi,p⟩
 have q:=hl i σ H hi p
 by_cases hlt:i < xs.length
 ·refine .inr ⟨⟨xs,xs[i],q,by simp [hlt]⟩,Pv (i+1),fun σ' H' p'=>⟨xs.length - (i+1),by omega,rfl,hlt,p'⟩,fun x H' y=>?_⟩
  obtain ⟨e,y⟩:=y
  subst e
  exact hs i x σ _ (y xs q) p
 ·have e:i=xs.length:=by omega
  subst e
  exact .inl ⟨⟨xs,q,Nat.le_refl _⟩,hd σ H p⟩
theorem for_range {lo:Int} {n:Nat} {g:TG} {tb:TS} {D:Ends} {σ:St} {H:Hp} (Pv:Nat→St→Hp→Prop) (h0:Pv 0 σ H)
  (hs:∀ i σ H,i < n→Pv i σ H→g (.int (lo+i)) σ H fun σ2 H2=>tb { D with nx:=Pv (i+1),ct:=Pv (i+1),bk:=D.nx } σ2 H2) (hd:∀ σ H,Pv n σ H→D.nx σ H) :
  ∃ W:Nat→Nat→St→Hp→Prop,(∃ m,W 0 m σ H)∧∀ i m σ H,W i m σ H →
   ((Itr lo n).stop i H∧D.nx σ H)∨((Itr lo n).go i H∧∃ N:St→Hp→Prop,(∀ σ' H',N σ' H'→∃ m',m' < m∧W (i+1) m' σ' H')∧∀ x H',(Itr lo n).yld i H x H'→g x σ H' fun σ2 H2=>tb { D with nx:=N,ct:=N,bk:=D.nx } σ2 H2):=by
 refine ⟨fun i m σ H=>m=n - i∧i≤n∧Pv i σ H,⟨n,by simp,Nat.zero_le _,h0⟩,?_⟩
 rintro i m σ H ⟨rfl,hi,p⟩
 by_cases hlt:i < n
 ·refine .inr ⟨hlt,Pv (i+1),fun σ' H' p'=>⟨n - (i+1),by omega,rfl,hlt,p'⟩,fun x H' y=>?_⟩
  obtain ⟨e,y⟩:=y
  subst e y
  exact hs i σ _ hlt p
 ·have e:i=n:=by omega
  subst e
  exact .inl ⟨Nat.le_refl _,hd σ H p⟩
end L2

namespace L2
open PySem PySem.Spec PyProof.Rows

abbrev R2:=V→V→Hp→VK→Prop
def OpR (X:Cx) (f:Value→Value→Sem Value) (r:R2):Prop :=
 ∀ (pins:List (Addr × Obj)) (s:Shared) (σ:St) (H:Hp) (x y:V) (v u:Value) (Q:VK),Inv X pins σ H s→RelV x v→RelV y u→r x y H Q →
  wpAny (model X.prog X.w) X.A (f v u) (EP X pins σ Q) X.xe s
def UnR (X:Cx) (f:Value→Sem Value) (r:V→Hp→VK→Prop):Prop :=
 ∀ (pins:List (Addr × Obj)) (s:Shared) (σ:St) (H:Hp) (x:V) (v:Value) (Q:VK),Inv X pins σ H s→RelV x v→r x H Q →
  wpAny (model X.prog X.w) X.A (f v) (EP X pins σ Q) X.xe s
def CallR (X:Cx) (f:Value) (r:List V→Hp→VK→Prop):Prop :=
 ∀ (pins:List (Addr × Obj)) (s:Shared) (σ:St) (H:Hp) (xs:List V) (us:List Value) (Q:VK),Inv X pins σ H s→Vals xs us→r xs H Q →
  wpAny (model X.prog X.w) X.A (call f us) (EP X pins σ Q) X.xe s
def tOp (r:R2) (ta tb:TE):TE:=fun σ H Q=>ta σ H fun x H1=>tb σ H1 fun y H2=>r x y H2 Q
def tUn (r:V→Hp→VK→Prop) (ta:TE):TE:=fun σ H Q=>ta σ H fun x H1=>r x H1 Q
def rI (C:Int→Int→Prop) (g:Int→Int→V):R2:=fun x y H Q=>∃ i j,x=.int i∧y=.int j∧C i j∧Q (g i j) H
def rI0 (g:Int→Int→V):R2:=fun x y H Q=>∃ i j,x=.int i∧y=.int j∧Q (g i j) H
def rU (g:Int→V):V→Hp→VK→Prop:=fun x H Q=>∃ i,x=.int i∧Q (g i) H

section
variable {X:Cx} {a b c:Expr} {ta tb tc:TE} {pos:Pos}

theorem binT (ha:PE X a ta) (hb:PE X b tb) {pins:List (Addr × Obj)} {s:Shared} {σ:St} {H:Hp} {R:V→V→Hp→Prop} (I:Inv X pins σ H s)
  (h:ta σ H fun x H1=>tb σ H1 fun y H2=>R x y H2) {Q:Value→Shared→Prop} {f:Value→Value→Sem Value}
  (hf:∀ v u s2 x y H2,Inv X pins σ H2 s2→RelV x v→RelV y u→R x y H2→wpAny (model X.prog X.w) X.A (f v u) Q X.xe s2) :
  wpAny (model X.prog X.w) X.A (eval a X.env) (fun v s₁=>wpAny (model X.prog X.w) X.A (eval b X.env) (fun u s₂=>wpAny (model X.prog X.w) X.A (f v u) Q X.xe s₂) X.xe s₁) X.xe s:=by
 refine thn (ha pins s σ H _ I h) fun v s1 ⟨x,H1,I1,r1,q1⟩=>?_
 refine thn (hb pins s1 σ H1 _ I1 q1) fun u s2 ⟨y,H2,I2,r2,q2⟩=>?_
 exact hf v u s2 x y H2 I2 r1 r2 q2

theorem pe_op {op:Operator} {r:R2} (ho:OpR X (binaryOp op) r) (ha:PE X a ta) (hb:PE X b tb):PE X (.BinOp a op b pos) (tOp r ta tb):=by
 intro pins s σ H Q I h
 exact wpAny_BinOp (binT ha hb I h fun v u s2 x y H2 I2 rx ry q=>ho pins s2 σ H2 x y v u Q I2 rx ry q)
theorem pe_un {op:UnaryOp} {r:V→Hp→VK→Prop} (ho:UnR X (unaryOp op) r) (ha:PE X a ta):PE X (.UnaryOp op a pos) (tUn r ta):=by
 intro pins s σ H Q I h
 exact UnaryOp_ (thn (ha pins s σ H _ I h) fun v s1 ⟨x,H1,I1,r1,q1⟩=>ho pins s1 σ H1 x v Q I1 r1 q1)
/-! ### ints -/
theorem opI {f:Value→Value→Sem Value} {C:Int→Int→Prop} {g:Int→Int→Int}
  (rule:∀ (i j:Int) (t u:Tok) (s:Shared) (Q:Value→Shared→Prop) (E:Value→Shared→Prop),C i j→Q (.int (g i j) s.toks) { s with toks:=s.toks+1 }→wpAny (model X.prog X.w) X.A (f (.int i t) (.int j u)) Q E s) :
  OpR X f (rI C fun i j=>.int (g i j)):=by
 intro pins s σ H x y v u Q I rx ry h
 obtain ⟨i,j,rfl,rfl,hc,q⟩:=h
 obtain ⟨t,rfl⟩:=rx
 obtain ⟨t',rfl⟩:=ry
 exact rule i j t t' s _ _ hc ⟨.int (g i j),H,I.tok _,⟨_,rfl⟩,q⟩
theorem opI0 {f:Value→Value→Sem Value} {g:Int→Int→Int}
  (rule:∀ (i j:Int) (t u:Tok) (s:Shared) (Q:Value→Shared→Prop) (E:Value→Shared→Prop),Q (.int (g i j) s.toks) { s with toks:=s.toks+1 }→wpAny (model X.prog X.w) X.A (f (.int i t) (.int j u)) Q E s) :
  OpR X f (rI0 fun i j=>.int (g i j)):=by
 intro pins s σ H x y v u Q I rx ry h
 obtain ⟨i,j,rfl,rfl,q⟩:=h
 obtain ⟨t,rfl⟩:=rx
 obtain ⟨t',rfl⟩:=ry
 exact rule i j t t' s _ _ ⟨.int (g i j),H,I.tok _,⟨_,rfl⟩,q⟩
theorem opB0 {f:Value→Value→Sem Value} {g:Int→Int→Bool}
  (rule:∀ (i j:Int) (t u:Tok) (s:Shared) (Q:Value→Shared→Prop) (E:Value→Shared→Prop),Q (.bool (g i j)) s→wpAny (model X.prog X.w) X.A (f (.int i t) (.int j u)) Q E s) :
  OpR X f (rI0 fun i j=>.bl (g i j)):=by
 intro pins s σ H x y v u Q I rx ry h
 obtain ⟨i,j,rfl,rfl,q⟩:=h
 obtain ⟨t,rfl⟩:=rx
 obtain ⟨t',rfl⟩:=ry
 exact rule i j t t' s _ _ ⟨.bl (g i j),H,I,rfl,q⟩

def CDiv (i j:Int):Prop:=0 < j∧j < 1073741824
def CPow (i j:Int):Prop:=0≤j∧j≤1000000∧i.natAbs < 2 ^ 64
def CMul (i j:Int):Prop:=(-(2 ^ 64) < i∧i < 2 ^ 64)∨(-(2 ^ 64) < j∧j < 2 ^ 64)
theorem CMul.ok {i j:Int} (h:CMul i j):IntMulOk i j:=by
 rcases h with ⟨h1,h2⟩ | ⟨h1,h2⟩
 ·exact .of_left (intBits_le_64 h1 h2)
 ·exact .of_right (intBits_le_64 h1 h2)
theorem op_add:OpR X (binaryOp .Add) (rI0 fun i j=>.int (i+j)):=opI0 fun _ _ _ _ _ _ _ q=>add_int q
theorem op_sub:OpR X (binaryOp .Sub) (rI0 fun i j=>.int (i - j)):=opI0 fun _ _ _ _ _ _ _ q=>sub_int q
theorem op_mul:OpR X (binaryOp .Mult) (rI CMul fun i j=>.int (i*j)):=opI fun _ _ _ _ _ _ _ hc q=>mul_int q hc.ok
theorem op_fdiv:OpR X (binaryOp .FloorDiv) (rI CDiv fun i j=>.int (i / j)):=opI fun i j _ _ _ _ _ hc q=>by
 have h1:(0:Int) < j:=hc.1
 have h2:j < 1073741824:=hc.2
 exact floordiv_int (by omega) (by rw [Int.fdiv_eq_ediv_of_nonneg i (by omega)];exact q) (.inl (PyProof.noPylong_small (by omega)))
theorem op_mod:OpR X (binaryOp .Mod) (rI (fun _ j=>0 < j) fun i j=>.int (i % j)):=opI fun i j _ _ _ _ _ hc q=>by
 have h1:(0:Int) < j:=hc
 exact mod_int' (by omega) (by rw [Int.fmod_eq_emod_of_nonneg i (by omega)];exact q)
theorem op_pow:OpR X (binaryOp .Pow) (rI CPow fun i j=>.int (i ^ j.toNat)):=opI fun _ _ _ _ _ _ _ hc q=>pow_int_small hc.1 hc.2.1 hc.2.2 q
theorem unI {f:Value→Sem Value} {g:Int→Int}
  (rule:∀ (i:Int) (t:Tok) (s:Shared) (Q:Value→Shared→Prop) (E:Value→Shared→Prop),Q (.int (g i) s.toks) { s with toks:=s.toks+1 }→wpAny (model X.prog X.w) X.A (f (.int i t)) Q E s) :
  UnR X f (rU fun i=>.int (g i)):=by
 intro pins s σ H x v Q I rx h
 obtain ⟨i,rfl,q⟩:=h
 obtain ⟨t,rfl⟩:=rx
 exact rule i t s _ _ ⟨.int (g i),H,I.tok _,⟨_,rfl⟩,q⟩
theorem un_neg:UnR X (unaryOp .USub) (rU fun i=>.int (-i)):=unI fun _ _ _ _ _ q=>neg_int q
/-! ### bools among ints: n += (a < b) -/
end

/-! ### comparisons -/
def scal:V→V→Bool
 | .non,.non=>true | .non,.int _=>true | .int _,.non=>true | .non,.bl _=>true | .bl _,.non=>true | .non,.str _=>true | .str _,.non=>true
 | .int _,.int _=>true | .bl _,.bl _=>true | .str _,.str _=>true | .byt _,.byt _=>true
 | .int _,.str _=>true | .str _,.int _=>true | .bl _,.str _=>true | .str _,.bl _=>true
 | _,_=>false
def rEq:R2:=fun x y H Q=>scal x y=true∧Q (.bl (decide (x=y))) H
def rNe:R2:=fun x y H Q=>scal x y=true∧Q (.bl (!decide (x=y))) H

theorem dec_int {i j:Int}:decide (V.int i=V.int j)=(i == j):=by
 rw [Bool.eq_iff_iff]
 simp
theorem dec_bl {i j:Bool}:decide (V.bl i=V.bl j)=(i == j):=by
 rw [Bool.eq_iff_iff]
 simp
theorem dec_str {i j:Str}:decide (V.str i=V.str j)=(i == j):=by
 rw [Bool.eq_iff_iff]
 simp
theorem dec_byt {i j:Array UInt8}:decide (V.byt i=V.byt j)=(i.toList == j.toList):=by
 rw [Bool.eq_iff_iff]
 cases i
 cases j
 simp

section
variable {X:Cx} {a b c:Expr} {ta tb tc:TE} {pos:Pos}
theorem fin_bl {pins:List (Addr × Obj)} {σ:St} {H:Hp} {s:Shared} {Q:VK} {k k':Bool} (I:Inv X pins σ H s) (q:Q (.bl k) H) (e:k=k'):EP X pins σ Q (.bool k') s:=by
 subst e
 exact ⟨.bl k,H,I,rfl,q⟩
theorem op_eq:OpR X (compareOp .Eq) rEq:=by
 intro pins s σ H x y v u Q I rx ry h
 obtain ⟨hs,q⟩:=h
 cases x with
 | non =>
  cases rx
  cases y with
  | non=>cases ry;exact PySem.EqNone.eq_none_none (fin_bl I q (by simp))
  | bl j=>cases ry;exact PySem.EqNone.eq_none_bool (fin_bl I q (by simp))
  | int j=>obtain ⟨t',rfl⟩:=ry;exact PySem.EqNone.eq_none_int (fin_bl I q (by simp))
  | str j=>obtain ⟨t',rfl⟩:=ry;exact PySem.EqNone.eq_none_str (fin_bl I q (by simp))
  | _=>exact absurd (show false=true from hs) Bool.false_ne_true
 | bl i =>
  cases rx
  cases y with
  | non=>cases ry;exact PySem.EqNone.eq_bool_none (fin_bl I q (by simp))
  | bl j=>cases ry;exact eq_bool (fin_bl I q dec_bl)
  | str j=>obtain ⟨t',rfl⟩:=ry;exact PySem.EqMixed.eq_bool_str (fin_bl I q (by simp))
  | _=>exact absurd (show false=true from hs) Bool.false_ne_true
 | int i =>
  obtain ⟨t,rfl⟩:=rx
  cases y with
  | non=>cases ry;exact PySem.EqNone.eq_int_none (fin_bl I q (by simp))
  | int j=>obtain ⟨t',rfl⟩:=ry;exact eq_int (fin_bl I q dec_int)
  | str j=>obtain ⟨t',rfl⟩:=ry;exact PySem.EqMixed.eq_int_str (fin_bl I q (by simp))
  | _=>exact absurd (show false=true from hs) Bool.false_ne_true
 | str i =>
  obtain ⟨t,rfl⟩:=rx
  cases y with
  | non=>cases ry;exact PySem.EqNone.eq_str_none (fin_bl I q (by simp))
  | bl j=>cases ry;exact PySem.EqMixed.eq_str_bool (fin_bl I q (by simp))
  | int j=>obtain ⟨t',rfl⟩:=ry;exact PySem.EqMixed.eq_str_int (fin_bl I q (by simp))
  | str j=>obtain ⟨t',rfl⟩:=ry;exact eq_str (fin_bl I q dec_str)
  | _=>exact absurd (show false=true from hs) Bool.false_ne_true
 | byt i =>
  obtain ⟨t,rfl⟩:=rx
  cases y with
  | byt j=>obtain ⟨t',rfl⟩:=ry;exact PySem.W.eq_bytes (fin_bl I q dec_byt)
  | _=>exact absurd (show false=true from hs) Bool.false_ne_true
 | _=>cases y<;>exact absurd (show false=true from hs) Bool.false_ne_true
theorem op_ne:OpR X (compareOp .NotEq) rNe:=by
 intro pins s σ H x y v u Q I rx ry h
 obtain ⟨hs,q⟩:=h
 cases x with
 | non =>
  cases rx
  cases y with
  | non=>cases ry;exact PySem.EqNone.ne_none_none (fin_bl I q (by simp))
  | bl j=>cases ry;exact PySem.EqNone.ne_none_bool (fin_bl I q (by simp))
  | int j=>obtain ⟨t',rfl⟩:=ry;exact PySem.EqNone.ne_none_int (fin_bl I q (by simp))
  | str j=>obtain ⟨t',rfl⟩:=ry;exact PySem.EqNone.ne_none_str (fin_bl I q (by simp))
  | _=>exact absurd (show false=true from hs) Bool.false_ne_true
 | bl i =>
  cases rx
  cases y with
  | non=>cases ry;exact PySem.EqNone.ne_bool_none (fin_bl I q (by simp))
  | bl j=>cases ry;exact ne_bool (fin_bl I q (congrArg not dec_bl))
  | str j=>obtain ⟨t',rfl⟩:=ry;exact PySem.EqMixed.ne_bool_str (fin_bl I q (by simp))
  | _=>exact absurd (show false=true from hs) Bool.false_ne_true
 | int i =>
  obtain ⟨t,rfl⟩:=rx
  cases y with
  | non=>cases ry;exact PySem.EqNone.ne_int_none (fin_bl I q (by simp))
  | int j=>obtain ⟨t',rfl⟩:=ry;exact ne_int (fin_bl I q (congrArg not dec_int))
  | str j=>obtain ⟨t',rfl⟩:=ry;exact PySem.EqMixed.ne_int_str (fin_bl I q (by simp))
  | _=>exact absurd (show false=true from hs) Bool.false_ne_true
 | str i =>
  obtain ⟨t,rfl⟩:=rx
  cases y with
  | non=>cases ry;exact PySem.EqNone.ne_str_none (fin_bl I q (by simp))
  | bl j=>cases ry;exact PySem.EqMixed.ne_str_bool (fin_bl I q (by simp))
  | int j=>obtain ⟨t',rfl⟩:=ry;exact PySem.EqMixed.ne_str_int (fin_bl I q (by simp))
  | str j=>obtain ⟨t',rfl⟩:=ry;exact ne_str (fin_bl I q (congrArg not dec_str))
  | _=>exact absurd (show false=true from hs) Bool.false_ne_true
 | byt i =>
  obtain ⟨t,rfl⟩:=rx
  cases y with
  | byt j=>obtain ⟨t',rfl⟩:=ry;exact PySem.W.ne_bytes (fin_bl I q (congrArg not dec_byt))
  | _=>exact absurd (show false=true from hs) Bool.false_ne_true
 | _=>cases y<;>exact absurd (show false=true from hs) Bool.false_ne_true

theorem op_lt:OpR X (compareOp .Lt) (rI0 fun i j=>.bl (decide (i < j))):=opB0 fun _ _ _ _ _ _ _ q=>lt_int q
theorem op_le:OpR X (compareOp .LtE) (rI0 fun i j=>.bl (decide (i≤j))):=opB0 fun _ _ _ _ _ _ _ q=>le_int q
theorem op_gt:OpR X (compareOp .Gt) (rI0 fun i j=>.bl (decide (j < i))):=opB0 fun _ _ _ _ _ _ _ q=>gt_int q
theorem nomark (b:Expr) {op:CmpOp} (h:op≠.In:=by decide) (h2:op≠.NotIn:=by decide):behindInMarks op b=false:=by
 have e1:(op == CmpOp.In)=false:=by cases op<;>first | rfl | exact absurd rfl h
 have e2:(op == CmpOp.NotIn)=false:=by cases op<;>first | rfl | exact absurd rfl h2
 cases b<;>simp [behindInMarks,e1,e2]
theorem pe_cmpR {op:CmpOp} {r:R2} (ho:OpR X (compareOp op) r) (ha:PE X a ta) (hb:PE X b tb) (hm:behindInMarks op b=false):PE X (.Compare a [op] [b] pos) (tOp r ta tb):=by
 intro pins s σ H Q I h
 exact wpAny_Compare1 (binT ha hb I h fun v u s2 x y H2 I2 rx ry q=>ho pins s2 σ H2 x y v u Q I2 rx ry q) hm
def tTest (t:TE):TT:=fun σ H Q=>t σ H fun x H'=>∃ k,x=.bl k∧Q k H'
theorem pt_cmpR {op:CmpOp} {r:R2} (ho:OpR X (compareOp op) r) (ha:PE X a ta) (hb:PE X b tb) (hm:behindInMarks op b=false):PT X (.Compare a [op] [b] pos) (tTest (tOp r ta tb)):=by
 intro pins s σ H Q I h
 refine wpAny_isTrue_Compare1 (thn (ha pins s σ H _ I h) fun v s1 ⟨x,H1,I1,r1,q1⟩=>thn (hb pins s1 σ H1 _ I1 q1) fun u s2 ⟨y,H2,I2,r2,q2⟩ =>
  thn (ho pins s2 σ H2 x y v u _ I2 r1 r2 q2) fun c s3 ⟨z,H3,I3,r3,k,e,q3⟩=>?_) hm
 subst e
 cases r3
 exact wpAny_truthy_bool ⟨H3,I3,q3⟩
def tChain (r r':R2) (ta tb tc:TE):TE:=fun σ H Q=>ta σ H fun x H1=>tb σ H1 fun y H2=>r x y H2 fun z H3=>∃ k,z=.bl k ∧
 (if k=true then tc σ H3 fun w' H4=>r' y w' H4 Q else Q (.bl false) H3)
theorem pe_chain {op op':CmpOp} {r r':R2} (ho:OpR X (compareOp op) r) (ho':OpR X (compareOp op') r') (ha:PE X a ta) (hb:PE X b tb) (hc:PE X c tc)
  (hm:lastMarks [op,op'] [b,c]=false:=by with_unfolding_all rfl):PE X (.Compare a [op,op'] [b,c] pos) (tChain r r' ta tb tc):=by
 intro pins s σ H Q I h
 refine Compare_chain (thn (ha pins s σ H _ I h) fun v s1 ⟨x,H1,I1,r1,q1⟩=>chain_link (thn (hb pins s1 σ H1 _ I1 q1) fun u s2 ⟨y,H2,I2,r2,q2⟩ =>
  thn (ho pins s2 σ H2 x y v u _ I2 r1 r2 q2) fun d s3 ⟨z,H3,I3,r3,k,e,q3⟩=>?_)) hm
 subst e
 cases r3
 refine wpAny_truthy_bool ?_
 cases k with
 | false=>exact ite_ff ⟨.bl false,H3,I3,rfl,q3⟩
 | true=>exact ite_tt (chain_last (thn (hc pins s3 σ H3 _ I3 q3) fun w' s4 ⟨z',H4,I4,r4,q4⟩=>ho' pins s4 σ H4 y z' u w' Q I4 r2 r4 q4))
theorem pt_chain {op op':CmpOp} {r r':R2} (ho:OpR X (compareOp op) r) (ho':OpR X (compareOp op') r') (ha:PE X a ta) (hb:PE X b tb) (hc:PE X c tc)
  (hm:lastMarks [op,op'] [b,c]=false:=by with_unfolding_all rfl):PT X (.Compare a [op,op'] [b,c] pos) (tTest (tChain r r' ta tb tc)):=by
 intro pins s σ H Q I h
 refine isTrue_chain (thn (ha pins s σ H _ I h) fun v s1 ⟨x,H1,I1,r1,q1⟩=>test_link (thn (hb pins s1 σ H1 _ I1 q1) fun u s2 ⟨y,H2,I2,r2,q2⟩ =>
  thn (ho pins s2 σ H2 x y v u _ I2 r1 r2 q2) fun d s3 ⟨z,H3,I3,r3,k,e,q3⟩=>?_)) hm
 subst e
 cases r3
 refine wpAny_truthy_bool ?_
 cases k with
 | false =>
  obtain ⟨k',e',q'⟩:=q3
  cases e'
  exact ite_ff ⟨H3,I3,q'⟩
 | true =>
  refine ite_tt (test_last (thn (hc pins s3 σ H3 _ I3 q3) fun w' s4 ⟨z',H4,I4,r4,q4⟩=>thn (ho' pins s4 σ H4 y z' u w' _ I4 r2 r4 q4) fun d' s5 ⟨z2,H5,I5,r5,k2,e2,q5⟩=>?_))
  subst e2
  cases r5
  exact wpAny_truthy_bool ⟨H5,I5,q5⟩

/-! ### truth -/
theorem line63:(sizeLine:Nat) < 2 ^ 63:=by rw [sizeLine_eq];decide
/-! ### strs and bytes -/
/-! ### scalar builtins,by CallR -/
theorem vals1 {x:V} {us:List Value} (r:Vals [x] us):∃ u,us=[u]∧RelV x u:=by
 cases r with
 | cons r1 r2=>cases r2;exact ⟨_,rfl,r1⟩
theorem vals2 {x y:V} {us:List Value} (r:Vals [x,y] us):∃ u w',us=[u,w']∧RelV x u∧RelV y w':=by
 cases r with
 | cons r1 r2 =>
  cases r2 with
  | cons r3 r4=>cases r4;exact ⟨_,_,rfl,r1,r3⟩
theorem call_abs:CallR X (.builtin "abs") (fun xs H Q=>∃ i,xs=[.int i]∧Q (.int (if i < 0 then -i else i)) H):=by
 intro pins s σ H xs us Q I r h
 obtain ⟨i,rfl,q⟩:=h
 obtain ⟨u,rfl,t,rfl⟩:=vals1 r
 exact call_abs_int fun u tk=>⟨.int (if i < 0 then -i else i),H,I.tok _,⟨_,rfl⟩,q⟩
theorem call_min2 (hc:X.calm=true):CallR X (.builtin "min") (fun xs H Q=>∃ i j,xs=[.int i,.int j]∧Q (.int (if j < i then j else i)) H):=by
 intro pins s σ H xs us Q I r h
 obtain ⟨i,j,rfl,q⟩:=h
 obtain ⟨u,w',rfl,⟨t,rfl⟩,⟨t',rfl⟩⟩:=vals2 r
 refine min_two_ints (I.ok.hd hc) fun h' tk k=>⟨_,H,I.kept k,?_,q⟩
 by_cases hj:j < i
 ·rw [if_pos hj,if_pos hj];exact ⟨_,rfl⟩
 ·rw [if_neg hj,if_neg hj];exact ⟨_,rfl⟩
theorem call_divmod:CallR X (.builtin "divmod") (fun xs H Q=>∃ i j,xs=[.int i,.int j]∧CDiv i j∧∀ p,H p=none→Q (.ref p) (upd H p (.tup [.int (i / j),.int (i % j)]))):=by
 intro pins s σ H xs us Q I r h
 obtain ⟨i,j,rfl,⟨h1,h2⟩,q⟩:=h
 obtain ⟨u,w',rfl,⟨t,rfl⟩,⟨t',rfl⟩⟩:=vals2 r
 refine divmod_int (by omega) ?_ (.inl (PyProof.noPylong_small (by omega)))
 rw [Int.fdiv_eq_ediv_of_nonneg i (by omega),Int.fmod_eq_emod_of_nonneg i (by omega)]
 have hn:H s.heap.objs.size=none:=I.hok.fresh (Nat.le_refl _)
 refine ⟨.ref s.heap.objs.size,_,?_,rfl,q _ hn⟩
 refine I.laid (fun b o e=>Heap.get?_push_of_some _ e) (Nat.le_refl _) ⟨by simp only [List.length_cons,List.length_nil];rw [sizeLine_eq];decide,[.int (i / j) s.toks,.int (i % j) (s.toks+1)],0,.cons ⟨_,rfl⟩ (.cons ⟨_,rfl⟩ .nil),?_⟩
 exact Heap.get?_push_size s.heap rfl
end
end L2

namespace L2
open PySem PySem.Spec PyProof.Rows

/-! ### an instance,its attributes a map -/
section
variable {prog:Program} {w:World} {A:Around} {E:Value→Shared→Prop} {s:Shared} {K:PySem.W.Frag} {x dx C f:Addr} {mA:Str→Option Value} {name:Str} {v:Value}

end

/-! ### the attributes as a list of pairs -/
theorem RelO.some_of {v:V} {o:Option Value} (r:RelO (some v) o):∃ u,o=some u∧RelV v u:=by
 cases o with
 | none=>exact (show False from r).elim
 | some u=>exact ⟨u,rfl,r⟩
section
variable {P:Program} {w:World} {H H':Hp} {h h':Heap} {a C dx:Addr} {fs fs':List (Str × V)}
end

/-! ### what of the text a class must have -/
section
variable {X:Cx} {pins:List (Addr × Obj)} {σ:St} {H:Hp} {s:Shared} {a C dx:Addr} {fs:List (Str × V)} {f:Str} {v:V} {A:Around} {E:Value→Shared→Prop}

end

/-! ### readings and rules -/
section
variable {X:Cx} {o e value:Expr} {f:Str} {pos pos' tpos:Pos} {ta tv:TE}
end

/-! ### isinstance -/
section
variable {X:Cx} {pins:List (Addr × Obj)} {σ:St} {H:Hp} {s:Shared} {A:Around} {E:Value→Shared→Prop} {Q:Value→Shared→Prop} {c:Value} {b:Bool}
end
end L2

namespace L2
open PySem PySem.Spec PyProof.Rows

/-! ### room -/
structure Room (k:Nat) (A:Around):Prop where
 hd:A.handled=none
 dp:A.depth+3*k+5 < recursionLimit
 un:A.units+16*k+200 < cLine
theorem Room.mono {j k:Nat} {A:Around} (r:Room k A) (h:j≤k):Room j A:=⟨r.hd,by have:=r.dp;omega,by have:=r.un;omega⟩
theorem Room.deeper {k:Nat} {A:Around} (r:Room (k+1) A) (env:Env):Room k (A.deeper env) :=
 ⟨r.hd,by have:=r.dp;show A.depth+1+3*k+5 < _;omega,by have:=r.un;show A.units+3+16*k+200 < _;omega⟩
theorem Room.depth {k:Nat} {A:Around} (r:Room k A):A.depth < recursionLimit:=by have:=r.dp;omega
theorem Room.units {k:Nat} {A:Around} (r:Room k A):A.units+64 < cLine:=by have:=r.un;omega
theorem Room.units0 {k:Nat} {A:Around} (r:Room k A):A.units < cLine:=by have:=r.un;omega

/-! ### argument lists and displays -/
def tNil:TA:=fun _ H Q=>Q [] H
def tCons (ta:TE) (tr:TA):TA:=fun σ H Q=>ta σ H fun x H1=>tr σ H1 fun xs H2=>Q (x::xs) H2
section
variable {X:Cx} {e:Expr} {es:List Expr} {te:TE} {t:TA} {pos:Pos}
theorem pa_nil:PA X [] tNil:=fun _ _ _ _ H Q I h=>Calls.spliced_nil ⟨[],H,I,.nil,h⟩
theorem pa_cons (ha:PE X e te) (hr:PA X es t) (hs:starEach (e::es) X.env=(false,eval e X.env)::starEach es X.env:=by rfl):PA X (e::es) (tCons te t):=by
 intro pos pins s σ H Q I h
 rw [hs]
 show wpAny _ _ (spliced ((false,eval e X.env)::backTo pos (starEach es X.env))) _ _ s
 refine Calls.spliced_cons (thn (ha pins s σ H _ I h) fun u s1 ⟨x,H1,I1,r1,q1⟩=>?_)
 exact thn (hr pos pins s1 σ H1 _ I1 q1) fun us s2 ⟨xs,H2,I2,r2,q2⟩=>⟨x::xs,H2,I2,.cons r1 r2,q2⟩

def tTup (t:TA):TE:=fun σ H Q=>t σ H fun xs H1=>xs.length≤sizeLine∧∀ p,H1 p=none→Q (.ref p) (upd H1 p (.tup xs))
def tLst (t:TA):TE:=fun σ H Q=>t σ H fun xs H1=>xs.length≤sizeLine∧∀ p,H1 p=none→Q (.ref p) (upd H1 p (.lst xs))
theorem pe_tup {x1} (h:PA X es t):PE X (.Tuple es x1 pos) (tTup t):=by
 intro pins s σ H Q I hq
 refine wpAny_Tuple_spliced (thn (h pos pins s σ H _ I hq) fun us s1 ⟨xs,H1,I1,r,z,q⟩=>⟨by rw [←r.length];exact z,?_⟩)
 have hf:H1 s1.heap.objs.size=none:=I1.hok.fresh (Nat.le_refl _)
 refine ⟨.ref s1.heap.objs.size,upd H1 s1.heap.objs.size (.tup xs),I1.laid (t':=s1.toks) (fun b u e=>Heap.get?_push_of_some _ e) (Nat.le_refl _) ?_,rfl,q _ hf⟩
 exact ⟨z,us,0,r,Heap.get?_push_size _ rfl⟩
theorem pe_lst (h:PA X es t):PE X (.List es pos) (tLst t):=by
 intro pins s σ H Q I hq
 refine wpAny_List_spliced (thn (h pos pins s σ H _ I hq) fun us s1 ⟨xs,H1,I1,r,z,q⟩=>⟨by rw [←r.length];exact z,?_⟩)
 have hf:H1 s1.heap.objs.size=none:=I1.hok.fresh (Nat.le_refl _)
 refine ⟨.ref s1.heap.objs.size,upd H1 s1.heap.objs.size (.lst xs),I1.laid (t':=s1.toks) (fun b u e=>Heap.get?_push_of_some _ e) (Nat.le_refl _) ?_,rfl,q _ hf⟩
 exact ⟨z,us,0,r,Heap.get?_push_size _ rfl⟩
end

/-! ### what a def promises -/
abbrev Sp:=List V→Hp→VK→XK→Prop
abbrev CXT:=List Env→Hp→Shared→XK→Value→Shared→Prop

structure Env0 (P:Program) (w:World) (K:PySem.W.Frag) (mg:Str→Option Value) (base:Heap) (A:Around) (outer:List Env) (s:Shared) (H:Hp):Prop where
 frames:A.frames=some outer
 mod:Mod K mg base
 bs:∀ b o,base.get? b=some o→s.heap.get? b=some o∧H b=none
 bsz:base.objs.size≤s.heap.objs.size
 funs:s.heap.FunFrames base outer
 frf:∀ b∈frs outer,H b=none
 hok:HOk P w H s.heap
 bare:AllBare s.gens
def CE (outer:List Env) (P:Program) (w:World) (H:Hp) (s:Shared) (Q:VK) (u:Value) (s':Shared):Prop :=
 ∃ v H',s'.os=s.os∧AllBare s'.gens∧Un (frs outer) [] H H' s.heap s'.heap∧HOk P w H' s'.heap∧RelV v u∧Q v H'
def CR (CX:CXT) (outer:List Env) (P:Program) (w:World) (H:Hp) (s:Shared) (Q:VK) (E:XK) (r:Result) (s':Shared):Prop :=
 match r with
 | .ok (.ret u)=>CE outer P w H s Q u s'
 | .ok _=>False
 | .error e=>CX outer H s E e s'
structure FnOk (P:Program) (w:World) (K:PySem.W.Frag) (mg:Str→Option Value) (base:Heap) (CX:CXT) (k:Nat) (f:Addr) (fd:FuncData) (ps:List Str) (sp:Sp):Prop where
 len:∀ vs H Q E,sp vs H Q E→vs.length=ps.length
 run:∀ (A:Around) (outer:List Env) (s:Shared) (H:Hp) (args:Args) (us:List Value) (vs:List V) (Q:VK) (E:XK),Room k A→Env0 P w K mg base A outer s H→BindsTo s fd args (ps.zip us)→Vals vs us→sp vs H Q E →
  codeAny (model P w) A (.call (.ref f) args) (CR CX outer P w H s Q E) s
theorem FnOk.mono {P:Program} {w:World} {K:PySem.W.Frag} {mg:Str→Option Value} {base:Heap} {CX:CXT} {j k:Nat} {f:Addr} {fd:FuncData} {ps:List Str} {sp:Sp} (F:FnOk P w K mg base CX j f fd ps sp) (h:j≤k) :
  FnOk P w K mg base CX k f fd ps sp:=⟨F.len,fun A outer s H args us vs Q E hr=>F.run A outer s H args us vs Q E (hr.mono h)⟩
section
variable {X:Cx} {pins:List (Addr × Obj)} {σ:St} {H:Hp} {s s':Shared}
theorem Inv.env0 (I:Inv X pins σ H s):Env0 X.prog X.w X.K X.mg X.base X.A X.stack s H :=
 ⟨I.ok.frames,I.ok.mod,I.bs,Nat.le_trans I.ok.bsz I.sz,I.stack,I.stkFree,I.hok,I.bare⟩
theorem Inv.after {Q:VK} {u:Value} (I:Inv X pins σ H s) (h:CE X.stack X.prog X.w H s Q u s'):EP X pins σ Q u s':=by
 obtain ⟨v,H',os,bare,un,hok,r,q⟩:=h
 obtain ⟨hh,g,d,t,os'⟩:=s'
 obtain rfl:os'=s.os:=os
 exact ⟨v,H',I.call (h':=hh) (g':=g) (d':=d) (t':=t) (ch:=[]) un hok bare (fun b z=>absurd z (by simp)),r,q⟩
end

/-! ### calls -/
def tCall (sp:Sp) (dvs:List V) (E:XK) (t:TA):TE:=fun σ H Q=>t σ H fun vs H1=>sp (vs++dvs) H1 Q E
def Binds (K:PySem.W.Frag) (fd:FuncData) (ps:List Str) (ds:List Value):Prop :=
 ∀ (s:Shared) (us:List Value),K.In s.heap→(us++ds).length=ps.length→BindsTo s fd ⟨us,[]⟩ (ps.zip (us++ds))
theorem Binds.all {K:PySem.W.Frag} {fd:FuncData} {ps:List Str} (h:∀ us:List Value,us.length=ps.length→bindArgs fd ⟨us,[]⟩=pure (ps.zip us)):Binds K fd ps []:=fun s us _ hl=>by
 rw [List.append_nil] at hl ⊢
 exact .of_eq (h us hl)

def Passes (CX:CXT) (X:Cx) (E:XK):Prop:=∀ (pins:List (Addr × Obj)) (σ:St) (H:Hp) (s:Shared) (e:Value) (s':Shared),Inv X pins σ H s→CX X.stack H s E e s'→X.xe e s'

section
variable {X:Cx} {CX:CXT} {k:Nat} {f C:Addr} {fd:FuncData} {ps:List Str} {sp:Sp} {dvs:List V} {ds:List Value} {E:XK} {x m:Str} {p pos apos:Pos} {e o:Expr} {es:List Expr} {ta:TE} {t:TA}

theorem run_fn {pins:List (Addr × Obj)} {σ:St} {H:Hp} {s:Shared} {Q:VK} {us:List Value} {vs:List V} (F:FnOk X.prog X.w X.K X.mg X.base CX k f fd ps sp) (hr:Room k X.A) (hb:Binds X.K fd ps ds) (hd:Vals dvs ds) (hx:Passes CX X E)
  (I:Inv X pins σ H s) (r:Vals vs us) (h:sp (vs++dvs) H Q E):wpAny (model X.prog X.w) X.A (call (.ref f) us) (EP X pins σ Q) X.xe s:=by
 have r2:Vals (vs++dvs) (us++ds):=r.append hd
 have hl:(us++ds).length=ps.length:=by rw [←r2.length];exact F.len _ _ _ _ h
 refine wpAny_call (codeAny_mono (F.run X.A X.stack s H ⟨us,[]⟩ (us++ds) (vs++dvs) Q E hr I.env0 (hb s us I.kIn hl) r2 h) fun r s' hq=>?_)
 cases r with
 | error e=>exact hx pins σ H s e s' I hq
 | ok fl =>
  cases fl with
  | ret u=>exact I.after hq
  | next=>exact False.elim hq
  | brk=>exact False.elim hq
  | cont=>exact False.elim hq

theorem pe_call (F:FnOk X.prog X.w X.K X.mg X.base CX k f fd ps sp) (hr:Room k X.A) (hg:Gl X x) (hm:X.mg x=some (.ref f)) (hk:PySem.W.keepIn X.K (.ref f)=true) (hb:Binds X.K fd ps ds) (hd:Vals dvs ds) (hx:Passes CX X E)
  (ha:PA X (e::es) t) (hdb:(x == ("__debug__":Str))=false:=by decide) (he:starEach (e::es) X.env=(false,eval e X.env)::starEach es X.env:=by rfl) (hpl:(backTo pos (starEach es X.env)).any (·.1)=false:=by rfl) :
  PE X (.Call (.Name x p) (e::es) [] pos) (tCall sp dvs E t):=by
 intro pins s σ H Q I h
 refine wpAny_Call_Name_kw (ld_glob I hg hm ?_ hdb)
 refine PySem.W.callWith_K (h₀:=X.base) I.ok.mod.kin hk (thn (ha pos pins s σ H _ I h) fun us s1 ⟨vs,H1,I1,r,q⟩=>⟨I1.kIn,?_⟩) he hpl
 exact run_fn F hr hb hd hx I1 r q
end

/-! ### keywords -/
section
variable {X:Cx} {CX:CXT} {k:Nat} {f C:Addr} {fd:FuncData} {ps ks:List Str} {sp:Sp} {E:XK} {x m:Str} {p pos apos kpos:Pos} {e o:Expr} {es:List Expr} {kws:List Keyword} {te ta:TE} {t tk:TA} {nm:Option Str}
variable {g:List Value→List Value→List Value} {gV:List V→List V→List V}
end

/-! ### a def's body keeps its promise -/
structure FnScope (N P:List Str) (sc:Scope):Prop where
 kind:sc.kind=.function
 co:sc.isCoroutine=false
 gen:sc.isGenerator=false
 nd:N.Nodup
 pre:N.take P.length=P
 par:∀ x∈P,sc.names.lookup x=some .local∨sc.names.lookup x=some .cell
 nofree:∀ y∈sc.names,y.2≠.free

theorem bindL_out {kindOf:Str→Option NameKind} {x:Str}:∀ {binds:List (Str × Value)} {m:Str→Option Value},(∀ v,(x,v)∉binds)→bindL kindOf binds m x=m x
 | [],_,_=>rfl
 | (n,v)::r,m,h=>by
  unfold bindL
  rw [bindL_out fun w hw=>h w (List.mem_cons_of_mem _ hw)]
  split
  ·have:x≠n:=by rintro rfl;exact h v List.mem_cons_self
   simp [this]
  ·rfl
theorem bindC_out {kindOf:Str→Option NameKind} {x:Str}:∀ {binds:List (Str × Value)} {m:Str→Option Value},(∀ v,(x,v)∉binds)→bindC kindOf binds m x=m x
 | [],_,_=>rfl
 | (n,v)::r,m,h=>by
  unfold bindC
  rw [bindC_out fun w hw=>h w (List.mem_cons_of_mem _ hw)]
  split
  ·rfl
  ·have:x≠n:=by rintro rfl;exact h v List.mem_cons_self
   simp [this]
theorem bindL_get {kindOf:Str→Option NameKind} {x:Str} {v:Value}:∀ {P:List Str} {vs:List Value} {i:Nat} {m:Str→Option Value},P.Nodup→P[i]?=some x→vs[i]?=some v→kindOf x=some .local →
  bindL kindOf (P.zip vs) m x=some v
 | [],_,_,_,_,h,_,_=>by simp at h
 | _::_,[],_,_,_,_,h,_=>by simp at h
 | p::P,w::vs,0,m,nd,h1,h2,hk=>by
  simp at h1 h2;subst h1;subst h2
  show bindL kindOf ((p,w)::P.zip vs) m p=_
  unfold bindL
  rw [bindL_out fun v hv=>(List.nodup_cons.mp nd).1 (List.of_mem_zip hv).1,if_pos hk]
  simp
 | p::P,w::vs,i+1,m,nd,h1,h2,hk=>by
  show bindL kindOf ((p,w)::P.zip vs) m x=_
  unfold bindL
  exact bindL_get (i:=i) (List.nodup_cons.mp nd).2 (by simpa using h1) (by simpa using h2) hk
theorem bindC_get {kindOf:Str→Option NameKind} {x:Str} {v:Value}:∀ {P:List Str} {vs:List Value} {i:Nat} {m:Str→Option Value},P.Nodup→P[i]?=some x→vs[i]?=some v→kindOf x≠some .local →
  bindC kindOf (P.zip vs) m x=some v
 | [],_,_,_,_,h,_,_=>by simp at h
 | _::_,[],_,_,_,_,h,_=>by simp at h
 | p::P,w::vs,0,m,nd,h1,h2,hk=>by
  simp at h1 h2;subst h1;subst h2
  show bindC kindOf ((p,w)::P.zip vs) m p=_
  unfold bindC
  rw [bindC_out fun v hv=>(List.nodup_cons.mp nd).1 (List.of_mem_zip hv).1,if_neg hk]
  simp
 | p::P,w::vs,i+1,m,nd,h1,h2,hk=>by
  show bindC kindOf ((p,w)::P.zip vs) m x=_
  unfold bindC
  exact bindC_get (i:=i) (List.nodup_cons.mp nd).2 (by simpa using h1) (by simpa using h2) hk

def start (N:List Str) (vs:List V):St:=vs.map some++List.replicate (N.length - vs.length) none

def cxOf (CX:CXT) (P:Program) (w:World) (K:PySem.W.Frag) (mg:Str→Option Value) (base:Heap) (N:List Str) (qual:Str) (scope:Scope) (f:Addr) (cd:Value) (A:Around) (outer:List Env) (s:Shared) (H:Hp) (E:XK):Cx where
 prog:=P
 w:=w
 K:=K
 mg:=mg
 base:=base
 A:=A.deeper (envOfC qual scope s.heap.objs.size f cd)
 N:=N
 s₀:=s
 H₀:=H
 env:=envOfC qual scope s.heap.objs.size f cd
 outer:=outer
 stack:=envOfC qual scope s.heap.objs.size f cd::outer
 ex:=[]
 calm:=true
 fn:=fun _=>true
 pn:=[]
 xe:=fun e s'=>wpAny (model P w) (A.deeper (envOfC qual scope s.heap.objs.size f cd)) (leaving (envOfC qual scope s.heap.objs.size f cd) e) (fun _ s''=>CX outer H s E e s'') (fun e' s''=>CX outer H s E e' s'') s'

theorem cell_has {sc:Scope} {n:Nat} {x:Str} (h:sc.names.lookup x=some .cell):∃ c,(cellsFrom n sc.names []).lookup x=some c:=by
 have q:=PySem.W.cellsFrom_some sc.names n [] (.inl h)
 exact Option.isSome_iff_exists.mp q

theorem inv_start {CX:CXT} {P:Program} {w:World} {K:PySem.W.Frag} {mg:Str→Option Value} {base:Heap} {N ps:List Str} {qual:Str} {scope:Scope} {f:Addr} {cd:Value} {A:Around} {outer:List Env} {s s1:Shared} {H:Hp} {E:XK} {us:List Value} {vs:List V}
  (S:FnScope N ps scope) (hd:A.handled=none) (e0:Env0 P w K mg base A outer s H) (hl:vs.length=ps.length) (r:Vals vs us)
  (x:InCallC s s.heap.objs.size (bindL (envOfC qual scope s.heap.objs.size f cd).kindOf (ps.zip us) fun _=>none) (cellsFrom (s.heap.objs.size+1) scope.names []) (bindC (envOfC qual scope s.heap.objs.size f cd).kindOf (ps.zip us) fun _=>none) s1) :
  Inv (cxOf CX P w K mg base N qual scope f cd A outer s H E) [] (start N vs) H s1:=by
 have hpl:ps.length≤N.length:=by have:=congrArg List.length S.pre;rw [List.length_take] at this;omega
 obtain ⟨h1,tk,rfl,hk⟩:=x.done
 have noA:∀ b:Addr,b∉(cxOf CX P w K mg base N qual scope f cd A outer s H E).ex:=fun b z=>absurd (show b∈([]:List Addr) from z) (by simp)
 refine ⟨⟨e0.mod,S.kind,rfl,rfl,Nat.le_refl _,fun y z c h1 h2=>?_,fun y hy=>?_,fun y c _ h=>?_,fun _=>hd,Around.frames_deeper e0.frames,.inr ⟨rfl,rfl⟩,fun b z=>absurd z (noA b),e0.bs,e0.bsz,fun b _ _=>noA b,fun b z=>absurd z (noA b),e0.funs,e0.frf⟩,
  rfl,e0.bare,Un.kept hk,⟨_,x.toInCall.ns,fun i y v h1 h2 h3=>?_⟩,fun y c h=>⟨_,x.cell y c h⟩,e0.hok.fresh (Nat.le_refl _),fun y c h=>?_,fun p hp=>absurd (show p∈([]:List (Addr × Obj)) from hp) (by simp),e0.hok.kept hk,?_⟩
 ·exact name_of_addr x.apart (PySem.mem_of_lookup h1) (PySem.mem_of_lookup h2)
 ·have hy:scope.names.lookup y=some .cell∨scope.names.lookup y=some .free:=hy
  rcases hy with hy | hy
  ·exact cell_has hy
  ·exact absurd rfl (S.nofree _ (PySem.mem_of_lookup hy))
 ·exact Nat.le_of_lt (x.above y c (PySem.mem_of_lookup h))
 ·have hi:i < vs.length:=by
   unfold start at h2
   by_cases hi:i < vs.length
   ·exact hi
   ·rw [List.getElem?_append_right (by simpa using hi)] at h2
    rw [List.getElem?_replicate] at h2
    split at h2<;>cases h2
  have ha:vs[i]?=some v:=by
   unfold start at h2
   rw [List.getElem?_append_left (by simpa using hi),List.getElem?_map] at h2
   cases e:vs[i]? with
   | none=>rw [e] at h2;cases h2
   | some a=>rw [e] at h2;cases h2;rfl
  obtain ⟨u,hu,rv⟩:=r.get ha
  have hp:ps[i]?=some y:=by
   rw [←S.pre,List.getElem?_take_of_lt (by omega)];exact h1
  have ndP:ps.Nodup:=by rw [←S.pre];exact S.nd.sublist (List.take_sublist _ _)
  refine ⟨u,rv,?_⟩
  rcases S.par y (List.mem_of_getElem? hp) with k | k
  ·exact .inl ⟨k,bindL_get ndP hp hu k⟩
  ·obtain ⟨c,e⟩:=cell_has (n:=s.heap.objs.size+1) k
   refine .inr ⟨.inl k,c,e,?_⟩
   have q:=x.cell y c e
   rw [bindC_get ndP hp hu (by show scope.names.lookup y≠_;rw [k];decide)] at q
   exact q
 ·exact e0.hok.fresh (Nat.le_of_lt (x.above y c (PySem.mem_of_lookup h)))
 ·unfold start
  show _=N.length
  rw [List.length_append,List.length_map,List.length_replicate]
  omega

theorem fn_of {CX:CXT} {P:Program} {w:World} {K:PySem.W.Frag} {mg:Str→Option Value} {base:Heap} {k:Nat} {f:Addr} {name qual:Str} {params:Arguments} {body:List Stmt} {scope:Scope} {dV kV doc pm cdv ct oc:Value} {an od:Option Addr}
  {osl:Array (Option Value)} {N ps:List Str} {sp:Sp} (lk:K.lookup f=some ⟨oc,od,.func (PySem.W.fnOf name qual params body scope dV kV doc pm an cdv ct),osl⟩) (hcd:PySem.W.codeIn K cdv qual=true) (S:FnScope N ps scope)
  (len:∀ vs H Q E,sp vs H Q E→vs.length=ps.length)
  (hbody:∀ (A:Around) (outer:List Env) (s:Shared) (H:Hp) (vs:List V) (Q:VK) (E:XK),Room k (A.deeper (envOfC qual scope s.heap.objs.size f cdv))→sp vs H Q E →
   ∃ t,PSs (cxOf CX P w K mg base N qual scope f cdv A outer s H E) body t∧t { nx:=fun _ H'=>Q .non H',rt:=Q } (start N vs) H) :
  FnOk P w K mg base CX (k+1) f (PySem.W.fnOf name qual params body scope dV kV doc pm an cdv ct) ps sp:=by
 refine ⟨len,fun A outer s H args us vs Q E hr e0 hb r hsp=>?_⟩
 have hl:=len _ _ _ _ hsp
 have KX:K.In s.heap:=e0.mod.kin.keeps fun b o e=>(e0.bs b o e).1
 have lim:s.heap.NoLimit:=e0.mod.nolimit.keeps fun b o e=>(e0.bs b o e).1
 have hkind:∀ y∈ps.zip us,scope.names.lookup y.1=some .local∨(scope.names.lookup y.1=some .cell∧((cellsFrom (s.heap.objs.size+1) scope.names []).lookup y.1).isSome=true):=fun ⟨n,v⟩ hy=>by
  rcases S.par n (List.of_mem_zip hy).1 with q | q
  ·exact .inl q
  ·exact .inr ⟨q,PySem.W.cellsFrom_some _ _ _ (.inl q)⟩
 refine codeAny_call_function hr.depth (KX _ _ lk) rfl S.co S.gen rfl (PySem.W.codeRec_of KX hcd) (hb _ _ _ _ ?_)
 refine wpAny_newFunctionEnv_cells S.kind hkind fun env he s1 x=>?_
 subst he
 refine ⟨lim.keeps x.toInCall.keep,codeAny_func ?_⟩
 obtain ⟨t,ht,hq⟩:=hbody A outer s H vs Q E (hr.deeper _) hsp
 have I:Inv (cxOf CX P w K mg base N qual scope f cdv A outer s H E) [] (start N vs) H s1:=inv_start S hr.hd e0 hl r x
 refine wpAny_mono (ht [] s1 (start N vs) H _ I hq) (fun fl s' hs=>?_) fun e s' hs=>hs
 have fin:∀ {σ':St} {H':Hp} {v:V} {u:Value},Inv (cxOf CX P w K mg base N qual scope f cdv A outer s H E) [] σ' H' s'→RelV v u→Q v H'→CE outer P w H s Q u s' :=
  fun {σ' H' v u} J rv q=>⟨v,H',J.os,J.bare,J.base,J.hok,rv,q⟩
 cases fl with
 | ret u =>
  obtain ⟨v,σ',H',J,rv,q⟩:=hs
  exact fin J rv q
 | next =>
  obtain ⟨σ',H',J,q⟩:=hs
  exact fin (v:=V.non) (u:=Value.none) J rfl q
 | brk =>
  obtain ⟨_,_,_,q⟩:=hs
  exact False.elim q
 | cont =>
  obtain ⟨_,_,_,q⟩:=hs
  exact False.elim q
end L2

namespace L2
open PySem PySem.Spec PyProof.Rows
section
variable {X:Cx} {x:Str} {p pos:Pos} {e:Expr} {es:List Expr} {t:TA} {id T:String} {r:List V→Hp→VK→Prop}

def tCB (r:List V→Hp→VK→Prop) (t:TA):TE:=fun σ H Q=>t σ H fun vs H1=>r vs H1 Q
theorem pe_callB (hc:CallR X (.builtin id) r) (hg:Gl X x) (hm:X.mg x=none) (hv:bootBuiltins x=some (.builtin id)) (ha:PA X (e::es) t) (hn:x≠"__name__":=by decide) (hdb:(x == ("__debug__":Str))=false:=by decide)
  (he:starEach (e::es) X.env=(false,eval e X.env)::starEach es X.env:=by rfl) (hpl:(backTo pos (starEach es X.env)).any (·.1)=false:=by rfl):PE X (.Call (.Name x p) (e::es) [] pos) (tCB r t):=by
 intro pins s σ H Q I h
 refine wpAny_Call_Name_kw (ld_blt I hg hm hv ?_ hn hdb)
 exact PyProof.Rows.callWith_builtin1 (thn (ha pos pins s σ H _ I h) fun us s1 ⟨vs,H1,I1,r1,q1⟩=>hc pins s1 σ H1 vs us Q I1 r1 q1) he hpl
theorem pe_callTy (hc:CallR X (.type T) r) (hg:Gl X x) (hm:X.mg x=none) (hv:bootBuiltins x=some (.type T)) (ha:PA X (e::es) t) (hn:x≠"__name__":=by decide) (hdb:(x == ("__debug__":Str))=false:=by decide)
  (he:starEach (e::es) X.env=(false,eval e X.env)::starEach es X.env:=by rfl) (hpl:(backTo pos (starEach es X.env)).any (·.1)=false:=by rfl):PE X (.Call (.Name x p) (e::es) [] pos) (tCB r t):=by
 intro pins s σ H Q I h
 refine wpAny_Call_Name_kw (ld_blt I hg hm hv ?_ hn hdb)
 exact PyProof.Rows.callWith_type1 (thn (ha pos pins s σ H _ I h) fun us s1 ⟨vs,H1,I1,r1,q1⟩=>hc pins s1 σ H1 vs us Q I1 r1 q1) he hpl
end
end L2

namespace HT
open PySem PyProof.Rows

section
open PySem.SeqAt
open PySem.AutoSeq1 (wpAny_loadPart')
open PySem.MeetsSeq PySem.MeetsSeq2 PySem.MeetsSeq3

end

section
variable {prog:Program} {w:World} {A:Around} {E:Value→Shared→Prop} {s:Shared}

theorem cat_tup {t b:Addr} {vs ws:List Value} {Q:Value→Shared→Prop} (ht:IsTup s.heap t vs.toArray) (hb:IsTup s.heap b ws.toArray) (hv:vs≠[])
  (h1:ws=[]→Q (.ref t) s) (h2:ws≠[]→Q (.ref s.heap.objs.size) { s with heap:=s.heap.push { cls:=.type "tuple",data:=.seq (vs++ws).toArray } })
  (hsz:vs.length+ws.length≤sizeLine):wpAny (model prog w) A (binaryOp .Add (.ref t) (.ref b)) Q E s:=by
 obtain ⟨⟨cls,dd,data,sl⟩,ho,hc,n,hd⟩:=id ht
 obtain ⟨⟨cls2,dd2,data2,sl2⟩,ho2,hc2,n2,hd2⟩:=id hb
 simp only at hc hd hc2 hd2
 subst hc hd hc2 hd2
 have e:vs.toArray++ws.toArray=(vs++ws).toArray:=by simp
 by_cases hw:ws=[]
 ·exact concat_meets ⟨_,ho,rfl⟩ ⟨_,ho2,rfl⟩ noFill_tuple_add seq_tuple_add PySem.F.slot_tuple_add PySem.F.entry_tuple_add (PySem.F.args_tuple_add_2 _ _)
   (tuple_addW1 t b vs.toArray ws.toArray n n2 dd dd2 sl sl2 (by simpa using hv) (by simp [hw])) ⟨ho,ho2,h1 hw⟩
 ·refine concat_meets ⟨_,ho,rfl⟩ ⟨_,ho2,rfl⟩ noFill_tuple_add seq_tuple_add PySem.F.slot_tuple_add PySem.F.entry_tuple_add (PySem.F.args_tuple_add_2 _ _)
   (tuple_addW2 t b vs.toArray ws.toArray n n2 dd dd2 sl sl2 (by simpa using hv) (by simpa using hw) (by rw [List.size_toArray,List.size_toArray];exact hsz)) ⟨ho,ho2,?_⟩
  rw [e]
  exact h2 hw

/-! ### t[a:b],not the whole -/
def sIx (n d:Nat):Option Int→Nat
 | none=>d
 | some v=>if v < 0 then (v+(n:Int)).toNat else min v.toNat n
theorem sIx_none (n d:Nat):sIx n d none=d:=rfl
theorem sIx_nat (n d k:Nat):sIx n d (some (k:Int))=min k n:=by
 show (if (k:Int) < 0 then ((k:Int)+(n:Int)).toNat else min (k:Int).toNat n)=min k n
 rw [if_neg (by omega),Int.toNat_natCast]
theorem sIx_le (n d:Nat) (hd:d≤n) (o:Option Int):sIx n d o≤n:=by
 cases o with
 | none=>exact hd
 | some v =>
  show (if v < 0 then (v+(n:Int)).toNat else min v.toNat n)≤n
  by_cases hv:v < 0
  ·rw [if_pos hv];omega
  ·rw [if_neg hv];exact Nat.min_le_right _ _
theorem clip_eq (v:Int) (n d:Nat):(if v < 0 then max (v+(n:Int)) 0 else min v (n:Int))=((sIx n d (some v):Nat):Int):=by
 show (if v < 0 then max (v+(n:Int)) 0 else min v (n:Int))=(((if v < 0 then (v+(n:Int)).toNat else min v.toNat n):Nat):Int)
 by_cases hv:v < 0
 ·simp only [if_pos hv];omega
 ·simp only [if_neg hv];omega
theorem adjust_gen (lo hi:Option Int) (n:Nat):Builtin.Slice.sliceAdjust lo hi 1 (n:Int)=(((sIx n 0 lo:Nat):Int),((sIx n n hi:Nat):Int)):=by
 have h1:¬ ((1:Int) < 0):=by omega
 unfold Builtin.Slice.sliceAdjust
 simp only [h1,if_false]
 refine Prod.ext ?_ ?_
 ·cases lo with
  | none=>rfl
  | some v=>exact clip_eq v n 0
 ·cases hi with
  | none=>rfl
  | some v=>exact clip_eq v n n
theorem places_gen (i j:Nat):Builtin.Slice.slicePlaces (i:Int) (j:Int) 1=j - i:=by
 unfold Builtin.Slice.slicePlaces
 have h1:(1:Int) > 0:=by omega
 simp only [h1,if_true,Int.ediv_one]
 split<;>omega
theorem slicePart_ {v:Value} {o:Option Int} {Q:Option Int→Shared→Prop} (p:IsPart v o) (h:Q o s):wpAny (model prog w) A (Builtin.Slice.slicePartIndex v) Q E s:=by
 cases p with
 | none=>exact slicePart_none h
 | int i t=>exact slicePart_int h
theorem sliceApplied_gen {sl:Addr} {vl vu:Value} {lo hi:Option Int} {n:Nat} {Q:Int × Int × Nat→Shared→Prop} (hs:s.heap.IsSliceOf sl vl vu .none) (pl:IsPart vl lo) (pu:IsPart vu hi)
  (h:Q (((sIx n 0 lo:Nat):Int),1,sIx n n hi - sIx n 0 lo) s):wpAny (model prog w) A (Builtin.Slice.sliceApplied (.ref sl) (pure (n:Int))) Q E s:=by
 obtain ⟨os,hos,hcs,hds⟩:=id hs
 unfold Builtin.Slice.sliceApplied Builtin.Slice.sliceFields
 refine wpAny_bind (wpAny_bind (wpAny_field hos hds (x:=vl) rfl (wpAny_bind (wpAny_field hos hds (x:=vu) rfl (wpAny_bind (wpAny_field hos hds (x:=.none) rfl (wpAny_pure ?_)))))))
 refine wpAny_bind (slicePart_none ?_)
 show wpAny _ _ (if ((1:Int) == 0)=true then _ else _) _ _ s
 rw [if_neg (by decide)]
 refine wpAny_bind (slicePart_ pl (wpAny_bind (slicePart_ pu (wpAny_bind (wpAny_pure ?_)))))
 show wpAny _ _ (match Builtin.Slice.sliceAdjust lo hi 1 (n:Int) with | (lo,hi)=>pure (lo,(1:Int),Builtin.Slice.slicePlaces lo hi 1)) _ _ s
 rw [adjust_gen lo hi n]
 show wpAny _ _ (pure (((sIx n 0 lo:Nat):Int),(1:Int),Builtin.Slice.slicePlaces ((sIx n 0 lo:Nat):Int) ((sIx n n hi:Nat):Int) 1)) _ _ s
 rw [places_gen]
 exact wpAny_pure h
theorem pick_gen (xs:Array Value) (i k:Nat):((List.range k).filterMap fun (m:Nat)=>xs[((i:Int)+(m:Int)*1).toNat]?).toArray=((xs.toList.drop i).take k).toArray:=by
 have e:(fun (m:Nat)=>xs[((i:Int)+(m:Int)*1).toNat]?)=fun m=>xs[i+m]?:=by
  funext m
  have:((i:Int)+(m:Int)*1).toNat=i+m:=by omega
  rw [this]
 rw [e]
 have:=pick_run xs i k
 rw [List.filterMap_map] at this
 have e2:((fun x=>xs[x]?) ∘ fun x=>i+x)=fun m=>xs[i+m]?:=rfl
 rw [e2] at this
 rw [this]

theorem getItem_tuple_cut {t sl:Addr} {items:Array Value} {vl vu:Value} {lo hi:Option Int} {Q:Value→Shared→Prop} (ht:IsTup s.heap t items) (hs:s.heap.IsSliceOf sl vl vu .none) (pl:IsPart vl lo) (pu:IsPart vu hi)
  (hw:¬ (sIx items.size 0 lo=0∧sIx items.size items.size hi=items.size))
  (h:Q (.ref s.heap.objs.size) { s with heap:=s.heap.push { cls:=.type "tuple",data:=.seq ((items.toList.drop (sIx items.size 0 lo)).take (sIx items.size items.size hi - sIx items.size 0 lo)).toArray } })
  (hsz:items.size≤sizeLine):wpAny (model prog w) A (getItem (.ref t) (.ref sl)) Q E s:=by
 have htake:sizeOk (.seq ((items.toList.drop (sIx items.size 0 lo)).take (sIx items.size items.size hi - sIx items.size 0 lo)).toArray):=by
  show ((items.toList.drop (sIx items.size 0 lo)).take (sIx items.size items.size hi - sIx items.size 0 lo)).toArray.size≤sizeLine
  rw [List.size_toArray,List.length_take,List.length_drop,Array.length_toList]
  omega
 have hj:sIx items.size items.size hi≤items.size:=sIx_le _ _ (Nat.le_refl _) hi
 obtain ⟨os,hos,hcs,hds⟩:=id hs
 have hTs:s.TypeIs (.ref sl) "slice":=⟨os,hos,hcs⟩
 unfold getItem
 try with_reducible refine wpAny_holding ?_
 first | refine wpAny_bind (wpAny_pure ?_) | skip
 refine wpAny_bind (wpAny_sequenceKey ht.typeIs (by decide) ?_)
 refine wpAny_bind (wpAny_callSpecial?_slot (name:=Str.ofString "__getitem__") ht.typeIs PyProof.Rows.slot_tuple_getitem
  (wpAny_call_entry PyProof.Rows.slot_tuple_getitem ht.typeIs entry_tuple_getitem ?_ (args_tuple_getitem _ _)))
 show wpAny _ _ (Builtin.Tuple.tupleItemsOf (.ref t) >>= _) _ _ s
 refine wpAny_bind (tupleItemsOf_ ht ?_)
 refine wpAny_bind (wpAny_typeOf hTs ?_)
 rw [if_pos (by decide)]
 refine wpAny_bind (sliceApplied_gen hs pl pu ?_)
 have hno:¬ ((((sIx items.size 0 lo:Nat):Int) == 0 && (1:Int) == 1 && (sIx items.size items.size hi - sIx items.size 0 lo) == items.size)=true):=by
  intro q
  rw [Bool.and_eq_true,Bool.and_eq_true] at q
  have q1:((sIx items.size 0 lo:Nat):Int)=0:=eq_of_beq q.1.1
  have q2:sIx items.size items.size hi - sIx items.size 0 lo=items.size:=eq_of_beq q.2
  exact hw ⟨by omega,by omega⟩
 show wpAny _ _ (if (((sIx items.size 0 lo:Nat):Int) == 0 && (1:Int) == 1 && (sIx items.size items.size hi - sIx items.size 0 lo) == items.size)=true then _ else _) _ _ s
 rw [if_neg hno,pick_gen]
 first
  | exact wpAny_bind (m:=Builtin.Tuple.tupleExact _) (wpAny_newObj_type (wpAny_pure ⟨_,rfl,wpAny_pure h⟩) htake)
  | exact wpAny_bind (m:=Builtin.Tuple.tupleExact _) (wpAny_newObj_type (wpAny_bind (wpAny_pure (wpAny_pure ⟨_,rfl,wpAny_pure h⟩))) htake)
  | exact wpAny_bind (wpAny_bind (m:=Builtin.Tuple.tupleExact _) (wpAny_newObj_type (wpAny_pure (wpAny_pure ⟨_,rfl,wpAny_pure h⟩)) htake))
  | exact wpAny_bind (wpAny_bind (m:=Builtin.Tuple.tupleExact _) (wpAny_newObj_type (wpAny_pure ⟨_,rfl,wpAny_pure h⟩) htake))
end
end HT

namespace L2
open PySem PySem.Spec PyProof.Rows

/-! ### the parts of a slice -/
abbrev TO:=St→Hp→(Option Int→Hp→Prop)→Prop
def PO (X:Cx) (e:Option Expr) (t:TO):Prop :=
 ∀ (pins:List (Addr × Obj)) (s:Shared) (σ:St) (H:Hp) (Q:Option Int→Hp→Prop),Inv X pins σ H s→t σ H Q →
  wpAny (model X.prog X.w) X.A (evalPart e X.env) (fun u s'=>∃ o H',Inv X pins σ H' s'∧IsPart u o∧Q o H') X.xe s
def tNoPart:TO:=fun _ H Q=>Q none H
def tPart (t:TE):TO:=fun σ H Q=>t σ H fun x H1=>∃ i,x=.int i∧Q (some i) H1

section
variable {X:Cx} {e:Expr} {te:TE} {lo hi:Option Expr} {tl th:TO} {pos p2:Pos}

theorem po_none:PO X none tNoPart:=by
 intro pins s σ H Q I h
 rw [evalPart_none]
 exact wpAny_pure ⟨none,H,I,.none,h⟩
theorem po_some (h:PE X e te):PO X (some e) (tPart te):=by
 intro pins s σ H Q I hw
 rw [evalPart_some]
 refine thn (h pins s σ H _ I hw) fun u s1 ⟨x,H1,I1,r1,q1⟩=>?_
 obtain ⟨i,rfl,q⟩:=q1
 obtain ⟨t,rfl⟩:=r1
 exact ⟨some i,H1,I1,.int i t,q⟩

def SlR (X:Cx) (r:V→Option Int→Option Int→Hp→VK→Prop):Prop :=
 ∀ (pins:List (Addr × Obj)) (s:Shared) (σ:St) (H:Hp) (x:V) (v vl vu:Value) (lo hi:Option Int) (sl:Addr) (Q:VK),Inv X pins σ H s→RelV x v→s.heap.IsSliceOf sl vl vu .none→IsPart vl lo→IsPart vu hi→r x lo hi H Q →
  ∃ T id,typeLookup (.type T) "__getitem__"=pure (some (.builtin id))∧s.TypeIs v T∧wpAny (model X.prog X.w) X.A (getItem v (.ref sl)) (EP X pins σ Q) X.xe s
def tSl (r:V→Option Int→Option Int→Hp→VK→Prop) (te:TE) (tl th:TO):TE:=fun σ H Q=>te σ H fun x H1=>tl σ H1 fun l H2=>th σ H2 fun u H3=>r x l u H3 Q
theorem pe_slice {r:V→Option Int→Option Int→Hp→VK→Prop} (hr:SlR X r) (he:PE X e te) (hl:PO X lo tl) (hu:PO X hi th):PE X (.Subscript e (.Slice lo hi none p2) pos) (tSl r te tl th):=by
 intro pins s σ H Q I h
 refine Subscript_ (thn (he pins s σ H _ I h) fun v s1 ⟨x,H1,I1,r1,q1⟩=>?_)
 refine wpAny_Slice (thn (hl pins s1 σ H1 _ I1 q1) fun vl s2 ⟨l,H2,I2,pl,q2⟩=>thn (hu pins s2 σ H2 _ I2 q2) fun vu s3 ⟨u,H3,I3,pu,q3⟩=>?_)
 rw [evalPart_none]
 refine wpAny_pure ?_
 have I4:Inv X pins σ H3 { s3 with heap:=s3.heap.push { cls:=.type "slice",data:=.fields #[vl,vu,.none] } }:=I3.kept (t':=s3.toks) fun b ob q=>Heap.get?_push_of_some _ q
 obtain ⟨T,id,hT,ht,hg⟩:=hr pins { s3 with heap:=s3.heap.push { cls:=.type "slice",data:=.fields #[vl,vu,.none] } } σ H3 x v vl vu l u s3.heap.objs.size Q I4 r1 (Heap.IsSliceOf.new ..) pl pu q3
 show wpAny (model X.prog X.w) X.A (subscriptTail e (.Slice lo hi none p2) v (.ref s3.heap.objs.size)) (EP X pins σ Q) X.xe { s3 with heap:=s3.heap.push { cls:=.type "slice",data:=.fields #[vl,vu,.none] } }
 exact tail_any (ops:=[.ref s3.heap.objs.size,v]) ht hT hg (by with_unfolding_all rfl)

def cutV (xs:List V) (lo hi:Option Int):List V:=(xs.drop (HT.sIx xs.length 0 lo)).take (HT.sIx xs.length xs.length hi - HT.sIx xs.length 0 lo)
theorem cutV_length (xs:List V) (lo hi:Option Int):(cutV xs lo hi).length≤xs.length:=by
 unfold cutV
 rw [List.length_take,List.length_drop]
 omega
def rSlT (K:PySem.W.Frag):V→Option Int→Option Int→Hp→VK→Prop:=fun x lo hi H Q=>∃ a xs,x=.ref a∧SqT K H a xs ∧
 ¬ (HT.sIx xs.length 0 lo=0∧HT.sIx xs.length xs.length hi=xs.length)∧∀ p,H p=none→Q (.ref p) (upd H p (.tup (cutV xs lo hi)))
theorem sl_tup:SlR X (rSlT X.K):=by
 intro pins s σ H x v vl vu lo hi sl Q I rx hs pl pu h
 obtain ⟨a,xs,rfl,hx,hw,q⟩:=h
 cases rx
 obtain ⟨its,r,ht,hz⟩:=I.tuple hx
 have hlen:its.toArray.size=xs.length:=by rw [List.size_toArray];exact r.length.symm
 refine ⟨"tuple",_,PyProof.Rows.slot_tuple_getitem.lookup,ht.typeIs,?_⟩
 refine HT.getItem_tuple_cut ht hs pl pu (by rw [hlen];exact hw) ?_ (by rw [hlen];exact hz)
 rw [hlen]
 refine ⟨.ref s.heap.objs.size,_,I.laid (t':=s.toks) (o:=.tup (cutV xs lo hi)) (fun b ob q=>Heap.get?_push_of_some _ q) (Nat.le_refl _) ?_,rfl,q _ (I.hok.fresh (Nat.le_refl _))⟩
 exact ⟨Nat.le_trans (cutV_length xs lo hi) hz,_,0,(r.drop (HT.sIx xs.length 0 lo)).take (HT.sIx xs.length xs.length hi - HT.sIx xs.length 0 lo),Heap.get?_push_size _ rfl⟩

/-! ### t < u,t+u -/
def rCatT (K:PySem.W.Frag):R2:=fun x y H Q=>∃ a b xs ys,x=.ref a∧y=.ref b∧SqT K H a xs∧SqT K H b ys∧xs≠[]∧xs.length+ys.length≤sizeLine ∧
 (ys=[]→Q (.ref a) H)∧(ys≠[]→∀ p,H p=none→Q (.ref p) (upd H p (.tup (xs++ys))))
theorem Vals.nil_iff {xs:List V} {us:List Value} (r:Vals xs us):us=[]↔xs=[]:=by
 cases r with
 | nil=>simp
 | cons _ _=>simp
theorem op_catT:OpR X (binaryOp .Add) (rCatT X.K):=by
 intro pins s σ H x y v u Q I rx ry h
 obtain ⟨a,b,xs,ys,rfl,rfl,ha,hb,hx,hz,q1,q2⟩:=h
 cases rx
 cases ry
 obtain ⟨its,r1,p1,_⟩:=I.tuple ha
 obtain ⟨its2,r2,p2,_⟩:=I.tuple hb
 refine HT.cat_tup p1 p2 (fun z=>hx (r1.nil_iff.mp z)) (fun z=>⟨.ref a,H,I,rfl,q1 (r2.nil_iff.mp z)⟩) (fun z=>?_) (by rw [←r1.length,←r2.length];exact hz)
 refine ⟨.ref s.heap.objs.size,_,I.laid (t':=s.toks) (o:=.tup (xs++ys)) (fun b ob q=>Heap.get?_push_of_some _ q) (Nat.le_refl _) ?_,rfl,q2 (fun w=>z (r2.nil_iff.mpr w)) _ (I.hok.fresh (Nat.le_refl _))⟩
 exact ⟨by rw [List.length_append];exact hz,_,0,r1.append r2,Heap.get?_push_size _ rfl⟩
end
end L2

namespace L2
open PySem PySem.Spec PyProof.Rows

/-! ### places -/
def ixN (n:Nat) (i:Int):Option Nat:=if 0≤i then (if i < n then some i.toNat else none) else if -(n:Int)≤i then some (i+n).toNat else none
def atI {α:Type} (xs:List α) (i:Int):Option α:=(ixN xs.length i).bind fun j=>xs[j]?
theorem ixN_seq {n:Nat} {i:Int} {j:Nat} (h:ixN n i=some j):seqIndex? i n=some j∧j < n∧-(n:Int)≤i∧i < n:=by
 unfold ixN at h
 by_cases h0:0≤i
 ·rw [if_pos h0] at h
  by_cases h1:i < n
  ·rw [if_pos h1] at h
   have e:i.toNat=j:=Option.some.inj h
   exact ⟨by rw [seqIndex_of h0 h1,e],by omega,by omega,h1⟩
  ·rw [if_neg h1] at h;cases h
 ·rw [if_neg h0] at h
  by_cases h1:-(n:Int)≤i
  ·rw [if_pos h1] at h
   have e:(i+n).toNat=j:=Option.some.inj h
   exact ⟨by rw [seqIndex_neg (by omega) h1,e],by omega,h1,by omega⟩
  ·rw [if_neg h1] at h;cases h
theorem atI_get {α:Type} {xs:List α} {i:Int} {v:α} (h:atI xs i=some v):∃ j,seqIndex? i xs.length=some j∧xs[j]?=some v∧j < xs.length∧-(xs.length:Int)≤i∧i < xs.length:=by
 unfold atI at h
 cases e:ixN xs.length i with
 | none=>rw [e] at h;cases h
 | some j =>
  rw [e] at h
  obtain ⟨h1,h2,h3,h4⟩:=ixN_seq e
  exact ⟨j,h1,h,h2,h3,h4⟩
theorem atI_nat {α:Type} {xs:List α} {j:Nat} {v:α} (h:xs[j]?=some v):atI xs (j:Int)=some v:=by
 have hj:j < xs.length:=(List.getElem?_eq_some_iff.mp h).1
 have e:ixN xs.length (j:Int)=some j:=by
  unfold ixN
  rw [if_pos (by omega),if_pos (by omega)];simp
 unfold atI;rw [e];exact h
/-! ### what may be subscripted -/
def PlainIx (b:Expr):Prop:=∀ o i,subscripted b false o i=operate [o,i] (getItem o i)
def IxR (X:Cx) (r:R2):Prop :=
 ∀ (value slice:Expr) (pins:List (Addr × Obj)) (s:Shared) (σ:St) (H:Hp) (x y:V) (v u:Value) (Q:VK),Inv X pins σ H s→RelV x v→RelV y u→r x y H Q →
  subscripted slice false v u=operate [v,u] (getItem v u)→wpAny (model X.prog X.w) X.A (subscriptTail value slice v u) (EP X pins σ Q) X.xe s
def MtR (X:Cx) (id:String) (r:V→List V→Hp→VK→Prop):Prop :=
 ∀ (pins:List (Addr × Obj)) (s:Shared) (σ:St) (H:Hp) (x:V) (xs:List V) (v:Value) (us:List Value) (Q:VK),Inv X pins σ H s→RelV x v→Vals xs us→r x xs H Q →
  wpAny (model X.prog X.w) X.A (call (.builtin id) (v::us)) (EP X pins σ Q) X.xe s
section
variable {X:Cx} {a b:Expr} {ta tb:TE} {pos:Pos}
theorem pe_ix {r:R2} (hr:IxR X r) (ha:PE X a ta) (hb:PE X b tb) (hs:PlainIx b):PE X (.Subscript a b pos) (tOp r ta tb):=by
 intro pins s σ H Q I h
 exact Subscript_ (binT ha hb I h fun v u s2 x y H2 I2 rx ry q=>hr a b pins s2 σ H2 x y v u Q I2 rx ry q (hs _ _))

def rIxL (K:PySem.W.Frag):R2:=fun x y H Q=>∃ p xs i v,x=.ref p∧y=.int i∧SqL K H p xs∧atI xs i=some v∧Q v H
def rIxT (K:PySem.W.Frag):R2:=fun x y H Q=>∃ p xs i v,x=.ref p∧y=.int i∧SqT K H p xs∧atI xs i=some v∧Q v H
theorem ix_list:IxR X (rIxL X.K):=by
 intro value slice pins s σ H x y v u Q I rx ry h hs
 obtain ⟨p,xs,i,z,rfl,rfl,hq,he,q⟩:=h
 cases rx
 obtain ⟨t,rfl⟩:=ry
 obtain ⟨its,r,pl,hz⟩:=I.list hq
 obtain ⟨j,h1,h2,h3,h4,h5⟩:=atI_get he
 obtain ⟨w,ew,rw'⟩:=r.get h2
 have hl:=r.length
 have hn:=line63
 have fin:EP X pins σ Q w s:=⟨z,H,I,rw',q⟩
 by_cases h0:0≤i
 ·have hj:i.toNat=j:=by
   rw [seqIndex_of h0 h5] at h1
   exact Option.some.inj h1
  exact item_listR pl.isList h0 (by omega) (by rw [hj];simpa using ew) fin hs
 ·have hj:(i+(its.toArray.size:Int)).toNat=j:=by
   rw [seqIndex_neg (by omega) h4] at h1
   rw [List.size_toArray,←hl]
   exact Option.some.inj h1
  exact subscriptTail_builtinR (x:=w) pl.isList.typeIs slot_list_getitem.lookup
   (wpAny_getItem_list_neg (Q:=fun r s'=>r=w∧EP X pins σ Q r s') pl.isList (by omega) (by rw [List.size_toArray]<;>omega) (by omega) (by rw [hj];simpa using ew) ⟨rfl,fin⟩) hs
theorem ix_tup:IxR X (rIxT X.K):=by
 intro value slice pins s σ H x y v u Q I rx ry h hs
 obtain ⟨p,xs,i,z,rfl,rfl,hq,he,q⟩:=h
 cases rx
 obtain ⟨t,rfl⟩:=ry
 obtain ⟨its,r,pl,hz⟩:=I.tuple hq
 obtain ⟨j,h1,h2,h3,h4,h5⟩:=atI_get he
 obtain ⟨w,ew,rw'⟩:=r.get h2
 have hl:=r.length
 have hn:=line63
 have fin:EP X pins σ Q w s:=⟨z,H,I,rw',q⟩
 exact subscriptTail_builtinR (x:=w) pl.typeIs slot_tuple_getitem.lookup
  (getItem_tuple (j:=j) (Q:=fun r s'=>r=w∧EP X pins σ Q r s') pl (by omega) (by omega) (by rw [List.size_toArray,←hl];exact h1) (by simpa using ew) ⟨rfl,fin⟩) hs
/-! ### xs[i]=v,any sign -/
theorem mapSeq_set (its:List Value) (n j:Nat) (u:Value):Obj.mapSeq (·.setIfInBounds j u) { cls:=.type "list",data:=.seq its.toArray n }={ cls:=.type "list",data:=.seq (its.set j u).toArray n }:=by
 simp [Obj.mapSeq]
theorem Inv.lst {pins:List (Addr × Obj)} {σ:St} {H:Hp} {s:Shared} {p:Addr} {xs:List V} (I:Inv X pins σ H s) (h:H p=some (.lst xs)) :
  ∃ (its:List Value) (n:Nat),Vals xs its∧s.heap.get? p=some { cls:=.type "list",data:=.seq its.toArray n }∧xs.length≤sizeLine:=by
 obtain ⟨z,its,n,r,e⟩:=I.hok p _ h
 exact ⟨its,n,r,e,z⟩
theorem Inv.lstUpd {pins:List (Addr × Obj)} {σ:St} {H:Hp} {s:Shared} {p:Addr} {xs ys:List V} {its its':List Value} {n n':Nat} {f:Obj→Obj} (I:Inv X pins σ H s) (h:H p=some (.lst xs))
  (ho:s.heap.get? p=some { cls:=.type "list",data:=.seq its.toArray n }) (hf:f { cls:=.type "list",data:=.seq its.toArray n }={ cls:=.type "list",data:=.seq its'.toArray n' }) (r:Vals ys its') (hz:ys.length≤sizeLine) (t:Nat) :
  Inv X pins σ (upd H p (.lst ys)) { s with heap:=s.heap.update p f,toks:=t }:=by
 have e:(s.heap.update p f).get? p=some { cls:=.type "list",data:=.seq its'.toArray n' }:=by
  rw [Heap.get?_update_self f ho (by rw [hf]<;>rfl),hf]
 refine I.write (x:=p) (e:=p) (by rw [h];trivial) (.inl rfl) (fun b u hb q=>(Heap.get?_update_other _ _ (Ne.symm hb)).trans q) ⟨_,e⟩ ?_
 exact ⟨hz,its',n',r,e⟩
def rSetL:V→V→V→Hp→(Hp→Prop)→Prop:=fun o i v H Q=>∃ p xs k j,o=.ref p∧i=.int k∧H p=some (.lst xs)∧ixN xs.length k=some j∧Q (upd H p (.lst (xs.set j v)))
theorem set_list:PSet X rSetL:=by
 intro pins s σ H o i v ov iv u Q I ro ri rv h
 obtain ⟨p,xs,k,j,rfl,rfl,hp,hj,q⟩:=h
 cases ro
 obtain ⟨t,rfl⟩:=ri
 obtain ⟨its,n,r,ho,hz⟩:=I.lst hp
 obtain ⟨h1,h2,h3,h4⟩:=ixN_seq hj
 have hl:=r.length
 have hn:=line63
 have I':Inv X pins σ (upd H p (.lst (xs.set j v))) { s with heap:=s.heap.update p (Obj.mapSeq (·.setIfInBounds j u)) } :=
  I.lstUpd hp ho (mapSeq_set its n j u) (r.set rv j) (by rw [List.length_set];exact hz) s.toks
 by_cases h0:0≤k
 ·have hk:k.toNat=j:=by
   rw [seqIndex_of h0 h4] at h1
   exact Option.some.inj h1
  exact PySem.W.ki_setAt ho h0 (by omega) (by rw [List.size_toArray,←hl];exact h4) (by rw [hk];exact ⟨_,I',q⟩)
 ·have hk:(k+(its.toArray.size:Int)).toNat=j:=by
   rw [seqIndex_neg (by omega) h3] at h1
   rw [List.size_toArray,←hl]
   exact Option.some.inj h1
  exact PySem.W.ki_setBack ho (by omega) (by rw [List.size_toArray,←hl];exact h3) (by omega) (by rw [hk];exact ⟨_,I',q⟩)

/-! ### slices -/
theorem slice_bounds (lo hi:Option Int) (n:Nat):(sliceBounds lo hi none n).1=((HT.sIx n 0 lo:Nat):Int)∧(sliceBounds lo hi none n).2.1=((HT.sIx n n hi:Nat):Int)∧(sliceBounds lo hi none n).2.2=1:=by
 refine ⟨?_,?_,rfl⟩
 ·cases lo with
  | none=>simp [sliceBounds,HT.sIx]
  | some i =>
   simp only [sliceBounds,HT.sIx,Option.getD_none,show (1:Int) > 0 by decide,if_true]
   by_cases h:i < 0
   ·simp only [h,if_true]<;>omega
   ·simp only [h,if_false]<;>omega
 ·cases hi with
  | none=>simp [sliceBounds,HT.sIx]
  | some i =>
   simp only [sliceBounds,HT.sIx,Option.getD_none,show (1:Int) > 0 by decide,if_true]
   by_cases h:i < 0
   ·simp only [h,if_true]<;>omega
   ·simp only [h,if_false]<;>omega
theorem slicePick_cut (its:List Value) (lo hi:Option Int):slicePick its.toArray lo hi none=((its.drop (HT.sIx its.length 0 lo)).take (HT.sIx its.length its.length hi - HT.sIx its.length 0 lo)).toArray:=by
 obtain ⟨h1,h2,h3⟩:=slice_bounds lo hi its.toArray.size
 unfold slicePick
 rw [h1,h2,h3]
 simp only [sliceRange_one,pick_run,List.size_toArray]<;>rfl
def rSlL (K:PySem.W.Frag):V→Option Int→Option Int→Hp→VK→Prop:=fun x lo hi H Q=>∃ a xs,x=.ref a∧SqL K H a xs∧∀ p,H p=none→Q (.ref p) (upd H p (.lst (cutV xs lo hi)))
theorem sl_list:SlR X (rSlL X.K):=by
 intro pins s σ H x v vl vu lo hi sl Q I rx hs pl pu h
 obtain ⟨a,xs,rfl,hx,q⟩:=h
 cases rx
 obtain ⟨its,r,ht,hz⟩:=I.list hx
 have hlen:=r.length
 refine ⟨"list",_,slot_list_getitem.lookup,ht.isList.typeIs,?_⟩
 refine wpAny_getItem_list_slice ht.isList hs pl pu .none (by simp) ?_ (by rw [List.size_toArray]<;>omega)
 rw [slicePick_cut,←hlen]
 refine ⟨.ref s.heap.objs.size,_,I.laid (t':=s.toks) (o:=.lst (cutV xs lo hi)) (fun b ob q=>Heap.get?_push_of_some _ q) (Nat.le_refl _) ?_,rfl,q _ (I.hok.fresh (Nat.le_refl _))⟩
 exact ⟨Nat.le_trans (cutV_length xs lo hi) hz,_,0,(r.drop (HT.sIx xs.length 0 lo)).take (HT.sIx xs.length xs.length hi - HT.sIx xs.length 0 lo),Heap.get?_push_size _ rfl⟩

/-! ### in,not in: flat items -/
/-! ### len,list(x),tuple(x) of any list or tuple that is read -/
theorem call_len_seq:CallR X (.builtin "len") (fun xs H Q=>∃ p ys,xs=[.ref p]∧(SqL X.K H p ys∨SqT X.K H p ys)∧Q (.int ys.length) H):=by
 intro pins s σ H xs us Q I r h
 obtain ⟨p,ys,rfl,hq,q⟩:=h
 obtain ⟨u,rfl,rx⟩:=vals1 r
 cases rx
 have hn:=line63
 rcases hq with hq | hq
 ·obtain ⟨its,r',pl,hz⟩:=I.list hq
  have hlen:=r'.length
  exact Calls.call_len_list pl.isList (by simp only [List.size_toArray]<;>omega) ⟨.int ys.length,H,I.tok _,⟨s.toks+1,by rw [List.size_toArray,hlen]⟩,q⟩
 ·obtain ⟨its,r',pl,hz⟩:=I.tuple hq
  have hlen:=r'.length
  exact len_tuple pl (by simp only [List.size_toArray]<;>omega) ⟨.int ys.length,H,I.tok _,⟨s.toks+1,by rw [List.size_toArray,hlen]⟩,q⟩
theorem call_tuple_of:CallR X (.type "tuple") (fun xs H Q=>∃ p ys,xs=[.ref p]∧((SqL X.K H p ys∧∀ l,H l=none→Q (.ref l) (upd H l (.tup ys)))∨(SqT X.K H p ys∧Q (.ref p) H))):=by
 intro pins s σ H xs us Q I r h
 obtain ⟨p,ys,rfl,h⟩:=h
 obtain ⟨u,rfl,rx⟩:=vals1 r
 cases rx
 rcases h with ⟨hq,q⟩ | ⟨hq,q⟩
 ·obtain ⟨its,r',pl,hz⟩:=I.list hq
  have hlen:=r'.length
  refine call_tuple_list pl.isList (fun h' kp=>?_) (by simp only [List.size_toArray]<;>omega)
  have I1:Inv X pins σ H { s with heap:=h' }:=I.kept (t':=s.toks) kp
  have I2:Inv X pins σ (upd H h'.objs.size (.tup ys)) { s with heap:=h'.push { cls:=.type "tuple",data:=.seq its.toArray } } :=
   I1.laid (t':=s.toks) (fun b o e=>Heap.get?_push_of_some _ e) (Nat.le_refl _) (show ObjOk X.prog X.w _ _ _ (.tup ys) from ⟨hz,its,0,r',Heap.get?_push_size _ rfl⟩)
  exact ⟨.ref h'.objs.size,_,I2,rfl,q _ (I1.hok.fresh (Nat.le_refl _))⟩
 ·obtain ⟨its,r',pl,hz⟩:=I.tuple hq
  exact call_tuple_same pl ⟨.ref p,H,I,rfl,q⟩

/-! ### the call of a builtin's method: o.m(..) -/
def tyV (K:PySem.W.Frag) (T:String) (x:V) (H:Hp):Prop:=match x with
 | .str _=>T="str"
 | .int _=>T="int"
 | .ref p=>(T="list"∧∃ xs,SqL K H p xs)∨(T="tuple"∧((∃ o,K.lookup p=some o∧o.cls=.type "tuple"∧o.dict=none)∨∃ xs,H p=some (.tup xs))) ∨
   (T="dict"∧((∃ kvs,H p=some (.dK kvs))∨∃ kvs,H p=some (.dT kvs)))∨(T="set"∧∃ S n,H p=some (.set S n))
 | _=>False
theorem tyV_is {pins:List (Addr × Obj)} {σ:St} {H:Hp} {s:Shared} {T:String} {x:V} {v:Value} (I:Inv X pins σ H s) (r:RelV x v) (ty:tyV X.K T x H) :
  s.TypeIs v T∧∀ a,v=.ref a→∃ ob,s.heap.get? a=some ob∧ob.dict=none:=by
 cases x with
 | str z =>
  obtain ⟨t,rfl⟩:=r
  cases (show T="str" from ty)
  exact ⟨typeIs_str s z t,fun _ e=>nomatch e⟩
 | int i =>
  obtain ⟨t,rfl⟩:=r
  cases (show T="int" from ty)
  exact ⟨typeIs_int s i t,fun _ e=>nomatch e⟩
 | ref p =>
  cases r
  rcases ty with ⟨rfl,xs,hq⟩ | ⟨rfl,⟨o,hk,hc,hd⟩ | ⟨xs,hq⟩⟩ | ⟨rfl,hk⟩ | ⟨rfl,S,n,hk⟩
  ·obtain ⟨its,_,pl,_⟩:=I.list hq
   refine ⟨pl.isList.typeIs,fun a e=>?_⟩
   cases e
   obtain ⟨o,n,e,c,hd,_⟩:=pl
   exact ⟨o,e,hd⟩
  ·refine ⟨⟨o,I.kIn p o hk,hc⟩,fun a e=>?_⟩
   cases e
   exact ⟨o,I.kIn _ o hk,hd⟩
  ·obtain ⟨_,its,n,_,h1⟩:=(show ObjOk X.prog X.w H s.heap p (.tup xs) from I.hok p _ hq)
   refine ⟨⟨_,h1,rfl⟩,fun a e=>?_⟩
   cases e
   exact ⟨_,h1,rfl⟩
  ·have z:∃ o,s.heap.get? p=some o∧o.ExactDict:=by
    rcases hk with ⟨kvs,hk⟩ | ⟨kvs,hk⟩
    ·obtain ⟨_,_,_,_,o,_,_,e,ex,_⟩:=I.hok p _ hk
     exact ⟨o,e,ex⟩
    ·obtain ⟨_,_,_,_,o,_,_,e,ex,_⟩:=I.hok p _ hk
     exact ⟨o,e,ex⟩
   obtain ⟨o,e,ex⟩:=z
   refine ⟨⟨o,e,ex.1⟩,fun a e2=>?_⟩
   cases e2
   exact ⟨o,e,ex.2.1⟩
  ·obtain ⟨o,_,_,_,e,ex,_⟩:=I.hok p _ hk
   refine ⟨⟨o,e,ex.1⟩,fun a e2=>?_⟩
   cases e2
   exact ⟨o,e,ex.2.1⟩
 | _=>exact False.elim ty
def tBM (K:PySem.W.Frag) (T:String) (r:V→List V→Hp→VK→Prop) (to:TE) (t:TA):TE:=fun σ H Q=>to σ H fun x H1=>tyV K T x H1∧t σ H1 fun xs H2=>r x xs H2 Q
variable {o e:Expr} {es:List Expr} {to:TE} {t:TA} {name:Str} {apos cpos:Pos} {T id:String} {r:V→List V→Hp→VK→Prop}
theorem pe_bm (pa:PlainAttrs T) (slot:Slot T name id) (hty:typeOf (.builtin id)=pure (.type "method_descriptor")) (hm:MtR X id r) (ho:PE X o to) (ha:PA X (e::es) t)
  (hbase:attributeBase o name X.env (eval o X.env)=eval o X.env:=by rfl)
  (hfew:((backTo cpos (starEach (e::es) X.env)).all (fun x=>!x.1) && (backToKw cpos (keywordEach [] X.env)).all (fun x=>x.1.isSome)
   && decide ((e::es).length+([]:List Keyword).length+(if ([]:List Keyword).isEmpty then 0 else 1) < 30))=true:=by rfl)
  (hline:(apos.endLine == cpos.line)=true:=by rfl) (hs:starEach (e::es) X.env=(false,eval e X.env)::starEach es X.env:=by rfl) (hplain:(backTo cpos (starEach es X.env)).any (·.1)=false:=by rfl) :
  PE X (.Call (.Attribute o name apos) (e::es) [] cpos) (tBM X.K T r to t):=by
 intro pins s σ H Q I h
 refine wpAny_Call_method_late hbase hfew hline rfl (thn (ho pins s σ H _ I h) fun v s1 ⟨x,H1,I1,r1,ty,q1⟩=>?_)
 obtain ⟨h1,h2⟩:=tyV_is I1 r1 ty
 refine ⟨T,id,pa,slot,hty,h1,h2,?_⟩
 have hA:=ha cpos pins s1 σ H1 _ I1 q1
 rw [hs] at hA ⊢
 refine Calls.callWith_builtin (by show (false || (backTo cpos (starEach es X.env)).any (·.1))=false;rw [hplain]<;>rfl) (Calls.evalArgs_plain ?_)
 exact thn hA fun us s2 ⟨vs,H2,I2,r2,q2⟩=>hm pins s2 σ H2 x vs v us Q I2 r1 r2 q2
end
end L2

namespace L2
open PySem PySem.Spec PyProof.Rows

def MtM (X:Cx) (id:String) (r:V→List V→Hp→VK→Prop):Prop :=
 ∀ (pins:List (Addr × Obj)) (s:Shared) (σ:St) (H:Hp) (x:V) (xs:List V) (v:Value) (us:List Value) (Q:VK),Inv X pins σ H s→RelV x v→Vals xs us→r x xs H Q →
  wpAny (model X.prog X.w) X.A (call (.builtin id) (v::us)) (EP X pins σ Q) X.xe s

/-! ### lists of values -/
theorem Vals.one:∀ {x:V} {us:List Value},Vals [x] us→∃ u,us=[u]∧RelV x u
 | _,_,.cons r .nil=>⟨_,rfl,r⟩
theorem Vals.eraseIdx:∀ {xs:List V} {us:List Value} (i:Nat),Vals xs us→Vals (xs.eraseIdx i) (us.eraseIdx i)
 | _,_,_,.nil=>.nil
 | _,_,0,.cons _ t=>t
 | _,_,i+1,.cons r t=>.cons r (Vals.eraseIdx i t)
theorem Vals.reverse {xs:List V} {us:List Value} (h:Vals xs us):Vals xs.reverse us.reverse:=by
 induction h with
 | nil=>exact .nil
 | cons r t ih=>rw [List.reverse_cons,List.reverse_cons];exact Vals.append ih (.cons r .nil)
theorem Vals.rep {xs:List V} {us:List Value} (h:Vals xs us):∀ k:Nat,Vals (List.replicate k xs).flatten (List.replicate k us).flatten
 | 0=>.nil
 | k+1=>by
  rw [List.replicate_succ,List.replicate_succ,List.flatten_cons,List.flatten_cons]
  exact Vals.append h (Vals.rep h k)
theorem len_erase {α:Type}:∀ (l:List α) (i:Nat),(l.eraseIdx i).length≤l.length
 | [],_=>Nat.le_refl _
 | _::_,0=>Nat.le_succ _
 | _::r,i+1=>Nat.succ_le_succ (len_erase r i)
theorem foldl_rep (its:List Value):∀ (k:Nat) (acc:List Value),
  List.foldl (fun x1 x2=>x1++x2) acc.toArray (List.replicate k its.toArray)=(acc++(List.replicate k its).flatten).toArray
 | 0,acc=>by simp
 | k+1,acc=>by
  have e:acc.toArray++its.toArray=(acc++its).toArray:=by simp
  have e2:(acc++its)++(List.replicate k its).flatten=acc++(List.replicate (k+1) its).flatten:=by
   rw [List.replicate_succ,List.flatten_cons,List.append_assoc]
  rw [←e2,←foldl_rep its k (acc++its),←e,List.replicate_succ,List.foldl_cons]

section
variable {X:Cx} {pins:List (Addr × Obj)} {σ:St} {H:Hp} {s:Shared} {l b:Addr} {xs ys zs:List V}

/-! ### the two steps: a tracked list is rewritten,a new list is laid -/
theorem Inv.lset {its its':List Value} {n:Nat} {f:Array Value→Array Value} {t':Nat} (I:Inv X pins σ H s) (hH:H l=some (.lst xs))
  (e:s.heap.get? l=some { cls:=.type "list",data:=.seq its.toArray n }) (hf:f its.toArray=its'.toArray) (hv:Vals ys its') (hz:ys.length≤sizeLine) :
  Inv X pins σ (upd H l (.lst ys)) { s with heap:=s.heap.update l (Obj.mapSeq f),toks:=t' }:=by
 have q:=PySem.IsL.update e f
 rw [hf] at q
 refine I.write (x:=l) (e:=l) (by rw [hH];exact trivial) (.inl rfl) (fun b' u hb hu=>(Heap.get?_update_other s.heap (Obj.mapSeq f) (Ne.symm hb)).trans hu) ⟨_,q⟩ ?_
 exact ⟨hz,its',_,hv,q⟩
theorem Inv.lnew {its:List Value} {t':Nat} (I:Inv X pins σ H s) (hv:Vals ys its) (hz:ys.length≤sizeLine) :
  Inv X pins σ (upd H s.heap.objs.size (.lst ys)) { s with heap:=s.heap.push { cls:=.type "list",data:=.seq its.toArray },toks:=t' } :=
 I.laid (fun _ _ q=>Heap.get?_push_of_some _ q) (Nat.le_refl _) ⟨hz,its,0,hv,Heap.get?_push_size _ rfl⟩
theorem Inv.fresh (I:Inv X pins σ H s):H s.heap.objs.size=none:=I.hok.fresh (Nat.le_refl _)
theorem Inv.lstM (I:Inv X pins σ H s) (hH:H l=some (.lst xs)):xs.length≤sizeLine∧∃ (its:List Value) (n:Nat),Vals xs its∧xs.length=its.length∧s.heap.get? l=some { cls:=.type "list",data:=.seq its.toArray n }:=by
 obtain ⟨z,its,n,r,e⟩:=I.hok l _ hH
 exact ⟨z,its,n,r,r.length,e⟩

theorem notLongL {n:Nat} (h:n≤sizeLine):Builtin.List.listTooLong n=false:=by
 unfold Builtin.List.listTooLong
 exact decide_eq_false (by omega)
end

section
variable {X:Cx}

/-! ### methods -/
def rAppend:V→List V→Hp→VK→Prop:=fun x vs H Q=>∃ l xs y,x=.ref l∧vs=[y]∧H l=some (.lst xs)∧xs.length < sizeLine∧Q .non (upd H l (.lst (xs++[y])))
theorem mt_append:MtM X "list.append" rAppend:=by
 intro pins s σ H x vs v us Q I rx rv h
 obtain ⟨l,xs,y,rfl,rfl,hH,hz,q⟩:=h
 cases rx
 obtain ⟨u,rfl,ru⟩:=rv.one
 obtain ⟨z,its,n,r,hl,e⟩:=I.lstM hH
 refine call_meets F.slot_list_append ⟨_,e,rfl⟩ F.entry_list_append (F.args_list_append_2 _ _) (PySem.list_append l its.toArray n u (by rw [List.size_toArray];omega)) ⟨e,?_⟩
 refine ⟨.non,_,I.lset (its':=its++[u]) hH e (by simp) (r.append (.cons ru .nil)) ?_,rfl,q⟩
 rw [List.length_append,List.length_singleton]
 omega

def rPopAt:V→List V→Hp→VK→Prop:=fun x vs H Q=>∃ l xs i k y,x=.ref l∧vs=[.int i]∧H l=some (.lst xs)∧-(2 ^ 63)≤i∧i < 2 ^ 63∧seqIndex? i xs.length=some k∧xs[k]?=some y∧Q y (upd H l (.lst (xs.eraseIdx k)))
theorem mt_popAt:MtM X "list.pop" rPopAt:=by
 intro pins s σ H x vs v us Q I rx rv h
 obtain ⟨l,xs,i,k,y,rfl,rfl,hH,h1,h2,hk,hy,q⟩:=h
 cases rx
 obtain ⟨u,rfl,ru⟩:=rv.one
 obtain ⟨t,rfl⟩:=ru
 obtain ⟨z,its,n,r,hl,e⟩:=I.lstM hH
 obtain ⟨w,hw,rw'⟩:=r.get hy
 refine call_meets F.slot_list_pop ⟨_,e,rfl⟩ F.entry_list_pop (F.args_list_pop_2 _ _)
  (MeetsSeq.list_pop_at l its.toArray n i t k w (fitsIndex_both h1 h2) (by rw [List.size_toArray,←hl];exact hk) (by rw [←Array.getElem?_toList];exact hw) (by rw [List.size_toArray];omega)) ⟨e,?_⟩
 refine ⟨y,_,I.lset (its':=its.eraseIdx k) hH e ?_ (r.eraseIdx k) ?_,rw',q⟩
 ·show its.toArray.eraseIdxIfInBounds k=(its.eraseIdx k).toArray
  rw [List.eraseIdxIfInBounds_toArray]
 ·have:=len_erase xs k
  omega

/-! ### list+list,list += list,list*int -/
def rRep:R2:=fun x y H Q=>∃ l k xs,x=.ref l∧y=.int k∧H l=some (.lst xs)∧-(2 ^ 63)≤k∧k < 2 ^ 63∧xs.length*k.toNat≤sizeLine ∧
 ∀ p,H p=none→Q (.ref p) (upd H p (.lst (List.replicate k.toNat xs).flatten))
theorem len_rep {α:Type} (xs:List α) (k:Nat):(List.replicate k xs).flatten.length=k*xs.length:=by
 induction k with
 | zero=>simp
 | succ k ih=>rw [List.replicate_succ,List.flatten_cons,List.length_append,ih,Nat.succ_mul,Nat.add_comm]
theorem op_rep:OpR X (binaryOp .Mult) rRep:=by
 intro pins s σ H x y v u Q I rx ry h
 obtain ⟨l,k,xs,rfl,rfl,hH,h1,h2,hz,q⟩:=h
 cases rx
 obtain ⟨t,rfl⟩:=ry
 obtain ⟨z,its,n,r,hl,e⟩:=I.lstM hH
 have hlen:its.toArray.size*k.toNat≤sizeLine:=by rw [List.size_toArray,←hl];exact hz
 have hcap:¬ its.toArray.size*k.toNat > (2 ^ 63 - 1) / 8:=by
  have:(sizeLine:Nat)≤(2 ^ 63 - 1) / 8:=by decide
  omega
 have hfit:¬ (!Builtin.List.listFitsIndex k)=true:=by
  rw [fitsIndex_both h1 h2]
  exact Bool.false_ne_true
 have hlong:¬ Builtin.List.listTooLong (its.toArray.size*k.toNat)=true:=by
  rw [notLongL hlen]
  exact Bool.false_ne_true
 have hnew:List.foldl (fun x1 x2=>x1++x2) #[] (List.replicate (if its.toArray.isEmpty=true then 0 else k.toNat) its.toArray)=(List.replicate k.toNat its).flatten.toArray:=by
  have f0:∀ m:Nat,List.foldl (fun x1 x2=>x1++x2) #[] (List.replicate m its.toArray)=(List.replicate m its).flatten.toArray:=fun m=>by
   have:=foldl_rep its m []
   rw [List.nil_append] at this
   exact this
  rw [f0]
  cases its with
  | nil=>simp
  | cons a r'=>rw [if_neg (by simp)]
 refine wpAny_binaryOp_repeat_ref (T:="list") (U:="int") (by decide) ⟨_,e,rfl⟩ (fun s'=>typeIs_int s' k t) noFill_list_mul F.fills_int_mul F.slot_int_rmul repeat_list F.slot_int_index.lookup
  (call_meets F.slot_int_rmul (typeIs_int s k t) F.entry_int_rmul (F.args_int_rmul_2 _ _) (int___rmul___int_list k t l its.toArray n)
   ⟨e,rfl,⟨_,e,rfl⟩,call_meets F.slot_list_mul ⟨_,e,rfl⟩ F.entry_list_mul (F.args_list_mul_2 _ _) (AutoListH.list___mul___list_int_3 l its.toArray n k t hfit hcap hlong) ⟨e,?_⟩⟩)
 rw [hnew]
 exact ⟨.ref _,_,I.lnew (t':=s.toks) (r.rep k.toNat) (by rw [len_rep,Nat.mul_comm];exact hz),rfl,q _ I.fresh⟩

/-! ### del xs[i] -/
end

/-! ### xs[a:b]=ys -/
section
variable {prog:Program} {w:World} {A:Around} {E:Value→Shared→Prop} {s:Shared}
end

section
variable {X:Cx}
end
end L2

namespace L2
open PySem PySem.Spec PyProof.Rows

/-! ### lists of pairs as tables -/
section
variable {κ:Type} [DecidableEq κ]
def valV (kvs:List (κ × V)) (k:κ):Option V:=(kvs.find? fun kv=>decide (kv.1=k)).map (·.2)
def putK (kvs:List (κ × V)) (k:κ) (v:V):List (κ × V) :=
 if (kvs.any fun kv=>decide (kv.1=k))=true then kvs.map (fun kv=>if kv.1=k then (kv.1,v) else kv) else kvs++[(k,v)]
theorem valV_pos {p:κ × V} {r:List (κ × V)} {k:κ} (e:p.1=k):valV (p::r) k=some p.2:=by simp [valV,List.find?_cons,e]
theorem valV_neg {p:κ × V} {r:List (κ × V)} {k:κ} (e:¬ p.1=k):valV (p::r) k=valV r k:=by simp [valV,List.find?_cons,e]
theorem valV_any (k:κ):∀ kvs:List (κ × V),(kvs.any fun kv=>decide (kv.1=k))=(valV kvs k).isSome
 | []=>rfl
 | p::r=>by
  rw [List.any_cons]
  by_cases e:p.1=k
  ·simp only [valV_pos e,decide_eq_true e,Bool.true_or,Option.isSome_some]
  ·rw [valV_neg e,decide_eq_false e,Bool.false_or];exact valV_any k r
theorem length_putK (kvs:List (κ × V)) (k:κ) (v:V):(putK kvs k v).length≤kvs.length+1:=by
 unfold putK
 split
 ·rw [List.length_map];omega
 ·rw [List.length_append,List.length_cons,List.length_nil];omega
theorem putK_new {kvs:List (κ × V)} {k:κ} (v:V) (h:valV kvs k=none):putK kvs k v=kvs++[(k,v)]:=by
 unfold putK
 rw [valV_any,h]
 exact if_neg (by decide)

theorem RelO.isSome_eq {o:Option V} {u:Option Value} (r:RelO o u):o.isSome=u.isSome:=by
 cases o with
 | none=>cases u with
  | none=>rfl
  | some _=>exact (show False from r).elim
 | some _=>cases u with
  | none=>exact (show False from r).elim
  | some _=>rfl
theorem RelO.getD {o:Option V} {u:Option Value} {d:V} {d':Value} (r:RelO o u) (rd:RelV d d'):RelV (o.getD d) (u.getD d'):=by
 cases o with
 | none=>cases u with
  | none=>exact rd
  | some _=>exact (show False from r).elim
 | some _=>cases u with
  | none=>exact (show False from r).elim
  | some _=>exact r

theorem KV.val {kvs:List (κ × V)} {vs:List (κ × Value)} (r:KV kvs vs) (k:κ):RelO (valV kvs k) (valueAt vs k):=by
 unfold KV at r
 induction r with
 | nil=>exact True.intro
 | @cons p q ps qs h t ih =>
  obtain ⟨h1,h2⟩:=h
  by_cases e:p.1=k
  ·have e':q.1=k:=h1.symm.trans e
   have b:valueAt (q::qs) k=some q.2:=by simp [valueAt,List.find?_cons,e']
   rw [valV_pos e,b];exact h2
  ·have e':¬ q.1=k:=fun z=>e (h1.trans z)
   have b:valueAt (q::qs) k=valueAt qs k:=by simp [valueAt,List.find?_cons,e']
   rw [valV_neg e,b];exact ih
theorem KV.any {kvs:List (κ × V)} {vs:List (κ × Value)} (r:KV kvs vs) (k:κ):(kvs.any fun kv=>decide (kv.1=k))=vs.any fun kv=>decide (kv.1=k):=by
 unfold KV at r
 induction r with
 | nil=>rfl
 | cons h t ih=>rw [List.any_cons,List.any_cons,ih,h.1]
theorem KV.repl {kvs:List (κ × V)} {vs:List (κ × Value)} (r:KV kvs vs) (k:κ) {y:V} {u:Value} (ry:RelV y u) :
  KV (kvs.map fun kv=>if kv.1=k then (kv.1,y) else kv) (vs.map fun kv=>if kv.1=k then (kv.1,u) else kv):=by
 unfold KV at r ⊢
 induction r with
 | nil=>exact .nil
 | @cons p q ps qs h t ih =>
  rw [List.map_cons,List.map_cons]
  refine .cons ?_ ih
  obtain ⟨h1,h2⟩:=h
  by_cases e:p.1=k
  ·rw [if_pos e,if_pos (h1.symm.trans e)];exact ⟨h1,ry⟩
  ·rw [if_neg e,if_neg (fun z=>e (h1.trans z))];exact ⟨h1,h2⟩
theorem KV.put {kvs:List (κ × V)} {vs:List (κ × Value)} (r:KV kvs vs) (k:κ) {y:V} {u:Value} (ry:RelV y u):KV (putK kvs k y) (stored vs k u):=by
 unfold putK stored
 rw [r.any k]
 by_cases e:(vs.any fun kv=>decide (kv.1=k))=true
 ·rw [if_pos e,if_pos e];exact r.repl k ry
 ·rw [if_neg e,if_neg e];exact Paired.snoc r ⟨rfl,ry⟩
theorem KV.length {kvs:List (κ × V)} {vs:List (κ × Value)} (r:KV kvs vs):kvs.length=vs.length:=Paired.length r
end


/-! ### a tracked dict,its keys ints and texts or tuples of these -/
theorem kV_is {P:Program} {w:World} {k:Key} {u:Value} (r:RelV (kV k) u):(mixKind P w).is k u=true:=by
 cases k with
 | inl i=>obtain ⟨t,e⟩:=(show ∃ t,u=Value.int i t from r);subst e;exact mixKind_int P w i t
 | inr x=>obtain ⟨t,e⟩:=(show ∃ t,u=Value.str x t from r);subst e;exact mixKind_str P w x t
theorem items_are {P:Program} {w:World}:∀ {ks:List Key} {us:List Value},Vals (ks.map kV) us→ItemsAre (mixKind P w) ks us
 | [],_,r=>by rw [List.map_nil] at r;cases r;exact .nil
 | k::ks,_,r=>by
  rw [List.map_cons] at r
  cases r with
  | cons h t=>exact .cons (kV_is h) (items_are t)

abbrev KT (H:Hp):List (List Key × V)→List (List Key × Addr × Value)→Prop:=Paired fun p q=>p.1=q.1∧H q.2.1=some (.tup (p.1.map kV))∧RelV p.2 q.2.2
theorem KT.val {H:Hp} {kvs:List (List Key × V)} {xs:List (List Key × Addr × Value)} (r:KT H kvs xs) (k:List Key):RelO (valV kvs k) ((atKey xs k).map (·.2)):=by
 induction r with
 | nil=>exact True.intro
 | @cons p q ps qs h t ih =>
  obtain ⟨h1,_,h2⟩:=h
  by_cases e:p.1=k
  ·have e':q.1=k:=h1.symm.trans e
   have b:atKey (q::qs) k=some q.2:=by simp [atKey,List.find?_cons,e']
   rw [valV_pos e,b];exact h2
  ·have e':¬ q.1=k:=fun z=>e (h1.trans z)
   have b:atKey (q::qs) k=atKey qs k:=by simp [atKey,List.find?_cons,e']
   rw [valV_neg e,b];exact ih
theorem KT.repl {H:Hp} {kvs:List (List Key × V)} {xs:List (List Key × Addr × Value)} (r:KT H kvs xs) (k:List Key) {y:V} {u:Value} (ry:RelV y u) :
  KT H (kvs.map fun kv=>if kv.1=k then (kv.1,y) else kv) (xs.map (putAt k u)):=by
 induction r with
 | nil=>exact .nil
 | @cons p q ps qs h t ih =>
  rw [List.map_cons,List.map_cons]
  refine .cons ?_ ih
  obtain ⟨h1,h2,h3⟩:=h
  unfold putAt
  by_cases e:p.1=k
  ·rw [if_pos e,if_pos (h1.symm.trans e)];exact ⟨h1,h2,ry⟩
  ·rw [if_neg e,if_neg (fun z=>e (h1.trans z))];exact ⟨h1,h2,h3⟩
theorem KT.put {H:Hp} {kvs:List (List Key × V)} {xs:List (List Key × Addr × Value)} (r:KT H kvs xs) (k:List Key) {b:Addr} {y:V} {u:Value} (hb:H b=some (.tup (k.map kV))) (ry:RelV y u) :
  KT H (putK kvs k y) (storedH xs k b u):=by
 have e:(kvs.any fun kv=>decide (kv.1=k))=(atKey xs k).isSome:=by
  rw [valV_any,(r.val k).isSome_eq,Option.isSome_map]
 unfold putK storedH
 rw [e]
 by_cases q:(atKey xs k).isSome=true
 ·rw [if_pos q,if_pos q];exact r.repl k ry
 ·rw [if_neg q,if_neg q];exact Paired.snoc r ⟨rfl,hb,ry⟩
theorem KT.keeps {H H':Hp} {kvs:List (List Key × V)} {xs:List (List Key × Addr × Value)} (r:KT H kvs xs) (ht:∀ b ys,H b=some (.tup ys)→H' b=some (.tup ys)):KT H' kvs xs :=
 Paired.mapP r fun _ _ z=>⟨z.1,ht _ _ z.2.1,z.2.2⟩

section
variable {P:Program} {w:World} {H:Hp} {h:Heap} {a:Addr}
theorem rd_of {u:HO} (ok:HOk P w H h) (e:Rd H a u):ObjOk P w H h a u:=e.ok ok
theorem dk_rd {kvs:List (Key × V)} (ok:HOk P w H h) (e:Rd H a (.dK kvs)):kvs.length≤sizeLine∧(a == sysModules)=false∧∃ vs,KV kvs vs∧h.DictOf (mixKind P w) a vs :=
 show ObjOk P w H h a (.dK kvs) from rd_of ok e
theorem dk_of {kvs:List (Key × V)} (ok:HOk P w H h) (e:H a=some (.dK kvs)):kvs.length≤sizeLine∧(a == sysModules)=false∧∃ vs,KV kvs vs∧h.DictOf (mixKind P w) a vs:=dk_rd ok (.inl e)
theorem key_of {ks:List Key} (ok:HOk P w H h) (e:H a=some (.tup (ks.map kV))):(tupleKind (mixKind P w)).is h ks a:=by
 obtain ⟨_,its,n,r,h1⟩:=(show ObjOk P w H h a (.tup (ks.map kV)) from ok a _ e)
 exact ⟨_,its.toArray,n,h1,rfl,rfl,by simpa using items_are r⟩
theorem dt_rd {kvs:List (List Key × V)} (ok:HOk P w H h) (e:Rd H a (.dT kvs)):kvs.length≤sizeLine∧(a == sysModules)=false ∧
  ∃ xs,KT H kvs xs∧h.DictOfH (tupleKind (mixKind P w)) a xs:=by
 obtain ⟨z,y,xs,r,o,es,ep,h1,h2,h3,h4,h5⟩:=(show ObjOk P w H h a (.dT kvs) from rd_of ok e)
 refine ⟨z,y,xs,r,o,es,ep,h1,h2,h3,h4,fun x hx=>?_,h5⟩
 have all:∀ {l:List (List Key × V)} {m:List (List Key × Addr × Value)},KT H l m→∀ x∈m,(tupleKind (mixKind P w)).is h x.1 x.2.1:=by
  intro l m q
  induction q with
  | nil=>intro x hx;exact nomatch hx
  | @cons p q ps qs hq t ih =>
   intro x hx
   rcases List.mem_cons.mp hx with e | hx
   ·subst e
    exact key_of ok (by rw [←hq.1];exact hq.2.1)
   ·exact ih x hx
 exact all r x hx
theorem dt_of {kvs:List (List Key × V)} (ok:HOk P w H h) (e:H a=some (.dT kvs)):kvs.length≤sizeLine∧(a == sysModules)=false ∧
  ∃ xs,KT H kvs xs∧h.DictOfH (tupleKind (mixKind P w)) a xs:=dt_rd ok (.inl e)
end

def DGet (H:Hp) (a:Addr) (y:V) (r:Option V):Prop :=
 (∃ kvs k,Rd H a (.dK kvs)∧y=kV k∧r=valV kvs k)∨∃ kvs k b,Rd H a (.dT kvs)∧y=.ref b∧H b=some (.tup (k.map kV))∧r=valV kvs k
def DPut (H:Hp) (a:Addr) (y v:V) (H':Hp):Prop :=
 (∃ kvs k,H a=some (.dK kvs)∧y=kV k∧kvs.length < sizeLine∧H'=upd H a (.dK (putK kvs k v))) ∨
 ∃ kvs k b,H a=some (.dT kvs)∧y=.ref b∧H b=some (.tup (k.map kV))∧kvs.length < sizeLine∧H'=upd H a (.dT (putK kvs k v))
theorem DGet.k {H:Hp} {a:Addr} {kvs:List (Key × V)} {k:Key} (e:H a=some (.dK kvs)):DGet H a (kV k) (valV kvs k):=.inl ⟨kvs,k,.inl e,rfl,rfl⟩
theorem DPut.k {H:Hp} {a:Addr} {kvs:List (Key × V)} {k:Key} {v:V} (e:H a=some (.dK kvs)) (hl:kvs.length < sizeLine):DPut H a (kV k) v (upd H a (.dK (putK kvs k v))):=.inl ⟨kvs,k,e,rfl,hl,rfl⟩
section
variable {X:Cx} {pins:List (Addr × Obj)} {σ:St} {H:Hp} {s:Shared} {a:Addr} {y v:V} {u r:Value} {o:Option V} {A:Around} {E:Value→Shared→Prop}

theorem Inv.big (I:Inv X pins σ H s):sysModules < s.heap.objs.size:=by
 have h:mainGlobals < s.heap.objs.size:=(I.mod.glob.keeps I.bk).lt
 exact Nat.lt_trans (by decide) h

theorem d_getItem {Q:Value→Shared→Prop} (hu:A.units+1 < cLine) (I:Inv X pins σ H s) (g:DGet H a y (some v)) (ry:RelV y u) (h:∀ w' s',Inv X pins σ H s'→RelV v w'→Q w' s') :
  wpAny (model X.prog X.w) A (getItem (.ref a) u) Q E s:=by
 rcases g with ⟨kvs,k,e,ey,l⟩ | ⟨kvs,k,b,e,ey,eb,l⟩
 ·subst ey
  obtain ⟨z,hd,vs,rel,dd⟩:=dk_rd I.hok e
  obtain ⟨w',hw,rw'⟩:=RelO.some_of (v:=v) (o:=valueAt vs k) (by rw [l];exact rel.val k)
  exact wpAny_getItem_of (kV_is ry) dd.mapOf hw (h w' _ (I.tok _) rw')
 ·subst ey
  cases (show u=Value.ref b from ry)
  obtain ⟨z,hd,xs,rel,dd⟩:=dt_rd I.hok e
  obtain ⟨w',hw,rw'⟩:=RelO.some_of (v:=v) (o:=(atKey xs k).map (·.2)) (by rw [l];exact rel.val k)
  obtain ⟨p,hp,hp2⟩:=Option.map_eq_some_iff.mp hw
  refine wpAny_getItem_heap (tupleKind_room_in1 hu) (key_of I.hok eb) dd hp ?_
  rw [hp2]
  exact h w' _ (I.tok _) rw'
theorem d_notIn {Q:Value→Shared→Prop} (hu:A.units+1 < cLine) (I:Inv X pins σ H s) (g:DGet H a y o) (ry:RelV y u) (h:∀ s',Inv X pins σ H s'→Q (.bool (!o.isSome)) s') :
  wpAny (model X.prog X.w) A (compareOp .NotIn u (.ref a)) Q E s:=by
 rcases g with ⟨kvs,k,e,ey,l⟩ | ⟨kvs,k,b,e,ey,eb,l⟩
 ·subst ey
  obtain ⟨z,hd,vs,rel,dd⟩:=dk_rd I.hok e
  refine wpAny_notIn_of (kV_is ry) hd dd.mapOf ?_
  rw [←(rel.val k).isSome_eq,←l]
  exact h _ (I.tok _)
 ·subst ey
  cases (show u=Value.ref b from ry)
  obtain ⟨z,hd,xs,rel,dd⟩:=dt_rd I.hok e
  refine wpAny_notIn_heap (tupleKind_room_in1 hu) (key_of I.hok eb) hd dd ?_
  have q:=(rel.val k).isSome_eq
  rw [Option.isSome_map] at q
  rw [←q,←l]
  exact h _ (I.tok _)
theorem d_write {h':Heap} {t':Nat} {ob:HO} (I:Inv X pins σ H s) (mu:Mut (H a)) (hs:Heap.SameBut a s.heap h') (he:∃ q,h'.get? a=some q) (new:ObjOk X.prog X.w (upd H a ob) h' a ob) :
  Inv X pins σ (upd H a ob) { s with heap:=h',toks:=t' } :=
 I.write (x:=a) (e:=a) mu (.inl rfl) (fun b q hb z=>(hs.2 b hb).trans z) he new
theorem dk_new {P:Program} {w:World} {H':Hp} {h':Heap} {kvs:List (Key × V)} {vs:List (Key × Value)} (z:kvs.length≤sizeLine) (hd:(a == sysModules)=false) (rel:KV kvs vs) (dd:h'.DictOf (mixKind P w) a vs) :
  ObjOk P w H' h' a (.dK kvs):=⟨z,hd,vs,rel,dd⟩
theorem d_setItem {H':Hp} {Q:Unit→Shared→Prop} (hu:A.units+1 < cLine) (I:Inv X pins σ H s) (g:DPut H a y v H') (ry:RelV y u) (rv:RelV v r) (h:∀ s',Inv X pins σ H' s'→Q () s') :
  wpAny (model X.prog X.w) A (setItem (.ref a) u r) Q E s:=by
 rcases g with ⟨kvs,k,e,ey,l,eH⟩ | ⟨kvs,k,b,e,ey,eb,l,eH⟩
 ·subst ey eH
  obtain ⟨z,hd,vs,rel,dd⟩:=dk_of I.hok e
  have hz:vs.length≤sizeLine:=by rw [←rel.length];exact z
  have hl:(putK kvs k v).length≤sizeLine:=by have:=length_putK kvs k v;omega
  refine wpAny_setItem_pairs (hsz:=hz) (kV_is ry) dd fun h' dd' hs=>h _ ?_
  have he:∃ q,h'.get? a=some q:=let ⟨q,_,_,hq,_⟩:=dd';⟨q,hq⟩
  exact d_write I (by rw [e];exact True.intro) hs he (dk_new hl hd (rel.put k rv) dd')
 ·subst ey eH
  cases (show u=Value.ref b from ry)
  obtain ⟨z,hd,xs,rel,dd⟩:=dt_of I.hok e
  have hz:xs.length≤sizeLine:=by rw [←Paired.length rel];exact z
  have hl:(putK kvs k v).length≤sizeLine:=by have:=length_putK kvs k v;omega
  refine wpAny_setItem_heap (hsz:=hz) (tupleKind_room_in1 hu) (key_of I.hok eb) dd fun h' dd' hs=>h _ ?_
  obtain ⟨q,es,ep,hq,h2,h3,h4,_,h5⟩:=dd'
  refine d_write I (by rw [e];exact True.intro) hs ⟨q,hq⟩ ⟨hl,hd,_,(rel.put k eb rv).keeps fun c ys ec=>?_,q,es,ep,hq,h2,h3,h4,h5⟩
  rw [upd_ne (ne_of ec e (fun z=>nomatch z))]
  exact ec
end

section
variable {X:Cx} {pins:List (Addr × Obj)} {σ:St} {H:Hp} {s:Shared} {a:Addr} {kvs:List (Key × V)} {k:Key} {u:Value} {A:Around} {E:Value→Shared→Prop}
end


/-! ### readings and rules -/
def NoSl (i:Expr):Prop:=∀ ov iv,subscripted i false ov iv=operate [ov,iv] (getItem ov iv)
theorem subD_of {prog:Program} {w:World} {A:Around} {E:Value→Shared→Prop} {s:Shared} {env:Env} {value slice:Expr} {pos:Pos} {T id:String} {Q:Value→Shared→Prop}
  (hl:typeLookup (.type T) "__getitem__"=pure (some (.builtin id))) (hs:NoSl slice)
  (h:wpAny (model prog w) A (eval value env) (fun o s₁=>wpAny (model prog w) A (eval slice env) (fun i s₂=>s₂.TypeIs o T∧wpAny (model prog w) A (getItem o i) Q E s₂) E s₁) E s) :
  wpAny (model prog w) A (eval (.Subscript value slice pos) env) Q E s:=by
 refine Subscript_ (wpAny_mono h (fun o s₁ h₁=>wpAny_mono h₁ (fun i s₂ h₂=>?_) fun _ _ x=>x) fun _ _ x=>x)
 obtain ⟨hT,h₂⟩:=h₂
 unfold subscriptTail
 refine wpAny_bind ?_
 rw [getitemInPython_of_ne hT.not_modules]
 refine wpAny_bind (wpAny_specialOf hT hl ?_)
 have fin:wpAny (model prog w) A (subscripted slice false o i) (fun r s₃=>wpAny (model prog w) A (letTemporaryGo value o r >>= fun _=>pure r) Q E s₃) E s₂:=by
  rw [hs o i]
  exact wpAny_operating (wpAny_mono h₂ (fun r s₃ h₃=>wpAny_bind (wpAny_letTemporaryGo (wpAny_pure h₃))) fun _ _ x=>x)
 first
  | exact wpAny_pure (wpAny_bind fin)
  | exact wpAny_bind (wpAny_pure (wpAny_bind fin))
  | exact wpAny_bind fin

theorem dict_typeIs {X:Cx} {pins:List (Addr × Obj)} {σ:St} {H:Hp} {s:Shared} {a:Addr} {y:V} {o:Option V} (I:Inv X pins σ H s) (g:DGet H a y o):s.TypeIs (.ref a) "dict":=by
 rcases g with ⟨kvs,k,e,_,_⟩ | ⟨kvs,k,b,e,_,_,_⟩
 ·obtain ⟨_,_,vs,_,dd⟩:=dk_rd I.hok e
  exact dd.typeIs
 ·obtain ⟨_,_,xs,_,dd⟩:=dt_rd I.hok e
  exact dd.typeIs
def tDGet (td ty:TE):TE:=fun σ H Q=>td σ H fun x H1=>ty σ H1 fun y H2=>∃ a v,x=.ref a∧DGet H2 a y (some v)∧Q v H2
def tDNotIn (ty td:TE):TE:=fun σ H Q=>ty σ H fun y H1=>td σ H1 fun x H2=>∃ a o,x=.ref a∧DGet H2 a y o∧Q (.bl (!o.isSome)) H2
def sDPut (td ty tv:TE):TS:=fun D σ H=>tv σ H fun v H1=>td σ H1 fun x H2=>ty σ H2 fun y H3=>∃ a H4,x=.ref a∧DPut H3 a y v H4∧D.nx σ H4
section
variable {X:Cx} {o i e value:Expr} {pos pos' tpos:Pos} {td ty tv:TE}
theorem pe_dget (hu:X.A.units+1 < cLine) (ho:PE X o td) (hi:PE X i ty) (hs:NoSl i):PE X (.Subscript o i pos) (tDGet td ty):=by
 intro pins s σ H Q I h
 refine subD_of PySem.F.slot_dict_getitem.lookup hs (thn (ho pins s σ H _ I h) fun u s1 ⟨x,H1,I1,rx,q1⟩=>thn (hi pins s1 σ H1 _ I1 q1) fun iv s2 ⟨y,H2,I2,ry,a,v,ex,g,q2⟩=>?_)
 subst ex
 obtain rfl:u=Value.ref a:=rx
 exact ⟨dict_typeIs I2 g,d_getItem hu I2 g ry fun w' s3 I3 rw'=>⟨v,H2,I3,rw',q2⟩⟩
theorem pc_dnotin (hu:X.A.units+1 < cLine) (hi:PE X i ty) (ho:PE X o td):PC X .NotIn i o (tDNotIn ty td):=by
 intro pins s σ H Q I h
 refine thn (hi pins s σ H _ I h) fun iv s1 ⟨y,H1,I1,ry,q1⟩=>thn (ho pins s1 σ H1 _ I1 q1) fun u s2 ⟨x,H2,I2,rx,a,ov,ex,g,q2⟩=>?_
 subst ex
 obtain rfl:u=Value.ref a:=rx
 exact d_notIn hu I2 g ry fun s3 I3=>⟨.bl (!ov.isSome),H2,I3,rfl,q2⟩
theorem ps_dput (hu:X.A.units+1 < cLine) (ho:PE X o td) (hi:PE X i ty) (hv:PE X value tv) (hs:swapsWith value (some (.Subscript o i pos')) pos.line X.env=pure false) :
  PS X (.Assign [.Subscript o i pos'] value pos) (sDPut td ty tv):=by
 intro pins s σ H D I h
 refine wpAny_Assign_Subscript (thn (hv pins s σ H _ I h) fun r s1 ⟨v,H1,I1,rv,q1⟩=>thn (ho pins s1 σ H1 _ I1 q1) fun u s2 ⟨x,H2,I2,rx,q2⟩=>thn (hi pins s2 σ H2 _ I2 q2) fun iv s3 ⟨y,H3,I3,ry,a,H4,ex,g,q3⟩=>?_) hs
 subst ex
 obtain rfl:u=Value.ref a:=rx
 exact d_setItem hu I3 g ry rv fun s4 I4=>⟨σ,H4,I4,q3⟩
end


/-! ### displays -/
theorem dk_empty {P:Program} {w:World} {H:Hp} (h:Heap) (hb:sysModules < h.objs.size):ObjOk P w H (h.push { cls:=.type "dict",data:=.dict #[] }) h.objs.size (.dK []) :=
 ⟨Nat.zero_le _,beq_eq_false_iff_ne.mpr (Ne.symm (Nat.ne_of_lt hb)),[],.nil,Heap.DictOf.new h⟩
def tDNewK:TE:=fun _ H Q=>∀ p,H p=none→Q (.ref p) (upd H p (.dK []))
section
variable {X:Cx} {pos:Pos}
theorem pe_dnewK:PE X (.Dict [] [] pos) tDNewK:=fun pins s σ H Q I h =>
 wpAny_Dict_empty ⟨.ref s.heap.objs.size,_,I.laid (a:=s.heap.objs.size) (o:=.dK []) (t':=s.toks) (fun _ _ q=>Heap.get?_push_of_some _ q) (Nat.le_refl _) (dk_empty s.heap I.big),rfl,h _ (I.hok.fresh (Nat.le_refl _))⟩
end

def tPairs:List (TE × TE)→St→Hp→(List (V × V)→Hp→Prop)→Prop
 | [],_,H,Q=>Q [] H
 | (tk,tv)::r,σ,H,Q=>tk σ H fun x H1=>tv σ H1 fun y H2=>tPairs r σ H2 fun ps H3=>Q ((x,y)::ps) H3
abbrev VV:List (V × V)→List (Value × Value)→Prop:=Paired fun p q=>RelV p.1 q.1∧RelV p.2 q.2
def PPs (X:Cx) (pos:Pos) (keys:List (Option Expr)) (values:List Expr) (trs:List (TE × TE)):Prop :=
 ∀ (pins:List (Addr × Obj)) (s:Shared) (σ:St) (H:Hp) (Q:List (V × V)→Hp→Prop),Inv X pins σ H s→tPairs trs σ H Q →
  wpAny (model X.prog X.w) X.A (evalPairs (pairTrees keys values X.env pos)) (fun vs s'=>∃ ps H',Inv X pins σ H' s'∧VV ps vs∧Q ps H') X.xe s
theorem pps_nil {X:Cx} {pos:Pos}:PPs X pos [] [] []:=fun pins s σ H Q I h=>pairTrees_nil_walk ⟨[],H,I,.nil,h⟩
theorem pps_cons {X:Cx} {pos:Pos} {k v:Expr} {ks:List (Option Expr)} {vs:List Expr} {tk tv:TE} {trs:List (TE × TE)} (hk:PE X k tk) (hv:PE X v tv) (hr:PPs X pos ks vs trs) :
  PPs X pos (some k::ks) (v::vs) ((tk,tv)::trs):=fun pins s σ H Q I h =>
 pairTrees_cons_walk (thn (hk pins s σ H _ I h) fun u s1 ⟨x,H1,I1,rx,q1⟩=>thn (hv pins s1 σ H1 _ I1 q1) fun w2 s2 ⟨y,H2,I2,ry,q2⟩ =>
  thn (hr pins s2 σ H2 _ I2 q2) fun ws s3 ⟨ps,H3,I3,rel,q3⟩=>⟨(x,y)::ps,H3,I3,.cons ⟨rx,ry⟩ rel,q3⟩)

def mergeK (kvs more:List (Key × V)):List (Key × V):=more.foldl (fun acc kv=>putK acc kv.1 kv.2) kvs
theorem KV.merge:∀ {more:List (Key × V)} {rs:List (Key × Value)} {kvs:List (Key × V)} {vs:List (Key × Value)},KV more rs→KV kvs vs→KV (mergeK kvs more) (merged vs rs):=by
 intro more rs kvs vs r
 unfold KV at r
 induction r generalizing kvs vs with
 | nil=>intro q;exact q
 | @cons p q ps qs h t ih =>
  intro r0
  have e:KV (putK kvs p.1 p.2) (stored vs q.1 q.2):=by
   have:=r0.put p.1 h.2
   rw [←h.1];exact this
  exact ih e
theorem length_mergeK:∀ (more kvs:List (Key × V)),(mergeK kvs more).length≤kvs.length+more.length
 | [],kvs=>by show kvs.length≤kvs.length+0;omega
 | p::r,kvs=>by
  have h1:=length_mergeK r (putK kvs p.1 p.2)
  have h2:=length_putK kvs p.1 p.2
  show (mergeK (putK kvs p.1 p.2) r).length≤_
  rw [List.length_cons];omega
theorem carries_of {P:Program} {w:World}:∀ {kvs:List (Key × V)} {ws:List (Value × Value)},VV (kvs.map fun kv=>(kV kv.1,kv.2)) ws→∃ rs,Carries (mixKind P w) ws rs∧KV kvs rs
 | [],_,r=>by rw [List.map_nil] at r;cases r;exact ⟨[],True.intro,.nil⟩
 | p::kvs,_,r=>by
  rw [List.map_cons] at r
  cases r with
  | @cons a b as bs h t =>
   obtain ⟨rs,c,q⟩:=carries_of (P:=P) (w:=w) t
   obtain ⟨b1,b2⟩:=b
   exact ⟨(p.1,b2)::rs,⟨kV_is h.1,rfl,c⟩,.cons ⟨rfl,h.2⟩ q⟩
def tDisp (trs:List (TE × TE)):TE:=fun σ H Q=>∀ p,H p=none→tPairs trs σ (upd H p (.dK [])) fun ps H2=>H2 p=some (.dK [])∧∃ kvs:List (Key × V),ps=kvs.map (fun kv=>(kV kv.1,kv.2))∧kvs.length≤15∧Q (.ref p) (upd H2 p (.dK (mergeK [] kvs)))
theorem pe_disp {X:Cx} {pos:Pos} {keys:List (Option Expr)} {values:List Expr} {trs:List (TE × TE)} (h:PPs X pos keys values trs) (hall:keys.all (·.isSome)=true) (hl:keys.length=values.length) (h0:keys≠[])
  (h15:keys.length≤15):PE X (.Dict keys values pos) (tDisp trs):=by
 intro pins s σ H Q I q
 have hn:=I.hok.fresh (Nat.le_refl s.heap.objs.size)
 have I1:=I.laid (a:=s.heap.objs.size) (o:=.dK []) (h':=s.heap.push { cls:=.type "dict",data:=.dict #[] }) (t':=s.toks) (fun _ _ q=>Heap.get?_push_of_some _ q) (Nat.le_refl _) (dk_empty s.heap I.big)
 refine wpAny_Dict_walk (knd:=mixKind X.prog X.w) hall hl h0 h15 (thn (h pins _ σ _ _ I1 (q _ hn)) fun ws s2 ⟨ps,H2,I2,rel,e,kvs,ep,lk,q2⟩=>?_)
 subst ep
 obtain ⟨rs,c,rk⟩:=carries_of (P:=X.prog) (w:=X.w) rel
 obtain ⟨z,hd,vs0,r0,dd⟩:=dk_of I2.hok e
 cases r0
 refine ⟨rs,c,dd,fun h' dd' hs=>⟨.ref s.heap.objs.size,_,?_,rfl,q2⟩⟩
 have hz:(mergeK [] kvs).length≤sizeLine:=by
  have h1:=length_mergeK kvs []
  rw [List.length_nil] at h1
  rw [sizeLine_eq];omega
 have he:∃ q,h'.get? s.heap.objs.size=some q:=let ⟨q,_,_,hq,_⟩:=dd';⟨q,hq⟩
 exact d_write I2 (by rw [e];exact True.intro) hs he (dk_new hz hd (rk.merge .nil) dd')


/-! ### methods -/
structure M2 (X:Cx) (o:Expr) (m:Str) (apos:Pos) (e f:Expr) (cpos:Pos):Prop where
 base:attributeBase o m X.env (eval o X.env)=eval o X.env
 few:((backTo cpos (starEach [e,f] X.env)).all (fun x=>!x.1) && (backToKw cpos (keywordEach [] X.env)).all (fun x=>x.1.isSome)
  && decide (([e,f]:List Expr).length+([]:List Keyword).length+(if ([]:List Keyword).isEmpty then 0 else 1) < 30))=true
 line:(apos.endLine == cpos.line)=true
 trees:backTo cpos (starEach [e,f] X.env)=[(false,eval e X.env),(false,eval f X.env)]

section
variable {X:Cx} {pins:List (Addr × Obj)} {σ:St} {H:Hp} {s:Shared} {a:Addr} {y d:V} {u r:Value} {o:Option V} {A:Around} {E:Value→Shared→Prop}
end

section
variable {X:Cx} {o e f:Expr} {apos cpos:Pos} {td ty tx:TE}
end

/-! ### dict(d): a copy -/
section
variable {X:Cx} {pins:List (Addr × Obj)} {σ:St} {H:Hp} {s:Shared} {a:Addr} {kvs:List (Key × V)} {A:Around} {E:Value→Shared→Prop}
end


section
variable {X:Cx} {pins:List (Addr × Obj)} {σ:St} {H:Hp} {s:Shared} {a:Addr} {y:V} {u:Value} {A:Around} {E:Value→Shared→Prop}
end
end L2

namespace Att
open PySem PySem.W PySem.Calls PyProof.Rows

/-! ### the script -/
theorem ints_of_wellAll {P:Params} {h:Heap}:∀ (ns:List Int) (vs:List Value),WellAll P h vs (ns.map WData.int)→IntsAre vs ns:=by
 intro ns
 induction ns with
 | nil =>
  intro vs w
  rw [List.map_nil] at w
  cases w
  exact .nil
 | cons n ns ih =>
  intro vs w
  rw [List.map_cons] at w
  cases w with
  | cons a b =>
   cases a
   exact .cons _ _ (ih _ b)

theorem script_of {l:OpenLaw} {n:Nat} (hn:l.most=some n) {P:Params} {h:Heap} {args:List WData} {vals:List Value}
  (hpre:l.row.toRowW.claim.pre args=true) (hwl:WellAll P h vals args) :
  ∃ a vs ns,vals=[Value.ref a]∧args=[WData.list (ns.map WData.int)]∧h.get? a=some { cls:=.type "list",data:=.seq vs.toArray }∧IntsAre vs ns∧ns.length≤n:=by
 have hsh:WShape.hasAll [] args [.list .int]=true:=(pre_splitW hpre).1
 have hc:l.pre.holds [] { args:=args }=true:=(pre_splitW hpre).2
 obtain ⟨d,r,rfl,h1,h2⟩:=hasAllW_cons hsh
 obtain rfl:=hasAllW_nil h2
 obtain ⟨xs,rfl,h3⟩:=hasW_list h1
 obtain ⟨ns,rfl⟩:=items_int h3
 have hlen:ns.length≤n:=by
  unfold OpenLaw.pre at hc
  have h4:(WTm.not (.lt (.lit (.int (n:Int))) (.len (.arg 0)))).holds [] { args:=[.list (ns.map .int)] }=true:=by
   have h4:=(holds_andW hc).1
   rw [hn] at h4
   exact h4
  have h5:=condW_of h4 (w_not (w_lt w_lit (w_len_list (w_arg rfl))))
  rw [List.length_map] at h5
  refine Nat.le_of_not_lt fun q=>?_
  have q':(n:Int) < ((ns.length:Nat):Int):=by omega
  first
   | (rw [decide_eq_true q'] at h5;exact absurd h5 (by decide))
   | (simp at h5;omega)
 cases hwl with
 | cons w1 w2 =>
  cases w2
  cases w1 with
  | list ho hall=>exact ⟨_,_,ns,rfl,rfl,ho,ints_of_wellAll ns _ hall,hlen⟩

theorem post_true (l:OpenLaw) (args:List WData):l.row.toRowW.claim.post args (.bool true) args=true :=
 postW_of (r:=l.row.toRowW) (X:=(true == true))
  (show WShape.has [] (.bool true) .bool=true by first | rfl | decide | simp [WShape.has,WShape.arms,WShape.armsAll])
  (show (WTm.eq .res (.lit (.bool true))).value [] { args:=args,res:=some (.bool true),after:=args }=some (.bool (true == true)) from w_eq_bool (w_res rfl) w_lit) rfl

/-! ### the attachment: holds_open's last premise (the goal 'hc' behind k_head) from a wpAny of the law's body -/
theorem attach_call {l:OpenLaw} {n:Nat} {q:Program} {loose:List Str} {XP:(Str→Option Value)→Heap→Prop} {YP:World→Heap→Prop} {d:DefRec}
  (hn:l.most=some n) (hdf:d.params.defaults=[])
  (call:∀ (w:World) (s₀ s₁:Shared) (mg mb:Str→Option Value) (fa:Addr) (o:Obj) (pm cd doc:Value) (a:Addr) (vs:List Value) (ns:List Int),
   Ground q loose [] XP w s₀ mg mb s₁.heap→YP w s₁.heap →
   s₁.heap.get? fa=some o→o.data=.func (docDef d.name d.params d.body d.scope pm cd doc)→s₁.heap.CodeRec cd d.name→mg d.name=some (.ref fa) →
   s₁.heap.get? a=some { cls:=.type "list",data:=.seq vs.toArray }→IntsAre vs ns→ns.length≤n→s₁.gens=#[] →
   codeAny (model l.prog w) callerA (.call (.ref fa) ⟨[.ref a],[]⟩) (fun r s'=>r=.ok (.ret (.bool true))∧OldK s₁.heap s'.heap∧s'.os=s₁.os∧AllBare s'.gens) s₁) :
  WalkO q loose XP YP l.row.toRowW d [] (fun f vs=>PySem.call f vs):=by
 intro w s₀ s₁ mg mb G Y fa o pm cd doc dV kV ho hd hcd hD hmg hg args vals as hpre hlay hrd hwl hlo
 obtain rfl:dV=.none:=Dflts.none hD hdf
 obtain rfl:kV=.none:=Dflts.noKw hD
 obtain ⟨a,vs,ns,rfl,rfl,hobj,hints,hlen⟩:=script_of hn hpre hwl
 refine enter_call (codeAny_mono (call w s₀ s₁ mg mb fa o pm cd doc a vs ns G Y ho (fd_plain hd) hcd hmg hobj hints hlen hg) fun r s' hq=>?_)
 obtain ⟨rfl,h2,h3,h4⟩:=hq
 exact ⟨.inl ⟨.bool true,.bool true,[],rfl,fun _=>rfl,.bool true,post_true l _,fun _=>⟨List.Pairwise.nil,fun _ hm=>(nomatch hm)⟩⟩,h2,h3,h4⟩

/-! ### rules over ANY heap (no ledger) from facts about the written part K: the library's own take a ledger (News) for what they write -/
section
variable {prog:Program} {w:World} {A:Around} {E:Value→Shared→Prop} {s:Shared} {K:Frag}

/-! the whole heap as the ledger: makes every rule that writes through a ledger a rule over any heap -/
def ledger (h:Heap) (L d:Addr):List (Addr × Obj):=(List.range h.objs.size).filterMap fun a=>if a=L∨a=d then none else (h.get? a).map fun o=>(a,o)
end
end Att

namespace L2
open PySem PySem.Spec PyProof.Rows

theorem vals_ints:∀ {vs:List Value} {ns:List Int},IntsAre vs ns→Vals (ns.map V.int) vs
 | _,_,.nil=>.nil
 | _,_,.cons n t h=>.cons ⟨t,rfl⟩ (vals_ints h)

def Only (H:Hp):Prop:=∀ b,H b=none∨∃ o xs,H b=some (.frz o (.lst xs))

theorem law_call {P:Program} {w:World} {K:PySem.W.Frag} {mg mb:Str→Option Value} {CX:CXT} {k:Nat} {fa a:Addr} {fd:FuncData} {x:Str} {sp:Sp} {s₁:Shared} {vs:List Value} {ns:List Int}
  (KX:K.In s₁.heap) (hns:s₁.heap.Ns mainGlobals mg) (hb:s₁.heap.Ns builtinsNs mb) (hbb:∀ x:Str,x≠"__name__"→mb x=bootBuiltins x) (hlim:s₁.heap.NoLimit) (hg:s₁.gens=#[])
  (ha:s₁.heap.get? a=some { cls:=.type "list",data:=.seq vs.toArray }) (hi:IntsAre vs ns) (hl:ns.length≤sizeLine) (hr:Room k callerA)
  (F:∀ base:Heap,K.In base→base.Ns mainGlobals mg→FnOk P w K mg base CX k fa fd [x] sp) (hbind:∀ (s:Shared) (u:Value),BindsTo s fd ⟨[u],[]⟩ [(x,u)])
  (hsp:∀ H:Hp,Only H→SqL K H a (ns.map V.int)→sp [.ref a] H (fun v _=>v=.bl true) fun _ _ _=>False)
  (hCX:∀ H e s',CX [] H s₁ (fun _ _ _=>False) e s'→False) :
  codeAny (model P w) callerA (.call (.ref fa) ⟨[.ref a],[]⟩) (fun r s'=>r=.ok (.ret (.bool true))∧OldK s₁.heap s'.heap∧s'.os=s₁.os∧AllBare s'.gens) s₁:=by
 have rv:=vals_ints hi
 have lenV:=hi.length
 -- from an abstract heap in which nothing but the script may be tracked
 have core:∀ H:Hp,Only H→SqL K H a (ns.map V.int)→HOk P w H s₁.heap→(∀ b,H b≠none→b=a)→(H a≠none→K.lookup a=none) →
   codeAny (model P w) callerA (.call (.ref fa) ⟨[.ref a],[]⟩) (fun r s'=>r=.ok (.ret (.bool true))∧OldK s₁.heap s'.heap∧s'.os=s₁.os∧AllBare s'.gens) s₁:=by
  intro H hO hS hok hA hK
  have base_of:∀ {b:Addr} {o:Obj},s₁.heap.get? b=some o→H b=none→(hidT s₁.heap H).get? b=some o:=fun e n=>hidT_get e n
  have noA:∀ {b:Addr} {o:Obj} {es:Array DictEntry} {ep:Nat},s₁.heap.get? b=some o→o.data=.dict es ep→H b=none:=fun {b o es ep} e d=>by
   cases q:H b with
   | none=>rfl
   | some u =>
    have e':b=a:=hA b (by rw [q];simp)
    subst e'
    rw [ha] at e;cases e
    have d':Data.seq vs.toArray _=Data.dict es ep:=d
    cases d'
  have nsK:∀ {b:Addr} {m:Str→Option Value},s₁.heap.Ns b m→(hidT s₁.heap H).Ns b m:=fun {b m} ⟨o,es,ep,e,d,r⟩=>⟨o,es,ep,base_of e (noA e d),d,r⟩
  have hKb:K.In (hidT s₁.heap H):=fun b o e=>base_of (KX b o e) (by
   cases q:H b with
   | none=>rfl
   | some u =>
    have e':b=a:=hA b (by rw [q];simp)
    subst e'
    rw [hK (by rw [q];simp)] at e;cases e)
  have hM:Mod K mg (hidT s₁.heap H):=⟨hKb,nsK hns,⟨mb,nsK hb,hbb⟩,let ⟨mc,h1,h2⟩:=hlim;⟨mc,nsK h1,h2⟩⟩
  have e0:Env0 P w K mg (hidT s₁.heap H) callerA [] s₁ H:=⟨rfl,hM,fun b o e=>of_hidT e,Nat.le_of_eq (hidT_size _ _),trivial,fun b hb=>absurd (show b∈([]:List Addr) from hb) (by simp),hok,.of_eq hg⟩
  refine codeAny_mono ((F _ hKb (nsK hns)).run callerA [] s₁ H ⟨[.ref a],[]⟩ [.ref a] [.ref a] _ _ hr e0 (hbind s₁ (.ref a)) (.cons rfl .nil) (hsp H hO hS)) fun r s' h=>?_
  cases r with
  | error e=>exact (hCX H e s' h).elim
  | ok fl =>
   cases fl with
   | next=>exact False.elim h
   | brk=>exact False.elim h
   | cont=>exact False.elim h
   | ret u =>
    obtain ⟨v,H',os,bare,un,hok',r',q⟩:=h
    have q':v=.bl true:=q
    subst q'
    obtain rfl:u=Value.bool true:=r'
    refine ⟨rfl,OldK.of_keep fun b o e=>?_,os,bare⟩
    cases q:H b with
    | none=>exact un.keep b o e q (by intro z;exact absurd (show b∈([]:List Addr) from z) (by simp)) (by simp)
    | some u =>
     rcases hO b with z | ⟨ob,xs,z⟩
     ·rw [q] at z;cases z
     ·have z2:=un.frzs b ob _ z
      obtain ⟨e1,_⟩:=hok b _ z
      obtain ⟨e2,_⟩:=hok' b _ z2
      rw [e] at e1;cases e1
      exact e2
 cases hk:K.lookup a with
 | some o =>
  -- the script is one of the module's own objects
  have e:=KX a o hk
  rw [ha] at e
  cases e
  refine core (fun _=>none) (fun _=>.inl rfl) (.inr ⟨_,vs.toArray,_,hk,rfl,rfl,rfl,by rw [List.size_toArray,lenV];exact hl,by simpa using rv⟩) (fun b u z=>by have z':(none:Option HO)=some u:=z;cases z') (fun b z=>absurd rfl z) fun z=>absurd rfl z
 | none =>
  refine core (fun b=>if b=a then some (.frz { cls:=.type "list",data:=.seq vs.toArray } (.lst (ns.map V.int))) else none) (fun b=>?_) (.inl (.inr ⟨{ cls:=.type "list",data:=.seq vs.toArray },if_pos rfl⟩)) (fun b u z=>?_) (fun b z=>?_) fun _=>hk
  ·by_cases hb:b=a
   ·exact .inr ⟨_,_,if_pos hb⟩
   ·exact .inl (if_neg hb)
  ·by_cases hb:b=a
   ·have z':=(if_pos hb).symm.trans z
    cases z'
    subst hb
    exact ⟨ha,by rw [List.length_map];exact hl,vs,_,rv,ha⟩
   ·have z':=(if_neg hb).symm.trans z
    cases z'
  ·by_cases hb:b=a
   ·exact hb
   ·exact absurd (if_neg hb) z
end L2

namespace L2
open PySem PySem.Spec PyProof.Rows

theorem walk_of {l:PySem.W.OpenLaw} {n k:Nat} {q:Program} {loose:List Str} {XP:(Str→Option Value)→Heap→Prop} {YP:World→Heap→Prop} {d:DefRec} {K:Params→PySem.W.Frag} {CX:World→CXT} {sp:World→Sp} {x:Str}
  (hn:l.most=some n) (hn2:n≤sizeLine) (hdf:d.params.defaults=[]) (hr:Room k callerA)
  (hY:∀ (w:World) (h:Heap),YP w h→(K w.params).In h)
  (F:∀ (w:World) (mg:Str→Option Value) (fa:Addr) (h:Heap),(K w.params).In h→h.Ns mainGlobals mg→mg d.name=some (.ref fa) →
   ∃ fd:FuncData,(∀ (s:Shared) (u:Value),BindsTo s fd ⟨[u],[]⟩ [(x,u)]) ∧
    ∀ base:Heap,(K w.params).In base→base.Ns mainGlobals mg→FnOk l.prog w (K w.params) mg base (CX w) k fa fd [x] (sp w))
  (hsp:∀ (w:World) (H:Hp) (a:Addr) (ns:List Int),ns.length≤n→Only H→SqL (K w.params) H a (ns.map V.int)→sp w [.ref a] H (fun v _=>v=.bl true) fun _ _ _=>False)
  (hCX:∀ (w:World) (H:Hp) (s:Shared) (e:Value) (s':Shared),CX w [] H s (fun _ _ _=>False) e s'→False) :
  PySem.W.WalkO q loose XP YP l.row.toRowW d [] (fun f vs=>PySem.call f vs):=by
 refine Att.attach_call hn hdf fun w s₀ s₁ mg mb fa o pm cd doc a vs ns G Y ho hd hcd hmg hobj hints hlen hg=>?_
 have KX:=hY w _ Y
 obtain ⟨fd,hb,hF⟩:=F w mg fa _ KX G.T.g hmg
 exact law_call KX G.T.g G.T.b G.T.builtins G.T.nolimit hg hobj hints (Nat.le_trans hlen hn2) hr hF hb (fun H hO hS=>hsp w H a ns hlen hO hS) fun H e s'=>hCX w H s₁ e s'
end L2


/-! SHORT WORDS over the layer: a def of the text,its body,what a loop and a test want. -/
namespace L2
open PySem PySem.Spec PyProof.Rows

/-! ### the text by places -/
def defArgs (s:Stmt):Arguments:=match s with
 | .FunctionDef _ a _ _ _ _ _ _ _ _=>a
 | _=>{ posonlyargs:=[],args:=[],vararg:=none,kwonlyargs:=[],kw_defaults:=[],kwarg:=none,defaults:=[] }
def defBody (s:Stmt):List Stmt:=match s with
 | .FunctionDef _ _ b _ _ _ _ _ _ _=>b
 | _=>[]
def defScope (s:Stmt):Scope:=match s with
 | .FunctionDef _ _ _ _ _ _ sc _ _ _=>sc
 | _=>{ kind:=.function,names:=[],isGenerator:=false,isCoroutine:=false }

/-! ### no exception leaves a def -/
abbrev E0:XK:=fun _ _ _=>False
/-! ### a def (or method) of the text as it stands behind the top -/
structure Fun (K:PySem.W.Frag) (x qual:Str) (st:Stmt) (f:Addr) (fd:FuncData):Prop where
 ex:∃ (oc:Value) (od:Option Addr) (kV doc pm:Value) (an:Option Addr) (cdv ct:Value) (osl:Array (Option Value)),
  fd=PySem.W.fnOf x qual (defArgs st) (defBody st) (defScope st) .none kV doc pm an cdv ct∧K.lookup f=some ⟨oc,od,.func fd,osl⟩∧PySem.W.codeIn K cdv qual=true
 kp:PySem.W.keepIn K (.ref f)=true
section
variable {P:Program} {w:World} {K:PySem.W.Frag} {mg:Str→Option Value} {base:Heap}
theorem Fun.binds {x qual:Str} {st:Stmt} {f:Addr} {fd:FuncData} {ps:List Str} (F:Fun K x qual st f fd)
  (h:∀ (kV doc pm:Value) (an:Option Addr) (cdv ct:Value) (us:List Value),us.length=ps.length→bindArgs (PySem.W.fnOf x qual (defArgs st) (defBody st) (defScope st) .none kV doc pm an cdv ct) ⟨us,[]⟩=pure (ps.zip us)):Binds K fd ps []:=by
 obtain ⟨oc,od,kV,doc,pm,an,cdv,ct,osl,rfl,lk,hcd⟩:=F.ex
 exact .all (h kV doc pm an cdv ct)
theorem fun_mk {x qual:Str} {st:Stmt} {f:Addr} {oc:Value} {od an:Option Addr} {osl:Array (Option Value)} {kV doc pm cdv ct:Value} (l:K.lookup f=some ⟨oc,od,.func (PySem.W.fnOf x qual (defArgs st) (defBody st) (defScope st) .none kV doc pm an cdv ct),osl⟩)
  (c:PySem.W.codeIn K cdv qual=true) (k:PySem.W.keepIn K (.ref f)=true):Fun K x qual st f (PySem.W.fnOf x qual (defArgs st) (defBody st) (defScope st) .none kV doc pm an cdv ct):=⟨⟨oc,od,kV,doc,pm,an,cdv,ct,osl,rfl,l,c⟩,k⟩
end
theorem hu_of {A:Around} {k:Nat} (hr:Room k A):A.units+1 < cLine:=Nat.lt_of_le_of_lt (Nat.add_le_add_left (by decide:1≤64) _) hr.units
theorem small1000 {n:Nat} (h:n≤1000):n < sizeLine:=Nat.lt_of_le_of_lt h (by decide)

/-! ### expressions in short: the name that stands in the i-th slot -/
section
variable {X:Cx}
theorem pv (i:Nat) {x:Str} {pos:Pos} (hN:X.N[i]?=some x:=by rfl) (hv:Vis X.env.scope x:=by first | exact Or.inl rfl | exact Or.inr (Or.inl rfl) | exact Or.inr (Or.inr rfl)) (hd:(x == ("__debug__":Str))=false:=by decide)
  (hcd:(x == ("__classdict__":Str))=false:=by decide):PE X (.Name x pos) (tVar i):=pe_var hN hv hd hcd
end

/-! ### tests -/
theorem iteF {A B:Prop} (h:B):if false=true then A else B:=by
 rw [if_neg Bool.false_ne_true]
 exact h
theorem iteT {A B:Prop} (h:A):if true=true then A else B:=by
 rw [if_pos rfl]
 exact h
theorem ite2 {c A B:Prop} [Decidable c] (h1:c→A) (h2:¬ c→B):if c then A else B:=by
 by_cases h:c
 ·rw [if_pos h]
  exact h1 h
 ·rw [if_neg h]
  exact h2 h
/-! ### heaps -/
def Same (H H':Hp):Prop:=∀ b o,H b=some o→H' b=some o
theorem Same.refl (H:Hp):Same H H:=fun _ _ h=>h
theorem Same.trans {H H1 H2:Hp} (a:Same H H1) (b:Same H1 H2):Same H H2:=fun c o h=>b c o (a c o h)
theorem Same.free {H H':Hp} (e:Same H H') {l:Addr} (h:H' l=Option.none):H l=Option.none:=by
 cases q:H l with
 | none=>rfl
 | some o =>
  rw [e l o q] at h
  cases h
theorem Same.seq {K:PySem.W.Frag} {H H':Hp} {a:Addr} {xs:List V} (e:Same H H') (h:SqL K H a xs):SqL K H' a xs:=by
 rcases h with (h | ⟨o,h⟩) | h
 ·exact .inl (.inl (e _ _ h))
 ·exact .inl (.inr ⟨o,e _ _ h⟩)
 ·exact .inr h

/-! ### a dict's pairs: keys that differ -/
section
variable {κ:Type} [DecidableEq κ]
theorem nd_snoc:∀ {l:List κ} {k:κ},l.Nodup→¬ k∈l→(l++[k]).Nodup
 | [],k,_,_=>by simp
 | a::r,k,h,hk=>by
  obtain ⟨h1,h2⟩:=List.nodup_cons.mp h
  show (a::(r++[k])).Nodup
  refine List.nodup_cons.mpr ⟨fun m=>?_,nd_snoc h2 fun m=>hk (List.mem_cons.mpr (Or.inr m))⟩
  rcases List.mem_append.mp m with q | q
  ·exact h1 q
  ·exact hk (List.mem_cons.mpr (Or.inl (List.mem_singleton.mp q).symm))
end
end L2

set_option Elab.async false
set_option linter.all false
set_option maxRecDepth 100000
set_option maxHeartbeats 4000000
namespace Gu
open PySem L2
def top (i:Nat):Stmt:=PySem.Challenge.pw_guisery_k31_refusals_of_counts.main.body.getD i (.Pass ⟨0,0,0,0⟩)
abbrev sSame:Stmt:=top 6
abbrev sTurned:Stmt:=top 7
abbrev sUndone:Stmt:=top 8
abbrev sStill:Stmt:=top 11
abbrev sBreadth:Stmt:=top 12
abbrev sSect:Stmt:=top 13
abbrev sReadF:Stmt:=top 14
abbrev sLeast:Stmt:=top 15
abbrev sCome:Stmt:=top 16
abbrev sKinds:Stmt:=top 17
abbrev sGone:Stmt:=top 18
abbrev sNumbered:Stmt:=top 19
abbrev sCheckW:Stmt:=top 22
abbrev sEndless:Stmt:=top 23
abbrev sRing:Stmt:=top 24
abbrev sPlainW:Stmt:=top 25
abbrev sLeastR:Stmt:=top 26
abbrev sRinged:Stmt:=top 27
abbrev sLetterAt:Stmt:=top 28
abbrev sHeadOf:Stmt:=top 29
abbrev sWorn:Stmt:=top 31
abbrev sWornE:Stmt:=top 32
abbrev sStrung:Stmt:=top 33
abbrev sNumberOf:Stmt:=top 37
abbrev sWordOf:Stmt:=top 38
abbrev sOnFloor:Stmt:=top 39
abbrev sFloor:Stmt:=top 40
abbrev sRounds:Stmt:=top 41
abbrev sWhirls:Stmt:=top 42
abbrev sCamps:Stmt:=top 43
abbrev sLedTo:Stmt:=top 44
abbrev sJoined:Stmt:=top 47
abbrev sJoinedRow:Stmt:=top 48
abbrev sBack:Stmt:=top 49
abbrev sRowBack:Stmt:=top 50
abbrev sBehind:Stmt:=top 51
abbrev sTimes:Stmt:=top 52
abbrev sOrder:Stmt:=top 54
abbrev sCell:Stmt:=top 56
abbrev sLetters:Stmt:=top 57
abbrev sInLine:Stmt:=top 58
abbrev sShrunk:Stmt:=top 59
abbrev sNumbers:Stmt:=top 60
abbrev sRear:Stmt:=top 61
abbrev sRows:Stmt:=top 62
abbrev sGuise:Stmt:=top 63
abbrev sFirst31:Stmt:=top 64
abbrev sSecond31:Stmt:=top 65
abbrev sTold:Stmt:=top 66
abbrev sLaw:Stmt:=top 67
end Gu

set_option Elab.async false
set_option linter.all false
set_option maxRecDepth 100000
set_option maxHeartbeats 4000000
namespace Gu
open PySem PySem.W PyProof.Rows
/-! ### the opening of a text,run over the tree of its objects -/
section
variable (tb:String→Option Builtin) (p:Program) (w:World) (m:Nat) (an:Option Value)
def topT:Nat→SharedT→Thread→Option SharedT
 | 0,_,_=>none
 | n+1,x,y=>match through y,stepOk m an y with
  | true,_=>some x
  | false,false=>none
  | false,true=>match stepT (denote tb) p w x y with
   | some z=>topT n z.1 z.2
   | none=>none
end
section
variable {tb:String→Option Builtin} {p:Program} {w:World} {m:Nat} {an:Option Value}
theorem topT_of:∀ (n:Nat) (x r:SharedT) (y:Thread),topT tb p w m an n x y=some r→topRun tb p w m an n x.abs y=some r.abs
 | 0,_,_,_,h=>by cases h
 | n+1,x,r,y,h=>by
  unfold topT at h
  unfold topRun
  cases ht:through y<;>cases hk:stepOk m an y<;>rw [ht,hk] at h<;>dsimp only at h ⊢
  ·cases h
  ·cases hs:stepT (denote tb) p w x y with
   | none=>rw [hs] at h;cases h
   | some z =>
    rw [hs] at h
    rw [stepT_spec (s':=z.1) (t':=z.2) hs]
    exact topT_of n _ _ _ h
  ·cases h;rfl
  ·cases h;rfl
end
noncomputable def bootT (P:Params):BT:=(.node (boot_o_0 P) (.node (boot_o_1 P) (.node (boot_o_3 P) (.node (boot_o_7 P) .nil .nil) .nil) (.node (boot_o_5 P) (.node (boot_o_9 P) .nil .nil) .nil)) (.node (boot_o_2 P) (.node (boot_o_4 P) (.node (boot_o_8 P) .nil .nil) .nil) (.node (boot_o_6 P) (.node (boot_o_10 P) .nil .nil) .nil)))
noncomputable def bootS (w:World) (os:OsState):SharedT:=⟨bootT w.params,11,(boot_heap w.params).life,Array.mk [],boot_drawn,boot_toks,os⟩
theorem boot_abs (P:Params):absHeap (bootT P) 11 (boot_heap P).life=boot_heap P:=by kernel_rfl
theorem left_of {p q:Program} {Xt:Shared→Bool} {α:Type} {Yf:Shared→α} {Ya:World→α} {N:Nat} (e:opening p=plainProg p.main.scope.names) (hN:Nat.ble 600 N=true) (f:∀ s,fenceModules? p s=some s)
  (h:∀ w os,(topT treeTable p w 11 (some (.ref 6)) N (bootS w os) (topStub p)).bind (fun r=>match staticsOk (importedModules p.main.body) (bootS w os).abs.heap r.abs.heap && namesBound p r.abs.heap && gensDone r.abs && laidKept (bootS w os).abs.heap r.abs.heap with
   | true=>some (openSeen q [] (importedModules p.main.body) Xt true r.abs,Yf r.abs)
   | false=>none)=some (openGood q [],Ya w)):LeftO p q [] Xt Yf Ya N:=fun w=>by
 obtain ⟨s,hs,hv⟩:=Option.map_eq_some_iff.mp (boot_open e hN f w)
 have es:s=(bootS w s.os).abs:=by
  obtain ⟨h1,g1,d1,t1,o1⟩:=s
  obtain ⟨a,b,c,d⟩:h1=boot_heap w.params∧g1=Array.mk []∧d1=boot_drawn∧t1=boot_toks:=by
   simpa [Prod.ext_iff] using hv
  subst a b c d
  show _=(⟨absHeap (bootT w.params) 11 (boot_heap w.params).life,_,_,_,_⟩:Shared)
  rw [boot_abs]
  rfl
 have k:=h w s.os
 obtain ⟨r,hr,k⟩:=Option.bind_eq_some_iff.mp k
 unfold openEnds
 rw [hs]
 show (topFrom treeTable p w N s).map _=_
 unfold topFrom
 rw [es]
 have z1:((bootS w s.os).abs.heap.isNs mainGlobals && (bootS w s.os).abs.gens.size == 0)=true:=by kernel_rfl
 have z2:(bootS w s.os).abs.heap.objs.size=11:=by kernel_rfl
 have z3:(bootS w s.os).abs.heap.nsMap mainGlobals "__annotations__"=some (.ref 6):=by kernel_rfl
 rw [z1,z2,z3]
 dsimp only
 rw [topT_of _ _ _ _ hr]
 show Option.map _ (match _ with | true=>_ | false=>_)=_
 cases c:staticsOk (importedModules p.main.body) (bootS w s.os).abs.heap r.abs.heap && namesBound p r.abs.heap && gensDone r.abs && laidKept (bootS w s.os).abs.heap r.abs.heap with
 | false=>rw [c] at k;cases k
 | true =>
  rw [c] at k
  exact k
end Gu

set_option Elab.async false
set_option linter.all false
set_option maxRecDepth 100000
namespace Gu
open PySem L2
def kE (P:Params) (x:Str) (t:Tok) (v:Value):DictEntry:={ hash:=PyData.keyHash P x,key:=Value.str x t,val:=v }
def kF (s:Stmt) (x:Str) (kV dc pm:Value) (an:Option Addr) (cd ct:Value):Obj:=⟨.type "function",none,.func (PySem.W.fnOf x x (defArgs s) (defBody s) (defScope s) .none kV dc pm an cd ct),#[]⟩
abbrev vN:Value:=.none
abbrev vR (a:Addr):Value:=.ref a
def kR (P:Params) (x:Str) (t:Tok) (a:Addr):DictEntry:=kE P x t (.ref a)
def kG (s:Stmt) (x m:Str) (t:Tok) (c:Addr):Obj:=kF s x .none .none (.str m t) none (.ref c) .none
def kC (x:Str) (a b c d:Tok) (vs:Array Value):Obj:={ cls:=.type "code",data:=.fields (#[Value.str x a,Value.str x b,Value.str "/claim/cut.py" c]++vs++#[Value.str "/claim/cut.py" d]) }
def kD (x:Str) (a b c d:Tok) (ln ar:Int) (A:Addr) (fl:Int) (B:Addr) (X Y Z:Value) (u:Int):Obj:=kC x a b c d #[.int ln 0,.int ar 0,.int 0 0,.int 0 0,.int 3 0,.ref A,.bool true,.int fl 0,.ref B,.none,X,Y,Z,.int u 0,.int ln 0]
def KH (P:Params):PySem.W.Frag:=(nat_lit 2,{ cls:=Value.none,data:=Data.dict #[] }) ::
 (nat_lit 3,{ cls:=Value.type "dict",data:=Data.dict #[kE P "__name__" 165 (Value.str "law_guisery_k31_refusals_of_counts" 617),kE P "__doc__" 166 (Value.none),kE P "__package__" 167 (Value.none),kE P "__loader__" 168 (Value.builtin "__main__.__loader__#opaque"),kE P "__spec__" 169 (Value.none),kR P "__annotations__" 170 6,kR P "__builtins__" 171 4,kE P "__file__" 173 (Value.str "/claim/cut.py" 172),kE P "__cached__" 174 (Value.none),kR P "GuiseError" 206 24,kR P "BadWord" 222 37,kR P "BadCount" 238 49,kR P "TooMany" 254 61,kR P "same_letters" 263 70,kR P "turned" 269 75,kR P "undone" 279 82,kE P "MOST_FORM_ROWS" 283 (Value.int 60 282),kR P "still" 290 89,kR P "breadth" 299 96,kR P "section_at" 308 103,kR P "read_from" 322 110,kR P "least_form" 336 117,kR P "rows_come_to" 342 122,kR P "kinds_of_rows" 348 127,kR P "kinds_gone_to" 354 132,kR P "numbered" 360 137,kE P "MOST_HEAD" 364 (Value.int 2000 363),kR P "check_word" 370 142,kR P "check_endless" 380 149,kR P "check_ring" 387 156,kR P "plain_word" 398 163,kR P "least_ring" 406 170,kR P "count_ringed" 415 177,kR P "letter_at" 425 184,kR P "head_of" 431 189,kR P "worn" 443 196,kR P "worn_endless" 459 203,kR P "strung" 465 208,kE P "MOST_WORDS" 469 (Value.int 1024 468),kE P "MOST_LETTERS_TOLD" 471 (Value.int 1000 470),kR P "number_of" 481 215,kR P "word_of" 494 222,kR P "words_on_floor" 504 229,kR P "floor" 510 234,kR P "rounds" 521 241,kR P "whirls" 530 248,kR P "camps" 536 253,kR P "led_to" 549 260,kE P "MOST_TIMES" 553 (Value.int 64 552),kR P "joined" 563 267,kR P "joined_row" 569 272,kR P "back" 577 279,kR P "row_back" 583 284,kR P "behind" 593 291,kR P "times" 603 298,kR P "order" 616 305,kR P "_law_cell" 626 312,kR P "_law_letters" 634 319,kR P "_law_in_line" 640 324,kR P "_law_shrunk" 646 329,kR P "_law_numbers" 657 336,kR P "_law_rearranged" 669 343,kR P "_law_rows" 675 348,kR P "_law_guise" 683 355,kR P "_law_first" 693 362,kR P "_law_second" 703 369,kR P "_law_told" 714 376,kR P "law" 728 383] 68 }) ::
 (nat_lit 23,{ cls:=Value.type "dict",data:=Data.dict #[kE P "__module__" 196 (Value.str "guisery.errors" 187),kE P "__firstlineno__" 200 (Value.int 2 199),kR P "__static_attributes__" 201 22,kR P "__weakref__" 203 25,kE P "__doc__" 204 (Value.none)] 3 }) ::
 (nat_lit 24,{ cls:=Value.type "type",data:=Data.cls { name:="GuiseError",bases:=[Value.type "ValueError"],mro:=[Value.ref 24,Value.type "ValueError",Value.type "Exception",Value.type "BaseException",Value.type "object"],ns:=23,qualname:="GuiseError",subclasses:=[Value.ref 37,Value.ref 49,Value.ref 61] },slots:=#[some (Value.ref 15),none,some (Value.str "GuiseError" 189),some (Value.str "GuiseError" 197),some (Value.builtin "ValueError.__new__"),some (Value.bool true)] }) ::
 (nat_lit 25,{ cls:=Value.type "getset_descriptor",data:=Data.fields #[Value.str "__weakref__" 202,Value.ref 24,Value.builtin "ExceptionGroup.__weakref__",Value.none] }) ::
 (nat_lit 36,{ cls:=Value.type "dict",data:=Data.dict #[kE P "__module__" 214 (Value.str "guisery.errors" 187),kE P "__firstlineno__" 218 (Value.int 4 217),kR P "__static_attributes__" 219 35,kE P "__doc__" 220 (Value.none)] 2 }) ::
 (nat_lit 37,{ cls:=Value.type "type",data:=Data.cls { name:="BadWord",bases:=[Value.ref 24],mro:=[Value.ref 37,Value.ref 24,Value.type "ValueError",Value.type "Exception",Value.type "BaseException",Value.type "object"],ns:=36,qualname:="BadWord" },slots:=#[some (Value.ref 28),none,some (Value.str "BadWord" 207),some (Value.str "BadWord" 215),some (Value.builtin "ValueError.__new__"),some (Value.bool true)] }) ::
 (nat_lit 48,{ cls:=Value.type "dict",data:=Data.dict #[kE P "__module__" 230 (Value.str "guisery.errors" 187),kE P "__firstlineno__" 234 (Value.int 6 233),kR P "__static_attributes__" 235 47,kE P "__doc__" 236 (Value.none)] 2 }) ::
 (nat_lit 49,{ cls:=Value.type "type",data:=Data.cls { name:="BadCount",bases:=[Value.ref 24],mro:=[Value.ref 49,Value.ref 24,Value.type "ValueError",Value.type "Exception",Value.type "BaseException",Value.type "object"],ns:=48,qualname:="BadCount" },slots:=#[some (Value.ref 40),none,some (Value.str "BadCount" 223),some (Value.str "BadCount" 231),some (Value.builtin "ValueError.__new__"),some (Value.bool true)] }) ::
 (nat_lit 60,{ cls:=Value.type "dict",data:=Data.dict #[kE P "__module__" 246 (Value.str "guisery.errors" 187),kE P "__firstlineno__" 250 (Value.int 8 249),kR P "__static_attributes__" 251 59,kE P "__doc__" 252 (Value.none)] 2 }) ::
 (nat_lit 61,{ cls:=Value.type "type",data:=Data.cls { name:="TooMany",bases:=[Value.ref 24],mro:=[Value.ref 61,Value.ref 24,Value.type "ValueError",Value.type "Exception",Value.type "BaseException",Value.type "object"],ns:=60,qualname:="TooMany" },slots:=#[some (Value.ref 52),none,some (Value.str "TooMany" 239),some (Value.str "TooMany" 247),some (Value.builtin "ValueError.__new__"),some (Value.bool true)] }) ::
 (nat_lit 69,kD "same_letters" 257 258 259 262 11 1 64 181 65 (vR 66) (vR 67) (vR 68) 261) ::
 (nat_lit 70,kG sSame "same_letters" "guisery.letters" 255 69) ::
 (nat_lit 74,kD "turned" 264 265 266 268 13 2 71 181 72 vN vN (vR 73) 267) ::
 (nat_lit 75,kG sTurned "turned" "guisery.letters" 255 74) ::
 (nat_lit 81,kD "undone" 270 271 272 278 15 1 76 181 77 (vR 78) (vR 79) (vR 80) 277) ::
 (nat_lit 82,kG sUndone "undone" "guisery.letters" 255 81) ::
 (nat_lit 88,kD "still" 284 285 286 289 22 1 83 181 84 (vR 85) (vR 86) (vR 87) 288) ::
 (nat_lit 89,kG sStill "still" "guisery.machines" 280 88) ::
 (nat_lit 95,kD "breadth" 291 292 293 298 24 1 90 181 91 (vR 92) (vR 93) (vR 94) 297) ::
 (nat_lit 96,kG sBreadth "breadth" "guisery.machines" 280 95) ::
 (nat_lit 102,kD "section_at" 300 301 302 307 27 2 97 181 98 (vR 99) (vR 100) (vR 101) 306) ::
 (nat_lit 103,kG sSect "section_at" "guisery.machines" 280 102) ::
 (nat_lit 109,kD "read_from" 309 310 311 321 29 3 104 181 105 (vR 106) (vR 107) (vR 108) 320) ::
 (nat_lit 110,kG sReadF "read_from" "guisery.machines" 280 109) ::
 (nat_lit 116,kD "least_form" 323 324 325 335 37 2 111 181 112 (vR 113) (vR 114) (vR 115) 334) ::
 (nat_lit 117,kG sLeast "least_form" "guisery.machines" 280 116) ::
 (nat_lit 121,kD "rows_come_to" 337 338 339 341 45 2 118 181 119 vN vN (vR 120) 340) ::
 (nat_lit 122,kG sCome "rows_come_to" "guisery.machines" 280 121) ::
 (nat_lit 126,kD "kinds_of_rows" 343 344 345 347 57 1 123 181 124 vN vN (vR 125) 346) ::
 (nat_lit 127,kG sKinds "kinds_of_rows" "guisery.machines" 280 126) ::
 (nat_lit 131,kD "kinds_gone_to" 349 350 351 353 66 2 128 181 129 vN vN (vR 130) 352) ::
 (nat_lit 132,kG sGone "kinds_gone_to" "guisery.machines" 280 131) ::
 (nat_lit 136,kD "numbered" 355 356 357 359 68 1 133 181 134 vN vN (vR 135) 358) ::
 (nat_lit 137,kG sNumbered "numbered" "guisery.machines" 280 136) ::
 (nat_lit 141,kD "check_word" 365 366 367 369 76 2 138 181 139 vN vN (vR 140) 368) ::
 (nat_lit 142,kG sCheckW "check_word" "guisery.words" 361 141) ::
 (nat_lit 148,kD "check_endless" 371 372 373 379 79 2 143 181 144 (vR 145) (vR 146) (vR 147) 378) ::
 (nat_lit 149,kG sEndless "check_endless" "guisery.words" 361 148) ::
 (nat_lit 155,kD "check_ring" 381 382 383 386 84 1 150 181 151 (vR 152) (vR 153) (vR 154) 385) ::
 (nat_lit 156,kG sRing "check_ring" "guisery.words" 361 155) ::
 (nat_lit 162,kD "plain_word" 388 389 390 397 87 2 157 181 158 (vR 159) (vR 160) (vR 161) 396) ::
 (nat_lit 163,kG sPlainW "plain_word" "guisery.words" 361 162) ::
 (nat_lit 169,kD "least_ring" 399 400 401 405 93 1 164 181 165 (vR 166) (vR 167) (vR 168) 404) ::
 (nat_lit 170,kG sLeastR "least_ring" "guisery.words" 361 169) ::
 (nat_lit 176,kD "count_ringed" 407 408 409 414 98 2 171 181 172 (vR 173) (vR 174) (vR 175) 413) ::
 (nat_lit 177,kG sRinged "count_ringed" "guisery.words" 361 176) ::
 (nat_lit 183,kD "letter_at" 416 417 418 424 103 2 178 181 179 (vR 180) (vR 181) (vR 182) 423) ::
 (nat_lit 184,kG sLetterAt "letter_at" "guisery.words" 361 183) ::
 (nat_lit 188,kD "head_of" 426 427 428 430 110 2 185 181 186 vN vN (vR 187) 429) ::
 (nat_lit 189,kG sHeadOf "head_of" "guisery.words" 361 188) ::
 (nat_lit 195,kD "worn" 434 435 436 442 115 2 190 181 191 (vR 192) (vR 193) (vR 194) 441) ::
 (nat_lit 196,kG sWorn "worn" "guisery.wearing" 432 195) ::
 (nat_lit 202,kD "worn_endless" 444 445 446 458 119 2 197 181 198 (vR 199) (vR 200) (vR 201) 457) ::
 (nat_lit 203,kG sWornE "worn_endless" "guisery.wearing" 432 202) ::
 (nat_lit 207,kD "strung" 460 461 462 464 131 1 204 181 205 vN vN (vR 206) 463) ::
 (nat_lit 208,kG sStrung "strung" "guisery.wearing" 432 207) ::
 (nat_lit 214,kD "number_of" 472 473 474 480 136 2 209 181 210 (vR 211) (vR 212) (vR 213) 479) ::
 (nat_lit 215,kG sNumberOf "number_of" "guisery.floors" 466 214) ::
 (nat_lit 221,kD "word_of" 482 483 484 493 142 3 216 181 217 (vR 218) (vR 219) (vR 220) 492) ::
 (nat_lit 222,kG sWordOf "word_of" "guisery.floors" 466 221) ::
 (nat_lit 228,kD "words_on_floor" 495 496 497 503 153 2 223 181 224 (vR 225) (vR 226) (vR 227) 502) ::
 (nat_lit 229,kG sOnFloor "words_on_floor" "guisery.floors" 466 228) ::
 (nat_lit 233,kD "floor" 505 506 507 509 162 2 230 181 231 vN vN (vR 232) 508) ::
 (nat_lit 234,kG sFloor "floor" "guisery.floors" 466 233) ::
 (nat_lit 240,kD "rounds" 511 512 513 520 166 2 235 181 236 (vR 237) (vR 238) (vR 239) 519) ::
 (nat_lit 241,kG sRounds "rounds" "guisery.floors" 466 240) ::
 (nat_lit 247,kD "whirls" 522 523 524 529 176 2 242 181 243 (vR 244) (vR 245) (vR 246) 528) ::
 (nat_lit 248,kG sWhirls "whirls" "guisery.floors" 466 247) ::
 (nat_lit 252,kD "camps" 531 532 533 535 179 2 249 181 250 vN vN (vR 251) 534) ::
 (nat_lit 253,kG sCamps "camps" "guisery.floors" 466 252) ::
 (nat_lit 259,kD "led_to" 537 538 539 548 190 2 254 181 255 (vR 256) (vR 257) (vR 258) 547) ::
 (nat_lit 260,kG sLedTo "led_to" "guisery.floors" 466 259) ::
 (nat_lit 266,kD "joined" 554 555 556 562 204 2 261 181 262 (vR 263) (vR 264) (vR 265) 561) ::
 (nat_lit 267,kG sJoined "joined" "guisery.joining" 550 266) ::
 (nat_lit 271,kD "joined_row" 564 565 566 568 206 3 268 181 269 vN vN (vR 270) 567) ::
 (nat_lit 272,kG sJoinedRow "joined_row" "guisery.joining" 550 271) ::
 (nat_lit 278,kD "back" 570 571 572 576 212 1 273 181 274 (vR 275) (vR 276) (vR 277) 575) ::
 (nat_lit 279,kG sBack "back" "guisery.joining" 550 278) ::
 (nat_lit 283,kD "row_back" 578 579 580 582 214 1 280 181 281 vN vN (vR 282) 581) ::
 (nat_lit 284,kG sRowBack "row_back" "guisery.joining" 550 283) ::
 (nat_lit 290,kD "behind" 584 585 586 592 218 2 285 181 286 (vR 287) (vR 288) (vR 289) 591) ::
 (nat_lit 291,kG sBehind "behind" "guisery.joining" 550 290) ::
 (nat_lit 297,kD "times" 594 595 596 602 222 2 292 181 293 (vR 294) (vR 295) (vR 296) 601) ::
 (nat_lit 298,kG sTimes "times" "guisery.joining" 550 297) ::
 (nat_lit 304,kD "order" 606 607 608 615 230 2 299 181 300 (vR 301) (vR 302) (vR 303) 614) ::
 (nat_lit 305,kG sOrder "order" "guisery.crews" 604 304) ::
 (nat_lit 311,kD "_law_cell" 619 620 621 625 241 2 306 181 307 (vR 308) (vR 309) (vR 310) 624) ::
 (nat_lit 312,kG sCell "_law_cell" "law_guisery_k31_refusals_of_counts" 617 311) ::
 (nat_lit 318,kD "_law_letters" 627 628 629 633 247 2 313 181 314 (vR 315) (vR 316) (vR 317) 632) ::
 (nat_lit 319,kG sLetters "_law_letters" "law_guisery_k31_refusals_of_counts" 617 318) ::
 (nat_lit 323,kD "_law_in_line" 635 636 637 639 249 3 320 181 321 vN vN (vR 322) 638) ::
 (nat_lit 324,kG sInLine "_law_in_line" "law_guisery_k31_refusals_of_counts" 617 323) ::
 (nat_lit 328,kD "_law_shrunk" 641 642 643 645 257 2 325 181 326 vN vN (vR 327) 644) ::
 (nat_lit 329,kG sShrunk "_law_shrunk" "law_guisery_k31_refusals_of_counts" 617 328) ::
 (nat_lit 335,kD "_law_numbers" 647 648 649 656 280 2 330 181 331 (vR 332) (vR 333) (vR 334) 655) ::
 (nat_lit 336,kG sNumbers "_law_numbers" "law_guisery_k31_refusals_of_counts" 617 335) ::
 (nat_lit 342,kD "_law_rearranged" 658 659 660 668 291 2 337 181 338 (vR 339) (vR 340) (vR 341) 667) ::
 (nat_lit 343,kG sRear "_law_rearranged" "law_guisery_k31_refusals_of_counts" 617 342) ::
 (nat_lit 347,kD "_law_rows" 670 671 672 674 299 2 344 181 345 vN vN (vR 346) 673) ::
 (nat_lit 348,kG sRows "_law_rows" "law_guisery_k31_refusals_of_counts" 617 347) ::
 (nat_lit 354,kD "_law_guise" 676 677 678 682 318 2 349 181 350 (vR 351) (vR 352) (vR 353) 681) ::
 (nat_lit 355,kG sGuise "_law_guise" "law_guisery_k31_refusals_of_counts" 617 354) ::
 (nat_lit 361,kD "_law_first" 684 685 686 692 320 4 356 181 357 (vR 358) (vR 359) (vR 360) 691) ::
 (nat_lit 362,kG sFirst31 "_law_first" "law_guisery_k31_refusals_of_counts" 617 361) ::
 (nat_lit 368,kD "_law_second" 694 695 696 702 335 4 363 181 364 (vR 365) (vR 366) (vR 367) 701) ::
 (nat_lit 369,kG sSecond31 "_law_second" "law_guisery_k31_refusals_of_counts" 617 368) ::
 (nat_lit 375,kD "_law_told" 704 705 706 713 348 4 370 181 371 (vR 372) (vR 373) (vR 374) 712) ::
 (nat_lit 376,kG sTold "_law_told" "law_guisery_k31_refusals_of_counts" 617 375) ::
 (nat_lit 382,kD "law" 715 716 717 727 360 1 377 181 378 (vR 379) (vR 380) (vR 381) 726) ::
 (nat_lit 383,kG sLaw "law" "law_guisery_k31_refusals_of_counts" 617 382)::[]
def KA:List Addr:=nat_lit 2::nat_lit 3::nat_lit 23::nat_lit 24::nat_lit 25::nat_lit 36::nat_lit 37::nat_lit 48::nat_lit 49::nat_lit 60::nat_lit 61::nat_lit 69::nat_lit 70::nat_lit 74::nat_lit 75::nat_lit 81::nat_lit 82::nat_lit 88::nat_lit 89::nat_lit 95::nat_lit 96::nat_lit 102::nat_lit 103::nat_lit 109::nat_lit 110::nat_lit 116::nat_lit 117::nat_lit 121::nat_lit 122::nat_lit 126::nat_lit 127::nat_lit 131::nat_lit 132::nat_lit 136::nat_lit 137::nat_lit 141::nat_lit 142::nat_lit 148::nat_lit 149::nat_lit 155::nat_lit 156::nat_lit 162::nat_lit 163::nat_lit 169::nat_lit 170::nat_lit 176::nat_lit 177::nat_lit 183::nat_lit 184::nat_lit 188::nat_lit 189::nat_lit 195::nat_lit 196::nat_lit 202::nat_lit 203::nat_lit 207::nat_lit 208::nat_lit 214::nat_lit 215::nat_lit 221::nat_lit 222::nat_lit 228::nat_lit 229::nat_lit 233::nat_lit 234::nat_lit 240::nat_lit 241::nat_lit 247::nat_lit 248::nat_lit 252::nat_lit 253::nat_lit 259::nat_lit 260::nat_lit 266::nat_lit 267::nat_lit 271::nat_lit 272::nat_lit 278::nat_lit 279::nat_lit 283::nat_lit 284::nat_lit 290::nat_lit 291::nat_lit 297::nat_lit 298::nat_lit 304::nat_lit 305::nat_lit 311::nat_lit 312::nat_lit 318::nat_lit 319::nat_lit 323::nat_lit 324::nat_lit 328::nat_lit 329::nat_lit 335::nat_lit 336::nat_lit 342::nat_lit 343::nat_lit 347::nat_lit 348::nat_lit 354::nat_lit 355::nat_lit 361::nat_lit 362::nat_lit 368::nat_lit 369::nat_lit 375::nat_lit 376::nat_lit 382::nat_lit 383::[]
end Gu

set_option Elab.async false
set_option linter.all false
set_option maxRecDepth 100000
set_option maxHeartbeats 4000000
lay_quick PySem.Challenge.pw_guisery_k31_refusals_of_counts
namespace Gu
open PySem PySem.W PyProof.Rows PySem.W.Fast
noncomputable abbrev pY:Program:=PySem.Challenge.pw_guisery_k31_refusals_of_counts
noncomputable abbrev pQ:Program:=tw6054750204572699671
noncomputable abbrev rY:OpenRow:=PySem.Challenge.rw_guisery_k31_refusals_of_counts.row
noncomputable def viewOf (p:Program):Program:={ p with main:={ p.main with body:=[1,2,3,4,6,7,8,10,11,12,13,14,15,16,17,18,19,21,22,23,24,25,26,27,28,29,31,32,33,35,36,37,38,39,40,41,42,43,44,46,47,48,49,50,51,52,54,56,57,58,59,60,61,62,63,64,65,66,67].map fun i=>p.main.body.getD i (.Pass ⟨0,0,0,0⟩) } }
noncomputable abbrev HK:Hook:=PySem.W.kHook Gu.KH Gu.KA (fun _=>by kernel_rfl)
theorem pqe:pY=pQ:=te6054750204572699671
set_option maxHeartbeats 0 in
theorem leftq:∀ w os,(topT tw14364793385576792824 pQ w 11 (some (.ref 6)) 5064 (bootS w os) (topStub pQ)).bind (fun r=>match staticsOk (tw5923862056798008813 pQ.main.body) (bootS w os).abs.heap r.abs.heap && namesBound pQ r.abs.heap && gensDone r.abs && laidKept (bootS w os).abs.heap r.abs.heap with
 | true=>some (tw4187177175401517315 (viewOf pQ) [] (tw5923862056798008813 pQ.main.body) (fun s=>xlAt (viewOf pQ) [] s && recOk [] s) true r.abs,HK.obs r.abs)
 | false=>none)=some (openGood (viewOf pQ) [],HK.val w):=fun w os=>by kernel_rfl
theorem left:LeftO rY.prog (viewOf pY) [] (fun s=>xlAt (viewOf pY) [] s && recOk (RowW.records rY.toRowW) s) HK.obs HK.val 5064:=by
 have h:=leftq
 rw [←te14364793385576792824,←te4187177175401517315,←te5923862056798008813,←pqe] at h
 exact left_of (by kernel_rfl) (by rfl) (fun _=>rfl) h
end Gu

set_option Elab.async false
set_option linter.all false
set_option maxRecDepth 100000
set_option maxHeartbeats 4000000
namespace L2
open PySem PySem.Spec PyProof.Rows

/-! ### comprehensions -/
def closeL (cells:List (Str × Addr)):List (Str × NameKind)→List (Str × Addr)→List (Str × Addr)
 | [],cs=>cs
 | (n,k)::r,cs=>closeL cells r (if k=.free then (n,(cells.lookup n).getD 0)::cs else cs)
theorem closeL_in {cells:List (Str × Addr)}:∀ (l:List (Str × NameKind)) (cs:List (Str × Addr)) (x:Str),(∀ y,(y,NameKind.free)∈l→∃ c,cells.lookup y=some c)→((x,NameKind.free)∈l∨cs.lookup x=cells.lookup x)→(closeL cells l cs).lookup x=cells.lookup x
 | [],cs,x,_,h=>by
  rcases h with h | h
  ·cases h
  ·exact h
 | (n,k)::r,cs,x,hc,h=>by
  refine closeL_in r _ x (fun y hy=>hc y (List.mem_cons_of_mem _ hy)) ?_
  by_cases hk:k=.free
  ·subst hk
   rw [if_pos rfl]
   by_cases e:x=n
   ·subst e
    obtain ⟨c,hcx⟩:=hc x List.mem_cons_self
    right
    rw [List.lookup_cons,hcx]
    simp
   ·rcases h with h | h
    ·rcases List.mem_cons.mp h with h | h
     ·exact absurd (congrArg Prod.fst h) e
     ·exact .inl h
    ·right
     have:(x == n)=false:=by simpa using e
     rw [List.lookup_cons,this]
     exact h
  ·rw [if_neg hk]
   rcases h with h | h
   ·rcases List.mem_cons.mp h with h | h
    ·exact absurd (congrArg Prod.snd h).symm hk
    ·exact .inl h
   ·exact .inr h
theorem closeL_out {cells:List (Str × Addr)}:∀ (l:List (Str × NameKind)) (cs:List (Str × Addr)) (x:Str),(x,NameKind.free)∉l→(closeL cells l cs).lookup x=cs.lookup x
 | [],cs,x,_=>rfl
 | (n,k)::r,cs,x,h=>by
  refine (closeL_out r _ x (fun hy=>h (List.mem_cons_of_mem _ hy))).trans ?_
  by_cases hk:k=.free
  ·subst hk
   rw [if_pos rfl]
   have e:x≠n:=fun e=>h (by subst e;exact List.mem_cons_self)
   have:(x == n)=false:=by simpa using e
   rw [List.lookup_cons,this]
  ·rw [if_neg hk]
theorem closureFor_run {scope:Scope} {env:Env} (h:∀ y,(y,NameKind.free)∈scope.names→∃ c,env.cells.lookup y=some c):closureFor scope env=pure (closeL env.cells scope.names []):=by
 have key:∀ (l:List (Str × NameKind)) (cs:List (Str × Addr)),(∀ y,(y,NameKind.free)∈l→∃ c,env.cells.lookup y=some c) →
   (forIn l cs (fun (x:Str × NameKind) (r:List (Str × Addr))=>if (x.2 == NameKind.free)=true then (do let c ←cellOf env x.1;pure (ForInStep.yield ((x.1,c)::r)):Sem _) else pure (ForInStep.yield r)):Sem (List (Str × Addr)))=pure (closeL env.cells l cs):=by
  intro l
  induction l with
  | nil=>intro cs _;rfl
  | cons x r ih =>
   intro cs hc
   obtain ⟨n,k⟩:=x
   rw [List.forIn_cons]
   by_cases hk:k=.free
   ·subst hk
    obtain ⟨c,e⟩:=hc n List.mem_cons_self
    have e1:cellOf env n=pure c:=by unfold cellOf;rw [e]
    have e2:closeL env.cells ((n,NameKind.free)::r) cs=closeL env.cells r ((n,c)::cs):=by
     show closeL env.cells r (if NameKind.free=NameKind.free then (n,(env.cells.lookup n).getD 0)::cs else cs)=_
     rw [if_pos rfl,e]
     all_goals rfl
    rw [e2,←ih _ (fun y hy=>hc y (List.mem_cons_of_mem _ hy))]
    simp only [beq_self_eq_true,if_true,e1]
    rfl
   ·have hb:(k == NameKind.free)=false:=by simpa using hk
    have e2:closeL env.cells ((n,k)::r) cs=closeL env.cells r cs:=by
     show closeL env.cells r (if k=NameKind.free then _ else cs)=_
     rw [if_neg hk]
    rw [e2,←ih _ (fun y hy=>hc y (List.mem_cons_of_mem _ hy))]
    simp only [hb,Bool.false_eq_true,if_false]
    rfl
 have:=key scope.names [] h
 unfold closureFor
 simp only [] at this ⊢
 exact (congrArg (fun m=>m >>= pure) this).trans rfl
end L2

set_option Elab.async false
set_option linter.all false
set_option maxRecDepth 100000
set_option maxHeartbeats 4000000
namespace L2
open PySem PySem.Spec PyProof.Rows

def noE:Value→Shared→Prop:=fun _ _=>False
section
variable {prog:Program} {w:World} {A:Around} {R:Result→Shared→Prop} {s:Shared}
theorem comp_turns {elt tg iter:Expr} {scope:Scope} {pos:Pos} {it acc:Value} {env:Env} (I:Nat→Shared→Prop)
  (turn:∀ n s,I n s→wpAny (model prog w) A (pyNext it) (fun r s1=>match r with
   | none=>R (.ok .next) s1
   | some v=>wpAny (model prog w) A (letOwnedTupleGo tg it v) (fun _ s2=>wpAny (model prog w) A (assign tg env v) (fun _ s3=>wpAny (model prog w) A (eval elt env) (fun x s4 =>
     wpAny (model prog w) A (call (.builtin "list.append") [acc,x]) (fun _ s5=>∃ m,m < n∧I m s5) noE s4) noE s3) noE s2) noE s1) noE s)
  (n:Nat) (h:I n s):codeAny (model prog w) A (.compLoop (.ListComp elt [⟨tg,iter,[],0⟩] scope pos) 0 it acc env) R s:=by
 have no:∀ (P:Value→Shared→Prop) (a:Value) (b:Shared),noE a b→P a b:=fun _ _ _ z=>False.elim z
 refine codeAny_loop rfl I (fun n s hI=>?_) n h
 show wpAny _ _ ((compTurn (.ListComp elt [⟨tg,iter,[],0⟩] scope pos) 0 it acc env).onRaise
  (fun x=>do noteFrame x env;theTreesLotGoes x)) _ _ s
 refine wpAny_noted ?_
 rw [compTurn_list1]
 refine wpAny_bind (wpAny_standAt (wpAny_bind (wpAny_mono (turn n s hI) (fun r s1 h1=>?_) (no _))))
 cases r with
 | none=>exact wpAny_pure h1
 | some v =>
  refine wpAny_bind (wpAny_mono h1 (fun _ s2 h2=>?_) (no _))
  refine wpAny_bind (wpAny_mono h2 (fun _ s3 h3=>?_) (no _))
  refine wpAny_bind (wpAny_bind (wpAny_mono h3 (fun x s4 h4=>?_) (no _)))
  exact wpAny_bind (wpAny_mono h4 (fun _ s5 h5=>wpAny_pure (wpAny_pure ⟨rfl,h5⟩)) (no _))
end

def relF (env:Env) (p:Str × NameKind):Str × NameKind:=if (p.2 == NameKind.free && env.scope.kind == .function && env.kindOf p.1 == some .cell)=true then (p.1,NameKind.cell) else p
theorem relF_pos {env:Env} {p:Str × NameKind} (h:(p.2 == NameKind.free && env.scope.kind == .function && env.kindOf p.1 == some .cell)=true):relF env p=(p.1,NameKind.cell):=if_pos h
theorem relF_neg {env:Env} {p:Str × NameKind} (h:¬ (p.2 == NameKind.free && env.scope.kind == .function && env.kindOf p.1 == some .cell)=true):relF env p=p:=if_neg h
theorem relabel_free {env:Env} {x:Str}:∀ {l:List (Str × NameKind)},l.lookup x=some .free→(l.map (relF env)).lookup x=some .cell∨(l.map (relF env)).lookup x=some .free
 | [],h=>by simp at h
 | (n,k)::r,h=>by
  rw [List.map_cons]
  by_cases hc:(k == NameKind.free && env.scope.kind == .function && env.kindOf n == some .cell)=true
  ·rw [relF_pos (p:=(n,k)) hc]
   cases hx:x == n with
   | true=>left;rw [List.lookup_cons,hx]
   | false =>
    rw [List.lookup_cons,hx] at h
    rw [List.lookup_cons,hx]
    exact relabel_free h
  ·rw [relF_neg (p:=(n,k)) hc]
   cases hx:x == n with
   | true=>right;rw [List.lookup_cons,hx] at h;rw [List.lookup_cons,hx];exact h
   | false =>
    rw [List.lookup_cons,hx] at h
    rw [List.lookup_cons,hx]
    exact relabel_free h
theorem relabel_only {env:Env} {x:Str} {kd:NameKind} (hkd:kd=.cell∨kd=.free):∀ {l:List (Str × NameKind)},(∀ y∈l,y.2≠.cell)→(l.map (relF env)).lookup x=some kd→(x,NameKind.free)∈l
 | [],_,h=>by simp at h
 | (n,k)::r,hn,h=>by
  rw [List.map_cons] at h
  have hk:k≠.cell:=hn (n,k) List.mem_cons_self
  have up:(r.map (relF env)).lookup x=some kd→(x,NameKind.free)∈(n,k)::r:=fun h2=>List.mem_cons_of_mem _ (relabel_only hkd (fun y hy=>hn y (List.mem_cons_of_mem _ hy)) h2)
  by_cases hc:(k == NameKind.free && env.scope.kind == .function && env.kindOf n == some .cell)=true
  ·rw [relF_pos (p:=(n,k)) hc] at h
   cases hx:x == n with
   | true =>
    have hxn:x=n:=by simpa using hx
    subst hxn
    have z:=hc
    simp only [Bool.and_eq_true,beq_iff_eq] at z
    rw [z.1.1]
    exact List.mem_cons_self
   | false=>rw [List.lookup_cons,hx] at h;exact up h
  ·rw [relF_neg (p:=(n,k)) hc] at h
   cases hx:x == n with
   | true =>
    have hxn:x=n:=by simpa using hx
    subst hxn
    rw [List.lookup_cons,hx] at h
    have e:k=kd:=Option.some.inj h
    rcases hkd with z | z
    ·exact absurd (e.trans z) hk
    ·rw [e,z];exact List.mem_cons_self
   | false=>rw [List.lookup_cons,hx] at h;exact up h

def cxComp (X:Cx) (N:List Str) (scope:Scope) (cl:List (Str × Addr)) (C:Addr) (ex:List Addr) (s:Shared) (H:Hp):Cx where
 prog:=X.prog
 w:=X.w
 K:=X.K
 mg:=X.mg
 base:=X.base
 A:=X.A
 N:=N
 s₀:=s
 H₀:=H
 env:=compEnvC scope cl C X.env
 outer:=X.stack
 stack:=X.stack
 ex:=ex
 fn:=fun _=>false
 calm:=X.calm
 pn:=[]
 xe:=noE
structure CompS (XN:List Str) (xsc:Scope) (N:List Str) (ix:List (Option Nat)) (scope:Scope):Prop where
 kind:scope.kind=.function
 nocell:∀ y∈scope.names,y.2≠.cell
 names:∀ y∈scope.names,y.2=.local→scope.names.lookup y.1=some .local
 frees:∀ y∈scope.names,y.2=.free→xsc.names.lookup y.1=some .cell∨xsc.names.lookup y.1=some .free
 len:ix.length=N.length
 has:((ix.zip N).all fun p=>match p.1 with | none=>true | some j=>XN[j]? == some p.2 && scope.names.lookup p.2 == some .free)=true
 nd:N.Nodup
def compSt (ix:List (Option Nat)) (σ:St):St:=ix.map fun o=>o.bind fun j=>(σ[j]?).join
theorem CompS.at_ {XN:List Str} {xsc:Scope} {N:List Str} {ix:List (Option Nat)} {scope:Scope} (S:CompS XN xsc N ix scope) {i:Nat} {x:Str} {v:V} {σ:St} (hi:N[i]?=some x) (hv:(compSt ix σ)[i]?=some (some v)) :
  ∃ j:Nat,XN[j]?=some x∧scope.names.lookup x=some .free∧σ[j]?=some (some v):=by
 unfold compSt at hv
 rw [List.getElem?_map] at hv
 cases e:ix[i]? with
 | none=>rw [e] at hv;cases hv
 | some o =>
  rw [e] at hv
  cases o with
  | none=>cases hv
  | some j =>
   have hv':(σ[j]?).join=some v:=Option.some.inj hv
   have hm:((some j:Option Nat),x)∈ix.zip N:=by
    have:(ix.zip N)[i]?=some (some j,x):=by rw [List.getElem?_zip_eq_some];exact ⟨e,hi⟩
    exact List.mem_of_getElem? this
   have q:=List.all_eq_true.mp S.has _ hm
   simp only [Bool.and_eq_true,beq_iff_eq] at q
   refine ⟨j,q.1,q.2,?_⟩
   cases z:σ[j]? with
   | none=>rw [z] at hv';cases hv'
   | some u=>rw [z] at hv';exact congrArg some hv'

section
variable {X:Cx} {pins:List (Addr × Obj)} {σ:St} {H:Hp} {s s1:Shared} {N:List Str} {ix:List (Option Nat)} {scope:Scope} {fp:List Addr} {C:Addr}
theorem comp_cells (I:Inv X pins σ H s) (S:CompS X.N X.env.scope N ix scope):∀ y,(y,NameKind.free)∈scope.names→∃ c,X.env.cells.lookup y=some c:=fun y hy=>I.ok.has y (S.frees _ hy rfl)
theorem comp_look (I:Inv X pins σ H s) (S:CompS X.N X.env.scope N ix scope) {x:Str} {c:Addr} (h:(closeL X.env.cells scope.names []).lookup x=some c):X.env.cells.lookup x=some c:=by
 by_cases hm:(x,NameKind.free)∈scope.names
 ·rw [←closeL_in scope.names [] x (comp_cells I S) (.inl hm)];exact h
 ·rw [closeL_out scope.names [] x hm] at h;cases h
theorem comp_inv (I:Inv X pins σ H s) (S:CompS X.N X.env.scope N ix scope) (hC:C=s.heap.objs.size) (hf:∀ b∈fp,FpOk X pins H b) (hfl:∀ b∈fp,b < s.heap.objs.size) {h1:Heap} {m:Str→Option Value} {tk:Nat} (hn:h1.Ns C m)
  (hk:∀ b o,s.heap.get? b=some o→h1.get? b=some o) :
  Inv (cxComp X N scope (closeL X.env.cells scope.names []) C fp s H) [] (compSt ix σ) H { s with heap:=h1,toks:=tk }:=by
 have hne:∀ {b:Addr} {o:Obj},X.base.get? b=some o→b∉fp:=fun {b o} e hb=>by
  obtain ⟨_,_,_,hx,_⟩:=hf b hb
  rcases hx with hx | hx
  ·exact I.ok.noex b o e hx
  ·exact absurd (Nat.lt_of_lt_of_le (Heap.lt_size (I.ok.bs b o e).1) hx) (Nat.lt_irrefl _)
 refine ⟨⟨I.ok.mod,S.kind,I.ok.glob,I.ok.blt,Nat.le_of_eq hC.symm,?_,?_,?_,I.ok.hd,I.ok.frames,.inl rfl,?_,I.bs,Nat.le_trans I.ok.bsz I.sz,fun b o e=>hne e,?_,I.stack,I.stkFree⟩,
  rfl,I.bare,Un.kept hk,⟨m,hn,?_⟩,?_,I.hok.fresh (Nat.le_of_eq hC.symm),?_,fun p hp=>absurd (show p∈([]:List (Addr × Obj)) from hp) (by simp),I.hok.kept hk,?_⟩
 ·intro x y c h1 h2
  exact I.ok.inj x y c (comp_look I S h1) (comp_look I S h2)
 ·intro x hx
  have hm:(x,NameKind.free)∈scope.names:=by
   rcases hx with hx | hx
   ·exact relabel_only (.inl rfl) S.nocell hx
   ·exact relabel_only (.inr rfl) S.nocell hx
  obtain ⟨c,e⟩:=comp_cells I S x hm
  exact ⟨c,(closeL_in scope.names [] x (comp_cells I S) (.inl hm)).trans e⟩
 ·intro x c hx;cases hx
 ·intro b hb
  obtain ⟨_,_,_,_,f4,_⟩:=hf b hb
  refine ⟨fun e=>?_,fun x c e=>f4 x c (comp_look I S e)⟩
  have z:=hfl b hb
  have e':b=C:=e
  rw [e',hC] at z
  exact Nat.lt_irrefl _ z
 ·intro b hb hb2
  obtain ⟨_,f1,f2,_⟩:=hf b hb
  exact (List.mem_cons.mp (I.stkSub b hb2)).elim f1 f2
 ·intro i x v e1 e2 e3
  obtain ⟨j,g1,g2,g3⟩:=S.at_ e1 e2
  have hm:(x,NameKind.free)∈scope.names:=PySem.mem_of_lookup g2
  have hk2:=S.frees _ hm rfl
  obtain ⟨m0,hn0,hl0⟩:=id I.loc
  obtain ⟨u,r,l⟩:=hl0 j x v g1 g3 (hk2.elim (fun z=>.inr (.inl z)) (fun z=>.inr (.inr z)))
  refine ⟨u,r,.inr ⟨relabel_free g2,?_⟩⟩
  rcases l with ⟨k,_⟩ | ⟨k,c,e,z⟩
  ·have k':X.env.scope.names.lookup x=some .local:=k
   rcases hk2 with z | z<;>(rw [k'] at z;cases z)
  ·refine ⟨c,(closeL_in scope.names [] x (comp_cells I S) (.inl hm)).trans e,?_⟩
   obtain ⟨o,ho,hd⟩:=z
   exact ⟨o,hk _ _ ho,hd⟩
 ·intro x c e
  obtain ⟨v,o,ho,hd⟩:=I.cell x c (comp_look I S e)
  exact ⟨v,o,hk _ _ ho,hd⟩
 ·intro x c e
  exact I.freeC x c (comp_look I S e)
 ·unfold compSt
  rw [List.length_map]
  exact S.len
end
end L2

set_option Elab.async false
set_option linter.all false
set_option maxRecDepth 100000
set_option maxHeartbeats 4000000
namespace L2
open PySem PySem.Spec PyProof.Rows

def compW (ix:List (Option Nat)) (J:It) (g:TG) (te:TE) (σ:St) (l:Addr) (H0:Hp) (Qe:Hp→Prop):Prop :=
 ∃ W:Nat→Nat→List V→Hp→Prop,(∃ m,W 0 m [] H0)∧∀ i m ys H,W i m ys H→H l=some (.lst ys) →
  (J.stop i H∧Qe H)∨(J.go i H∧ys.length < sizeLine∧∃ N:List V→Hp→Prop,(∀ zs H',N zs H'→∃ m',m' < m∧W (i+1) m' zs H')∧∀ x H',J.yld i H x H'→g x (compSt ix σ) H' fun σ2 H2=>te σ2 H2 fun v H3 =>
   H3 l=some (.lst ys)∧N (ys++[v]) (upd H3 l (.lst (ys++[v]))))
def tComp (ix:List (Option Nat)) (wi:TI) (g:TG) (te:TE):TE:=fun σ H Q=>wi σ H fun J H1=>∀ l,H1 l=none→compW ix J g te σ l (upd H1 l (.lst [])) fun H'=>Q (.ref l) H'

section
variable {X:Cx} {pins:List (Addr × Obj)} {σ:St} {H:Hp} {s:Shared} {N:List Str} {ix:List (Option Nat)} {scope:Scope} {elt iter tg:Expr} {pos:Pos} {g:TG} {te:TE} {E:Value→Shared→Prop}
theorem comp_again {C:Addr} {fp:List Addr} {pins':List (Addr × Obj)} {σ':St} {Hc:Hp} {s':Shared} (I:Inv X pins σ H s) (S:CompS X.N X.env.scope N ix scope)
  (J:Inv (cxComp X N scope (closeL X.env.cells scope.names []) C fp s H) pins' σ' Hc s'):Inv (cxComp X N scope (closeL X.env.cells scope.names []) C fp s H) [] (compSt ix σ) Hc s':=by
 obtain ⟨m,hn,_⟩:=J.loc
 refine ⟨J.ok,J.os,J.bare,J.base,⟨m,hn,?_⟩,J.cell,J.free,J.freeC,fun p hp=>absurd (show p∈([]:List (Addr × Obj)) from hp) (by simp),J.hok,?_⟩
 ·intro i x v e1 e2 e3
  obtain ⟨j,g1,g2,g3⟩:=S.at_ e1 e2
  have hm:(x,NameKind.free)∈scope.names:=PySem.mem_of_lookup g2
  have hk2:=S.frees _ hm rfl
  obtain ⟨m0,hn0,hl0⟩:=id I.loc
  obtain ⟨u,r,l⟩:=hl0 j x v g1 g3 (hk2.elim (fun z=>.inr (.inl z)) (fun z=>.inr (.inr z)))
  refine ⟨u,r,.inr ⟨relabel_free g2,?_⟩⟩
  rcases l with ⟨k,_⟩ | ⟨k,c,e,z⟩
  ·have k':X.env.scope.names.lookup x=some .local:=k
   rcases hk2 with z | z<;>(rw [k'] at z;cases z)
  ·have ec:(closeL X.env.cells scope.names []).lookup x=some c:=(closeL_in scope.names [] x (comp_cells I S) (.inl hm)).trans e
   refine ⟨c,ec,?_⟩
   obtain ⟨o,ho,hd⟩:=z
   obtain ⟨sl,q⟩:=J.base.any ho (I.freeC x c e) (fun hx=>(J.ok.exf c hx).2 x c ec rfl)
   exact ⟨_,q,hd⟩
 ·unfold compSt
  rw [List.length_map]
  exact S.len
theorem comp_block {it:Addr} {fp:List Addr} {tn:Nat→Heap→Prop} {J:It} {Qe:Addr→Hp→Prop} {RR:Value→Addr→Result→Shared→Prop} (hc:X.calm=true) (S:CompS X.N X.env.scope N ix scope)
  (hg:∀ cl C ex s H,PG (cxComp X N scope cl C ex s H) tg g) (he:∀ cl C ex s H,PE (cxComp X N scope cl C ex s H) elt te)
  (I:Inv X pins σ H s) (T:Turn X.prog X.w X.K tg J fp it tn) (st:tn 0 s.heap) (hf:∀ b∈fp,FpOk X pins H b)
  (hw:∀ l,H l=none→compW ix J g te σ l (upd H l (.lst [])) (Qe l))
  (hRR:∀ l C s' H' m,s'.heap.Ns C m→Inv X pins σ H' s'→FpOk X pins H' C→Qe l H'→RR (.ref l) C (.ok .next) s') :
  wpAny (model X.prog X.w) X.A (newList []) (fun acc s3=>wpAny (model X.prog X.w) X.A (newFunctionEnv scope X.env.globals (closeL X.env.cells scope.names []) [] X.env.qual none .none (some X.env)) (fun cenv s4 =>
   codeAny (model X.prog X.w) X.A (.compStart (.ListComp elt [⟨tg,iter,[],0⟩] scope pos) 0 (.ref it) acc { cenv with scope:=relabel scope X.env }) (RR acc cenv.locals) s4) E s3) E s:=by
 have hlt:∀ b∈fp,b < s.heap.objs.size:=fun b hb=>by
  obtain ⟨o,e,_⟩:=T.obj 0 s.heap st b hb
  exact Heap.lt_size e
 have hl0:H s.heap.objs.size=none:=I.fresh
 obtain ⟨W,⟨m0,w0⟩,turn⟩:=hw s.heap.objs.size hl0
 refine wpAny_newObj_type ?_
 generalize hs3:({ s with heap:=s.heap.push { cls:=.type "list",dict:=none,data:=.seq ([]:List Value).toArray } }:Shared)=s3
 have I3:Inv X pins σ (upd H s.heap.objs.size (.lst [])) s3:=by
  rw [←hs3]
  exact I.lnew (its:=[]) (t':=s.toks) .nil (Nat.zero_le _)
 have k3:∀ b o,s.heap.get? b=some o→s3.heap.get? b=some o:=fun b o e=>by
  rw [←hs3];exact Heap.get?_push_of_some _ e
 have sz3:s3.heap.objs.size=s.heap.objs.size+1:=by rw [←hs3];exact Heap.size_push ..
 have lnfp:s.heap.objs.size∉fp:=fun hb=>Nat.lt_irrefl _ (hlt _ hb)
 have st3:tn 0 s3.heap:=T.keep 0 _ _ st fun b _ o e=>k3 b o e
 have hf3:∀ b∈fp,FpOk X pins (upd H s.heap.objs.size (.lst [])) b:=fun b hb=>by
  obtain ⟨f0,f⟩:=hf b hb
  have nb:b≠s.heap.objs.size:=fun e=>lnfp (by rw [←e];exact hb)
  exact ⟨by rw [upd_ne nb];exact f0,f⟩
 have hlt3:∀ b∈fp,b < s3.heap.objs.size:=fun b hb=>by rw [sz3];exact Nat.lt_succ_of_lt (hlt b hb)
 clear hs3
 refine wpAny_newFunctionEnv S.nocell (by intro y hy;simp at hy) (fun h1 hn1 hb1=>?_) S.kind
 have hk1:∀ b o,s3.heap.get? b=some o→h1.get? b=some o:=fun b o e =>
  (hb1.2 b (Nat.ne_of_lt (Heap.lt_size e))).trans (Heap.get?_push_of_some _ e)
 have J0:Inv (cxComp X N scope (closeL X.env.cells scope.names []) s3.heap.objs.size fp s3 (upd H s.heap.objs.size (.lst []))) [] (compSt ix σ) (upd H s.heap.objs.size (.lst [])) { s3 with heap:=h1,toks:=s3.toks+([]:List (Str × Value)).length } :=
  comp_inv I3 S rfl hf3 hlt3 hn1 hk1
 have st1:tn 0 h1:=T.keep 0 _ _ st3 fun b _ o e=>hk1 b o e
 have fpY:∀ {Hc:Hp},(∀ b∈fp,Hc b=none)→∀ b∈fp,FpOk (cxComp X N scope (closeL X.env.cells scope.names []) s3.heap.objs.size fp s3 (upd H s.heap.objs.size (.lst []))) [] Hc b:=fun {Hc} hn b hb=>by
  obtain ⟨_,f1,f2,_,f4,_⟩:=hf3 b hb
  refine ⟨hn b hb,Nat.ne_of_lt (hlt3 b hb),fun hb2=>(List.mem_cons.mp (I3.stkSub b hb2)).elim f1 f2,.inl hb,fun x c e=>f4 x c (comp_look I3 S e),fun p hp=>absurd (show p∈([]:List (Addr × Obj)) from hp) (by simp)⟩
 have loop:∀ s4:Shared,s4=({ s3 with heap:=h1,toks:=s3.toks+([]:List (Str × Value)).length }:Shared)→codeAny (model X.prog X.w) X.A (.compLoop (.ListComp elt [⟨tg,iter,[],0⟩] scope pos) 0 (.ref it) (.ref s.heap.objs.size)
   (compEnvC scope (closeL X.env.cells scope.names []) s3.heap.objs.size X.env)) (RR (.ref s.heap.objs.size) s3.heap.objs.size) s4:=by
  intro s4 hs4
  subst hs4
  refine comp_turns (fun n s'=>∃ i ys Hc,Inv (cxComp X N scope (closeL X.env.cells scope.names []) s3.heap.objs.size fp s3 (upd H s.heap.objs.size (.lst []))) [] (compSt ix σ) Hc s'∧tn i s'.heap∧(∀ b∈fp,Hc b=none)∧Hc s.heap.objs.size=some (.lst ys)∧W i n ys Hc) ?_ m0 ⟨0,[],_,J0,st1,fun b hb=>(hf3 b hb).1,upd_same,w0⟩
  rintro n s5 ⟨i,ys,Hc,J5,st5,fr5,hl5,w5⟩
  rcases turn i n ys Hc w5 hl5 with ⟨stop,qe⟩ | ⟨go,hz,NN,hNN,step⟩
  ·refine thn (T.done (cxComp X N scope (closeL X.env.cells scope.names []) s3.heap.objs.size fp s3 (upd H s.heap.objs.size (.lst []))) rfl rfl rfl hc i [] s5 _ Hc noE J5 (fpY fr5) st5 stop) fun r s6 ⟨hr,J6⟩=>?_
   subst hr
   have I6:Inv X pins σ Hc s6:=I3.call' (ch:=fp) J6.os J6.base J6.hok J6.bare fun b hb=>by
    obtain ⟨_,f1,f2,f3,f4,f5⟩:=hf3 b hb
    exact ⟨f3,f1,f4,f5⟩
   obtain ⟨m6,hn6,_⟩:=J6.loc
   exact hRR _ _ s6 Hc m6 hn6 I6 (I3.fpOk (Nat.le_refl _) J6.free) qe
  ·refine thn (T.item (cxComp X N scope (closeL X.env.cells scope.names []) s3.heap.objs.size fp s3 (upd H s.heap.objs.size (.lst []))) rfl rfl rfl hc i [] s5 _ Hc noE J5 (fpY fr5) st5 go) fun r s6 ⟨u,hr,h6⟩=>?_
   subst hr
   refine thn h6 fun _ s7 ⟨x,H7,J7,r7,y7,st7,fr7⟩=>?_
   have J7':=J7.pinned (fpY fr7) (T.obj _ _ st7)
   refine thn (hg _ _ _ _ _ _ s7 _ H7 x u _ J7' r7 (step x H7 y7)) fun _ s8 ⟨σ8,H8,J8,q8⟩=>?_
   refine thn (he _ _ _ _ _ _ s8 σ8 H8 _ J8 q8) fun y s9 ⟨v,H9,J9,r9,hl9,n9⟩=>?_
   obtain ⟨m',hm',w9⟩:=hNN _ _ n9
   refine thn (mt_append (X:=cxComp X N scope (closeL X.env.cells scope.names []) s3.heap.objs.size fp s3 (upd H s.heap.objs.size (.lst []))) _ s9 σ8 H9 (.ref s.heap.objs.size) [v] (.ref s.heap.objs.size) [y]
    (fun z Hz=>z=.non∧Hz=upd H9 s.heap.objs.size (.lst (ys++[v]))) J9 rfl (.cons r9 .nil) ⟨_,ys,v,rfl,rfl,hl9,hz,rfl,rfl⟩) fun _ s10 ⟨_,H10,J10,_,_,e10⟩=>?_
   subst e10
   have len8:(compSt ix σ).length=σ8.length:=by
    rw [J10.len]
    unfold compSt
    rw [List.length_map]
    exact S.len
   refine ⟨m',hm',i+1,ys++[v],_,?_,T.keep _ _ _ st7 fun b hb o e=>(J10.pin (b,o) (List.mem_append_right _ (List.mem_append_right _ (mem_pinsAt hb e)))).1,fun b hb=>?_,upd_same,w9⟩
   ·exact comp_again I3 S J10
   ·obtain ⟨o,e,d⟩:=T.obj _ _ st7 b hb
    exact (J10.pin (b,o) (List.mem_append_right _ (List.mem_append_right _ (mem_pinsAt hb e)))).2.1
 exact codeAny_compStart_list (loop _ rfl) (T.self _ 0 _ _ _ st1 (loop _ rfl))
theorem pe_comp {wi:TI} (hc:X.calm=true) (S:CompS X.N X.env.scope N ix scope) (hi:PI X tg iter wi)
  (hg:∀ cl C ex s H,PG (cxComp X N scope cl C ex s H) tg g) (he:∀ cl C ex s H,PE (cxComp X N scope cl C ex s H) elt te)
  (hs:∀ x,foldedSetIterable iter X.env x=pure x:=by intro _;rfl):PE X (.ListComp elt [⟨tg,iter,[],0⟩] scope pos) (tComp ix wi g te):=by
 intro pins s σ H Q I h
 rw [eval_ListComp]
 refine wpAny_comprehension_free (use:=none) rfl hs (closureFor_run (comp_cells I S)) S.kind S.names (thn (hi pins s σ H _ I h) fun v s1 h1=>thn h1 fun itv s2 h2=>?_)
 obtain ⟨it,fp,tn,J,H2,e,I2,T,st2,f2,hw⟩:=h2
 subst e
 refine comp_block (RR:=fun acc C=>compPost (model X.prog X.w) X.A X.xe none (EP X pins σ Q) acc C) hc S hg he I2 T st2 f2 hw fun l C s' H' m hn I' fC q=>⟨m,hn,fun h' hs'=>?_⟩
 obtain ⟨c0,c1,_,c3,c4,c5⟩:=fC
 exact ⟨.ref l,H',I'.turned (t':=s'.toks) (fun b o hb e=>(hs'.2 b hb).trans e) c0 c1 c3 c4 c5,rfl,q⟩
end
/-! ### the forms one uses -/
theorem comp_by {J:It} {n:Nat} {l:Addr} {ix:List (Option Nat)} {g:TG} {te:TE} {σ:St} {H0:Hp} {Qe:Hp→Prop} (Pv:Nat→List V→Hp→Prop) (h0:Pv 0 [] H0)
  (hs:∀ i ys H,i < n→Pv i ys H→H l=some (.lst ys)→J.go i H∧ys.length < sizeLine∧∀ x H',J.yld i H x H'→g x (compSt ix σ) H' fun σ2 H2=>te σ2 H2 fun v H3=>H3 l=some (.lst ys)∧Pv (i+1) (ys++[v]) (upd H3 l (.lst (ys++[v]))))
  (hd:∀ ys H,Pv n ys H→H l=some (.lst ys)→J.stop n H∧Qe H):compW ix J g te σ l H0 Qe:=by
 refine ⟨fun i m ys H=>m=n - i∧i≤n∧Pv i ys H,⟨n,by simp,Nat.zero_le _,h0⟩,?_⟩
 rintro i m ys H ⟨rfl,hi,p⟩ hl
 by_cases hlt:i < n
 ·obtain ⟨h1,h2,h3⟩:=hs i ys H hlt p hl
  exact .inr ⟨h1,h2,Pv (i+1),fun zs H' q=>⟨n - (i+1),by omega,rfl,hlt,q⟩,h3⟩
 ·have e:i=n:=by omega
  subst e
  exact .inl (hd ys H p hl)
theorem comp_list {K:PySem.W.Frag} {a l:Addr} {xs:List V} {ix:List (Option Nat)} {g:TG} {te:TE} {σ:St} {H0:Hp} {Qe:Hp→Prop} (Pv:Nat→List V→Hp→Prop) (h0:Pv 0 [] H0) (hl:∀ i ys H,i≤xs.length→Pv i ys H→SqL K H a xs) (hz:xs.length≤sizeLine)
  (hn:∀ i ys H,Pv i ys H→ys.length=i)
  (hs:∀ i x ys H,xs[i]?=some x→Pv i ys H→H l=some (.lst ys)→g x (compSt ix σ) H fun σ2 H2=>te σ2 H2 fun v H3=>H3 l=some (.lst ys)∧Pv (i+1) (ys++[v]) (upd H3 l (.lst (ys++[v]))))
  (hd:∀ ys H,Pv xs.length ys H→H l=some (.lst ys)→Qe H):compW ix (Itl K a) g te σ l H0 Qe:=by
 refine comp_by (n:=xs.length) Pv h0 (fun i ys H hi p hy=>?_) fun ys H p hy=>⟨⟨xs,hl _ ys H (Nat.le_refl _) p,Nat.le_refl _⟩,hd ys H p hy⟩
 have q:=hl i ys H (Nat.le_of_lt hi) p
 refine ⟨⟨xs,xs[i],q,by simp [hi]⟩,by rw [hn i ys H p];exact Nat.lt_of_lt_of_le hi hz,fun x H' y=>?_⟩
 obtain ⟨e,y⟩:=y
 subst e
 exact hs i x ys _ (y xs q) p hy
theorem comp_tup {K:PySem.W.Frag} {a l:Addr} {xs:List V} {ix:List (Option Nat)} {g:TG} {te:TE} {σ:St} {H0:Hp} {Qe:Hp→Prop} (Pv:Nat→List V→Hp→Prop) (h0:Pv 0 [] H0) (hl:∀ i ys H,i≤xs.length→Pv i ys H→SqT K H a xs) (hz:xs.length≤sizeLine)
  (hn:∀ i ys H,Pv i ys H→ys.length=i)
  (hs:∀ i x ys H,xs[i]?=some x→Pv i ys H→H l=some (.lst ys)→g x (compSt ix σ) H fun σ2 H2=>te σ2 H2 fun v H3=>H3 l=some (.lst ys)∧Pv (i+1) (ys++[v]) (upd H3 l (.lst (ys++[v]))))
  (hd:∀ ys H,Pv xs.length ys H→H l=some (.lst ys)→Qe H):compW ix (Itt K a) g te σ l H0 Qe:=by
 refine comp_by (n:=xs.length) Pv h0 (fun i ys H hi p hy=>?_) fun ys H p hy=>⟨⟨xs,hl _ ys H (Nat.le_refl _) p,Nat.le_refl _⟩,hd ys H p hy⟩
 have q:=hl i ys H (Nat.le_of_lt hi) p
 refine ⟨⟨xs,xs[i],q,by simp [hi]⟩,by rw [hn i ys H p];exact Nat.lt_of_lt_of_le hi hz,fun x H' y=>?_⟩
 obtain ⟨e,y⟩:=y
 subst e
 exact hs i x ys _ (y xs q) p hy
theorem comp_range {lo:Int} {n:Nat} {l:Addr} {ix:List (Option Nat)} {g:TG} {te:TE} {σ:St} {H0:Hp} {Qe:Hp→Prop} (Pv:Nat→List V→Hp→Prop) (h0:Pv 0 [] H0) (hz:n≤sizeLine)
  (hn:∀ i ys H,Pv i ys H→ys.length=i)
  (hs:∀ i ys H,i < n→Pv i ys H→H l=some (.lst ys)→g (.int (lo+i)) (compSt ix σ) H fun σ2 H2=>te σ2 H2 fun v H3=>H3 l=some (.lst ys)∧Pv (i+1) (ys++[v]) (upd H3 l (.lst (ys++[v]))))
  (hd:∀ ys H,Pv n ys H→H l=some (.lst ys)→Qe H):compW ix (Itr lo n) g te σ l H0 Qe:=by
 refine comp_by (n:=n) Pv h0 (fun i ys H hi p hy=>⟨hi,by rw [hn i ys H p];exact Nat.lt_of_lt_of_le hi hz,fun x H' y=>?_⟩) fun ys H p hy=>⟨Nat.le_refl _,hd ys H p hy⟩
 obtain ⟨e,y⟩:=y
 subst e y
 exact hs i ys _ hi p hy
end L2

set_option Elab.async false
set_option linter.all false
set_option maxRecDepth 100000
set_option maxHeartbeats 4000000
namespace L2
open PySem PySem.Spec PyProof.Rows
open PySem.AutoSeq1 (wpAny_loadPart')

/-! ### range(n) as an object;tuple(range(n)),list(range(n)) -/
def rint (lo:Int) (n:Nat):List V:=(List.range n).map fun i=>V.int (lo+(i:Nat))
theorem rint_length (lo:Int) (n:Nat):(rint lo n).length=n:=by unfold rint;simp
theorem vals_of_items {lo c:Int} {acc:Array Value} {n:Nat} (hc:c=1) (h:ItemsOf (fun i v=>∃ t,v=.int (lo+i*c) t) acc n):Vals (rint lo n) acc.toList:=by
 subst hc
 obtain ⟨hs,hi⟩:=h
 have key:∀ (k:Nat) (i:Nat),i+k=n→Vals (((List.range n).drop i).map fun j=>V.int (lo+(j:Nat))) (acc.toList.drop i):=by
  intro k
  induction k with
  | zero =>
   intro i hk
   rw [List.drop_of_length_le (by simp;omega),List.drop_of_length_le (by simp;omega)]
   exact .nil
  | succ k ih =>
   intro i hk
   have h1:i < acc.size:=by omega
   have e1:(List.range n).drop i=i::(List.range n).drop (i+1):=by
    rw [List.drop_eq_getElem_cons (by simp;omega)];simp
   have e2:acc.toList.drop i=acc[i]::acc.toList.drop (i+1):=by
    rw [List.drop_eq_getElem_cons (by simpa using h1)];simp
   rw [e1,e2,List.map_cons]
   refine .cons ?_ (ih (i+1) (by omega))
   obtain ⟨t,e⟩:=hi i acc[i] (by simp [h1])
   exact ⟨t,by rw [e,Int.mul_one]⟩
 have:=key n 0 (by omega)
 simpa [rint] using this
section
variable {X:Cx}
theorem call_rng:CallR X (.type "range") (fun xs H Q=>∃ j:Int,xs=[.int j]∧-(2 ^ 62)≤j∧j < 2 ^ 62∧∀ p,H p=none→Q (.ref p) (upd H p (.rng 0 j))):=by
 intro pins s σ H xs us Q I r h
 obtain ⟨j,rfl,h1,h2,q⟩:=h
 obtain ⟨u,rfl,ru⟩:=vals1 r
 obtain ⟨t,rfl⟩:=ru
 refine call_range_1 ?_
 exact ⟨.ref s.heap.objs.size,upd H s.heap.objs.size (.rng 0 j),I.laid (o:=.rng 0 j) (fun b u e=>Heap.get?_push_of_some _ e) (Nat.le_refl _) ⟨_,_,_,Heap.get?_push_size _ rfl⟩,rfl,q _ I.fresh⟩
theorem Inv.rng {pins:List (Addr × Obj)} {σ:St} {H:Hp} {s:Shared} {p:Addr} {lo hi:Int} (I:Inv X pins σ H s) (h:H p=some (.rng lo hi)):∃ t u v,IsRange s.heap p lo hi 1 t u v:=by
 obtain ⟨t,u,v,e⟩:=I.hok p _ h
 exact ⟨t,u,v,e⟩
theorem rng_size {lo hi:Int}:Builtin.Range.rangeSize lo hi 1=(((hi - lo).toNat:Nat):Int):=by
 rw [rangeSize_one];split<;>omega
theorem call_list_rng (hc:X.calm=true):CallR X (.type "list") (fun xs H Q=>∃ p lo hi,xs=[.ref p]∧H p=some (.rng lo hi)∧(-(2 ^ 62)≤lo∧lo < 2 ^ 62∧-(2 ^ 62)≤hi∧hi < 2 ^ 62)∧(hi - lo).toNat≤2 ^ 24 ∧
  ∀ l,H l=none→Q (.ref l) (upd H l (.lst (rint lo (hi - lo).toNat)))):=by
 intro pins s σ H xs us Q I r h
 obtain ⟨p,lo,hi,rfl,hp,⟨b1,b2,b3,b4⟩,hn,q⟩:=h
 obtain ⟨u,rfl,ru⟩:=vals1 r
 cases ru
 obtain ⟨t,u,v,hr⟩:=I.rng hp
 refine call_list_range (I.ok.hd hc) hr (small_one b1 b2 b3 b4) rng_size hn fun h' tk acc c' hk hl hacc=>?_
 have hv:=vals_of_items rfl hacc
 exact ⟨.ref _,_,I.laid (o:=.lst (rint lo (hi - lo).toNat)) (fun b u e=>hk b u e) (Nat.le_refl _) ⟨by rw [rint_length,sizeLine_eq];omega,acc.toList,c',hv,by simpa using hl⟩,rfl,q _ I.fresh⟩
end

section
variable {prog:Program} {w:World} {A:Around} {E:Value→Shared→Prop} {s:Shared}
theorem collect_rng {Q:List Value→Shared→Prop} {r:Addr} {a b c:Int} {t u v:Tok} {n:Nat} (hh:A.handled=none) (hr:IsRange s.heap r a b c t u v) (hsmall:Builtin.Range.small a b c=true)
  (hn:Builtin.Range.rangeSize a b c=n) (hlen:n≤2 ^ 24)
  (hQ:∀ h' tk acc,(∀ b o,s.heap.get? b=some o→h'.get? b=some o)→s.heap.objs.size≤h'.objs.size→ItemsOf (fun i v=>∃ t,v=.int (a+i*c) t) acc n→Q acc.toList { s with heap:=h',toks:=tk }) :
  wpAny (model prog w) A (collect (.ref r)) Q E s:=by
 unfold collect
 refine wpAny_bind (wpAny_runValue (codeAny_builtin F.entry_proto_collect ?_))
 rw [Around.under_plainId F.plain_proto_collect _]
 show wpAny _ A.in1 (newList [] >>= fun l =>
  again (.builtin "list.__iadd__" ⟨[l,.ref r],[]⟩)) _ _ s
 refine wpAny_bind (wpAny_newObj_type ?_)
 refine wpAny_pure ⟨plainId_quiet F.plain_list_iadd _,codeAny_builtin F.entry_list_iadd ?_⟩
 rw [Around.under_plainId F.plain_list_iadd _]
 show wpAny _ A.in1 (Builtin.List.listExtendWith (.ref s.heap.objs.size) (.ref r)
  (.ref s.heap.objs.size)) _ _ _
 have hS:(s.heap.push { cls:=.type "list",data:=.seq ([]:List Value).toArray }).get? s.heap.objs.size=some
  { cls:=.type "list",data:=.seq #[] 0 }:=Heap.get?_push_size _ rfl
 have fin':∀ (h':Heap) (tk:Nat) (acc:Array Value) (c':Nat),(∀ b o,b≠s.heap.objs.size→(s.heap.push { cls:=.type "list",data:=.seq ([]:List Value).toArray }).get? b=some o→h'.get? b=some o) →
   h'.get? s.heap.objs.size=some { cls:=.type "list",dict:=none,data:=.seq acc c',slots:=#[] }→ItemsOf (fun i v=>∃ t,v=.int (a+i*c) t) acc n →
   wpAny (model prog w) A (match Value.ref s.heap.objs.size with
    | Value.ref a=>do
     match (←load a).data with
      | Data.seq xs _=>pure xs.toList
      | _=>unsupported "internal:collect"
    | _=>unsupported "internal:collect") Q E { s with heap:=h',toks:=tk }:=fun h' tk acc c' hk hS' hacc=>by
  show wpAny _ A (load s.heap.objs.size >>= _) _ _ _
  refine wpAny_bind (wpAny_load hS' (wpAny_pure ?_))
  exact hQ h' tk acc (fun b o e=>hk b o (Nat.ne_of_lt (Heap.lt_size e)) (Heap.get?_push_of_some _ e)) (Nat.le_of_lt (Heap.lt_size hS')) hacc
 refine wpAny_mono (wpAny_extend_range (A:=A) (R:=fun r s'=>r=.ok (.ret (.ref s.heap.objs.size))∧wpAny (model prog w) A (match Value.ref s.heap.objs.size with
    | Value.ref a=>do
     match (←load a).data with
      | Data.seq xs _=>pure xs.toList
      | _=>unsupported "internal:collect"
    | _=>unsupported "internal:collect") Q E s') (s:={ s with heap:=s.heap.push { cls:=.type "list",data:=.seq ([]:List Value).toArray } }) hh (Heap.get?_push_of_some _ hr) hsmall hn hlen _ (.ref s.heap.objs.size) 0 hS
  fun h' tk acc c' hk hS' hacc=>⟨rfl,fin' h' tk acc c' hk hS' hacc⟩) (fun fin s' h=>?_) (fun e s' h=>?_)
 ·cases fin with
  | done f =>
   obtain ⟨e,h⟩:=h
   cases e
   exact h
  | again c'=>exact ⟨h.1,codeAny_mono h.2 fun r s'' hr=>by obtain ⟨rfl,h2⟩:=hr;exact h2⟩
 ·exact absurd h.1 (by simp)
end
theorem meets_tuple_rng (r:Addr) {a b c:Int} {t u v:Tok} {n:Nat} (hsmall:Builtin.Range.small a b c=true) (hn:Builtin.Range.rangeSize a b c=n) (hlen:n≤2 ^ 24) :
  Meets (Builtin.«tuple.__new__» ⟨[.type "tuple",.ref r],[]⟩)
   (fun A R s=>A.handled=none∧IsRange s.heap r a b c t u v∧∀ (h':Heap) (tk:Nat) (acc:Array Value),(∀ b o,s.heap.get? b=some o→h'.get? b=some o)→s.heap.objs.size≤h'.objs.size→ItemsOf (fun i v=>∃ t,v=.int (a+i*c) t) acc n →
    R (.ok (.ret (.ref h'.objs.size))) { s with heap:=h'.push { cls:=.type "tuple",data:=.seq acc },toks:=tk }) :=
 .of_wp fun prog w A R s h=>by
  obtain ⟨hh,hr,h⟩:=h
  have hsub:=sub_tuple_self
  have hinit:=init_tuple_lookup
  have hmh:=madeHere_tuple
  have hT:s.TypeIs (.ref r) "range":=⟨_,hr,rfl⟩
  have hh1:A.in1.handled=none:=hh
  wp_walk using wpAny_typeOf hT,collect_rng hh1 hr hsmall hn hlen
  intro h' tk acc hk hz hacc
  show wpAny _ _ (Builtin.Tuple.tupleExact acc.toList.toArray >>=
   fun v=>ret v) _ _ _
  unfold Builtin.Tuple.tupleExact
  refine wpAny_bind (wpAny_newObj_type ?_ (show acc.toList.toArray.size≤sizeLine by simp only [Array.toArray_toList];rw [hacc.1,sizeLine_eq];omega))
  refine wpAny_pure ⟨_,rfl,?_⟩
  have e:acc.toList.toArray=acc:=by simp
  rw [e]
  exact h h' tk acc hk hz hacc
section
variable {X:Cx}
theorem call_tuple_rng (hc:X.calm=true):CallR X (.type "tuple") (fun xs H Q=>∃ p lo hi,xs=[.ref p]∧H p=some (.rng lo hi)∧(-(2 ^ 62)≤lo∧lo < 2 ^ 62∧-(2 ^ 62)≤hi∧hi < 2 ^ 62)∧(hi - lo).toNat≤2 ^ 24 ∧
  ∀ l,H l=none→Q (.ref l) (upd H l (.tup (rint lo (hi - lo).toNat)))):=by
 intro pins s σ H xs us Q I r h
 obtain ⟨p,lo,hi,rfl,hp,⟨b1,b2,b3,b4⟩,hn,q⟩:=h
 obtain ⟨u,rfl,ru⟩:=vals1 r
 cases ru
 obtain ⟨t,u,v,hr⟩:=I.rng hp
 refine callType_new F.called_tuple (by decide) (F.typeCall_tuple_1 _) (F.newCall_tuple_1 _) (fun obj=>F.args_object_init_2 obj _) F.entry_tuple_new
  (meets_tuple_rng p (t:=t) (u:=u) (v:=v) (small_one b1 b2 b3 b4) rng_size hn) ⟨I.ok.hd hc,hr,fun h' tk acc hk hz hacc=>⟨⟨_,Heap.get?_push_size _ rfl,rfl⟩,?_⟩⟩
 have hv:=vals_of_items rfl hacc
 have hf:H h'.objs.size=none:=I.hok.fresh hz
 refine ⟨.ref _,_,I.laid (o:=.tup (rint lo (hi - lo).toNat)) (fun b u e=>Heap.get?_push_of_some _ (hk b u e)) hz ⟨by rw [rint_length,sizeLine_eq];omega,acc.toList,0,hv,by rw [show acc.toList.toArray=acc by simp];exact Heap.get?_push_size _ rfl⟩,rfl,q _ hf⟩
end
/-! ### all(xs),any(xs) of a list of bools -/
section
variable {X:Cx}
theorem truth_bools {prog:Program} {w:World} {A:Around} {its:Array Value} {bs:List Bool} (r:Vals (bs.map V.bl) its.toList):TruthOf prog w A (fun i v=>its[i]?=some v) (fun i=>bs.getD i false):=by
 intro i v s Q E hi hq
 have hl:=r.length
 rw [List.length_map] at hl
 have hlt:i < bs.length:=by
  have:i < its.size:=by
   rcases Nat.lt_or_ge i its.size with z | z
   ·exact z
   ·rw [Array.getElem?_eq_none z] at hi;cases hi
  simp at hl;omega
 have h1:(bs.map V.bl)[i]?=some (.bl bs[i]):=by simp [hlt]
 obtain ⟨u,hu,ru⟩:=r.get h1
 have:u=v:=by
  have e:its.toList[i]?=some v:=by simpa using hi
  rw [e] at hu
  exact (Option.some.inj hu).symm
 subst this
 cases ru
 refine wpAny_truthy_bool ?_
 have e:bs.getD i false=bs[i]:=by simp [hlt]
 have hq':Q (bs.getD i false) s:=hq
 rw [e] at hq'
 exact hq'
theorem range_any {n:Nat} {bs:List Bool} (h:bs.length=n):(List.range n).any (fun i=>bs.getD i false)=bs.any id:=by
 subst h
 rw [Bool.eq_iff_iff,List.any_eq_true,List.any_eq_true]
 constructor
 ·rintro ⟨i,hi,e⟩
  have hi:i < bs.length:=by simpa using hi
  refine ⟨bs[i],List.getElem_mem hi,?_⟩
  simp [hi] at e
  exact e
 ·rintro ⟨b,hb,e⟩
  obtain ⟨i,hi,e'⟩:=List.getElem_of_mem hb
  refine ⟨i,by simpa using hi,?_⟩
  simp [hi,e']
  exact e
theorem call_any (hc:X.calm=true):CallR X (.builtin "any") (fun xs H Q=>∃ (p:Addr) (bs:List Bool),xs=[.ref p]∧SqL X.K H p (bs.map V.bl)∧Q (.bl (bs.any id)) H):=by
 intro pins s σ H xs us Q I r h
 obtain ⟨p,bs,rfl,hp,q⟩:=h
 obtain ⟨u,rfl,ru⟩:=vals1 r
 cases ru
 obtain ⟨its,rv,pl,hz⟩:=I.list hp
 have hlt:p < s.heap.objs.size:=by obtain ⟨o,n,e,_⟩:=pl;exact Heap.lt_size e
 have hl:=rv.length
 rw [List.length_map] at hl
 refine call_any_walk (wpAny_pyIter_list pl.isList ?_)
 refine ⟨s.heap.objs.size,_,_,_,_,_,fun i=>bs.getD i false,rfl,Walks.list (A:=X.A.in1) (show X.A.in1.handled=none from I.ok.hd hc) s.heap.objs.size p (Nat.ne_of_lt hlt) its.toArray,⟨⟨_,Heap.get?_push_size _ rfl,rfl,rfl⟩,Heap.IsList.push pl.isList _⟩,truth_bools (by simpa using rv),fun h' tk hk=>?_⟩
 rw [range_any (by simpa using hl)]
 exact ⟨.bl _,H,I.kept (t':=tk) (fun b o e=>hk b o (by simpa using (Nat.ne_of_lt (Heap.lt_size e))) (Heap.get?_push_of_some _ e)),rfl,q⟩
end
end L2

set_option Elab.async false
set_option linter.all false
set_option maxRecDepth 100000
set_option maxHeartbeats 4000000
namespace L2
open PySem PySem.Spec PyProof.Rows
open PySem.AutoSeq1 (wpAny_loadPart')

/-! ### enumerate over a tuple -/
section
variable {prog:Program} {w:World} {A:Around} {E:Value→Shared→Prop} {s:Shared}
end

end L2

set_option Elab.async false
set_option linter.all false
set_option maxRecDepth 100000
set_option maxHeartbeats 4000000
namespace L2
open PySem PySem.Spec PyProof.Rows

section
variable {X:Cx} {elts:List Expr} {tk:Nat} {tp:Pos}
/-! ### zip over two lists -/
end
end L2

set_option Elab.async false
set_option linter.all false
set_option maxRecDepth 100000
set_option maxHeartbeats 4000000
namespace L2
open PySem PySem.Spec PyProof.Rows
open PySem.AutoSeq1 (wpAny_loadPart')

/-! ### data: what a value stands for,through its tuples and lists -/
inductive D where
 | non | bl (b:Bool) | int (i:Int) | str (x:Str) | tup (ds:List D) | lst (ds:List D)
mutual
def Dr (K:PySem.W.Frag) (H:Hp):D→V→Prop
 | .non,v=>v=.non
 | .bl b,v=>v=.bl b
 | .int i,v=>v=.int i
 | .str x,v=>v=.str x
 | .tup ds,v=>∃ (a:Addr) (vs:List V),v=.ref a∧H a=some (.tup vs)∧DrL K H ds vs
 | .lst ds,v=>∃ (a:Addr) (vs:List V),v=.ref a∧SqL K H a vs∧DrL K H ds vs
def DrL (K:PySem.W.Frag) (H:Hp):List D→List V→Prop
 | [],vs=>vs=[]
 | d::ds,vs=>∃ v r,vs=v::r∧Dr K H d v∧DrL K H ds r
end
mutual
theorem Dr.mono {K:PySem.W.Frag} {H H':Hp} (s:Same H H'):∀ {d:D} {v:V},Dr K H d v→Dr K H' d v
 | .non,_,h=>by simp only [Dr] at h ⊢;exact h
 | .bl _,_,h=>by simp only [Dr] at h ⊢;exact h
 | .int _,_,h=>by simp only [Dr] at h ⊢;exact h
 | .str _,_,h=>by simp only [Dr] at h ⊢;exact h
 | .tup ds,_,h=>by
  simp only [Dr] at h ⊢
  obtain ⟨a,vs,e,q,r⟩:=h
  exact ⟨a,vs,e,s _ _ q,DrL.mono s r⟩
 | .lst ds,_,h=>by
  simp only [Dr] at h ⊢
  obtain ⟨a,vs,e,q,r⟩:=h
  exact ⟨a,vs,e,s.seq q,DrL.mono s r⟩
theorem DrL.mono {K:PySem.W.Frag} {H H':Hp} (s:Same H H'):∀ {ds:List D} {vs:List V},DrL K H ds vs→DrL K H' ds vs
 | [],_,h=>by simp only [DrL] at h ⊢;exact h
 | d::ds,_,h=>by
  simp only [DrL] at h ⊢
  obtain ⟨v,r,e,q,q'⟩:=h
  exact ⟨v,r,e,Dr.mono s q,DrL.mono s q'⟩
end
theorem DrL.length {K:PySem.W.Frag} {H:Hp}:∀ {ds:List D} {vs:List V},DrL K H ds vs→ds.length=vs.length
 | [],_,h=>by simp only [DrL] at h;subst h;rfl
 | d::ds,_,h=>by
  simp only [DrL] at h
  obtain ⟨v,r,rfl,_,q⟩:=h
  rw [List.length_cons,List.length_cons,DrL.length q]
theorem DrL.get {K:PySem.W.Frag} {H:Hp}:∀ {ds:List D} {vs:List V} {i:Nat} {d:D},DrL K H ds vs→ds[i]?=some d→∃ v,vs[i]?=some v∧Dr K H d v
 | [],_,_,_,_,e=>by simp at e
 | d::ds,_,0,_,h,e=>by
  simp only [DrL] at h
  obtain ⟨v,r,rfl,q,_⟩:=h
  simp at e;subst e
  exact ⟨v,rfl,q⟩
 | d::ds,_,i+1,d',h,e=>by
  simp only [DrL] at h
  obtain ⟨v,r,rfl,_,q⟩:=h
  obtain ⟨v',h1,h2⟩:=DrL.get (i:=i) q (by simpa using e)
  exact ⟨v',by simpa using h1,h2⟩
theorem DrL.append {K:PySem.W.Frag} {H:Hp}:∀ {ds es:List D} {vs us:List V},DrL K H ds vs→DrL K H es us→DrL K H (ds++es) (vs++us)
 | [],_,_,_,h,h'=>by simp only [DrL] at h;subst h;exact h'
 | d::ds,es,_,us,h,h'=>by
  simp only [DrL] at h
  obtain ⟨v,r,rfl,q,q'⟩:=h
  show DrL K H (d::(ds++es)) (v::(r++us))
  simp only [DrL]
  exact ⟨v,_,rfl,q,DrL.append q' h'⟩
theorem DrL.one {K:PySem.W.Frag} {H:Hp} {d:D} {v:V} (h:Dr K H d v):DrL K H [d] [v]:=by
 simp only [DrL];exact ⟨v,[],rfl,h,rfl⟩
theorem DrL.nil {K:PySem.W.Frag} {H:Hp}:DrL K H [] []:=by simp only [DrL]
theorem DrL.cons {K:PySem.W.Frag} {H:Hp} {d:D} {v:V} {ds:List D} {vs:List V} (h:Dr K H d v) (h':DrL K H ds vs):DrL K H (d::ds) (v::vs):=by
 simp only [DrL];exact ⟨v,vs,rfl,h,h'⟩
theorem DrL.ints {K:PySem.W.Frag} {H:Hp}:∀ (ns:List Int),DrL K H (ns.map D.int) (ns.map V.int)
 | []=>DrL.nil
 | n::r=>DrL.cons (by simp only [Dr]) (DrL.ints r)
theorem DrL.ints_inv {K:PySem.W.Frag} {H:Hp}:∀ {ns:List Int} {vs:List V},DrL K H (ns.map D.int) vs→vs=ns.map V.int
 | [],_,h=>by simp only [List.map_nil,DrL] at h;rw [h];rfl
 | n::r,_,h=>by
  simp only [List.map_cons,DrL] at h
  obtain ⟨v,w,rfl,q,q'⟩:=h
  simp only [Dr] at q
  subst q
  rw [DrL.ints_inv q',List.map_cons]
theorem Dr.tup {K:PySem.W.Frag} {H:Hp} {a:Addr} {ds:List D} {vs:List V} (h:H a=some (.tup vs)) (r:DrL K H ds vs):Dr K H (.tup ds) (.ref a):=by
 simp only [Dr];exact ⟨a,vs,rfl,h,r⟩
theorem Dr.int {K:PySem.W.Frag} {H:Hp} (i:Int):Dr K H (.int i) (.int i):=by simp only [Dr]
abbrev D.its (ns:List Int):D:=.tup (ns.map D.int)
end L2

set_option Elab.async false
set_option linter.all false
set_option maxRecDepth 100000
set_option maxHeartbeats 4000000
namespace L2
open PySem PySem.Spec PyProof.Rows
open PySem.SeqAt

/-! ### == of data -/
mutual
def D.eq:D→D→Bool
 | .non,.non=>true
 | .bl a,.bl b=>a == b
 | .int i,.int j=>i == j
 | .str x,.str y=>decide (x=y)
 | .tup a,.tup b=>D.eqL a b
 | .lst a,.lst b=>D.eqL a b
 | _,_=>false
def D.eqL:List D→List D→Bool
 | [],[]=>true
 | d::ds,e::es=>D.eq d e && D.eqL ds es
 | _,_=>false
end
mutual
def D.ok:D→D→Prop
 | .non,.non=>True
 | .bl _,.bl _=>True
 | .int _,.int _=>True
 | .str _,.str _=>True
 | .tup a,.tup b=>D.okL a b
 | .lst a,.lst b=>D.okL a b
 | _,_=>False
def D.okL:List D→List D→Prop
 | d::ds,e::es=>D.ok d e∧D.okL ds es
 | _,_=>True
end
mutual
def D.dep:D→Nat
 | .tup a=>D.depL a+1
 | .lst a=>D.depL a+1
 | _=>0
def D.depL:List D→Nat
 | []=>0
 | d::ds=>max (D.dep d) (D.depL ds)
end
mutual
theorem D.eq_refl:∀ d:D,D.eq d d=true
 | .non=>by simp only [D.eq]
 | .bl b=>by simp only [D.eq,beq_self_eq_true]
 | .int i=>by simp only [D.eq,beq_self_eq_true]
 | .str x=>by simp only [D.eq,decide_true]
 | .tup a=>by simp only [D.eq];exact D.eqL_refl a
 | .lst a=>by simp only [D.eq];exact D.eqL_refl a
theorem D.eqL_refl:∀ ds:List D,D.eqL ds ds=true
 | []=>by simp only [D.eqL]
 | d::ds=>by simp only [D.eqL,D.eq_refl d,D.eqL_refl ds,Bool.and_self]
end
mutual
theorem D.eq_of:∀ {d e:D},D.eq d e=true→d=e
 | .non,e,h=>by cases e<;>simp only [D.eq,Bool.false_eq_true] at h<;>rfl
 | .bl b,e,h=>by cases e<;>simp only [D.eq,Bool.false_eq_true,beq_iff_eq] at h;rw [h]
 | .int b,e,h=>by cases e<;>simp only [D.eq,Bool.false_eq_true,beq_iff_eq] at h;rw [h]
 | .str b,e,h=>by cases e<;>simp only [D.eq,Bool.false_eq_true,decide_eq_true_eq] at h;rw [h]
 | .tup b,e,h=>by
  cases e<;>simp only [D.eq,Bool.false_eq_true] at h
  rw [D.eqL_of h]
 | .lst b,e,h=>by
  cases e<;>simp only [D.eq,Bool.false_eq_true] at h
  rw [D.eqL_of h]
theorem D.eqL_of:∀ {d e:List D},D.eqL d e=true→d=e
 | [],e,h=>by cases e<;>simp only [D.eqL,Bool.false_eq_true] at h;rfl
 | d::ds,e,h=>by
  cases e<;>simp only [D.eqL,Bool.false_eq_true,Bool.and_eq_true] at h
  rw [D.eq_of h.1,D.eqL_of h.2]
end
theorem D.depL_get:∀ {ds:List D} {j:Nat} {d:D},ds[j]?=some d→D.dep d≤D.depL ds
 | [],_,_,h=>by simp at h
 | _::_,0,_,h=>by
  simp at h;subst h;simp only [D.depL];exact Nat.le_max_left _ _
 | _::ds,j+1,_,h=>by
  simp only [D.depL]
  exact Nat.le_trans (D.depL_get (ds:=ds) (j:=j) (by simpa using h)) (Nat.le_max_right _ _)
def D.at_ (ds es:List D) (j:Nat):Bool:=match ds[j]?,es[j]? with | some d,some e=>D.eq d e | _,_=>true
theorem D.all_eqL:∀ (ds es:List D),(((List.range (min ds.length es.length)).all (D.at_ ds es)) && ds.length == es.length)=D.eqL ds es
 | [],[]=>by simp [D.eqL]
 | [],e::es=>by simp [D.eqL]
 | d::ds,[]=>by simp [D.eqL]
 | d::ds,e::es=>by
  have ih:=D.all_eqL ds es
  simp only [D.eqL]
  rw [←ih]
  have e1:min (d::ds).length (e::es).length=min ds.length es.length+1:=by simp only [List.length_cons];omega
  rw [e1,List.range_succ_eq_map,List.all_cons,List.all_map,Bool.and_assoc]
  have e2:D.at_ (d::ds) (e::es) 0=D.eq d e:=by simp [D.at_]
  have e3:(D.at_ (d::ds) (e::es) ∘ Nat.succ)=D.at_ ds es:=by funext j;simp [D.at_]
  have e4:((d::ds).length == (e::es).length)=(ds.length == es.length):=by simp
  rw [e2,e3,e4]
section
variable {X:Cx} {pins:List (Addr × Obj)} {σ:St} {H:Hp} {s:Shared}
/-! ### isinstance of a built-in type -/
end
end L2

set_option Elab.async false
set_option maxRecDepth 100000
set_option maxHeartbeats 4000000
namespace L2
open PySem PySem.Spec PyProof.Rows PySem.SeqAt
open PySem.AutoSeq1 (wpAny_loadPart')
section
variable {X:Cx}
end
end L2

set_option Elab.async false
set_option linter.all false
set_option maxRecDepth 100000
set_option maxHeartbeats 4000000
namespace L2
open PySem PySem.Spec PyProof.Rows
/-! ### the rules that name the fragment,said of a fragment that is handed in (a block's context hides its own) -/
section
variable {X:Cx} (K:PySem.W.Frag)
theorem ixL (h:X.K=K):IxR X (rIxL K):=h ▸ ix_list
theorem ixT (h:X.K=K):IxR X (rIxT K):=h ▸ ix_tup
theorem cTup (h:X.K=K):CallR X (.type "tuple") (fun xs H Q=>∃ p ys,xs=[.ref p]∧((SqL K H p ys∧∀ l,H l=none→Q (.ref l) (upd H l (.tup ys)))∨(SqT K H p ys∧Q (.ref p) H))):=h ▸ call_tuple_of
theorem piT {tg l:Expr} {tl:TE} (h:X.K=K) (hl:PE X l tl):PI X tg l (iTup K tl):=h ▸ pi_tup hl
variable {o e:Expr} {es:List Expr} {to:TE} {t:TA} {name:Str} {apos cpos:Pos} {T id:String} {r:V→List V→Hp→VK→Prop}
theorem cAny (h:X.K=K) (hc:X.calm=true):CallR X (.builtin "any") (fun xs H Q=>∃ (p:Addr) (bs:List Bool),xs=[.ref p]∧SqL K H p (bs.map V.bl)∧Q (.bl (bs.any _root_.id)) H):=h ▸ call_any hc
end
/-! no list or tuple in it is long -/
mutual
def D.few:D→Prop
 | .tup a=>a.length≤5000∧D.fewL a
 | .lst a=>a.length≤5000∧D.fewL a
 | _=>True
def D.fewL:List D→Prop
 | []=>True
 | d::ds=>D.few d∧D.fewL ds
end
theorem D.depL_ints:∀ ns:List Int,D.depL (ns.map D.int)=0
 | []=>by simp only [List.map_nil,D.depL]
 | n::r=>by simp only [List.map_cons,D.depL,D.dep,D.depL_ints r];rfl
end L2

set_option Elab.async false
set_option linter.all false
set_option maxRecDepth 100000
set_option maxHeartbeats 4000000
namespace Gu
open PySem L2
/-! ### what the law's own defs reckon -/
def cell (ns:List Int) (i:Nat):Int:=if i < ns.length then ns.getD i 0 else if ns.length=0 then 29*i+5 else ns.getD (i % ns.length) 0 % 1000003+103*i
def letters (ns:List Int) (i:Nat):Int:=2+cell ns i % 4
theorem letters_ge (ns:List Int) (i:Nat):2≤letters ns i:=by unfold letters;have:=Int.emod_nonneg (cell ns i) (show (4:Int)≠0 by decide);omega
theorem letters_le (ns:List Int) (i:Nat):letters ns i≤5:=by unfold letters;have:=Int.emod_lt_of_pos (cell ns i) (show (0:Int) < 4 by decide);omega
def letN (ns:List Int) (i:Nat):Nat:=(letters ns i).toNat
theorem letN_ge (ns:List Int) (i:Nat):2≤letN ns i:=by unfold letN;have:=letters_ge ns i;omega
theorem letN_le (ns:List Int) (i:Nat):letN ns i≤5:=by unfold letN;have:=letters_le ns i;omega
theorem letN_int (ns:List Int) (i:Nat):((letN ns i:Nat):Int)=2+cell ns i % 4:=by unfold letN;have:=letters_ge ns i;unfold letters at *;omega
def iota (n:Nat):List Int:=(List.range n).map fun (i:Nat)=>(i:Int)
theorem iota_len (n:Nat):(iota n).length=n:=by simp [iota]
theorem iota_get {n i:Nat} (h:i < n):(iota n)[i]?=some (i:Int):=by simp [iota,h]
theorem mem_iota {n:Nat} {x:Int}:x∈iota n↔0≤x∧x < n:=by
 constructor
 ·intro h
  obtain ⟨i,hi,rfl⟩:=List.mem_map.mp h
  have:=List.mem_range.mp hi
  omega
 ·intro ⟨h0,h1⟩
  exact List.mem_map.mpr ⟨x.toNat,List.mem_range.mpr (by omega),by omega⟩
theorem iota_nodup (n:Nat):(iota n).Nodup:=by
 unfold iota
 rw [List.nodup_iff_pairwise_ne,List.pairwise_map]
 exact List.Pairwise.imp (fun h=>by omega) List.nodup_range
theorem rint_iota (n:Nat):rint 0 n=(iota n).map V.int:=by
 unfold rint iota
 rw [List.map_map]
 refine List.map_congr_left fun i _=>?_
 simp
theorem cons_erase_perm:∀ (l:List Int) (i:Nat) (h:i < l.length),(l[i]::l.eraseIdx i).Perm l
 | [],_,h=>by simp at h
 | a::r,0,_=>List.Perm.refl _
 | a::r,i+1,h=>by
  have ih:=cons_erase_perm r i (by simpa using h)
  show (r[i]'(by simpa using h)::a::r.eraseIdx i).Perm (a::r)
  exact (List.Perm.swap _ _ _).trans (ih.cons a)
def rear:Nat→Int→List Int→List Int
 | 0,_,_=>[]
 | k+1,p,left=>left.getD (p % (left.length:Int)).toNat 0::rear k (p / (left.length:Int)) (left.eraseIdx (p % (left.length:Int)).toNat)
def rearr (pick:Int) (n:Nat):List Int:=rear n pick (iota n)
theorem rear_perm:∀ (k:Nat) (p:Int) (left:List Int),left.length=k→(rear k p left).Perm left
 | 0,_,left,h=>by
  have:left=[]:=List.length_eq_zero_iff.mp h
  subst this
  exact List.Perm.refl _
 | k+1,p,left,h=>by
  have hpos:(0:Int) < left.length:=by omega
  have h0:=Int.emod_nonneg p (show (left.length:Int)≠0 by omega)
  have h1:=Int.emod_lt_of_pos p hpos
  have hi:(p % (left.length:Int)).toNat < left.length:=by omega
  unfold rear
  have e:left.getD (p % (left.length:Int)).toNat 0=left[(p % (left.length:Int)).toNat]:=by simp [hi]
  rw [e]
  have ih:=rear_perm k (p / (left.length:Int)) (left.eraseIdx (p % (left.length:Int)).toNat) (by rw [List.length_eraseIdx_of_lt hi];omega)
  exact (ih.cons _).trans (cons_erase_perm _ _ hi)
theorem rearr_perm (pick:Int) (n:Nat):(rearr pick n).Perm (iota n):=rear_perm n pick (iota n) (iota_len n)
def IsP (n:Nat) (p:List Int):Prop:=p.Perm (iota n)
theorem IsP.len {n:Nat} {p:List Int} (h:IsP n p):p.length=n:=by rw [List.Perm.length_eq h,iota_len]
def turn (one other:List Int):List Int:=one.map fun x=>other.getD x.toNat 0
def back (p:List Int):List Int:=(iota p.length).map fun k=>((p.idxOf k:Nat):Int)
end Gu

set_option Elab.async false
set_option linter.all false
set_option maxRecDepth 100000
set_option maxHeartbeats 4000000
namespace L2
open PySem PySem.Spec PyProof.Rows PySem.SeqAt

/-! ### tuples within tuples as keys of a dict -/
instance:DecidableEq D:=fun a b=>if h:D.eq a b=true then isTrue (D.eq_of h) else isFalse fun e=>h (by rw [e];exact D.eq_refl b)
theorem D.dec (a b:D):decide (a=b)=D.eq a b:=by
 by_cases h:D.eq a b=true
 ·rw [decide_eq_true (D.eq_of h),h]
 ·rw [decide_eq_false (fun e=>h (by rw [e];exact D.eq_refl b)),Bool.eq_false_iff.mpr h]
mutual
def Hd (h:Heap):D→Value→Prop
 | .int i,v=>∃ t,v=.int i t
 | .tup ds,v=>∃ (a:Addr) (o:Obj) (its:Array Value) (n:Nat),v=.ref a∧h.get? a=some o∧o.cls=.type "tuple"∧o.data=.seq its n∧HdL h ds its.toList
 | _,_=>False
def HdL (h:Heap):List D→List Value→Prop
 | [],vs=>vs=[]
 | d::ds,vs=>∃ v r,vs=v::r∧Hd h d v∧HdL h ds r
end
mutual
def D.hash:D→Int
 | .int i=>hashInt i
 | .tup ds=>reduceHash (Builtin.Tuple.tupleHashOf (D.hashL ds))
 | _=>0
def D.hashL:List D→List Int
 | []=>[]
 | d::ds=>D.hash d::D.hashL ds
end
mutual
def D.draws:D→Nat
 | .tup ds=>D.drawsL ds+1
 | _=>1
def D.drawsL:List D→Nat
 | []=>0
 | d::ds=>D.draws d+D.drawsL ds
end
theorem D.hashL_app:∀ a b:List D,D.hashL (a++b)=D.hashL a++D.hashL b
 | [],b=>by simp only [List.nil_append,D.hashL]
 | d::a,b=>by simp only [List.cons_append,D.hashL,D.hashL_app a b]
theorem D.drawsL_app:∀ a b:List D,D.drawsL (a++b)=D.drawsL a+D.drawsL b
 | [],b=>by simp only [List.nil_append,D.drawsL,Nat.zero_add]
 | d::a,b=>by simp only [List.cons_append,D.drawsL,D.drawsL_app a b,Nat.add_assoc]
theorem HdL.length {h:Heap}:∀ {ds:List D} {vs:List Value},HdL h ds vs→ds.length=vs.length
 | [],_,h=>by simp only [HdL] at h;subst h;rfl
 | d::ds,_,h=>by
  simp only [HdL] at h
  obtain ⟨v,r,rfl,_,q⟩:=h
  rw [List.length_cons,List.length_cons,HdL.length q]
theorem HdL.get {h:Heap}:∀ {ds:List D} {vs:List Value} {i:Nat} {d:D},HdL h ds vs→ds[i]?=some d→∃ v,vs[i]?=some v∧Hd h d v
 | [],_,_,_,_,e=>by simp at e
 | d::ds,_,0,_,h,e=>by
  simp only [HdL] at h
  obtain ⟨v,r,rfl,q,_⟩:=h
  simp at e;subst e
  exact ⟨v,rfl,q⟩
 | d::ds,_,i+1,d',h,e=>by
  simp only [HdL] at h
  obtain ⟨v,r,rfl,_,q⟩:=h
  obtain ⟨v',h1,h2⟩:=HdL.get (i:=i) q (by simpa using e)
  exact ⟨v',by simpa using h1,h2⟩
mutual
theorem Hd.keep {h h':Heap} (k:∀ a o its n,h.get? a=some o→o.cls=.type "tuple"→o.data=.seq its n→h'.get? a=some o):∀ {d:D} {v:Value},Hd h d v→Hd h' d v
 | .int _,_,q=>by simp only [Hd] at q ⊢;exact q
 | .tup ds,_,q=>by
  simp only [Hd] at q ⊢
  obtain ⟨a,o,its,n,e,h1,h2,h3,h4⟩:=q
  exact ⟨a,o,its,n,e,k a o its n h1 h2 h3,h2,h3,HdL.keep k h4⟩
 | .non,_,q=>by simp only [Hd] at q
 | .bl _,_,q=>by simp only [Hd] at q
 | .str _,_,q=>by simp only [Hd] at q
 | .lst _,_,q=>by simp only [Hd] at q
theorem HdL.keep {h h':Heap} (k:∀ a o its n,h.get? a=some o→o.cls=.type "tuple"→o.data=.seq its n→h'.get? a=some o):∀ {ds:List D} {vs:List Value},HdL h ds vs→HdL h' ds vs
 | [],_,q=>by simp only [HdL] at q ⊢;exact q
 | d::ds,_,q=>by
  simp only [HdL] at q ⊢
  obtain ⟨v,r,e,q1,q2⟩:=q
  exact ⟨v,r,e,Hd.keep k q1,HdL.keep k q2⟩
end
mutual
theorem Hd.inj {h:Heap}:∀ {d e:D} {v:Value},Hd h d v→Hd h e v→d=e
 | .int _,e,v,p,q=>by
  simp only [Hd] at p
  obtain ⟨t,rfl⟩:=p
  cases e<;>simp only [Hd] at q
  ·obtain ⟨t',e⟩:=q;injection e with e;rw [e]
  ·obtain ⟨a,_,_,_,e,_⟩:=q;cases e
 | .tup ds,e,v,p,q=>by
  simp only [Hd] at p
  obtain ⟨a,o,its,n,rfl,h1,h2,h3,h4⟩:=p
  cases e<;>simp only [Hd] at q
  ·obtain ⟨t',e⟩:=q;cases e
  ·obtain ⟨b,o',its',n',e,g1,g2,g3,g4⟩:=q
   cases e
   rw [h1] at g1;cases g1
   rw [h3] at g3;injection g3 with e1 _;subst e1
   rw [HdL.inj h4 g4]
 | .non,_,_,q,_=>by simp only [Hd] at q
 | .bl _,_,_,q,_=>by simp only [Hd] at q
 | .str _,_,_,q,_=>by simp only [Hd] at q
 | .lst _,_,_,q,_=>by simp only [Hd] at q
theorem HdL.inj {h:Heap}:∀ {ds es:List D} {vs:List Value},HdL h ds vs→HdL h es vs→ds=es
 | [],[],_,_,_=>rfl
 | [],_::_,_,p,q=>by
  simp only [HdL] at p q
  obtain ⟨_,_,e,_⟩:=q;rw [p] at e;cases e
 | _::_,[],_,p,q=>by
  simp only [HdL] at p q
  obtain ⟨_,_,e,_⟩:=p;rw [q] at e;cases e
 | d::ds,e::es,_,p,q=>by
  simp only [HdL] at p q
  obtain ⟨v,r,rfl,p1,p2⟩:=p
  obtain ⟨u,w,eq,q1,q2⟩:=q
  cases eq
  rw [Hd.inj p1 q1,HdL.inj p2 q2]
end
section
variable {prog:Program} {w:World}
theorem hash_data:∀ (n:Nat) {A:Around} {E:Value→Shared→Prop} {s:Shared} {d:D} {v:Value} {Q:Int→Shared→Prop},D.dep d≤n→A.units+n < cLine→Hd s.heap d v→Q (D.hash d) { s with toks:=s.toks+D.draws d }→wpAny (model prog w) A (pyHash v) Q E s:=by
 intro n
 induction n with
 | zero =>
  intro A E s d v Q hd hu hv h
  cases d<;>simp only [Hd] at hv<;>simp only [D.dep,Nat.le_zero,Nat.add_eq_zero_iff,Nat.one_ne_zero,and_false] at hd
  obtain ⟨t,rfl⟩:=hv
  exact wpAny_pyHash_int h
 | succ n ih =>
  intro A E s d v Q hd hu hv h
  cases d with
  | int i =>
   simp only [Hd] at hv
   obtain ⟨t,rfl⟩:=hv
   exact wpAny_pyHash_int h
  | tup ds =>
   simp only [Hd] at hv
   simp only [D.dep] at hd
   obtain ⟨a,o,its,m,rfl,ho,hc,hdd,hi⟩:=hv
   have hT:s.TypeIs (.ref a) "tuple":=⟨o,ho,hc⟩
   have hin:A.in1.units+n < cLine:=by show A.units+1+n < cLine;omega
   unfold pyHash
   first | unfold pyHashByItsType | skip
   first | refine wpAny_bind (wpAny_cRoomFor_or (.inr (show A.units < cLine by omega)) ?_) | skip
   refine wpAny_bind (wpAny_specialOf hT F.slot_tuple_hash.lookup ?_)
   show wpAny _ _ (if (some (Value.builtin "tuple.__hash__") == some Value.none)=true
    then _ else _) Q E s
   rw [if_neg (by rw [beq_builtin_none];exact Bool.false_ne_true)]
   refine wpAny_bind (wpAny_specialOf hT F.slot_tuple_hash.lookup ?_)
   show wpAny _ _ (callSpecialIfBoundUnlessNone? (.ref a) "__hash__" _
    >>= _) Q E s
   refine wpAny_bind (wpAny_callSpecialIfBoundUnlessNone?_slot hT F.slot_tuple_hash (wpAny_call_entry F.slot_tuple_hash
    hT F.entry_tuple_hash ?_ (F.args_tuple_hash_1 _)))
   show wpAny _ _ (Builtin.Tuple.tupleItemsOf (.ref a) >>= _) _ _ s
   refine wpAny_bind (wpAny_tupleItemsOf ho hdd (wpAny_bind ?_))
   rw [←Array.forIn_toList]
   refine wpAny_forIn_list _ (fun rest (b:Array Int) s'=>∃ done left,ds=done++left∧HdL s.heap left rest∧b.toList=D.hashL done∧s'={ s with toks:=s.toks+D.drawsL done }) _ ?_ ?_ _ _ ⟨[],ds,rfl,hi,by simp only [D.hashL],by simp only [D.drawsL,Nat.add_zero]⟩
   ·rintro x rest b s' ⟨done,left,e,hl,hb,rfl⟩
    cases left with
    | nil=>simp only [HdL] at hl;cases hl
    | cons k ks =>
     simp only [HdL] at hl
     obtain ⟨v',r,ev,q1,q2⟩:=hl
     cases ev
     have hk:D.dep k≤n:=by
      have z:ds[done.length]?=some k:=by rw [e];simp
      have:=D.depL_get z
      omega
     refine wpAny_bind (ih hk hin q1 ?_)
     have fin:∃ done' left',ds=done'++left'∧HdL s.heap left' rest∧(b.push (D.hash k)).toList=D.hashL done'∧({ s with toks:=s.toks+D.drawsL done+D.draws k }:Shared)={ s with toks:=s.toks+D.drawsL done' } :=
      ⟨done++[k],ks,by rw [e];simp,q2,by rw [D.hashL_app,←hb];simp [D.hashL],by rw [D.drawsL_app];simp only [D.drawsL,Nat.add_zero,Nat.add_assoc]⟩
     first
      | exact wpAny_pure fin
      | exact wpAny_bind (wpAny_pure (wpAny_pure fin))
   ·rintro b s' ⟨done,left,e,hl,hb,rfl⟩
    cases left with
    | cons k ks=>simp only [HdL] at hl;obtain ⟨_,_,e,_⟩:=hl;cases e
    | nil =>
     rw [List.append_nil] at e
     subst e
     show wpAny _ _ (retInt (Builtin.Tuple.tupleHashOf b.toList))
      _ _ _
     rw [hb]
     refine wpAny_ret_mkInt ?_
     show wpAny _ _ (if (decide (-(2:Int) ^ 63≤Builtin.Tuple.tupleHashOf (D.hashL ds)) && decide (Builtin.Tuple.tupleHashOf (D.hashL ds) < 2 ^ 63))=true then _ else _) Q E _
     simp only [D.hash] at h
     unfold reduceHash at h
     simp only [D.draws] at h
     by_cases hr:(decide (-(2:Int) ^ 63≤Builtin.Tuple.tupleHashOf (D.hashL ds)) && decide (Builtin.Tuple.tupleHashOf (D.hashL ds) < 2 ^ 63))=true
     ·rw [if_pos hr]
      rw [if_pos hr] at h
      exact wpAny_pure (by simpa [Nat.add_assoc] using h)
     ·rw [if_neg hr]
      rw [if_neg hr] at h
      exact wpAny_bind (wpAny_rule (wpAny_pure (by simpa [Nat.add_assoc] using h)))
  | non=>simp only [Hd] at hv
  | bl _=>simp only [Hd] at hv
  | str _=>simp only [Hd] at hv
  | lst _=>simp only [Hd] at hv
end
end L2

set_option Elab.async false
set_option linter.all false
set_option maxRecDepth 100000
set_option maxHeartbeats 4000000
namespace L2
open PySem PySem.Spec PyProof.Rows PySem.SeqAt
section
variable {prog:Program} {w:World}
theorem eq_data {s:Shared}:∀ (n:Nat) (A:Around) {d e:D} {v u:Value},D.dep d≤n→A.units+n < cLine→Hd s.heap d v→Hd s.heap e u→EqAt A s v u (D.eq d e):=by
 intro n
 induction n with
 | zero =>
  intro A d e v u hd hu hv hx
  cases d<;>simp only [Hd] at hv<;>simp only [D.dep,Nat.le_zero,Nat.add_eq_zero_iff,Nat.one_ne_zero,and_false] at hd
  obtain ⟨t,rfl⟩:=hv
  cases e<;>simp only [Hd] at hx
  ·obtain ⟨t',rfl⟩:=hx
   simp only [D.eq]
   exact EqAt.int_int _ _ _ _
  ·obtain ⟨a,o,its,m,rfl,ho,hc,hdd,hi⟩:=hx
   simp only [D.eq]
   exact EqAt.int_tuple _ _ (items:=its) ⟨o,ho,hc,m,hdd⟩ (by omega)
 | succ n ih =>
  intro A d e v u hd hu hv hx
  have hin:A.in1.units+n < cLine:=by show A.units+1+n < cLine;omega
  cases d with
  | int i=>exact ih A (Nat.zero_le _) (by omega) hv hx
  | tup ds =>
   simp only [Hd] at hv
   simp only [D.dep] at hd
   obtain ⟨a,o,its,m,rfl,ho,hc,hdd,hi⟩:=hv
   have ta:s.heap.IsTuple a its:=⟨o,ho,hc,m,hdd⟩
   cases e with
   | int j =>
    simp only [Hd] at hx
    obtain ⟨t',rfl⟩:=hx
    simp only [D.eq]
    exact EqAt.tuple_int _ _ ta (by omega)
   | tup es =>
    have inj:Value.ref a=u→D.tup ds=D.tup es:=fun z=>Hd.inj (h:=s.heap) (v:=u) (by rw [←z];simp only [Hd];exact ⟨a,o,its,m,rfl,ho,hc,hdd,hi⟩) hx
    simp only [Hd] at hx
    obtain ⟨b,o',its',m',rfl,ho',hc',hdd',hi'⟩:=hx
    have tb:s.heap.IsTuple b its':=⟨o',ho',hc',m',hdd'⟩
    have e1:its.size=ds.length:=by have:=hi.length;simp at this;omega
    have e2:its'.size=es.length:=by have:=hi'.length;simp at this;omega
    have z:=RcAt.tuples (A:=A) (e:=D.at_ ds es) ta tb (by omega) (fun j h1 h2=>by
     have g1:ds[j]?=some ds[j]:=List.getElem?_eq_getElem (by omega)
     have g2:es[j]?=some es[j]:=List.getElem?_eq_getElem (by omega)
     obtain ⟨x1,k1,q1⟩:=hi.get g1
     obtain ⟨x2,k2,q2⟩:=hi'.get g2
     have z1:x1=its[j]:=by simp [h1] at k1;exact k1.symm
     have z2:x2=its'[j]:=by simp [h2] at k2;exact k2.symm
     have z3:D.at_ ds es j=D.eq ds[j] es[j]:=by unfold D.at_;rw [g1,g2]
     rw [z3,←z1,←z2]
     exact ih A.in1 (Nat.le_trans (D.depL_get g1) (by omega)) hin q1 q2)
    rw [e1,e2,D.all_eqL] at z
    simp only [D.eq]
    by_cases hab:a=b
    ·have:=inj (by rw [hab])
     injection this with this
     subst this hab
     rw [D.eqL_refl]
     exact EqAt.same _
    ·exact EqAt.of_refs hab z
   | non=>simp only [Hd] at hx
   | bl _=>simp only [Hd] at hx
   | str _=>simp only [Hd] at hx
   | lst _=>simp only [Hd] at hx
  | non=>simp only [Hd] at hv
  | bl _=>simp only [Hd] at hv
  | str _=>simp only [Hd] at hv
  | lst _=>simp only [Hd] at hv
theorem quiet_data {A:Around} {E:Value→Shared→Prop} {s:Shared}:∀ (n:Nat) {d:D} {v:Value} {Q:Bool→Shared→Prop},D.dep d≤n→Hd s.heap d v→Q true s→wpAny (model prog w) A (eqIsQuiet n v) Q E s:=by
 have flat:∀ (n:Nat) {i:Int} {t:Tok} {Q:Bool→Shared→Prop},Q true s→wpAny (model prog w) A (eqIsQuiet n (.int i t)) Q E s:=fun n i t Q h=>by
  rw [eqIsQuiet_byValue n (v:=.int i t) rfl]
  exact wpAny_pure h
 intro n
 induction n with
 | zero =>
  intro d v Q hd hv h
  cases d<;>simp only [Hd] at hv<;>simp only [D.dep,Nat.le_zero,Nat.add_eq_zero_iff,Nat.one_ne_zero,and_false] at hd
  obtain ⟨t,rfl⟩:=hv
  exact flat 0 h
 | succ n ih =>
  intro d v Q hd hv h
  cases d with
  | int i =>
   simp only [Hd] at hv
   obtain ⟨t,rfl⟩:=hv
   exact flat _ h
  | tup ds =>
   simp only [Hd] at hv
   simp only [D.dep] at hd
   obtain ⟨a,o,its,m,rfl,ho,hc,hdd,hi⟩:=hv
   have hT:s.TypeIs (.ref a) "tuple":=⟨o,ho,hc⟩
   unfold eqIsQuiet
   refine wpAny_bind (wpAny_specialOf hT F.slot_tuple_eq.lookup ?_)
   show wpAny _ _ (isInstance (.ref a) (.type "tuple")
    >>= _) _ _ s
   refine wpAny_bind (wpAny_isInstance hT isSubtype_tuple_tuple ?_)
   simp only [Bool.not_true,Bool.false_eq_true,if_false]
   refine wpAny_bind (wpAny_seqItems ho hdd (wpAny_bind ?_))
   show wpAny _ _ (forIn its _ _) _ _ s
   rw [←Array.forIn_toList]
   refine wpAny_forIn_list _ (fun rest r s'=>r.1=none∧s'=s∧∃ left,HdL s.heap left rest∧D.depL left≤n) _ ?_ ?_ _ _ ⟨rfl,rfl,ds,hi,by omega⟩
   ·rintro x rest r s' ⟨hr,rfl,left,hl,hdl⟩
    cases left with
    | nil=>simp only [HdL] at hl;cases hl
    | cons k ks =>
     simp only [HdL] at hl
     simp only [D.depL] at hdl
     obtain ⟨v',q,ev,q1,q2⟩:=hl
     cases ev
     refine wpAny_bind (ih (by omega) q1 ?_)
     simp only [Bool.not_true,Bool.false_eq_true,if_false]
     exact wpAny_pure ⟨rfl,rfl,ks,q2,by omega⟩
   ·rintro ⟨r1,r2⟩ s' ⟨hr,rfl,_⟩
    simp only at hr
    subst hr
    exact wpAny_pure h
  | non=>simp only [Hd] at hv
  | bl _=>simp only [Hd] at hv
  | str _=>simp only [Hd] at hv
  | lst _=>simp only [Hd] at hv
def dataKind (prog:Program) (w:World):HeapKind prog w D where
 is:=fun h d a=>Hd h d (.ref a)∧D.dep d≤8
 hash:=D.hash
 draws:=D.draws
 room:=fun A=>A.units+8 < cLine
 inj:=fun hx hy=>Hd.inj hx.1 hy.1
 keeps:=fun {h h' k a d o es ep} hx ho hd hs=>⟨Hd.keep (fun b o' its n e c q=>(hs.2 b (by
  rintro rfl
  rw [ho] at e;cases e;rw [hd] at q;cases q)).trans e) hx.1,hx.2⟩
 pyHash:=fun hu hk h=>hash_data 8 hk.2 hu hk.1 h
 eqBool:=fun hu hx hy h=>by
  rw [D.dec] at h
  exact eq_data 8 _ hx.2 hu hx.1 hy.1 _ _ _ _ h
 quiet:=fun hk h=>quiet_data 8 hk.2 hk.1 h
end
mutual
def D.key:D→Prop
 | .int _=>True
 | .tup ds=>D.keyL ds
 | _=>False
def D.keyL:List D→Prop
 | []=>True
 | d::ds=>D.key d∧D.keyL ds
end
section
variable {P:Program} {w:World} {K:PySem.W.Frag} {H:Hp} {h:Heap}
mutual
theorem Dr.hd (ok:HOk P w H h):∀ {d:D} {v:V} {u:Value},D.key d→Dr K H d v→RelV v u→Hd h d u
 | .int i,v,u,_,q,r=>by
  simp only [Dr] at q
  subst q
  simp only [Hd]
  exact r
 | .tup ds,v,u,k,q,r=>by
  simp only [Dr] at q
  simp only [D.key] at k
  obtain ⟨a,vs,rfl,e,q⟩:=q
  cases r
  obtain ⟨_,its,n,rv,h1⟩:=ok a _ e
  simp only [Hd]
  exact ⟨a,_,its.toArray,n,rfl,h1,rfl,rfl,by simpa using DrL.hd ok k q rv⟩
 | .non,_,_,k,_,_=>by simp only [D.key] at k
 | .bl _,_,_,k,_,_=>by simp only [D.key] at k
 | .str _,_,_,k,_,_=>by simp only [D.key] at k
 | .lst _,_,_,k,_,_=>by simp only [D.key] at k
theorem DrL.hd (ok:HOk P w H h):∀ {ds:List D} {vs:List V} {us:List Value},D.keyL ds→DrL K H ds vs→Vals vs us→HdL h ds us
 | [],vs,us,_,q,r=>by
  simp only [DrL] at q
  subst q
  cases r
  simp only [HdL]
 | d::ds,vs,us,k,q,r=>by
  simp only [DrL] at q
  simp only [D.keyL] at k
  obtain ⟨v,z,rfl,q1,q2⟩:=q
  cases r with
  | cons r1 r2 =>
   simp only [HdL]
   exact ⟨_,_,rfl,Dr.hd ok k.1 q1 r1,DrL.hd ok k.2 q2 r2⟩
end
end
end L2

set_option Elab.async false
set_option linter.all false
set_option maxRecDepth 100000
set_option maxHeartbeats 4000000
namespace L2
open PySem PySem.Spec PyProof.Rows PySem.SeqAt

/-! ### a dict whose keys are tuples,at any depth -/
def dExt (P:Program) (w:World) (a:Addr) (xs:List (D × Addr × Value)):HO :=
 .ext fun h=>(a == sysModules)=false∧∃ o es ep,h.get? a=some o∧o.ExactDict∧o.data=.dict es ep∧es.toList=xs.map (entryOfKey (dataKind P w))
abbrev KDr (K:PySem.W.Frag) (H:Hp):List (D × V)→List (D × Addr × Value)→Prop:=Paired fun p q=>p.1=q.1∧(D.key p.1∧D.dep p.1≤8∧Dr K H p.1 (.ref q.2.1))∧RelV p.2 q.2.2
def DD (P:Program) (w:World) (K:PySem.W.Frag) (H:Hp) (a:Addr) (kvs:List (D × V)):Prop :=
 ∃ xs,H a=some (dExt P w a xs)∧KDr K H kvs xs∧(kvs.map (·.1)).Nodup∧kvs.length≤sizeLine
theorem KDr.val {K:PySem.W.Frag} {H:Hp} {kvs:List (D × V)} {xs:List (D × Addr × Value)} (r:KDr K H kvs xs) (k:D):RelO (valV kvs k) ((atKey xs k).map (·.2)):=by
 induction r with
 | nil=>exact True.intro
 | @cons p q ps qs h t ih =>
  obtain ⟨h1,_,h2⟩:=h
  by_cases e:p.1=k
  ·have e':q.1=k:=h1.symm.trans e
   have b:atKey (q::qs) k=some q.2:=by simp [atKey,List.find?_cons,e']
   rw [valV_pos e,b]
   exact h2
  ·have e':¬ q.1=k:=fun z=>e (h1.trans z)
   have b:atKey (q::qs) k=atKey qs k:=by simp [atKey,List.find?_cons,e']
   rw [valV_neg e,b]
   exact ih
theorem KDr.repl {K:PySem.W.Frag} {H:Hp} {kvs:List (D × V)} {xs:List (D × Addr × Value)} (r:KDr K H kvs xs) (k:D) {y:V} {u:Value} (ry:RelV y u) :
  KDr K H (kvs.map fun kv=>if kv.1=k then (kv.1,y) else kv) (xs.map (putAt k u)):=by
 induction r with
 | nil=>exact .nil
 | @cons p q ps qs h t ih =>
  rw [List.map_cons,List.map_cons]
  refine .cons ?_ ih
  obtain ⟨h1,h2,h3⟩:=h
  unfold putAt
  by_cases e:p.1=k
  ·rw [if_pos e,if_pos (h1.symm.trans e)]
   exact ⟨h1,h2,ry⟩
  ·rw [if_neg e,if_neg (fun z=>e (h1.trans z))]
   exact ⟨h1,h2,h3⟩
theorem KDr.put {K:PySem.W.Frag} {H:Hp} {kvs:List (D × V)} {xs:List (D × Addr × Value)} (r:KDr K H kvs xs) (k:D) {b:Addr} {y:V} {u:Value} (hb:D.key k∧D.dep k≤8∧Dr K H k (.ref b)) (ry:RelV y u) :
  KDr K H (putK kvs k y) (storedH xs k b u):=by
 have e:(kvs.any fun kv=>decide (kv.1=k))=(atKey xs k).isSome:=by
  rw [valV_any,(r.val k).isSome_eq,Option.isSome_map]
 unfold putK storedH
 rw [e]
 by_cases q:(atKey xs k).isSome=true
 ·rw [if_pos q,if_pos q]
  exact r.repl k ry
 ·rw [if_neg q,if_neg q]
  exact Paired.snoc r ⟨rfl,hb,ry⟩
theorem KDr.keys {K:PySem.W.Frag} {H:Hp} {kvs:List (D × V)} {xs:List (D × Addr × Value)} (r:KDr K H kvs xs):kvs.map (·.1)=xs.map (·.1):=by
 induction r with
 | nil=>rfl
 | @cons p q ps qs h t ih=>rw [List.map_cons,List.map_cons,ih,h.1]
theorem KDr.mono {K:PySem.W.Frag} {H H':Hp} {kvs:List (D × V)} {xs:List (D × Addr × Value)} (r:KDr K H kvs xs) (f:∀ d v,D.key d→Dr K H d v→Dr K H' d v):KDr K H' kvs xs :=
 Paired.mapP r fun _ _ z=>⟨z.1,⟨z.2.1.1,z.2.1.2.1,f _ _ z.2.1.1 z.2.1.2.2⟩,z.2.2⟩
theorem DD.mono {P:Program} {w:World} {K:PySem.W.Frag} {H H':Hp} {a:Addr} {kvs:List (D × V)} (h:DD P w K H a kvs) (s:Same H H'):DD P w K H' a kvs:=by
 obtain ⟨xs,e,r,n,z⟩:=h
 exact ⟨xs,s _ _ e,r.mono fun _ _ _ q=>q.mono s,n,z⟩
mutual
theorem Dr.keyed {K:PySem.W.Frag} {H H':Hp} (k:∀ b xs,H b=some (.tup xs)→H' b=some (.tup xs)):∀ {d:D} {v:V},D.key d→Dr K H d v→Dr K H' d v
 | .int _,_,_,h=>by simp only [Dr] at h ⊢;exact h
 | .tup ds,_,q,h=>by
  simp only [Dr] at h ⊢
  simp only [D.key] at q
  obtain ⟨a,vs,e,z,r⟩:=h
  exact ⟨a,vs,e,k _ _ z,DrL.keyed k q r⟩
 | .non,_,q,_=>by simp only [D.key] at q
 | .bl _,_,q,_=>by simp only [D.key] at q
 | .str _,_,q,_=>by simp only [D.key] at q
 | .lst _,_,q,_=>by simp only [D.key] at q
theorem DrL.keyed {K:PySem.W.Frag} {H H':Hp} (k:∀ b xs,H b=some (.tup xs)→H' b=some (.tup xs)):∀ {ds:List D} {vs:List V},D.keyL ds→DrL K H ds vs→DrL K H' ds vs
 | [],_,_,h=>by simp only [DrL] at h ⊢;exact h
 | d::ds,_,q,h=>by
  simp only [DrL] at h ⊢
  simp only [D.keyL] at q
  obtain ⟨v,r,e,q1,q2⟩:=h
  exact ⟨v,r,e,Dr.keyed k q.1 q1,DrL.keyed k q.2 q2⟩
end
section
variable {X:Cx} {pins:List (Addr × Obj)} {σ:St} {H:Hp} {s:Shared} {a:Addr} {kvs:List (D × V)} {K:PySem.W.Frag}
theorem DD.at (I:Inv X pins σ H s) (h:DD X.prog X.w K H a kvs):(a == sysModules)=false∧∃ xs,H a=some (dExt X.prog X.w a xs)∧KDr K H kvs xs∧s.heap.DictOfH (dataKind X.prog X.w) a xs:=by
 obtain ⟨xs,e,r,n,z⟩:=h
 obtain ⟨⟨hs,o,es,ep,h1,h2,h3,h4⟩,_,_⟩:=I.hok a _ e
 refine ⟨hs,xs,e,r,o,es,ep,h1,h2,h3,h4,?_,by rw [←r.keys];exact n⟩
 have all:∀ {l:List (D × V)} {m:List (D × Addr × Value)},KDr K H l m→∀ x∈m,(dataKind X.prog X.w).is s.heap x.1 x.2.1:=by
  intro l m q
  induction q with
  | nil=>intro x hx;exact nomatch hx
  | @cons p q ps qs hq t ih =>
   intro x hx
   rcases List.mem_cons.mp hx with e | hx
   ·subst e
    rw [←hq.1]
    exact ⟨Dr.hd I.hok hq.2.1.1 hq.2.1.2.2 rfl,hq.2.1.2.1⟩
   ·exact ih x hx
 exact all r
theorem key_at (I:Inv X pins σ H s) {d:D} {b:Addr} (k:D.key d) (hd:D.dep d≤8) (h:Dr K H d (.ref b)):(dataKind X.prog X.w).is s.heap d b:=⟨Dr.hd I.hok k h rfl,hd⟩
def KeyV (K:PySem.W.Frag) (H:Hp) (d:D) (y:V):Prop:=(∃ b,y=.ref b)∧D.key d∧D.dep d≤8∧Dr K H d y
variable {o i e f value:Expr} {pos pos' apos cpos:Pos} {td ty tv tx:TE}
def tGetD (P:Program) (w:World) (K:PySem.W.Frag) (td ty:TE):TE:=fun σ H Q=>td σ H fun x H1=>ty σ H1 fun y H2=>∃ a kvs d v,x=.ref a∧DD P w K H2 a kvs∧KeyV K H2 d y∧valV kvs d=some v∧Q v H2
theorem pe_getD (hu:X.A.units+9 < cLine) (ho:PE X o td) (hi:PE X i ty) (hs:NoSl i):PE X (.Subscript o i pos) (tGetD X.prog X.w K td ty):=by
 intro pins s σ H Q I h
 refine subD_of PySem.F.slot_dict_getitem.lookup hs (thn (ho pins s σ H _ I h) fun u s1 ⟨x,H1,I1,rx,q1⟩=>thn (hi pins s1 σ H1 _ I1 q1) fun iv s2 ⟨y,H2,I2,ry,a,kvs,d,v,ex,g,⟨⟨b,eb⟩,k1,k2,k3⟩,hv,q2⟩=>?_)
 subst ex eb
 obtain rfl:u=Value.ref a:=rx
 obtain rfl:iv=Value.ref b:=ry
 obtain ⟨hsm,xs,e,r,dd⟩:=g.at I2
 obtain ⟨w',hw,rw'⟩:=RelO.some_of (v:=v) (o:=(atKey xs d).map (·.2)) (by rw [←hv];exact r.val d)
 obtain ⟨p,hp,hp2⟩:=Option.map_eq_some_iff.mp hw
 refine ⟨dd.typeIs,wpAny_getItem_heap (show X.A.units+1+8 < cLine by omega) (key_at I2 k1 k2 k3) dd hp ?_⟩
 rw [hp2]
 exact ⟨v,H2,I2.tok _,rw',q2⟩
def sPutD (P:Program) (w:World) (K:PySem.W.Frag) (td ty tv:TE):TS:=fun Dd σ H=>tv σ H fun v H1=>td σ H1 fun x H2=>ty σ H2 fun y H3=>∃ a kvs d,x=.ref a∧DD P w K H3 a kvs∧KeyV K H3 d y∧kvs.length < sizeLine ∧
 ∀ ob,DD P w K (upd H3 a ob) a (putK kvs d v)→Dd.nx σ (upd H3 a ob)
theorem dd_notup {P:Program} {w:World} (h:DD P w K H a kvs):∀ b xs,H b=some (.tup xs)→b≠a:=fun b xs e z=>by
 obtain ⟨ys,q,_⟩:=h
 rw [z,q] at e
 cases e
theorem ps_putD (hu:X.A.units+9 < cLine) (ho:PE X o td) (hi:PE X i ty) (hv:PE X value tv) (hs:swapsWith value (some (.Subscript o i pos')) pos.line X.env=pure false:=by rfl) :
  PS X (.Assign [.Subscript o i pos'] value pos) (sPutD X.prog X.w K td ty tv):=by
 intro pins s σ H D I h
 refine wpAny_Assign_Subscript (thn (hv pins s σ H _ I h) fun r s1 ⟨v,H1,I1,rv,q1⟩=>thn (ho pins s1 σ H1 _ I1 q1) fun u s2 ⟨x,H2,I2,rx,q2⟩=>thn (hi pins s2 σ H2 _ I2 q2) fun iv s3 ⟨y,H3,I3,ry,a,kvs,d,ex,g,⟨⟨b,eb⟩,k1,k2,k3⟩,hz,q3⟩=>?_) hs
 subst ex eb
 obtain rfl:u=Value.ref a:=rx
 obtain rfl:iv=Value.ref b:=ry
 obtain ⟨hsm,xs,e,rr,dd⟩:=g.at I3
 have hlen:xs.length≤sizeLine:=by rw [←Paired.length rr];exact Nat.le_of_lt hz
 have hl:(putK kvs d v).length≤sizeLine:=by have:=length_putK kvs d v;omega
 refine wpAny_setItem_heap (hsz:=hlen) (show X.A.units+1+8 < cLine by omega) (key_at I3 k1 k2 k3) dd fun h' dd' hsb=>?_
 obtain ⟨q,es,ep,hq,h2,h3,h4,_,h5⟩:=dd'
 have Iw:Inv X pins σ (upd H3 a (dExt X.prog X.w a (storedH xs d b r))) { s3 with heap:=h',toks:=s3.toks+(dataKind X.prog X.w).draws d }:=by
  refine d_write I3 (by rw [e];exact True.intro) hsb ⟨q,hq⟩ ⟨⟨hsm,q,es,ep,hq,h2,h3,h4⟩,⟨q,hq⟩,fun h1 h2' p k=>?_⟩
  obtain ⟨p0,o1,es1,ep1,p1,p2,p3,p4⟩:=p
  exact ⟨p0,o1,es1,ep1,k _ p1,p2,p3,p4⟩
 have kt:∀ c ys,H3 c=some (.tup ys)→upd H3 a (dExt X.prog X.w a (storedH xs d b r)) c=some (.tup ys):=fun c ys ec=>by
  rw [upd_ne (dd_notup g c ys ec)];exact ec
 refine ⟨σ,_,Iw,q3 _ ⟨_,upd_same,(rr.put d ⟨k1,k2,k3⟩ rv).mono fun d' v' kd q=>q.keyed kt kd,?_,hl⟩⟩
 have nd:=h5
 have ek:=(rr.put d ⟨k1,k2,k3⟩ rv).keys
 rw [ek]
 exact nd
def tNewD (P:Program) (w:World) (K:PySem.W.Frag):TE:=fun _ H Q=>∀ p,H p=none→∀ ob,DD P w K (upd H p ob) p []→Q (.ref p) (upd H p ob)
theorem pe_newD:PE X (.Dict [] [] pos) (tNewD X.prog X.w K):=fun pins s σ H Q I h=>by
 have hb:(s.heap.objs.size == sysModules)=false:=beq_eq_false_iff_ne.mpr (Ne.symm (Nat.ne_of_lt I.big))
 refine wpAny_Dict_empty ⟨.ref s.heap.objs.size,_,I.laid (a:=s.heap.objs.size) (o:=dExt X.prog X.w s.heap.objs.size []) (t':=s.toks) (fun _ _ q=>Heap.get?_push_of_some _ q) (Nat.le_refl _) ⟨⟨hb,_,#[],0,Heap.get?_push_size _ rfl,⟨rfl,rfl,rfl⟩,rfl,rfl⟩,⟨_,Heap.get?_push_size _ rfl⟩,fun h1 h2 p k=>?_⟩,rfl,h _ I.fresh _ ⟨[],upd_same,.nil,List.nodup_nil,Nat.zero_le _⟩⟩
 obtain ⟨p0,o1,es1,ep1,p1,p2,p3,p4⟩:=p
 exact ⟨p0,o1,es1,ep1,k _ p1,p2,p3,p4⟩
def tGet2D (P:Program) (w:World) (K:PySem.W.Frag) (td ty tx:TE):TE:=fun σ H Q=>td σ H fun x H1=>∃ a kvs0,x=.ref a∧DD P w K H1 a kvs0∧ty σ H1 fun y H2=>tx σ H2 fun z H3=>∃ kvs d,DD P w K H3 a kvs∧KeyV K H3 d y∧Q ((valV kvs d).getD z) H3
theorem pe_get2D (hu:X.A.units+9 < cLine) (ho:PE X o td) (he:PE X e ty) (hf:PE X f tx) (m:M2 X o "get" apos e f cpos):PE X (.Call (.Attribute o "get" apos) [e,f] [] cpos) (tGet2D X.prog X.w K td ty tx):=by
 intro pins s σ H Q I h
 refine wpAny_Call_method m.base m.few m.line PySem.F.plainAttrs_dict PySem.F.slot_dict_get PySem.F.type_dict_get (thn (ho pins s σ H _ I h) fun u s1 ⟨x,H1,I1,rx,a,kvs0,ex,g0,q1⟩=>?_)
 subst ex
 obtain rfl:u=Value.ref a:=rx
 obtain ⟨hsm,xs0,_,_,dd0⟩:=g0.at I1
 refine ⟨dd0.typeIs,fun b q=>?_,?_⟩
 ·cases q
  obtain ⟨ob,_,_,h1,h2,_⟩:=dd0
  exact ⟨ob,h1,h2.2.1⟩
 rw [m.trees]
 refine Calls.callWith_builtin rfl (Calls.evalArgs_plain (Calls.spliced_cons (thn (he pins s1 σ H1 _ I1 q1) fun iv s2 ⟨y,H2,I2,ry,q2⟩ =>
  Calls.spliced_cons (thn (hf pins s2 σ H2 _ I2 q2) fun fv s3 ⟨z,H3,I3,rz,kvs,d,g,⟨⟨b,eb⟩,k1,k2,k3⟩,q3⟩=>Calls.spliced_nil ?_))))
 subst eb
 obtain rfl:iv=Value.ref b:=ry
 obtain ⟨_,xs,_,r,dd⟩:=g.at I3
 refine call_meetsIn PySem.F.slot_dict_get dd.typeIs PySem.F.entry_dict_get (PySem.F.args_dict_get_3 _ _ _) (meetsH_dict_get_default (dataKind X.prog X.w) a b hsm fv) ⟨show X.A.units+1+8 < cLine by omega,d,xs,key_at I3 k1 k2 k3,dd,?_⟩
 exact ⟨_,H3,I3.tok _,(r.val d).getD rz,q3⟩
end
end L2

set_option Elab.async false
set_option linter.all false
set_option maxRecDepth 100000
set_option maxHeartbeats 4000000
namespace L2
open PySem PySem.Spec PyProof.Rows PySem.SeqAt
open PySem.AutoSeq1 (wpAny_loadPart')
section
variable {X:Cx} (K:PySem.W.Frag)
theorem cLenD:CallR X (.builtin "len") (fun xs H Q=>∃ a kvs,xs=[V.ref a]∧DD X.prog X.w K H a kvs∧Q (.int kvs.length) H):=by
 intro pins s σ H xs us Q I r h
 obtain ⟨a,kvs,rfl,g,q⟩:=h
 obtain ⟨u,rfl,ru⟩:=vals1 r
 cases ru
 obtain ⟨hsm,xs,_,rr,dd⟩:=g.at I
 obtain ⟨o,es,ep,ho,hc,hdat,hes,_⟩:=id dd
 have hlen:es.size=kvs.length:=by
  have:es.toList.length=xs.length:=by rw [hes,List.length_map]
  rw [Paired.length rr,←this];simp
 have hz:kvs.length≤sizeLine:=by obtain ⟨_,_,_,_,z⟩:=g;exact z
 have hz2:(kvs.length:Int) < 2 ^ 63:=by have:=line63;omega
 refine Calls.call_function_entry kind_len plain_len entry_len (args_len1 _) ?_
 unfold Builtin.«len»
 refine wpAny_bind (m:=oneArg "len" _) (wpAny_pure ?_)
 refine wpAny_bind (m:=callSpecial? (.ref a) (Str.ofString "__len__")) (wpAny_callSpecial?_slot (name:=Str.ofString "__len__") dd.typeIs F.slot_dict_len
  (wpAny_call_entry F.slot_dict_len dd.typeIs F.entry_dict_len ?_ (F.args_dict_len_1 _)))
 show wpAny _ _ (dictSize a >>= _) _ _ s
 unfold dictSize
 refine wpAny_bind (wpAny_bind (wpAny_dictEntries ho hdat (wpAny_pure ?_)))
 show wpAny _ _ (Builtin.Dict.pendingCount a >>= _) _ _ s
 refine wpAny_bind (wpAny_pendingCount_other hsm ?_)
 refine wpAny_ret_mkInt ?_
 rw [Nat.add_zero,hlen]
 refine wpAny_bind (wpAny_holding (wpAny_pure ?_))
 refine wpAny_bind (wpAny_letGo ?_)
 show wpAny _ _ (if ((kvs.length:Nat):Int) < 0
  then _ else _) _ _ _
 rw [if_neg (by omega)]
 show wpAny _ _ (if ((kvs.length:Nat):Int) ≥ 2 ^ 63
  then _ else _) _ _ _
 rw [if_neg (by omega)]
 exact wpAny_bind (wpAny_mkInt (wpAny_pure ⟨_,rfl,.int kvs.length,H,I.tok _,⟨_,rfl⟩,q⟩))
end
end L2

set_option Elab.async false
set_option linter.all false
set_option maxRecDepth 100000
set_option maxHeartbeats 4000000
namespace L2
open PySem PySem.Spec PyProof.Rows PySem.SeqAt
open PySem.AutoSeq1 (wpAny_loadPart')
section
variable {X:Cx} (K:PySem.W.Frag)
/-! ### a tuple so many times -/
theorem noFill_tuple:fillsNumberSlot (.type "tuple") "mul"=pure false :=
 PySem.fillsNumberSlot_seq (id:="tuple.__mul__") (r:=some (.builtin "tuple.__rmul__")) F.slot_tuple_mul.lookup (by decide +kernel) F.slot_tuple_rmul.lookup (by decide +kernel)
theorem repeat_tup:seqRepeat? (.type "tuple")=pure (some (.builtin "tuple.__mul__")):=by
 unfold seqRepeat?
 rw [PySem.seqSlot_of (T:="tuple") (name:="__mul__") (id:="tuple.__mul__") F.slot_tuple_mul.lookup (by decide +kernel),PySem.seqSlot_of (T:="tuple") (name:="__rmul__") (id:="tuple.__rmul__") F.slot_tuple_rmul.lookup (by decide +kernel)]
 rfl
theorem int_rmul_tup (a:Int) (t:Tok) (l:Addr) (its:Array Value) (n:Nat) :
  Meets (Builtin.«int.__rmul__» ⟨[.int a t,.ref l],[]⟩) (fun _ R s=>s.heap.get? l=some { cls:=.type "tuple",dict:=none,data:=.seq its n,slots:=#[] }∧R (.ok (.ret Value.notImplemented)) s) :=
 .of_wp fun prog w A R s h=>by
  obtain ⟨hp,g,d,tk,os⟩:=s
  obtain ⟨hl,h⟩:=h
  wp_walk
  exact ⟨_,rfl,h⟩
theorem tup_mul (l:Addr) (its:List Value) (n:Nat) (k:Int) (t:Tok) (h2:2≤k) (hk:k≤1000) (hne:its≠[]) (hz:its.length*k.toNat≤sizeLine) :
  Meets (Builtin.«tuple.__mul__» ⟨[.ref l,.int k t],[]⟩) (fun _ R s=>s.heap.get? l=some { cls:=.type "tuple",dict:=none,data:=.seq its.toArray n,slots:=#[] } ∧
   R (.ok (.ret (.ref s.heap.objs.size))) { s with heap:=s.heap.push { cls:=.type "tuple",data:=.seq (List.replicate k.toNat its).flatten.toArray } }) :=
 .of_wp fun prog w A R s h=>by
  obtain ⟨hp,g,d,tk,os⟩:=s
  obtain ⟨hl,h⟩:=h
  have hie:its.toArray.isEmpty=false:=by cases its with | nil=>exact absurd rfl hne | cons a r=>simp
  have hcap:¬ ((its.toArray.size:Int)*k > (2 ^ 63 - 1) / 8):=by
   have h1:((its.length*k.toNat:Nat):Int)≤sizeLine:=by omega
   have h3:((its.length*k.toNat:Nat):Int)=(its.length:Int)*k:=by rw [Int.natCast_mul];congr 1;omega
   have h4:(sizeLine:Int)≤(2 ^ 63 - 1) / 8:=by rw [sizeLine_eq];decide
   simp only [List.size_toArray]
   omega
  wp_walk using wpAny_loadPart' hl
  refine wpAny_ite_split (fun hab=>absurd hab (by simp;omega)) (fun _=>?_)
  wp_walk using wpAny_loadPart' hl
  have hk1:(k == 1)=false:=by simpa using (show k≠1 by omega)
  have hk0:decide (k≤0)=false:=by simpa using (show ¬ k≤0 by omega)
  refine wpAny_ite_split (fun hab=>absurd hab (by rw [hie,hk1];decide)) (fun _=>?_)
  refine wpAny_ite_split (fun hab=>absurd hab (by rw [hie,hk0];decide)) (fun _=>?_)
  refine wpAny_ite_split (fun hab=>absurd hab hcap) (fun _=>?_)
  have htm:Builtin.Tuple.tupleTooMany ((its.toArray.size:Int)*k)=false:=by
   have h1:((its.length*k.toNat:Nat):Int)≤sizeLine:=by omega
   have h3:((its.length*k.toNat:Nat):Int)=(its.length:Int)*k:=by rw [Int.natCast_mul];congr 1;omega
   unfold Builtin.Tuple.tupleTooMany
   simp only [List.size_toArray]
   exact decide_eq_false (by omega)
  refine wpAny_ite_split (fun hab=>absurd hab (by rw [htm];decide)) (fun _=>?_)
  have hnew:List.foldl (fun x1 x2=>x1++x2) #[] (List.replicate k.toNat its.toArray)=(List.replicate k.toNat its).flatten.toArray:=by
   have q:=foldl_rep its k.toNat []
   rw [List.nil_append] at q
   exact q
  rw [hnew]
  unfold Builtin.Tuple.tupleExact
  refine wpAny_bind (wpAny_newObj_type ?_ (by show (List.replicate k.toNat its).flatten.toArray.size≤sizeLine;rw [List.size_toArray,len_rep,Nat.mul_comm];exact hz))
  exact wpAny_pure ⟨_,rfl,h⟩
theorem op_repT:OpR X (binaryOp .Mult) (fun x y H Q=>∃ (l:Addr) (k:Int) (xs:List V),x=.ref l∧y=.int k∧H l=some (.tup xs)∧xs≠[]∧2≤k∧k≤1000∧xs.length*k.toNat≤sizeLine ∧
  ∀ p,H p=none→Q (.ref p) (upd H p (.tup (List.replicate k.toNat xs).flatten))):=by
 intro pins s σ H x y v u Q I rx ry h
 obtain ⟨l,k,xs,rfl,rfl,hH,hne,h2,hk,hz,q⟩:=h
 cases rx
 obtain ⟨t,rfl⟩:=ry
 obtain ⟨z,its,n,r,e⟩:=I.hok l _ hH
 have hl:=r.length
 have hne':its≠[]:=fun w=>by subst w;exact hne (List.length_eq_zero_iff.mp (by simpa using hl))
 refine wpAny_binaryOp_repeat_ref (T:="tuple") (U:="int") (by decide) ⟨_,e,rfl⟩ (fun s'=>typeIs_int s' k t) noFill_tuple F.fills_int_mul F.slot_int_rmul repeat_tup F.slot_int_index.lookup
  (call_meets F.slot_int_rmul (typeIs_int s k t) F.entry_int_rmul (F.args_int_rmul_2 _ _) (int_rmul_tup k t l its.toArray n)
   ⟨e,rfl,⟨_,e,rfl⟩,call_meets F.slot_tuple_mul ⟨_,e,rfl⟩ F.entry_tuple_mul (F.args_tuple_mul_2 _ _) (tup_mul l its n k t h2 hk hne' (by rw [←hl];exact hz)) ⟨e,?_⟩⟩)
 exact ⟨.ref _,_,I.laid (o:=.tup (List.replicate k.toNat xs).flatten) (t':=s.toks) (fun b u q=>Heap.get?_push_of_some _ q) (Nat.le_refl _) ⟨by rw [len_rep,Nat.mul_comm];exact hz,_,0,r.rep k.toNat,Heap.get?_push_size _ rfl⟩,rfl,q _ I.fresh⟩
end
section
variable {X:Cx} (P:Program) (w:World) (K:PySem.W.Frag) {o i e f value:Expr} {pos pos' apos cpos:Pos} {td ty tv tx:TE}
end
end L2

set_option Elab.async false
set_option linter.all false
set_option maxRecDepth 100000
set_option maxHeartbeats 4000000
namespace L2
open PySem PySem.Spec PyProof.Rows
/-! ### defs that raise nothing,whatever way exceptions lie behind calls -/
class NoE (CX:CXT):Prop where
 no:∀ {outer:List Env} {H:Hp} {s:Shared} {e:Value} {s':Shared},¬ CX outer H s E0 e s'
theorem passN {CX:CXT} [N:NoE CX] {X:Cx}:Passes CX X E0:=fun _ _ _ _ _ _ _ h=>absurd h N.no
theorem Fun.okc {CX:CXT} {P:Program} {w:World} {K:PySem.W.Frag} {mg:Str→Option Value} {base:Heap} {x qual:Str} {st:Stmt} {f:Addr} {fd:FuncData} {N ps:List Str} {k:Nat} {sp:Sp} (F:Fun K x qual st f fd) (S:FnScope N ps (defScope st)) (len:∀ vs H Q E,sp vs H Q E→vs.length=ps.length)
  (hbody:∀ (cdv:Value) (A:Around) (outer:List Env) (s:Shared) (H:Hp) (vs:List V) (Q:VK) (E:XK),Room k (A.deeper (envOfC qual (defScope st) s.heap.objs.size f cdv))→sp vs H Q E →
   ∃ t,PSs (cxOf CX P w K mg base N qual (defScope st) f cdv A outer s H E).nox (defBody st) t∧t { nx:=fun _ H'=>Q .non H',rt:=Q } (start N vs) H):FnOk P w K mg base CX (k+1) f fd ps sp:=by
 obtain ⟨oc,od,kV,doc,pm,an,cdv,ct,osl,rfl,lk,hcd⟩:=F.ex
 refine fn_of lk hcd S len fun A outer s H vs Q E hr hsp=>?_
 obtain ⟨t,h,q⟩:=hbody cdv A outer s H vs Q E hr hsp
 exact ⟨t,h.nox,q⟩
end L2

set_option Elab.async false
set_option linter.all false
set_option maxRecDepth 100000
set_option maxHeartbeats 4000000
namespace L2
open PySem PySem.Spec PyProof.Rows
/-! ### a plainer reading in the place of one -/
theorem PS.weak {X:Cx} {st:Stmt} {t:TS} (t':TS) (h:PS X st t) (k:∀ D σ H,t' D σ H→t D σ H):PS X st t':=fun pins s σ H D I hw=>h pins s σ H D I (k D σ H hw)
theorem PT.weak {X:Cx} {e:Expr} {t:TT} (t':TT) (h:PT X e t) (k:∀ σ H Q,t' σ H Q→t σ H Q):PT X e t':=fun pins s σ H Q I hw=>h pins s σ H Q I (k σ H Q hw)
def tAny (Pre:St→Hp→Prop):TT:=fun σ H Q=>Pre σ H∧∀ c:Bool,Q c H
end L2

set_option Elab.async false
set_option linter.all false
set_option maxRecDepth 100000
set_option maxHeartbeats 4000000
namespace Gu
open PySem L2
/-! ### first come,first numbered -/
section
variable {α:Type} [DecidableEq α]
def addN (o:List α) (g:α):List α:=if g∈o then o else o++[g]
def addAll (o:List α) (gs:List α):List α:=gs.foldl addN o
def uniq (ks:List α):List α:=addAll [] ks
def numb (ks:List α):List Int:=ks.map fun k=>(((uniq ks).idxOf k:Nat):Int)
theorem addN_mem {o:List α} {g:α} (h:g∈o):addN o g=o:=if_pos h
theorem addN_new {o:List α} {g:α} (h:g∉o):addN o g=o++[g]:=if_neg h
theorem addN_has (o:List α) (g:α):g∈addN o g:=by
 by_cases h:g∈o
 ·rw [addN_mem h];exact h
 ·rw [addN_new h];simp
theorem addN_sub (o:List α) (g:α):∃ m,addN o g=o++m:=by
 by_cases h:g∈o
 ·exact ⟨[],by rw [addN_mem h];simp⟩
 ·exact ⟨[g],addN_new h⟩
theorem addAll_sub:∀ (gs o:List α),∃ m,addAll o gs=o++m
 | [],o=>⟨[],by simp [addAll]⟩
 | g::gs,o=>by
  obtain ⟨m1,e1⟩:=addN_sub o g
  obtain ⟨m2,e2⟩:=addAll_sub gs (addN o g)
  refine ⟨m1++m2,?_⟩
  show addAll (addN o g) gs=_
  rw [e2,e1,List.append_assoc]
theorem addAll_snoc (o gs:List α) (g:α):addAll o (gs++[g])=addN (addAll o gs) g:=by
 unfold addAll
 rw [List.foldl_append]
 rfl
theorem addN_nodup {o:List α} {g:α} (h:o.Nodup):(addN o g).Nodup:=by
 by_cases hg:g∈o
 ·rw [addN_mem hg];exact h
 ·rw [addN_new hg]
  exact nd_snoc h hg
theorem addAll_nodup:∀ (gs o:List α),o.Nodup→(addAll o gs).Nodup
 | [],o,h=>h
 | g::gs,o,h=>addAll_nodup gs (addN o g) (addN_nodup h)
theorem addN_mem_iff {o:List α} {g x:α}:x∈addN o g↔x∈o∨x=g:=by
 by_cases hg:g∈o
 ·rw [addN_mem hg]
  constructor
  ·exact .inl
  ·rintro (h | rfl)
   ·exact h
   ·exact hg
 ·rw [addN_new hg];simp
theorem addAll_mem:∀ {gs o:List α} {x:α},x∈addAll o gs↔x∈o∨x∈gs
 | [],o,x=>by simp [addAll]
 | g::gs,o,x=>by
  have ih:=addAll_mem (gs:=gs) (o:=addN o g) (x:=x)
  show x∈addAll (addN o g) gs↔_
  rw [ih,addN_mem_iff,List.mem_cons]
  constructor
  ·rintro ((h | h) | h)
   ·exact .inl h
   ·exact .inr (.inl h)
   ·exact .inr (.inr h)
  ·rintro (h | h | h)
   ·exact .inl (.inl h)
   ·exact .inl (.inr h)
   ·exact .inr h
theorem addAll_len:∀ (gs o:List α),(addAll o gs).length≤o.length+gs.length
 | [],o=>by simp [addAll]
 | g::gs,o=>by
  have ih:=addAll_len gs (addN o g)
  have h1:(addN o g).length≤o.length+1:=by
   by_cases hg:g∈o
   ·rw [addN_mem hg];omega
   ·rw [addN_new hg];simp
  show (addAll (addN o g) gs).length≤_
  rw [List.length_cons];omega
theorem idxOf_app {o m:List α} {g:α} (h:g∈o):(o++m).idxOf g=o.idxOf g:=by
 rw [List.idxOf_append,if_pos h]
theorem nodup_nat:∀ (n:Nat) (o:List Nat),o.Nodup→(∀ x∈o,x < n)→o.length≤n
 | 0,o,_,h=>by
  cases o with
  | nil=>simp
  | cons a r=>exact absurd (h a (by simp)) (Nat.not_lt_zero _)
 | n+1,o,hn,h=>by
  by_cases hm:n∈o
  ·have ih:=nodup_nat n (o.erase n) (hn.erase n) fun x hx=>by
    have h1:=(hn.mem_erase_iff).mp hx
    have:=h x h1.2
    have:=h1.1
    omega
   rw [List.length_erase_of_mem hm] at ih
   omega
  ·have ih:=nodup_nat n o hn fun x hx=>by
    have:=h x hx
    have:x≠n:=fun e=>hm (e ▸ hx)
    omega
   omega
theorem nodup_len {n:Nat} {o:List Int} (h:o.Nodup) (hr:∀ x∈o,0≤x∧x < (n:Int)):o.length≤n:=by
 have h1:(o.map Int.toNat).Nodup:=by
  rw [List.nodup_iff_pairwise_ne,List.pairwise_map]
  refine List.Pairwise.imp_of_mem (fun {a b} ha hb hab e=>?_) (List.nodup_iff_pairwise_ne.mp h)
  have:=hr a ha
  have:=hr b hb
  exact hab (by omega)
 have h3:=nodup_nat n _ h1 fun x hx=>by
  obtain ⟨y,hy,rfl⟩:=List.mem_map.mp hx
  have:=hr y hy
  omega
 simpa using h3
end
/-! ### machines -/
abbrev Row:=List Int × List Int
def row (rows:List Row) (r:Int):Row:=rows.getD r.toNat ([],[])
structure GoodM (n:Nat) (rows:List Row):Prop where
 few:rows.length≤4000
 some:1≤rows.length
 perm:∀ r∈rows,IsP n r.1
 len:∀ r∈rows,r.2.length=n
 go:∀ r∈rows,∀ g∈r.2,0≤g∧g < (rows.length:Int)
def rowD (r:Row):D:=.tup [D.its r.1,D.its r.2]
def bfs (rows:List Row):Nat→Nat→List Int→List Int
 | 0,_,o=>o
 | f+1,i,o=>match o[i]? with
  | none=>o
  | some r=>bfs rows f (i+1) (addAll o (row rows r).2)
def order (rows:List Row):List Int:=bfs rows (rows.length+1) 0 [0]
theorem bfs_step {rows:List Row} {f i:Nat} {o:List Int} {r:Int} (e:o[i]?=some r):bfs rows (f+1) i o=bfs rows f (i+1) (addAll o (row rows r).2):=by
 show (match o[i]? with | none=>o | some r=>bfs rows f (i+1) (addAll o (row rows r).2))=_
 rw [e]
theorem bfs_stop {rows:List Row} {f i:Nat} {o:List Int} (e:o.length≤i):bfs rows f i o=o:=by
 cases f with
 | zero=>rfl
 | succ f =>
  show (match o[i]? with | none=>o | some r=>bfs rows f (i+1) (addAll o (row rows r).2))=_
  rw [List.getElem?_eq_none e]
theorem bfs_sub (rows:List Row):∀ (f i:Nat) (o:List Int),∃ m,bfs rows f i o=o++m
 | 0,i,o=>⟨[],by simp [bfs]⟩
 | f+1,i,o=>by
  unfold bfs
  cases e:o[i]? with
  | none=>exact ⟨[],by simp⟩
  | some r =>
   obtain ⟨m1,e1⟩:=addAll_sub (row rows r).2 o
   obtain ⟨m2,e2⟩:=bfs_sub rows f (i+1) (addAll o (row rows r).2)
   exact ⟨m1++m2,by show bfs rows f (i+1) (addAll o (row rows r).2)=_;rw [e2,e1,List.append_assoc]⟩
structure Line (rows:List Row) (o:List Int):Prop where
 nd:o.Nodup
 rg:∀ x∈o,0≤x∧x < (rows.length:Int)
 hd:∃ t,o=0::t
theorem row_mem {rows:List Row} {r:Int} (h0:0≤r) (h1:r < (rows.length:Int)):row rows r∈rows:=by
 unfold row
 have:r.toNat < rows.length:=by omega
 have e:rows.getD r.toNat ([],[])=rows[r.toNat]:=by simp [this]
 rw [e]
 exact List.getElem_mem this
theorem row_get {rows:List Row} {r:Int} (h0:0≤r) (h1:r < (rows.length:Int)):rows[r.toNat]?=some (row rows r):=by
 unfold row
 have:r.toNat < rows.length:=by omega
 simp [this]
theorem Line.add {n:Nat} {rows:List Row} {o:List Int} (G:GoodM n rows) (L:Line rows o) {r:Int} (h:r∈o):Line rows (addAll o (row rows r).2):=by
 refine ⟨addAll_nodup _ _ L.nd,fun x hx=>?_,?_⟩
 ·rcases addAll_mem.mp hx with hx | hx
  ·exact L.rg x hx
  ·exact G.go _ (row_mem (L.rg r h).1 (L.rg r h).2) x hx
 ·obtain ⟨t,e⟩:=L.hd
  obtain ⟨m,e2⟩:=addAll_sub (row rows r).2 o
  exact ⟨t++m,by rw [e2,e];rfl⟩
theorem Line.len {rows:List Row} {o:List Int} (L:Line rows o):o.length≤rows.length:=nodup_len L.nd L.rg
theorem line0 {n:Nat} {rows:List Row} (G:GoodM n rows):Line rows [0]:=by
 refine ⟨by simp,fun x hx=>?_,⟨[],rfl⟩⟩
 have:x=0:=by simpa using hx
 have:=G.some
 omega
theorem bfs_end {n:Nat} {rows:List Row} (G:GoodM n rows):∀ (f i:Nat) (o:List Int),Line rows o→i≤o.length→rows.length+1≤f+i→(∀ j r,j < i→o[j]?=some r→∀ g∈(row rows r).2,g∈o) →
  Line rows (bfs rows f i o)∧∀ r∈bfs rows f i o,∀ g∈(row rows r).2,g∈bfs rows f i o
 | 0,i,o,L,hi,hf,hc=>by
  have:=L.len
  omega
 | f+1,i,o,L,hi,hf,hc=>by
  cases e:o[i]? with
  | none =>
   rw [bfs_stop (List.getElem?_eq_none_iff.mp e)]
   refine ⟨L,fun r hr g hg=>?_⟩
   obtain ⟨j,hj,e2⟩:=List.getElem_of_mem hr
   have:o.length≤i:=List.getElem?_eq_none_iff.mp e
   exact hc j r (by omega) (by rw [List.getElem?_eq_getElem hj,e2]) g hg
  | some r =>
   rw [bfs_step e]
   have hr:r∈o:=List.mem_of_getElem? e
   have hil:i < o.length:=(List.getElem?_eq_some_iff.mp e).1
   obtain ⟨m,em⟩:=addAll_sub (row rows r).2 o
   refine bfs_end G f (i+1) _ (L.add G hr) (by rw [em,List.length_append];omega) (by omega) fun j r' hj er g hg=>?_
   have hjo:j < o.length:=by omega
   have er':o[j]?=some r':=by rw [em,List.getElem?_append_left hjo] at er;exact er
   by_cases hji:j=i
   ·subst hji
    rw [e] at er'
    cases er'
    exact addAll_mem.mpr (.inr hg)
   ·exact addAll_mem.mpr (.inl (hc j r' (by omega) er' g hg))
theorem order_line {n:Nat} {rows:List Row} (G:GoodM n rows):Line rows (order rows)∧∀ r∈order rows,∀ g∈(row rows r).2,g∈order rows :=
 bfs_end G (rows.length+1) 0 [0] (line0 G) (by simp) (by omega) fun j r hj=>absurd hj (Nat.not_lt_zero _)
def foundOf (rows:List Row) (o:List Int):List Row:=o.map fun r=>((row rows r).1,(row rows r).2.map fun g=>((o.idxOf g:Nat):Int))
def found (rows:List Row):List Row:=foundOf rows (order rows)
def stepK (ks:List Int) (rows:List Row):List (Int × List Int):=(ks.zip rows).map fun p=>(p.1,p.2.2.map fun g=>ks.getD g.toNat 0)
def cnt (ks:List Int):Int:=ks.foldl max 0+1
def kloop (rows:List Row):Nat→Int→List Int→List Int
 | 0,_,ks=>ks
 | f+1,c,ks=>if c < cnt ks then kloop rows f (cnt ks) (numb (stepK ks rows)) else ks
def kinds (rows:List Row):List Int:=kloop rows (rows.length+1) 0 (numb (rows.map (·.1)))
def leastOf (rows:List Row) (ks:List Int):List Row:=(rows.zip ks).foldl (fun l p=>if p.2=(l.length:Int) then l++[(p.1.1,p.1.2.map fun g=>ks.getD g.toNat 0)] else l) []
def least (rows:List Row):List Row:=leastOf (found rows) (kinds (found rows))
end Gu

set_option Elab.async false
set_option linter.all false
set_option maxRecDepth 100000
set_option maxHeartbeats 4000000
namespace Gu
open PySem L2
def csc (ns:List (Str × NameKind)):Scope:={ kind:=.function,names:=ns,isGenerator:=false,isCoroutine:=false,more:=[] }
def Gives (K:PySem.W.Frag) (H:Hp) (Q:VK) (d:D):Prop:=∀ v H',Same H H'→Dr K H' d v→Q v H'
theorem same_up {H H1:Hp} {p:Addr} {o:HO} (s:Same H H1) (h:H1 p=none):Same H (upd H1 p o):=fun b u e=>by
 have q:=s b u e
 rw [upd_ne (ne_of_none q h)];exact q
theorem same_over {H H1:Hp} {p:Addr} {o:HO} (s:Same H H1) (h:H p=none):Same H (upd H1 p o):=fun b u e=>by
 rw [upd_ne (ne_of_none e h)];exact s b u e
theorem take_snoc {α β:Type} {l:List α} {i:Nat} {x:α} (f:α→β) (h:l[i]?=some x):(l.take (i+1)).map f=(l.take i).map f++[f x]:=by
 rw [List.take_add_one,h,List.map_append];rfl
theorem small5 {n:Nat} (h:n≤4900):n < sizeLine:=Nat.lt_of_le_of_lt h (by decide)
theorem line_le {n:Nat} (h:n≤5000):n≤sizeLine:=Nat.le_trans h (by decide)
theorem atI_of {α:Type} {xs:List α} {k:Int} {v:α} (h0:0≤k) (h:xs[k.toNat]?=some v):atI xs k=some v:=by
 have q:=atI_nat h
 rwa [show ((k.toNat:Nat):Int)=k by omega] at q
theorem map_erase {α β:Type} (f:α→β):∀ (l:List α) (i:Nat),(l.map f).eraseIdx i=(l.eraseIdx i).map f
 | [],_=>rfl
 | _::_,0=>rfl
 | a::r,i+1=>by
  show f a::(r.map f).eraseIdx i=f a::(r.eraseIdx i).map f
  rw [map_erase f r i]
structure Blt (mg:Str→Option Value):Prop where
 len:mg "len"=none
 tup:mg "tuple"=none
 lst:mg "list"=none
 rng:mg "range"=none
 isi:mg "isinstance"=none
 int:mg "int"=none
 bl:mg "bool"=none
 str:mg "str"=none
 all:mg "all"=none
theorem its_dep (ns:List Int):D.dep (D.its ns)=1:=by simp only [D.dep,D.depL_ints]
theorem Dr.its_inv {K:PySem.W.Frag} {H:Hp} {ns:List Int} {v:V} (h:Dr K H (D.its ns) v):∃ a,v=.ref a∧H a=some (.tup (ns.map V.int)):=by
 simp only [Dr] at h
 obtain ⟨a,vs,rfl,s,r⟩:=h
 exact ⟨a,rfl,DrL.ints_inv r ▸ s⟩
def spLaw (K:PySem.W.Frag):Sp:=fun vs H Q _=>∃ (a:Addr) (ns:List Int),vs=[.ref a]∧SqL K H a (ns.map V.int)∧ns.length≤63∧∀ H',Q (.bl true) H'
def spCell (K:PySem.W.Frag):Sp:=fun vs H Q _=>∃ (a:Addr) (ns:List Int) (i:Nat),vs=[.ref a,.int i]∧SqL K H a (ns.map V.int)∧ns.length≤63∧i≤1000∧Q (.int (cell ns i)) H
def spLetters (K:PySem.W.Frag):Sp:=fun vs H Q _=>∃ (a:Addr) (ns:List Int) (i:Nat),vs=[.ref a,.int i]∧SqL K H a (ns.map V.int)∧ns.length≤63∧i≤1000∧Q (.int (letN ns i)) H
def spRear (K:PySem.W.Frag):Sp:=fun vs H Q _=>∃ (pick:Int) (n:Nat),vs=[.int pick,.int n]∧n≤1000∧Gives K H Q (D.its (rearr pick n))
end Gu

set_option Elab.async false
set_option linter.all false
set_option maxRecDepth 100000
set_option maxHeartbeats 4000000
namespace Gu
open PySem L2
/-! ### a dict that numbers things as they come -/
section
variable {α κ:Type} [DecidableEq α] [DecidableEq κ]
def prsF (f:α→κ):Nat→List α→List (κ × V)
 | _,[]=>[]
 | n,a::r=>(f a,V.int (n:Int))::prsF f (n+1) r
abbrev prs (f:α→κ) (u:List α):List (κ × V):=prsF f 0 u
theorem prsF_len (f:α→κ):∀ (n:Nat) (u:List α),(prsF f n u).length=u.length
 | _,[]=>rfl
 | n,a::r=>by simp [prsF,prsF_len f (n+1) r]
theorem prsF_app (f:α→κ):∀ (n:Nat) (u:List α) (a:α),prsF f n (u++[a])=prsF f n u++[(f a,V.int ((n+u.length:Nat):Int))]
 | n,[],a=>by simp [prsF]
 | n,b::r,a=>by
  have ih:=prsF_app f (n+1) r a
  show (f b,V.int (n:Int))::prsF f (n+1) (r++[a])=(f b,V.int (n:Int))::(prsF f (n+1) r++_)
  have e:n+1+r.length=n+(b::r).length:=by rw [List.length_cons];omega
  rw [ih,e]
theorem prsF_val (f:α→κ) (hf:∀ x y,f x=f y→x=y):∀ (n:Nat) (u:List α) (a:α),valV (prsF f n u) (f a)=if a∈u then some (V.int ((n+u.idxOf a:Nat):Int)) else none
 | n,[],a=>by simp [prsF,valV]
 | n,b::r,a=>by
  have ih:=prsF_val f hf (n+1) r a
  show valV ((f b,V.int (n:Int))::prsF f (n+1) r) (f a)=_
  by_cases e:b=a
  ·subst e
   rw [valV_pos rfl,if_pos (by simp)]
   simp
  ·rw [valV_neg (p:=(f b,V.int (n:Int))) (fun z=>e (hf _ _ z)),ih]
   have e1:(b::r).idxOf a=r.idxOf a+1:=by
    rw [List.idxOf_cons]
    have hb:(b == a)=false:=by simpa using e
    rw [hb]
    rfl
   by_cases hm:a∈r
   ·have e2:n+1+r.idxOf a=n+(r.idxOf a+1):=by omega
    rw [if_pos hm,if_pos (by simp [hm]),e1,e2]
   ·rw [if_neg hm,if_neg (by simp [hm,Ne.symm e])]
theorem prs_val (f:α→κ) (hf:∀ x y,f x=f y→x=y) (u:List α) (a:α):valV (prs f u) (f a)=if a∈u then some (V.int ((u.idxOf a:Nat):Int)) else none:=by
 have:=prsF_val f hf 0 u a
 simpa using this
theorem prs_put (f:α→κ) (hf:∀ x y,f x=f y→x=y) {u:List α} {a:α} (h:a∉u):putK (prs f u) (f a) (V.int (u.length:Nat))=prs f (u++[a]):=by
 have e:=prsF_app f 0 u a
 rw [Nat.zero_add] at e
 rw [putK_new _ (by rw [prs_val f hf,if_neg h])]
 exact e.symm
end
def rowsD (rows:List Row):List D:=rows.map rowD
theorem its_key (ns:List Int):D.key (D.its ns):=by
 have:∀ l:List Int,D.keyL (l.map D.int):=by
  intro l
  induction l with
  | nil=>simp only [List.map_nil,D.keyL]
  | cons a r ih=>simp only [List.map_cons,D.keyL,D.key];exact ⟨trivial,ih⟩
 simp only [D.key]
 exact this ns
theorem keyV {K:PySem.W.Frag} {H:Hp} {d:D} {v:V} (h:D.key d∧D.dep d≤8∧∃ es,d=.tup es) (q:Dr K H d v):KeyV K H d v:=by
 obtain ⟨h1,h2,es,rfl⟩:=h
 refine ⟨?_,h1,h2,q⟩
 simp only [Dr] at q
 obtain ⟨a,vs,e,_⟩:=q
 exact ⟨a,e⟩
end Gu

set_option Elab.async false
set_option linter.all false
set_option maxRecDepth 100000
set_option maxHeartbeats 4000000
namespace Gu
open PySem L2
/-! ### tuples stay -/
def TupK (H H':Hp):Prop:=∀ b xs,H b=some (.tup xs)→H' b=some (.tup xs)
theorem TupK.of {H H':Hp} (s:Same H H'):TupK H H':=fun b xs e=>s _ _ e
theorem TupK.refl (H:Hp):TupK H H:=fun _ _ e=>e
theorem TupK.trans {H H1 H2:Hp} (a:TupK H H1) (b:TupK H1 H2):TupK H H2:=fun c xs e=>b c xs (a c xs e)
theorem TupK.up {H H1:Hp} {a:Addr} {o u:HO} (t:TupK H H1) (h:H1 a=some o) (n:∀ xs,o≠.tup xs):TupK H (upd H1 a u):=fun b xs e=>by
 have q:=t b xs e
 have:b≠a:=fun z=>by rw [z,h] at q;exact n xs (Option.some.inj q)
 rw [upd_ne this];exact q
theorem row_key (r:Row):D.key (rowD r):=by
 unfold rowD
 simp only [D.key,D.keyL]
 have h1:=its_key r.1
 have h2:=its_key r.2
 simp only [D.key] at h1 h2
 exact ⟨h1,h2,trivial⟩
theorem rows_key:∀ rs:List Row,D.keyL (rowsD rs)
 | []=>by unfold rowsD;simp only [List.map_nil,D.keyL]
 | r::rs=>by
  have:=rows_key rs
  unfold rowsD at this ⊢
  simp only [List.map_cons,D.keyL]
  exact ⟨row_key r,this⟩
theorem rowD_inv {K:PySem.W.Frag} {H:Hp} {r:Row} {v:V} (h:Dr K H (rowD r) v):∃ a b c,v=.ref a∧H a=some (.tup [.ref b,.ref c])∧H b=some (.tup (r.1.map V.int))∧H c=some (.tup (r.2.map V.int)):=by
 unfold rowD at h
 simp only [Dr,DrL] at h
 obtain ⟨a,vs,rfl,e,x,l,rfl,hx,y,l',rfl,hy,rfl⟩:=h
 obtain ⟨b,us,rfl,eb,rb⟩:=hx
 obtain ⟨c,ws,rfl,ec,rc⟩:=hy
 have e1:=DrL.ints_inv rb
 have e2:=DrL.ints_inv rc
 subst e1 e2
 exact ⟨a,b,c,rfl,e,eb,ec⟩
theorem rowD_mk {K:PySem.W.Frag} {H:Hp} {r:Row} {a b c:Addr} (h:H a=some (.tup [.ref b,.ref c])) (hb:H b=some (.tup (r.1.map V.int))) (hc:H c=some (.tup (r.2.map V.int))):Dr K H (rowD r) (.ref a):=by
 unfold rowD
 exact Dr.tup h (DrL.cons (Dr.tup hb (DrL.ints _)) (DrL.cons (Dr.tup hc (DrL.ints _)) DrL.nil))
theorem rows_at {K:PySem.W.Frag} {H:Hp} {rows:List Row} {us:List V} (h:DrL K H (rowsD rows) us) {i:Nat} {r:Row} (e:rows[i]?=some r):∃ v,us[i]?=some v∧Dr K H (rowD r) v :=
 h.get (by unfold rowsD;rw [List.getElem?_map,e];rfl)
/-! ### what the program's defs hand back -/
def spBreadth (K:PySem.W.Frag):Sp:=fun vs H Q _=>∃ (a:V) (r:Row) (rest:List D),vs=[a]∧Dr K H (D.tup (rowD r::rest)) a∧r.1.length≤1000∧∀ H',Same H H'→Q (.int r.1.length) H'
def RowsAt (K:PySem.W.Frag) (H:Hp) (a:Addr) (rows:List Row):Prop:=∃ us,H a=some (.lst us)∧DrL K H (rowsD rows) us
end Gu

set_option Elab.async false
set_option linter.all false
set_option maxRecDepth 100000
set_option maxHeartbeats 4000000
namespace Gu
open PySem L2
section
variable {α β:Type} [DecidableEq α] [DecidableEq β]
theorem uniq_le (xs:List α):(uniq xs).length≤xs.length:=by have:=addAll_len xs [];unfold uniq;simpa using this
end
end Gu

set_option Elab.async false
set_option linter.all false
set_option maxRecDepth 100000
set_option maxHeartbeats 4000000
namespace Gu
open PySem L2
end Gu

set_option Elab.async false
set_option linter.all false
set_option maxRecDepth 100000
set_option maxHeartbeats 4000000
namespace Gu
open PySem L2
/-! ### drawn numbers,drawn machines -/
def Nums (m:Nat) (ns:List Int):Prop:=ns.length=m∧∀ x∈ns,0≤x∧x < 1009
def spNumbers (K:PySem.W.Frag):Sp:=fun vs H Q _=>∃ (c:Int) (m:Nat),vs=[.int c,.int m]∧m≤900∧∀ (r:Addr) (H':Hp) (ns:List Int),Same H H'→H' r=some (.lst (ns.map V.int))→Nums m ns→Q (.ref r) H'
theorem nums_snoc {ns:List Int} {x:Int} (h:∀ x∈ns,0≤x∧x < 1009) (hx:0≤x∧x < 1009):∀ y∈ns++[x],0≤y∧y < 1009:=by
 intro y hy
 rcases List.mem_append.mp hy with hy | hy
 ·exact h y hy
 ·rw [List.mem_singleton.mp hy];exact hx
theorem pmod {j:Int} (h:(0:Int) < j:=by decide):0 < j:=h
theorem mod1009 (x:Int):0≤x % 1009∧x % 1009 < 1009:=by omega
def spRows (K:PySem.W.Frag):Sp:=fun vs H Q _=>∃ (n:Nat) (c:Int),vs=[.int n,.int c]∧2≤n∧n≤5∧∀ (r:Addr) (H':Hp) (rows:List Row),Same H H'→RowsAt K H' r rows→GoodM n rows→rows.length≤8→Q (.ref r) H'
def GI (m:Nat) (H:Hp) (i:Nat) (ys:List V) (H2:Hp):Prop:=∃ gs:List Int,ys=gs.map V.int∧gs.length=i∧(∀ g∈gs,0≤g∧g < (m:Int))∧Same H H2
theorem GI.nil {m:Nat} {H:Hp} {l:Addr} (h:H l=none):GI m H 0 [] (upd H l (.lst [])):=⟨[],rfl,rfl,fun g hg=>by simp at hg,same_up (Same.refl H) h⟩
theorem GI.len {m:Nat} {H H2:Hp} {i:Nat} {ys:List V} (h:GI m H i ys H2):ys.length=i:=by
 obtain ⟨gs,rfl,e,_⟩:=h
 rw [List.length_map];exact e
theorem GI.snoc {m:Nat} {H H2:Hp} {i:Nat} {ys:List V} {l:Addr} {o:HO} (h:GI m H i ys H2) (hl:H l=none) {g:Int} (hg:0≤g∧g < (m:Int)):GI m H (i+1) (ys++[.int g]) (upd H2 l o):=by
 obtain ⟨gs,rfl,e,r,s⟩:=h
 refine ⟨gs++[g],by rw [List.map_append];rfl,by rw [List.length_append,e];rfl,fun x hx=>?_,same_over s hl⟩
 rcases List.mem_append.mp hx with hx | hx
 ·exact r x hx
 ·rw [List.mem_singleton.mp hx];exact hg
structure RIx (K:PySem.W.Frag) (n m:Nat) (c kd:Int) (j:Nat) (ln lr lp:Addr) (H0:Hp) (σ:St) (H:Hp):Prop where
 ex:∃ (b:V) (lg:Addr) (p gs:List Int),σ=[some (.int n),some (.int c),some (.ref ln),some (.int m),some (.int kd),some (.ref lr),some (.int j),some (.ref lp),some b,some (.ref lg)]∧Same H0 H∧Dr K H (D.its p) b∧IsP n p ∧
  H lg=some (.lst (gs.map V.int))∧gs.length=n∧∀ g∈gs,0≤g∧g < (m:Int)
structure RF (n m j:Nat) (ps:List Int) (lp:Addr) (H0:Hp):Prop where
 n2:2≤n
 n5:n≤5
 jm:j < m
 m8:m≤8
 lp:H0 lp=some (.lst (ps.map V.int))
 len:ps.length=6
 nn:∀ p∈ps,0≤p∧p < 1009
def tRI (K:PySem.W.Frag):TS:=fun D σ H=>∃ (n m:Nat) (c kd:Int) (j:Nat) (ln lr lp:Addr) (ps:List Int) (H0:Hp),RF n m j ps lp H0∧RIx K n m c kd j ln lr lp H0 σ H∧∀ σ' H',RIx K n m c kd j ln lr lp H0 σ' H'→D.nx σ' H'
def PreRI (K:PySem.W.Frag) (σ:St) (H:Hp):Prop:=∃ (n m:Nat) (c kd:Int) (j:Nat) (ln lr lp:Addr) (ps:List Int) (H0:Hp),RF n m j ps lp H0∧RIx K n m c kd j ln lr lp H0 σ H
def GR (n m:Nat) (rs:List Row):Prop:=∀ r∈rs,IsP n r.1∧r.2.length=n∧∀ g∈r.2,0≤g∧g < (m:Int)
theorem GR.snoc {n m:Nat} {rs:List Row} {r:Row} (h:GR n m rs) (hr:IsP n r.1∧r.2.length=n∧∀ g∈r.2,0≤g∧g < (m:Int)):GR n m (rs++[r]):=fun x hx=>by
 rcases List.mem_append.mp hx with hx | hx
 ·exact h x hx
 ·rw [List.mem_singleton.mp hx];exact hr
theorem GR.good {n m:Nat} {rs:List Row} (h:GR n m rs) (hl:rs.length=m) (h1:1≤m) (h4:m≤4000):GoodM n rs:=by
 subst hl
 exact ⟨h4,h1,fun r hr=>(h r hr).1,fun r hr=>(h r hr).2.1,fun r hr=>(h r hr).2.2⟩
theorem cut6 {ns:List Int} {i:Nat} (h:Nums 64 ns) (hi:i < 8):∃ ps:List Int,cutV (ns.map V.int) (some (2+6*(i:Int))) (some (8+6*(i:Int)))=ps.map V.int∧ps.length=6∧∀ p∈ps,0≤p∧p < 1009:=by
 have hl:=h.1
 refine ⟨(ns.drop (2+6*i)).take 6,?_,by rw [List.length_take,List.length_drop];omega,fun p hp=>h.2 p (List.mem_of_mem_drop (List.mem_of_mem_take hp))⟩
 have e1:(2+6*(i:Int))=((2+6*i:Nat):Int):=by omega
 have e2:(8+6*(i:Int))=((8+6*i:Nat):Int):=by omega
 unfold cutV
 rw [e1,e2,HT.sIx_nat,HT.sIx_nat,List.length_map,hl,Nat.min_eq_left (by omega),Nat.min_eq_left (by omega),show 8+6*i - (2+6*i)=6 by omega,List.map_take,List.map_drop]
theorem nat_of {x:Int} (h:0≤x):∃ m:Nat,x=(m:Int):=⟨x.toNat,by omega⟩
theorem flat1 (n:Nat) (j:Int):(List.replicate n [V.int j]).flatten=(List.replicate n j).map V.int:=by
 induction n with
 | zero=>rfl
 | succ n ih=>rw [List.replicate_succ,List.flatten_cons,ih,List.replicate_succ];rfl
theorem isP_iota (n:Nat):IsP n (iota n):=List.Perm.refl _
end Gu

set_option Elab.async false
set_option linter.all false
set_option maxRecDepth 100000
set_option maxHeartbeats 4000000
namespace Gu
open PySem L2
theorem inl_inj (x y:Int) (e:(Sum.inl x:Key)=Sum.inl y):x=y:=Sum.inl.inj e
theorem nd_take {o:List Int} (h:o.Nodup) {i:Nat} {r:Int} (e:o[i]?=some r):r∉o.take i:=fun z=>by
 have h':(o.take i++o.drop i).Nodup:=by rw [List.take_append_drop];exact h
 have hr:r∈o.drop i:=List.mem_of_getElem? (i:=0) (by rw [List.getElem?_drop];exact e)
 exact (List.nodup_append.mp h').2.2 r z r hr rfl
/-! ### a dict from rows to data -/
def mk (o:List Int) (vs:List V):List (Key × V):=(o.zip vs).map fun p=>(Sum.inl p.1,p.2)
def FK (f:Int→D):Prop:=∀ r,D.key (f r)∧D.dep (f r)≤3
theorem FK.keyL {f:Int→D} (h:FK f):∀ o:List Int,D.keyL (o.map f)
 | []=>by simp only [List.map_nil,D.keyL]
 | r::o=>by simp only [List.map_cons,D.keyL];exact ⟨(h r).1,FK.keyL h o⟩
theorem FK.depL {f:Int→D} (h:FK f):∀ o:List Int,D.depL (o.map f)≤3
 | []=>by simp only [List.map_nil,D.depL];omega
 | r::o=>by
  simp only [List.map_cons,D.depL]
  have:=(h r).2
  have:=FK.depL h o
  omega
theorem FK.its (rows:List Row):FK fun r=>D.its (row rows r).1:=fun r=>⟨its_key _,by rw [its_dep];decide⟩
theorem FK.int (k:Int→Int):FK fun r=>D.int (k r):=fun r=>⟨by simp only [D.key],by simp only [D.dep];decide⟩
def keyOf (rows:List Row) (f:Int→D) (r:Int):D:=.tup [f r,.tup ((row rows r).2.map f)]
theorem FK.key {rows:List Row} {f:Int→D} (h:FK f) (r:Int):D.key (keyOf rows f r)∧D.dep (keyOf rows f r)≤8∧∃ es,keyOf rows f r=.tup es:=by
 refine ⟨?_,?_,_,rfl⟩
 ·unfold keyOf
  simp only [D.key,D.keyL]
  exact ⟨(h r).1,h.keyL _,trivial⟩
 ·unfold keyOf
  simp only [D.dep,D.depL]
  have:=(h r).2
  have:=h.depL (row rows r).2
  omega
def skeys (rows:List Row) (o:List Int) (f:Int→D):List D:=o.map (keyOf rows f)
def sroundI (rows:List Row) (o:List Int) (f:Int→D) (r:Int):Int:=(((uniq (skeys rows o f)).idxOf (keyOf rows f r):Nat):Int)
def sround (rows:List Row) (o:List Int) (f:Int→D):Int→D:=fun r=>.int (sroundI rows o f r)
def scount (rows:List Row) (o:List Int) (f:Int→D):Nat:=(uniq (skeys rows o f)).length
theorem scount_le (rows:List Row) (o:List Int) (f:Int→D):scount rows o f≤o.length:=by
 have:=uniq_le (skeys rows o f)
 unfold scount skeys at *
 rw [List.length_map] at this
 exact this
def sloop (rows:List Row) (o:List Int):Nat→Nat→(Int→D)→(Int→D)
 | 0,_,f=>f
 | m+1,many,f=>if many < scount rows o f then sloop rows o m (scount rows o f) (sround rows o f) else sround rows o f
def smarks (rows:List Row):Int→D:=sloop rows (order rows) (rows.length+2) 0 fun r=>D.its (row rows r).1
/-! ### the rows in line -/
def hdStep (k:Int→Int) (hs:List Int) (r:Int):List Int:=if k r∈hs.map k then hs else hs++[r]
def heads (k:Int→Int) (o:List Int):List Int:=o.foldl (hdStep k) []
def inLine (rows:List Row) (k:Int→Int) (o:List Int):List Row:=(heads k o).map fun r=>((row rows r).1,(row rows r).2.map fun g=>((((heads k o).map k).idxOf (k g):Nat):Int))
theorem heads_snoc (k:Int→Int) (o:List Int) (r:Int):heads k (o++[r])=hdStep k (heads k o) r:=by
 unfold heads
 rw [List.foldl_append];rfl
theorem heads_has (k:Int→Int) (o:List Int):(∀ r∈o,k r∈(heads k o).map k)∧(∀ r∈heads k o,r∈o)∧(heads k o).length≤o.length:=by
 have:∀ (o hs:List Int),(∀ x∈hs.map k,x∈(o.foldl (hdStep k) hs).map k)∧(∀ r∈o,k r∈(o.foldl (hdStep k) hs).map k)∧(∀ r∈o.foldl (hdStep k) hs,r∈hs∨r∈o)∧(o.foldl (hdStep k) hs).length≤hs.length+o.length:=by
  intro o
  induction o with
  | nil=>intro hs;exact ⟨fun x h=>h,fun r h=>by simp at h,fun r h=>.inl h,by simp⟩
  | cons a o ih =>
   intro hs
   obtain ⟨i1,i2,i3,i4⟩:=ih (hdStep k hs a)
   rw [List.foldl_cons]
   have hsub:∀ x∈hs.map k,x∈(hdStep k hs a).map k:=fun x hx=>by
    unfold hdStep
    split
    ·exact hx
    ·rw [List.map_append];exact List.mem_append_left _ hx
   have ha:k a∈(hdStep k hs a).map k:=by
    unfold hdStep
    split
    ·assumption
    ·simp
   have hlen:(hdStep k hs a).length≤hs.length+1:=by
    unfold hdStep
    split
    ·omega
    ·simp
   refine ⟨fun x hx=>i1 x (hsub x hx),fun r hr=>?_,fun r hr=>?_,by rw [List.length_cons];omega⟩
   ·rcases List.mem_cons.mp hr with rfl | hr
    ·exact i1 _ ha
    ·exact i2 r hr
   ·rcases i3 r hr with h | h
    ·unfold hdStep at h
     split at h
     ·exact .inl h
     ·rcases List.mem_append.mp h with h | h
      ·exact .inl h
      ·exact .inr (by rw [List.mem_singleton.mp h];simp)
    ·exact .inr (List.mem_cons_of_mem _ h)
 obtain ⟨_,h2,h3,h4⟩:=this o []
 refine ⟨h2,fun r hr=>?_,by unfold heads;simpa using h4⟩
 rcases h3 r hr with h | h
 ·simp at h
 ·exact h
theorem heads_hd (k:Int→Int) (a:Int) (o:List Int):∃ t,heads k (a::o)=a::t:=by
 have:∀ (o hs:List Int),∃ t,o.foldl (hdStep k) hs=hs++t:=by
  intro o
  induction o with
  | nil=>intro hs;exact ⟨[],by simp⟩
  | cons a o ih =>
   intro hs
   obtain ⟨t,e⟩:=ih (hdStep k hs a)
   rw [List.foldl_cons,e]
   unfold hdStep
   split
   ·exact ⟨t,rfl⟩
   ·exact ⟨[a]++t,by rw [List.append_assoc]⟩
 unfold heads
 rw [List.foldl_cons]
 have e:hdStep k [] a=[a]:=by unfold hdStep;simp
 rw [e]
 obtain ⟨t,e⟩:=this o [a]
 exact ⟨t,e⟩
def sInt:D→Int
 | .int i=>i
 | _=>0
def kOf (rows:List Row) (r:Int):Int:=sInt (smarks rows r)
theorem sloop_int (rows:List Row) (o:List Int):∀ (m many:Nat) (f:Int→D),∃ k:Int→Int,sloop rows o (m+1) many f=fun r=>D.int (k r)
 | 0,many,f=>by
  unfold sloop
  split
  ·unfold sloop;exact ⟨sroundI rows o f,rfl⟩
  ·exact ⟨sroundI rows o f,rfl⟩
 | m+1,many,f=>by
  unfold sloop
  split
  ·exact sloop_int rows o m _ _
  ·exact ⟨sroundI rows o f,rfl⟩
theorem smarks_int (rows:List Row):smarks rows=fun r=>D.int (kOf rows r):=by
 obtain ⟨k,e⟩:=sloop_int rows (order rows) (rows.length+1) 0 fun r=>D.its (row rows r).1
 have e':smarks rows=fun r=>D.int (k r):=e
 funext r
 unfold kOf
 rw [e']
 rfl
def shr (rows:List Row):List Row:=inLine rows (kOf rows) (order rows)
theorem shr_hd {n:Nat} {rows:List Row} (G:GoodM n rows):∃ r t,shr rows=r::t∧IsP n r.1:=by
 obtain ⟨L,_⟩:=order_line G
 obtain ⟨t,e⟩:=L.hd
 obtain ⟨t',e'⟩:=heads_hd (kOf rows) 0 t
 unfold shr inLine
 rw [e,e',List.map_cons]
 have:=G.some
 exact ⟨_,_,rfl,G.perm (row rows 0) (row_mem (Int.le_refl 0) (show (0:Int) < (rows.length:Int) by omega))⟩
theorem DD.keyed {P:Program} {w:World} {K:PySem.W.Frag} {H H':Hp} {a:Addr} {kvs:List (D × V)} (h:DD P w K H a kvs) (k:TupK H H') (e:H' a=H a):DD P w K H' a kvs:=by
 obtain ⟨xs,e0,r,n,z⟩:=h
 exact ⟨xs,by rw [e];exact e0,r.mono fun _ _ q d=>d.keyed k q,n,z⟩
theorem prs_put_same {κ:Type} [DecidableEq κ]:∀ (n:Nat) (u:List κ) (a:κ),a∈u→u.Nodup→putK (prsF id n u) a (V.int ((n+u.idxOf a:Nat):Int))=prsF id n u:=by
 intro n u a ha hn
 have hv:valV (prsF id n u) a=some (V.int ((n+u.idxOf a:Nat):Int)):=by
  have:=prsF_val (κ:=κ) id (fun _ _ e=>e) n u a
  rw [if_pos ha] at this
  exact this
 unfold putK
 rw [valV_any,hv]
 rw [if_pos (show (some (V.int ((n+u.idxOf a:Nat):Int))).isSome=true from rfl)]
 clear hv
 induction u generalizing n with
 | nil=>rfl
 | cons b u ih =>
  show (if b=a then (b,_) else (b,V.int (n:Int)))::List.map _ (prsF id (n+1) u)=(b,V.int (n:Int))::prsF id (n+1) u
  have hnb:=(List.nodup_cons.mp hn).1
  have hnu:=(List.nodup_cons.mp hn).2
  by_cases e:b=a
  ·subst e
   rw [if_pos rfl]
   have e1:(b::u).idxOf b=0:=by simp
   rw [e1]
   congr 1
   have:∀ (m:Nat) (l:List κ),b∉l→List.map (fun kv:κ × V=>if kv.1=b then (kv.1,V.int ((n+0:Nat):Int)) else kv) (prsF id m l)=prsF id m l:=by
    intro m l
    induction l generalizing m with
    | nil=>intro _;rfl
    | cons c l ih2 =>
     intro hb
     show (if c=b then _ else (c,V.int (m:Int)))::List.map _ (prsF id (m+1) l)=(c,V.int (m:Int))::prsF id (m+1) l
     rw [if_neg (fun z=>hb (by rw [z];simp)),ih2 (m+1) (fun z=>hb (List.mem_cons_of_mem _ z))]
   exact this _ _ hnb
  ·rw [if_neg e]
   have ha':a∈u:=by rcases List.mem_cons.mp ha with z | z;exact absurd z.symm e;exact z
   have e1:(b::u).idxOf a=u.idxOf a+1:=by
    rw [List.idxOf_cons]
    have hb:(b == a)=false:=by simpa using e
    rw [hb];rfl
   rw [e1,show n+(u.idxOf a+1)=(n+1)+u.idxOf a by omega,ih (n+1) ha' hnu]
def spShrunk (K:PySem.W.Frag):Sp:=fun vs H Q _=>∃ (a:Addr) (n:Nat) (rows:List Row),vs=[.ref a,.int 0]∧RowsAt K H a rows∧GoodM n rows∧n≤60∧Gives K H Q (D.tup (rowsD (shr rows)))
end Gu

set_option Elab.async false
set_option linter.all false
set_option maxRecDepth 100000
set_option maxHeartbeats 4000000
namespace Gu
open PySem L2
def spGuise (K:PySem.W.Frag):Sp:=fun vs H Q _=>∃ (n:Nat) (c:Int),vs=[.int n,.int c]∧2≤n∧n≤5∧∀ (v:V) (H':Hp) (rows:List Row),Same H H'→GoodM n rows→rows.length≤8→Dr K H' (D.tup (rowsD (shr rows))) v→Q v H'
end Gu

set_option Elab.async false
set_option linter.all false
set_option maxRecDepth 100000
set_option maxHeartbeats 4000000
namespace Gu
open PySem L2
/-! ### how many are unlike -/
section
variable {α β:Type} [DecidableEq α] [DecidableEq β]
end
/-! ### what a row does -/
def run (M:List Row):Int→List Nat→Int
 | x,[]=>x
 | x,i::w=>run M ((row M x).2.getD i 0) w
end Gu

set_option Elab.async false
set_option linter.all false
set_option maxRecDepth 100000
set_option maxHeartbeats 4000000
namespace Gu
open PySem L2
/-! ### the law's marks are right -/
/-! ### the program's kinds are right -/
end Gu

set_option Elab.async false
set_option linter.all false
set_option maxRecDepth 100000
set_option maxHeartbeats 4000000
namespace Gu
open PySem L2
/-! ### the line of a machine,and of one that it is mapped to -/
/-! ### heads -/
/-! ### the program's least machine is the law's -/
end Gu

set_option Elab.async false
set_option linter.all false
set_option maxRecDepth 100000
set_option maxHeartbeats 4000000
namespace L2
open PySem PySem.Spec PyProof.Rows
/-! ### d.setdefault(k,x) -/
section
variable {X:Cx} {pins:List (Addr × Obj)} {σ:St} {H:Hp} {s:Shared} {a:Addr} {kvs:List (Key × V)} {k:Key} {u:Value} {A:Around} {E:Value→Shared→Prop}
end
section
variable {X:Cx} {o e f:Expr} {apos cpos:Pos} {td ty tx:TE}
end
end L2

set_option Elab.async false
set_option linter.all false
set_option maxRecDepth 100000
set_option maxHeartbeats 4000000
namespace HT
open PySem PySem.Spec PyProof.Rows
section
variable {prog:Program} {w:World} {A:Around} {E:Value→Shared→Prop} {s:Shared}
theorem fm_rev {α:Type} (xs:List α):∀ k,k≤xs.length→(List.range k).filterMap (fun (m:Nat)=>xs[xs.length - 1 - m]?)=xs.reverse.take k
 | 0,_=>by simp
 | k+1,h=>by
  rw [List.range_succ,List.filterMap_append,fm_rev xs k (by omega),List.take_add_one]
  congr 1
  have hk:k < xs.length:=by omega
  rw [List.getElem?_reverse hk]
  have:xs.length - 1 - k < xs.length:=by omega
  rw [List.filterMap_cons,List.getElem?_eq_getElem this]
  rfl
theorem fm_congr {α β:Type} {f g:α→Option β}:∀ {l:List α},(∀ a∈l,f a=g a)→l.filterMap f=l.filterMap g
 | [],_=>rfl
 | a::l,h=>by
  rw [List.filterMap_cons,List.filterMap_cons,h a (by simp),fm_congr fun b hb=>h b (List.mem_cons_of_mem _ hb)]
end
end HT
namespace L2
open PySem PySem.Spec PyProof.Rows
section
variable {X:Cx} {e st:Expr} {te ts:TE} {pos p2:Pos}
end
end L2

set_option Elab.async false
set_option linter.all false
set_option maxRecDepth 100000
set_option maxHeartbeats 4000000
namespace L2
open PySem PySem.Spec PyProof.Rows
/-! ### enumerate over a list -/
section
variable {X:Cx} {elts:List Expr} {tk:Nat} {tp:Pos}
end
end L2

set_option Elab.async false
set_option linter.all false
set_option maxRecDepth 100000
set_option maxHeartbeats 4000000
namespace L2
open PySem PySem.Spec PyProof.Rows
section
variable {X:Cx}
end
end L2

set_option Elab.async false
set_option linter.all false
set_option maxRecDepth 100000
set_option maxHeartbeats 4000000
namespace Gu
open PySem L2
/-! ### a machine blown up -/
end Gu
namespace Gu
open PySem L2
end Gu
namespace Gu
open PySem L2
end Gu
namespace Gu
open PySem L2
end Gu

set_option Elab.async false
set_option linter.all false
set_option maxRecDepth 100000
set_option maxHeartbeats 4000000
namespace L2
open PySem PySem.Spec PyProof.Rows
/-! ### an exception in flight -/
def Fly (h0:Heap) (H:Hp) (h:Heap) (ea C:Addr):Prop:=h0.get? ea=none∧H ea=none∧∃ a0 oe vs T oT ts,h.get? ea=some oe∧(oe.cls=.ref C∧vs[0]?=some a0)∧oe.data=.fields vs∧vs[1]?=some (.ref T)∧T≠ea∧h0.get? T=none∧H T=none∧h.get? T=some oT∧oT.data=.fields ts∧ts[3]?=some .none
def Fresh (h0:Heap) (H:Hp) (h:Heap) (ea C:Addr):Prop:=h0.get? ea=none∧H ea=none∧∃ a0 oe vs,h.get? ea=some oe∧(oe.cls=.ref C∧vs[0]?=some a0)∧oe.data=.fields vs∧vs[1]?=some .none
theorem funFrames_at {h base:Heap}:∀ {l:List Env},h.FunFrames base l→∀ b∈frs l,∃ o,h.get? b=some o∧∀ vs,o.data≠.fields vs
 | [],_,b,hb=>by simp [frs] at hb
 | env::r,hl,b,hb=>by
  obtain ⟨hk,⟨L,o,hf,hn,ho,hd⟩,hr⟩:=hl
  unfold frs at hb
  rw [List.filterMap_cons,hf] at hb
  rcases List.mem_cons.mp hb with z | z
  ·rw [z];exact ⟨o,ho,hd⟩
  ·exact funFrames_at hr b z
theorem funFrames_base {h base base':Heap}:∀ {l:List Env},h.FunFrames base l→(∀ b∈frs l,base'.get? b=none)→h.FunFrames base' l
 | [],_,_=>trivial
 | env::r,hl,hb=>by
  obtain ⟨hk,⟨L,o,hf,hn,ho,hd⟩,hr⟩:=hl
  have e:frs (env::r)=L::frs r:=by unfold frs;rw [List.filterMap_cons,hf]
  exact ⟨hk,⟨L,o,hf,hb L (by rw [e];simp),ho,hd⟩,funFrames_base hr fun b hb'=>hb b (by rw [e];exact List.mem_cons_of_mem _ hb')⟩
section
variable {P:Program} {w:World}
theorem objThere {H:Hp} {h:Heap} {a:Addr} {o:HO} (x:ObjOk P w H h a o):∃ ob,h.get? a=some ob:=by
 cases o with
 | lst xs=>obtain ⟨_,_,_,_,e⟩:=x;exact ⟨_,e⟩
 | tup xs=>obtain ⟨_,_,_,_,e⟩:=x;exact ⟨_,e⟩
 | dK kvs=>obtain ⟨_,_,_,_,o,_,_,e,_⟩:=x;exact ⟨_,e⟩
 | dT kvs=>obtain ⟨_,_,_,_,o,_,_,e,_⟩:=x;exact ⟨_,e⟩
 | set S n=>obtain ⟨o,_,_,_,e,_⟩:=x;exact ⟨_,e⟩
 | ins C dx fs=>obtain ⟨_,_,_,e,_⟩:=x;exact ⟨_,e⟩
 | own y=>obtain ⟨_,e⟩:=x;exact ⟨_,e⟩
 | xd fs=>obtain ⟨_,⟨_,_,_,e,_⟩,_⟩:=x;exact ⟨_,e⟩
 | rng lo hi=>obtain ⟨_,_,_,e⟩:=x;exact ⟨_,e⟩
 | frz ob u=>obtain ⟨e,_⟩:=x;exact ⟨_,e⟩
 | tbl ps=>exact ⟨_,show h.get? a=some _ from x⟩
 | met f y=>exact ⟨_,show h.get? a=some _ from x⟩
 | ext φ=>obtain ⟨_,⟨_,e⟩,_⟩:=x;exact ⟨_,e⟩
theorem left_ok {fr:List Addr} {H1 H':Hp} {h1 h h':Heap} {env:Env} {outer:List Env} {ea C:Addr} {a0:Value} {base:Heap} {hid:List Addr} (FF:h.FunFrames base (env::outer)) (u:Un fr [] H1 H' h1 h) (hok:HOk P w H' h)
  (hfr:∀ b∈frs (env::outer),H' b=none∧(b∈fr∨h1.get? b=none)) (hfr2:∀ b∈fr,b∈frs (env::outer)) (he1:h1.get? ea=none) (heH:H' ea=none) (hid1:∀ b∈hid,h1.get? b=none∧H' b=none)
  (lf:(PySem.W.hideAll h (ea::(hid++frs (env::outer)))).LeftW (env::outer) ea (.ref C) a0 h h') :
  Un fr [] H1 H' h1 h'∧HOk P w H' h'∧Fly h1 H' h' ea C:=by
 obtain ⟨st,ff,tr,sl⟩:=lf
 have keep:∀ b o,h.get? b=some o→b≠ea→b∉hid→b∉frs (env::outer)→h'.get? b=some o:=fun b o e n1 n2 n3 =>
  st b o (PySem.W.hideAll_get _ e fun z=>by
   rcases List.mem_cons.mp z with z | z
   ·exact n1 z
   ·rcases List.mem_append.mp z with z | z
    ·exact n2 z
    ·exact n3 z)
 have slot:∀ b o,h.get? b=some o→b∈frs (env::outer)→∃ s,h'.get? b=some { o with slots:=s }:=fun b o e hb=>by
  obtain ⟨o',e',hd⟩:=funFrames_at FF b hb
  rw [e] at e'
  cases e'
  exact sl b o e hd
 have nh:∀ b o,h1.get? b=some o→b≠ea∧b∉hid:=fun b o e=>⟨fun z=>(by rw [z,he1] at e;cases e),fun z=>(by rw [(hid1 b z).1] at e;cases e)⟩
 refine ⟨⟨fun b o e n hb hx=>?_,fun b o e n hb hx=>?_,u.free,fun b o e hx=>?_,u.tups,u.frzs,u.tbls⟩,fun a o e=>?_,he1,heH,?_⟩
 ·have e2:=u.keep b o e n hb hx
  refine keep b o e2 (nh b o e).1 (nh b o e).2 fun z=>?_
  rcases (hfr b z).2 with z | z
  ·exact hb z
  ·rw [z] at e;cases e
 ·obtain ⟨s1,e2⟩:=u.slot b o e n hb hx
  obtain ⟨s2,e3⟩:=slot b _ e2 (hfr2 b hb)
  exact ⟨s2,e3⟩
 ·obtain ⟨o',e2⟩:=u.there b o e hx
  by_cases hb:b∈frs (env::outer)
  ·obtain ⟨s2,e3⟩:=slot b _ e2 hb
   exact ⟨_,e3⟩
  ·exact ⟨o',keep b o' e2 (nh b o e).1 (nh b o e).2 hb⟩
 ·refine (hok a o e).stay (fun b v hb q=>?_) (fun _ q=>q) fun _ _ q=>q
  have hbs:∃ ob,H' b=some ob:=by
   rcases hb with z | z
   ·rw [z];exact ⟨_,e⟩
   ·exact ⟨_,z⟩
  obtain ⟨ob,hob⟩:=hbs
  refine keep b v q (fun z=>?_) (fun z=>?_) fun z=>?_
  ·rw [z,heH] at hob;cases hob
  ·rw [(hid1 b z).2] at hob;cases hob
  ·rw [(hfr b z).1] at hob;cases hob
 ·obtain ⟨oe,vs,T,oT,ts,g1,g2,g3,g4,g5,g6,g7,g8,g9⟩:=tr
  have hT:h1.get? T=none∧H' T=none:=by
   cases eT:h.get? T with
   | none =>
    refine ⟨?_,?_⟩
    ·cases q:h1.get? T with
     | none=>rfl
     | some o =>
      obtain ⟨o',e2⟩:=u.there T o q (by simp)
      rw [eT] at e2;cases e2
    ·cases q:H' T with
     | none=>rfl
     | some o =>
      obtain ⟨ob,hob⟩:=objThere (hok T o q)
      rw [eT] at hob;cases hob
   | some oT' =>
    have hm:T∈ea::(hid++frs (env::outer)):=Classical.byContradiction fun nm=>by
     rw [PySem.W.hideAll_get _ eT nm] at g5;cases g5
    rcases List.mem_cons.mp hm with z | z
    ·exact absurd z g6
    ·rcases List.mem_append.mp z with z | z
     ·exact hid1 T z
     ·obtain ⟨o',e',hd⟩:=funFrames_at ff T z
      rw [g7] at e'
      cases e'
      exact absurd g8 (hd ts)
  exact ⟨a0,oe,vs,T,oT,ts,g1,g2,g3,g4,g6,hT.1,hT.2,g7,g8,g9⟩
theorem leave_ok {M:Model} {A:Around} {E:Value→Shared→Prop} {Q:Unit→Shared→Prop} {s:Shared} {fr:List Addr} {H1 H':Hp} {h1:Heap} {env:Env} {outer:List Env} {L ea C:Addr} {base:Heap} (hA:A.frames=some (env::outer)) (hL:env.frame=some L) (FF:s.heap.FunFrames base (env::outer)) (u:Un fr [] H1 H' h1 s.heap) (hok:HOk P w H' s.heap)
  (hfr:∀ b∈frs (env::outer),H' b=none∧(b∈fr∨h1.get? b=none)) (hfr2:∀ b∈fr,b∈frs (env::outer)) (hf:Fresh h1 H' s.heap ea C∨Fly h1 H' s.heap ea C)
  (k:∀ h',Un fr [] H1 H' h1 h'→HOk P w H' h'→Fly h1 H' h' ea C→Q () { s with heap:=h' }):wpAny M A (leaving env (.ref ea)) Q E s:=by
 rcases hf with ⟨he1,heH,a0,oe,vs,g1,⟨g2,g20⟩,g3,g4⟩ | ⟨he1,heH,a0,oe,vs,T,oT,ts,g1,g2,g3,g4,g5,g6,g7,g8,g9,g10⟩
 ·have FF':s.heap.FunFrames (PySem.W.hideAll s.heap (ea::([]++frs (env::outer)))) (env::outer):=funFrames_base FF fun b hb=>PySem.W.hideAll_none _ (by simp [hb])
  refine wpAny_leaving_firstW hA FF' hL g1 (fun b o e=>PySem.W.of_hideAll _ e) (PySem.W.hideAll_none _ (by simp)) g3 g4 g20 fun h' lf=>?_
  rw [g2] at lf
  obtain ⟨a,b,c⟩:=left_ok (hid:=[]) FF u hok hfr hfr2 he1 heH (fun b hb=>by simp at hb) lf
  exact k h' a b c
 ·have FF':s.heap.FunFrames (PySem.W.hideAll s.heap (ea::([T]++frs (env::outer)))) (env::outer):=funFrames_base FF fun b hb=>PySem.W.hideAll_none _ (by simp [hb])
  refine wpAny_leaving_nextW hA FF' hL ⟨oe,vs,T,oT,ts,g1,g2,g3,g4,PySem.W.hideAll_none _ (by simp),g5,g8,g9,g10⟩ (fun b o e=>PySem.W.of_hideAll _ e) (PySem.W.hideAll_none _ (by simp)) fun h' lf=>?_
  obtain ⟨a,b,c⟩:=left_ok (hid:=[T]) FF u hok hfr hfr2 he1 heH (fun b hb=>by rw [List.mem_singleton.mp hb];exact ⟨g6,g7⟩) lf
  exact k h' a b c
def CXx (P:Program) (w:World):CXT:=fun outer H s E e s'=>∃ (ea C:Addr) (H':Hp),e=.ref ea∧s'.os=s.os∧AllBare s'.gens∧Un (frs outer) [] H H' s.heap s'.heap∧HOk P w H' s'.heap∧Fly s.heap H' s'.heap ea C∧E (.ref ea) (some C) H'
instance:NoE (CXx P w):=⟨fun ⟨_,_,_,_,_,_,_,_,_,h⟩=>h⟩
theorem xe_of {K:PySem.W.Frag} {mg:Str→Option Value} {base:Heap} {N:List Str} {qual:Str} {scope:Scope} {f:Addr} {cd:Value} {A:Around} {outer:List Env} {s:Shared} {H:Hp} {E:XK} {pins:List (Addr × Obj)} {σ:St} {H':Hp} {s':Shared} {ea C:Addr}
  (J:Inv (cxOf (CXx P w) P w K mg base N qual scope f cd A outer s H E) pins σ H' s') (hf:Fresh s.heap H' s'.heap ea C∨Fly s.heap H' s'.heap ea C) (hE:E (.ref ea) (some C) H'):(cxOf (CXx P w) P w K mg base N qual scope f cd A outer s H E).xe (.ref ea) s':=by
 have hsub:=J.stkSub
 have hfree:=J.stkFree
 have hst:=J.stack
 have hfrm:=J.ok.frames
 show wpAny (model P w) (A.deeper (envOfC qual scope s.heap.objs.size f cd)) (leaving (envOfC qual scope s.heap.objs.size f cd) (.ref ea)) (fun _ s''=>CXx P w outer H s E (.ref ea) s'') (fun e' s''=>CXx P w outer H s E e' s'') s'
 refine leave_ok (P:=P) (w:=w) (fr:=frs outer) (H1:=H) (H':=H') (h1:=s.heap) (base:=base) hfrm rfl hst J.base J.hok (fun b hb=>⟨hfree b hb,?_⟩) (fun b hb=>List.mem_cons_of_mem _ hb) hf fun h' a b c=>?_
 ·rcases List.mem_cons.mp (hsub b hb) with z | z
  ·right
   rw [z]
   exact Heap.get?_none_of_le (Nat.le_refl _)
  ·exact .inl z
 ·exact ⟨ea,C,H',rfl,J.os,J.bare,a,b,c,hE⟩
theorem passX {K:PySem.W.Frag} {mg:Str→Option Value} {base:Heap} {N:List Str} {qual:Str} {scope:Scope} {f:Addr} {cd:Value} {A:Around} {outer:List Env} {s:Shared} {H:Hp} {E E':XK} (hE:∀ e C H',E' e C H'→E e C H') :
  Passes (CXx P w) (cxOf (CXx P w) P w K mg base N qual scope f cd A outer s H E) E':=by
 intro pins σ H1 s1 e s' I hx
 obtain ⟨ea,C,H',rfl,os,bare,un,hok,fly,q⟩:=hx
 have J:=I.call' (ch:=[]) os un hok bare (fun b z=>absurd z (by simp))
 refine xe_of J (.inr ?_) (hE _ _ _ q)
 have up:∀ b,s1.heap.get? b=none→s.heap.get? b=none:=fun b z=>by
  cases q:s.heap.get? b with
  | none=>rfl
  | some o =>
   obtain ⟨o',e⟩:=I.base.there b o q (by simp [cxOf])
   rw [z] at e;cases e
 obtain ⟨a1,a2,a0,oe,vs,T,oT,ts,g1,g2,g3,g4,g5,g6,r⟩:=fly
 exact ⟨up _ a1,a2,a0,oe,vs,T,oT,ts,g1,g2,g3,g4,g5,up _ g6,r⟩
end
end L2

set_option Elab.async false
set_option linter.all false
set_option maxRecDepth 100000
set_option maxHeartbeats 4000000
namespace L2
open PySem PySem.Spec PyProof.Rows
theorem exc_obj {K:PySem.W.Frag} {h:Heap} {C:Addr} {bmB:List Value} {newId:String} (X:K.In h) (e:PySem.W.excIn K C bmB newId=true):∃ bm N nm q bs hdct sn sub ab col dd k0 k1 k2 k3 k5 mN,
  h.get? C=some (excClassObj nm q C N bs bm hdct sn sub ab col dd k0 k1 k2 k3 k5 newId)∧h.Ns N mN∧mN "__init__"=none∧OwnTail h bmB bm:=by
 unfold PySem.W.excIn at e
 split at e
 ·rename_i dict cd sl hl
  split at e
  ·rename_i C' bm a0 a1 a2 a3 n a5 hm hs
   simp only [Bool.and_eq_true,beq_iff_eq,Bool.not_eq_true'] at e
   obtain ⟨⟨⟨⟨⟨e1,e2⟩,e3⟩,e4⟩,e5⟩,e6⟩:=e
   have hC:=X C _ hl
   subst e1 e2
   have hsl:sl=#[a0,a1,a2,a3,some (Value.builtin n),a5]:=by rw [←Array.toArray_toList (xs:=sl),hs]
   obtain ⟨nm,bs,mro,ns,q,hd,sn,sub,ab,col,hdel⟩:=cd
   simp only at hm e3 e5 e6
   subst hm e3 hsl
   exact ⟨bm,ns,nm,q,bs,hd,sn,sub,ab,col,dict,a0,a1,a2,a3,a5,h.nsMap ns,hC,Heap.Ns.of_isNs (PySem.W.isNs_of_in X e5),PySem.W.nsMap_none_of_in X e5 e6,PySem.W.tail_of_in X e4⟩
  ·cases e
 ·cases e
theorem tail_has {h:Heap} {bmB bm:List Value} {v:Value} (t:OwnTail h bmB bm) (hb:bmB.contains v=true):bm.contains v=true:=by
 induction t with
 | base=>exact hb
 | own _ _ _ _ ih=>rw [List.contains_cons,ih];simp
section
variable {P:Program} {w:World} {K:PySem.W.Frag} {mg:Str→Option Value} {base:Heap} {N:List Str} {qual:Str} {scope:Scope} {f:Addr} {cd:Value} {A:Around} {outer:List Env} {s0:Shared} {H0:Hp} {E:XK}
theorem ps_raise {x:Str} {C:Addr} {B newId initId:String} {bmB:List Value} {arg:Expr} {ta:TE} {np cpos pos:Pos} (hx:mg x=some (.ref C)) (hg:Gl (cxOf (CXx P w) P w K mg base N qual scope f cd A outer s0 H0 E) x) (he:PySem.W.excIn K C bmB newId=true) (hB:ExcBaseFacts B newId initId bmB)
  (ha:PE (cxOf (CXx P w) P w K mg base N qual scope f cd A outer s0 H0 E) arg ta)
  (htr:backTo cpos (starEach [arg] (cxOf (CXx P w) P w K mg base N qual scope f cd A outer s0 H0 E).env)=[(false,eval arg (cxOf (CXx P w) P w K mg base N qual scope f cd A outer s0 H0 E).env)]:=by rfl) (hdb:(x == ("__debug__":Str))=false:=by decide) :
  PS (cxOf (CXx P w) P w K mg base N qual scope f cd A outer s0 H0 E) (.Raise (some (.Call (.Name x np) [arg] [] cpos)) none pos) (fun D σ H=>ta σ H fun v H1=>∀ ea,E (.ref ea) (some C) H1):=by
 intro pins s σ H D I h
 obtain ⟨bm,NN,nm,q,bs,hd,sn,sub,ab,col,dict,a0,a1,a2,a3,a5,mN,hC,hN,hi,ht⟩:=exc_obj I.ok.mod.kin he
 refine wpAny_Raise_call_subT (nm:=nm) (q:=q) (N:=NN) (bs:=bs) (hdct:=hd) (sn:=sn) (sub:=sub) (ab:=ab) (col:=col) (dd:=dict) (k0:=a0) (k1:=a1) (k2:=a2) (k3:=a3) (k5:=a5) hB (tail_has ht hB.hasBase) (I.ok.hd rfl) (by rw [htr];rfl) hi (ld_glob I hg hx ⟨rfl,?_⟩ hdb)
 rw [htr]
 refine Calls.evalArgs_plain (Calls.spliced_cons (thn (ha pins s σ H _ I h) fun u s2 ⟨v,H2,I2,r2,q2⟩=>Calls.spliced_nil ?_))
 have bk:=I2.bk
 refine ⟨rfl,by show 1≤sizeLine;decide,bk _ _ hC,hN.keeps bk,ht.keeps bk,fun h' e me=>?_⟩
 obtain ⟨kp,nw,t,g1,g2,g3⟩:=me
 have J:=I2.kept (h':=h') (t':=s2.toks) kp
 refine xe_of J (.inl ⟨?_,?_,_,_,_,g1,⟨rfl,rfl⟩,rfl,rfl⟩) (q2 e)
 ·cases z:s0.heap.get? e with
  | none=>rfl
  | some o =>
   obtain ⟨o',e'⟩:=I2.base.there e o z (by simp [cxOf])
   rw [nw] at e';cases e'
 ·cases z:H2 e with
  | none=>rfl
  | some o =>
   obtain ⟨ob,hob⟩:=objThere (I2.hok e o z)
   rw [nw] at hob;cases hob
end
end L2

set_option Elab.async false
set_option linter.all false
set_option maxRecDepth 100000
set_option maxHeartbeats 4000000
namespace L2
open PySem PySem.Spec PyProof.Rows
section
variable {P:Program} {w:World}
theorem again_ok {M:Model} {A:Around} {E:Value→Shared→Prop} {Q:Unit→Shared→Prop} {s:Shared} {fr:List Addr} {H1 H':Hp} {h1:Heap} {env:Env} {outer:List Env} {ea C:Addr} {base:Heap} (FF:s.heap.FunFrames base (env::outer)) (u:Un fr [] H1 H' h1 s.heap) (hok:HOk P w H' s.heap)
  (hfr:∀ b∈frs (env::outer),H' b=none∧(b∈fr∨h1.get? b=none)) (hfr2:∀ b∈fr,b∈frs (env::outer)) (hf:Fly h1 H' s.heap ea C)
  (k:∀ h',Un fr [] H1 H' h1 h'→HOk P w H' h'→Fly h1 H' h' ea C→Q () { s with heap:=h' }):wpAny M A (setFlight (.ref ea) none) Q E s:=by
 obtain ⟨he1,heH,a0,oe,vs,T,oT,ts,g1,g2,g3,g4,g5,g6,g7,g8,g9,g10⟩:=hf
 have FF':s.heap.FunFrames (PySem.W.hideAll s.heap (ea::([T]++frs (env::outer)))) (env::outer):=funFrames_base FF fun b hb=>PySem.W.hideAll_none _ (by simp [hb])
 refine lands_againW (base:=PySem.W.hideAll s.heap (ea::([T]++frs (env::outer)))) (l:=env::outer) (cls:=.ref C) (a0:=a0) ⟨fun b o e=>PySem.W.of_hideAll _ e,PySem.W.hideAll_none _ (by simp),FF',oe,vs,T,oT,ts,g1,g2,g3,g4,PySem.W.hideAll_none _ (by simp),g5,g8,g9,g10⟩ fun h' fl up=>?_
 obtain ⟨f1,f2,f3,f4⟩:=fl
 obtain ⟨a,b,c⟩:=left_ok (hid:=[T]) FF u hok hfr hfr2 he1 heH (fun b hb=>by rw [List.mem_singleton.mp hb];exact ⟨g6,g7⟩) ⟨f1,f3,f4,up⟩
 exact k h' a b c
theorem land_ok {M:Model} {A:Around} {E:Value→Shared→Prop} {Q:Unit→Shared→Prop} {s:Shared} {fr:List Addr} {H1 H':Hp} {h1:Heap} {env:Env} {outer:List Env} {L ea C:Addr} {base:Heap} (hA:A.frames=some (env::outer)) (hL:env.frame=some L) (FF:s.heap.FunFrames base (env::outer)) (u:Un fr [] H1 H' h1 s.heap) (hok:HOk P w H' s.heap)
  (hfr:∀ b∈frs (env::outer),H' b=none∧(b∈fr∨h1.get? b=none)) (hfr2:∀ b∈fr,b∈frs (env::outer)) (hf:Fly h1 H' s.heap ea C)
  (k:∀ h',Un fr [] H1 H' h1 h'→HOk P w H' h'→Fly h1 H' h' ea C→Q () { s with heap:=h' }):wpAny M A (noteFrame (.ref ea) env) (fun _ s2=>wpAny M A (setFlight (.ref ea) none) Q E s2) E s:=by
 obtain ⟨he1,heH,a0,oe,vs,T,oT,ts,g1,g2,g3,g4,g5,g6,g7,g8,g9,g10⟩:=hf
 have FF':s.heap.FunFrames (PySem.W.hideAll s.heap (ea::([T]++frs (env::outer)))) (env::outer):=funFrames_base FF fun b hb=>PySem.W.hideAll_none _ (by simp [hb])
 refine wpAny_noteFrame_onW hA FF' hL ⟨oe,vs,T,oT,ts,g1,g2,g3,g4,PySem.W.hideAll_none _ (by simp),g5,g8,g9,g10⟩ (fun b o e=>PySem.W.of_hideAll _ e) (PySem.W.hideAll_none _ (by simp)) fun h2 nt=>?_
 obtain ⟨n1,n2,n3,n4⟩:=nt
 refine wpAny_landsW (L:=L) ⟨n1,PySem.W.hideAll_none _ (by simp),n2,n3⟩ fun h' fl up=>?_
 obtain ⟨f1,f2,f3,f4⟩:=fl
 have lw:(PySem.W.hideAll s.heap (ea::([T]++frs (env::outer)))).LeftW (env::outer) ea (.ref C) a0 s.heap h':=⟨f1,f3,f4,fun b o e hd=>by
  obtain ⟨s1,e1⟩:=n4 b o e hd
  obtain ⟨s2,e2⟩:=up b _ e1 hd
  exact ⟨s2,e2⟩⟩
 obtain ⟨a,b,c⟩:=left_ok (hid:=[T]) FF u hok hfr hfr2 he1 heH (fun b hb=>by rw [List.mem_singleton.mp hb];exact ⟨g6,g7⟩) lw
 exact k h' a b c
end
abbrev Cx.sup (X:Cx) (e:Addr):Cx:={ X with A:=X.A.mark (some (.ref e)),calm:=false,xe:=fun _ _=>False }
abbrev Cx.tried (X:Cx) (pn:List (Addr × Obj)) (E:Value→Shared→Prop):Cx:={ X with pn:=pn,xe:=E }
theorem Cx.Ok.sup {X:Cx} (ok:X.Ok) (e:Addr):(X.sup e).Ok :=
 ⟨ok.mod,ok.kind,ok.glob,ok.blt,ok.above,ok.inj,ok.has,ok.cab,fun z=>(by cases z),ok.frames,ok.stk,ok.exf,ok.bs,ok.bsz,ok.noex,ok.exfs,ok.funs,ok.frf⟩
theorem Cx.Ok.tried {X:Cx} (ok:X.Ok) (pn:List (Addr × Obj)) (E:Value→Shared→Prop):(X.tried pn E).Ok :=
 ⟨ok.mod,ok.kind,ok.glob,ok.blt,ok.above,ok.inj,ok.has,ok.cab,ok.hd,ok.frames,ok.stk,ok.exf,ok.bs,ok.bsz,ok.noex,ok.exfs,ok.funs,ok.frf⟩
end L2

set_option Elab.async false
set_option linter.all false
set_option maxRecDepth 100000
set_option maxHeartbeats 4000000
namespace L2
open PySem PySem.Spec PyProof.Rows PySem.SeqAt
section
variable {X:Cx}
end
end L2

set_option Elab.async false
set_option linter.all false
set_option maxRecDepth 100000
set_option maxHeartbeats 4000000
namespace Gu
open PySem L2
theorem shr_le {n:Nat} {rows:List Row} (G:GoodM n rows):(shr rows).length≤rows.length:=by
 obtain ⟨L,cl⟩:=order_line G
 have hl:=L.len
 have hh:=(heads_has (kOf rows) (order rows)).2.2
 unfold shr inLine
 rw [List.length_map]
 omega
theorem shr_good {n:Nat} {rows:List Row} (G:GoodM n rows):GoodM n (shr rows):=by
 obtain ⟨L,cl⟩:=order_line G
 obtain ⟨h1,h2,h3⟩:=heads_has (kOf rows) (order rows)
 have hl:=shr_le G
 have hf:=G.few
 obtain ⟨r0,t0,e0,_⟩:=shr_hd G
 have hm:∀ r∈shr rows,∃ x∈order rows,r=((row rows x).1,(row rows x).2.map fun g=>((((heads (kOf rows) (order rows)).map (kOf rows)).idxOf (kOf rows g):Nat):Int)):=fun r hr=>by
  unfold shr inLine at hr
  obtain ⟨x,hx,e⟩:=List.mem_map.mp hr
  exact ⟨x,h2 x hx,e.symm⟩
 refine ⟨by omega,by rw [e0];simp,fun r hr=>?_,fun r hr=>?_,fun r hr g hg=>?_⟩
 ·obtain ⟨x,hx,rfl⟩:=hm r hr
  exact G.perm (row rows x) (row_mem (L.rg x hx).1 (L.rg x hx).2)
 ·obtain ⟨x,hx,rfl⟩:=hm r hr
  show (List.map _ _).length=n
  rw [List.length_map]
  exact G.len _ (row_mem (L.rg x hx).1 (L.rg x hx).2)
 ·obtain ⟨x,hx,rfl⟩:=hm r hr
  obtain ⟨y,hy,rfl⟩:=List.mem_map.mp hg
  have:=List.idxOf_lt_length_of_mem (h1 y (cl x hx y hy))
  rw [List.length_map] at this
  unfold shr inLine
  rw [List.length_map]
  omega
/-! ### what raises -/
def TMx (Ct:Addr) (E:XK) (H:Hp):Prop:=∀ (ea:Addr) (H':Hp),Same H H'→E (.ref ea) (some Ct) H'
end Gu
namespace L2
open PySem PySem.Spec PyProof.Rows
theorem Fun.okx {CX:CXT} {P:Program} {w:World} {K:PySem.W.Frag} {mg:Str→Option Value} {base:Heap} {x qual:Str} {st:Stmt} {f:Addr} {fd:FuncData} {N ps:List Str} {k:Nat} {sp:Sp} (F:Fun K x qual st f fd) (S:FnScope N ps (defScope st)) (len:∀ vs H Q E,sp vs H Q E→vs.length=ps.length)
  (hbody:∀ (cdv:Value) (A:Around) (outer:List Env) (s:Shared) (H:Hp) (vs:List V) (Q:VK) (E:XK),Room k (A.deeper (envOfC qual (defScope st) s.heap.objs.size f cdv))→sp vs H Q E →
   ∃ t,PSs (cxOf CX P w K mg base N qual (defScope st) f cdv A outer s H E) (defBody st) t∧t { nx:=fun _ H'=>Q .non H',rt:=Q } (start N vs) H):FnOk P w K mg base CX (k+1) f fd ps sp:=by
 obtain ⟨oc,od,kV,doc,pm,an,cdv,ct,osl,rfl,lk,hcd⟩:=F.ex
 exact fn_of lk hcd S len fun A outer s H vs Q E hr hsp=>hbody cdv A outer s H vs Q E hr hsp
end L2

set_option Elab.async false
set_option linter.all false
set_option maxRecDepth 100000
set_option maxHeartbeats 4000000
namespace L2
open PySem PySem.Spec PyProof.Rows PySem.SeqAt
section
variable {X:Cx}
theorem op_catU:OpR X (binaryOp .Add) (fun x y H Q=>∃ (a b:Addr) (xs ys:List V),x=.ref a∧y=.ref b∧H a=some (.tup xs)∧H b=some (.tup ys)∧xs.length+ys.length≤sizeLine ∧
  ∀ (p:Addr) (H':Hp),Same H H'→H' p=some (.tup (xs++ys))→Q (.ref p) H'):=by
 intro pins s σ H x y v u Q I rx ry h
 obtain ⟨a,b,xs,ys,rfl,rfl,ha,hb,hz,q⟩:=h
 by_cases hx:xs=[]
 ·subst hx
  cases rx
  cases ry
  obtain ⟨its,r1,p1,_⟩:=I.tuple (SqT.of ha)
  obtain ⟨its2,r2,p2,_⟩:=I.tuple (SqT.of hb)
  cases r1
  obtain ⟨⟨cls,dd,data,sl⟩,ho,hc,n,hd⟩:=id p1
  obtain ⟨⟨cls2,dd2,data2,sl2⟩,ho2,hc2,n2,hd2⟩:=id p2
  simp only at hc hd hc2 hd2
  subst hc hd hc2 hd2
  exact concat_meets ⟨_,ho,rfl⟩ ⟨_,ho2,rfl⟩ noFill_tuple_add seq_tuple_add PySem.F.slot_tuple_add PySem.F.entry_tuple_add (PySem.F.args_tuple_add_2 _ _)
   (tuple_addW0 a b _ _ n n2 dd dd2 sl sl2 (by simp)) ⟨ho,ho2,⟨.ref b,H,I,rfl,q b H (Same.refl H) hb⟩⟩
 ·exact op_catT pins s σ H _ _ v u Q I rx ry ⟨a,b,xs,ys,rfl,rfl,SqT.of ha,SqT.of hb,hx,hz,fun e=>by subst e;exact q a H (Same.refl H) (by rw [List.append_nil];exact ha),fun _ p hp=>q p _ (Gu.same_up (Same.refl H) hp) upd_same⟩
theorem cutV_all (xs:List V) (lo hi:Option Int) (h:HT.sIx xs.length 0 lo=0∧HT.sIx xs.length xs.length hi=xs.length):cutV xs lo hi=xs:=by
 unfold cutV
 rw [h.1,h.2]
 simp
theorem getItem_tuple_whole {prog:Program} {w:World} {A:Around} {E:Value→Shared→Prop} {s:Shared} {t sl:Addr} {items:Array Value} {vl vu:Value} {lo hi:Option Int} {Q:Value→Shared→Prop} (ht:IsTup s.heap t items) (hs:s.heap.IsSliceOf sl vl vu .none) (pl:IsPart vl lo) (pu:IsPart vu hi)
  (hw:HT.sIx items.size 0 lo=0∧HT.sIx items.size items.size hi=items.size)
  (h:Q (.ref t) s):wpAny (model prog w) A (getItem (.ref t) (.ref sl)) Q E s:=by
 obtain ⟨os,hos,hcs,hds⟩:=id hs
 have hTs:s.TypeIs (.ref sl) "slice":=⟨os,hos,hcs⟩
 unfold getItem
 try with_reducible refine wpAny_holding ?_
 first | refine wpAny_bind (wpAny_pure ?_) | skip
 refine wpAny_bind (wpAny_sequenceKey ht.typeIs (by decide) ?_)
 refine wpAny_bind (wpAny_callSpecial?_slot (name:=Str.ofString "__getitem__") ht.typeIs PyProof.Rows.slot_tuple_getitem
  (wpAny_call_entry PyProof.Rows.slot_tuple_getitem ht.typeIs entry_tuple_getitem ?_ (args_tuple_getitem _ _)))
 show wpAny _ _ (Builtin.Tuple.tupleItemsOf (.ref t) >>= _) _ _ s
 refine wpAny_bind (tupleItemsOf_ ht ?_)
 refine wpAny_bind (wpAny_typeOf hTs ?_)
 rw [if_pos (by decide)]
 refine wpAny_bind (HT.sliceApplied_gen hs pl pu ?_)
 have hyes:(((HT.sIx items.size 0 lo:Nat):Int) == 0 && (1:Int) == 1 && (HT.sIx items.size items.size hi - HT.sIx items.size 0 lo) == items.size)=true:=by
  rw [hw.1,hw.2]
  simp
 show wpAny _ _ (if (((HT.sIx items.size 0 lo:Nat):Int) == 0 && (1:Int) == 1 && (HT.sIx items.size items.size hi - HT.sIx items.size 0 lo) == items.size)=true then _ else _) _ _ s
 rw [if_pos hyes]
 unfold Builtin.Tuple.tupleIsExact
 refine wpAny_bind (wpAny_bind (wpAny_typeOf ht.typeIs (wpAny_pure ?_)))
 rw [if_pos (by decide)]
 first
  | exact wpAny_bind (wpAny_bind (wpAny_pure ⟨_,rfl,wpAny_pure h⟩))
  | (wp_walk;exact ⟨_,rfl,h⟩)
  | (wp_walk;exact ⟨_,rfl,wpAny_pure h⟩)
theorem sl_tupU:SlR X (fun x lo hi H Q=>∃ (a:Addr) (xs:List V),x=.ref a∧H a=some (.tup xs)∧∀ (p:Addr) (H':Hp),Same H H'→H' p=some (.tup (cutV xs lo hi))→Q (.ref p) H'):=by
 intro pins s σ H x v vl vu lo hi sl Q I rx hs pl pu h
 obtain ⟨a,xs,rfl,hx,q⟩:=h
 by_cases hw:HT.sIx xs.length 0 lo=0∧HT.sIx xs.length xs.length hi=xs.length
 ·cases rx
  obtain ⟨its,r,ht,hz⟩:=I.tuple (SqT.of hx)
  have hlen:its.toArray.size=xs.length:=by rw [List.size_toArray];exact r.length.symm
  refine ⟨"tuple",_,PyProof.Rows.slot_tuple_getitem.lookup,ht.typeIs,?_⟩
  exact getItem_tuple_whole ht hs pl pu (by rw [hlen];exact hw) ⟨.ref a,H,I,rfl,q a H (Same.refl H) (by rw [cutV_all xs lo hi hw];exact hx)⟩
 ·exact sl_tup pins s σ H _ v vl vu lo hi sl Q I rx hs pl pu ⟨a,xs,rfl,SqT.of hx,hw,fun p hp=>q p _ (Gu.same_up (Same.refl H) hp) upd_same⟩
/-! ### t*k -/
theorem tup_mul1 (l:Addr) (its:List Value) (n:Nat) (k:Int) (t:Tok) (h0:-1000≤k) (hk:k≤1000) (hne:its=[]∨k=1) :
  Meets (Builtin.«tuple.__mul__» ⟨[.ref l,.int k t],[]⟩) (fun _ R s=>s.heap.get? l=some { cls:=.type "tuple",dict:=none,data:=.seq its.toArray n,slots:=#[] }∧R (.ok (.ret (.ref l))) s) :=
 .of_wp fun prog w A R s h=>by
  obtain ⟨hp,g,d,tk,os⟩:=s
  obtain ⟨hl,h⟩:=h
  have hyes:(its.toArray.isEmpty || k == 1)=true:=by
   rcases hne with e | e
   ·subst e;simp
   ·subst e;simp
  wp_walk using wpAny_loadPart' hl
  refine wpAny_ite_split (fun hab=>absurd hab (by simp;omega)) (fun _=>?_)
  wp_walk using wpAny_loadPart' hl
  exact ⟨_,rfl,h⟩
theorem tup_mul0 (l:Addr) (its:List Value) (n:Nat) (k:Int) (t:Tok) (h0:-1000≤k) (hk:k≤0) (hne:its≠[]) :
  Meets (Builtin.«tuple.__mul__» ⟨[.ref l,.int k t],[]⟩) (fun _ R s=>s.heap.get? l=some { cls:=.type "tuple",dict:=none,data:=.seq its.toArray n,slots:=#[] } ∧
   R (.ok (.ret (.ref s.heap.objs.size))) { s with heap:=s.heap.push { cls:=.type "tuple",data:=.seq #[] } }) :=
 .of_wp fun prog w A R s h=>by
  obtain ⟨hp,g,d,tk,os⟩:=s
  obtain ⟨hl,h⟩:=h
  have hie:its.toArray.isEmpty=false:=by cases its with | nil=>exact absurd rfl hne | cons a r=>simp
  wp_walk using wpAny_loadPart' hl
  refine wpAny_ite_split (fun hab=>absurd hab (by simp;omega)) (fun _=>?_)
  wp_walk using wpAny_loadPart' hl
  have hk1:(k == 1)=false:=by simpa using (show k≠1 by omega)
  have hk0:decide (k≤0)=true:=by simpa using hk
  refine wpAny_ite_split (fun hab=>absurd hab (by rw [hie,hk1];decide)) (fun _=>?_)
  refine wpAny_ite_split (fun _=>?_) (fun hab=>absurd (by rw [hk0];rfl) hab)
  unfold Builtin.Tuple.tupleExact
  refine wpAny_bind (wpAny_newObj_type ?_ (by show (#[]:Array Value).size≤sizeLine;decide))
  exact wpAny_pure ⟨_,rfl,h⟩
theorem op_repU:OpR X (binaryOp .Mult) (fun x y H Q=>∃ (l:Addr) (k:Int) (xs:List V),x=.ref l∧y=.int k∧H l=some (.tup xs)∧-1000≤k∧k≤1000∧xs.length*k.toNat≤sizeLine ∧
  ∀ (p:Addr) (H':Hp),Same H H'→H' p=some (.tup (List.replicate k.toNat xs).flatten)→Q (.ref p) H'):=by
 intro pins s σ H x y v u Q I rx ry h
 obtain ⟨l,k,xs,rfl,rfl,hH,h0,hk,hz,q⟩:=h
 by_cases hs:xs≠[]∧2≤k
 ·exact op_repT pins s σ H _ _ v u Q I rx ry ⟨l,k,xs,rfl,rfl,hH,hs.1,hs.2,hk,hz,fun p hp=>q p _ (Gu.same_up (Same.refl H) hp) upd_same⟩
 ·cases rx
  obtain ⟨t,rfl⟩:=ry
  obtain ⟨z,its,n,r,e⟩:=I.hok l _ hH
  have hl:=r.length
  by_cases h1:its=[]∨k=1
  ·refine wpAny_binaryOp_repeat_ref (T:="tuple") (U:="int") (by decide) ⟨_,e,rfl⟩ (fun s'=>typeIs_int s' k t) noFill_tuple F.fills_int_mul F.slot_int_rmul repeat_tup F.slot_int_index.lookup
    (call_meets F.slot_int_rmul (typeIs_int s k t) F.entry_int_rmul (F.args_int_rmul_2 _ _) (int_rmul_tup k t l its.toArray n)
     ⟨e,rfl,⟨_,e,rfl⟩,call_meets F.slot_tuple_mul ⟨_,e,rfl⟩ F.entry_tuple_mul (F.args_tuple_mul_2 _ _) (tup_mul1 l its n k t h0 hk h1) ⟨e,?_⟩⟩)
   refine ⟨.ref l,H,I,rfl,q l H (Same.refl H) ?_⟩
   have:(List.replicate k.toNat xs).flatten=xs:=by
    rcases h1 with w | w
    ·subst w
     have:xs=[]:=List.length_eq_zero_iff.mp (by simpa using hl)
     subst this
     simp
    ·subst w
     simp
   rw [this]
   exact hH
  ·have hne:its≠[]:=fun w=>h1 (.inl w)
   have hxs:xs≠[]:=fun w=>hne (List.length_eq_zero_iff.mp (by rw [←hl,w];rfl))
   have hk0:k≤0:=by
    have a1:k≠1:=fun w=>h1 (.inr w)
    have a2:¬ 2≤k:=fun w=>hs ⟨hxs,w⟩
    omega
   refine wpAny_binaryOp_repeat_ref (T:="tuple") (U:="int") (by decide) ⟨_,e,rfl⟩ (fun s'=>typeIs_int s' k t) noFill_tuple F.fills_int_mul F.slot_int_rmul repeat_tup F.slot_int_index.lookup
    (call_meets F.slot_int_rmul (typeIs_int s k t) F.entry_int_rmul (F.args_int_rmul_2 _ _) (int_rmul_tup k t l its.toArray n)
     ⟨e,rfl,⟨_,e,rfl⟩,call_meets F.slot_tuple_mul ⟨_,e,rfl⟩ F.entry_tuple_mul (F.args_tuple_mul_2 _ _) (tup_mul0 l its n k t h0 hk0 hne) ⟨e,?_⟩⟩)
   have e0:k.toNat=0:=by omega
   rw [e0] at q
   exact ⟨.ref _,_,I.laid (o:=.tup []) (t':=s.toks) (fun b u q=>Heap.get?_push_of_some _ q) (Nat.le_refl _) ⟨Nat.zero_le _,[],0,.nil,Heap.get?_push_size _ rfl⟩,rfl,q _ _ (Gu.same_up (Same.refl H) I.fresh) upd_same⟩
/-! ### t != u of ints -/
theorem ints_ne {ns ms:List Int}:(!((List.range (min ns.length ms.length)).all (fun j=>ns.getD j 0 == ms.getD j 0) && ns.length == ms.length))=!decide (ns=ms):=by
 congr 1
 rw [Bool.eq_iff_iff]
 simp only [Bool.and_eq_true,List.all_eq_true,List.mem_range,beq_iff_eq,decide_eq_true_eq]
 constructor
 ·rintro ⟨h,hl⟩
  refine List.ext_getElem hl fun i h1 h2=>?_
  have:=h i (by omega)
  rw [List.getD_eq_getElem?_getD,List.getD_eq_getElem?_getD,List.getElem?_eq_getElem h1,List.getElem?_eq_getElem h2] at this
  exact this
 ·rintro rfl
  exact ⟨fun _ _=>rfl,rfl⟩
theorem op_neT (hu:X.A.units < cLine):OpR X (compareOp .NotEq) (fun x y H Q=>∃ (a b:Addr) (ns ms:List Int),x=.ref a∧y=.ref b∧H a=some (.tup (ns.map V.int))∧H b=some (.tup (ms.map V.int))∧Q (.bl (!decide (ns=ms))) H):=by
 intro pins s σ H x y v u Q I rx ry h
 obtain ⟨a,b,ns,ms,rfl,rfl,ha,hb,q⟩:=h
 cases rx
 cases ry
 obtain ⟨its,rv,pl,_⟩:=I.tuple (SqT.of ha)
 obtain ⟨itt,rv',pl',_⟩:=I.tuple (SqT.of hb)
 have l1:its.length=ns.length:=by have:=rv.length;rw [List.length_map] at this;exact this.symm
 have l2:itt.length=ms.length:=by have:=rv'.length;rw [List.length_map] at this;exact this.symm
 have R:=RcNeAt.tuples (A:=X.A) (e:=fun j=>ns.getD j 0 == ms.getD j 0) pl pl' hu (fun j h1 h2=>by
  have h1':j < its.length:=by simpa using h1
  have h2':j < itt.length:=by simpa using h2
  obtain ⟨u1,k1,t1,q1⟩:=rv.get (i:=j) (x:=V.int (ns.getD j 0)) (by rw [List.getElem?_map,List.getElem?_eq_getElem (by omega),List.getD_eq_getElem?_getD,List.getElem?_eq_getElem (by omega)];rfl)
  obtain ⟨u2,k2,t2,q2⟩:=rv'.get (i:=j) (x:=V.int (ms.getD j 0)) (by rw [List.getElem?_map,List.getElem?_eq_getElem (by omega),List.getD_eq_getElem?_getD,List.getElem?_eq_getElem (by omega)];rfl)
  have z1:its.toArray[j]=Value.int (ns.getD j 0) t1:=by
   rw [List.getElem?_eq_getElem h1'] at k1
   have:=Option.some.inj k1
   rw [←q1,←this]
   simp
  have z2:itt.toArray[j]=Value.int (ms.getD j 0) t2:=by
   rw [List.getElem?_eq_getElem h2'] at k2
   have:=Option.some.inj k2
   rw [←q2,←this]
   simp
  rw [z1,z2]
  exact fun prog w E Q h=>wpAny_eqBool_int h)
 rw [List.size_toArray,List.size_toArray,l1,l2,ints_ne] at R
 exact R _ _ _ _ ⟨.bl _,H,I,rfl,q⟩
end
end L2

set_option Elab.async false
set_option linter.all false
set_option maxRecDepth 100000
set_option maxHeartbeats 4000000
namespace Gu
/-! ### endless words: a beginning and a ring -/
def lat (e:Row) (i:Nat):Int:=if i < e.1.length then e.1.getD i 0 else e.2.getD ((i - e.1.length) % e.2.length) 0
theorem lat_lo {e:Row} {i:Nat} (h:i < e.1.length):lat e i=e.1.getD i 0:=if_pos h
theorem lat_hi {e:Row} {i:Nat} (h:e.1.length≤i):lat e i=e.2.getD ((i - e.1.length) % e.2.length) 0:=if_neg (by omega)
def Pd (f:Nat→Int) (m p:Nat):Prop:=∀ i,m≤i→f (i+p)=f i
theorem lat_pd {e:Row} (h:e.2≠[]):Pd (lat e) e.1.length e.2.length:=fun i hi=>by
 have hl:0 < e.2.length:=List.length_pos_iff.mpr h
 rw [lat_hi hi,lat_hi (by omega)]
 have:i+e.2.length - e.1.length=(i - e.1.length)+e.2.length:=by omega
 rw [this,Nat.add_mod_right]
theorem Pd.mul {f:Nat→Int} {m p:Nat} (h:Pd f m p) (k:Nat):Pd f m (p*k):=by
 induction k with
 | zero=>exact fun i _=>rfl
 | succ k ih =>
  intro i hi
  rw [Nat.mul_succ,←Nat.add_assoc,h (i+p*k) (by omega)]
  exact ih i hi
theorem Pd.mono {f:Nat→Int} {m m' p:Nat} (h:Pd f m p) (hm:m≤m'):Pd f m' p:=fun i hi=>h i (by omega)
theorem Pd.down {f:Nat→Int} {m m' p q:Nat} (h:Pd f m p) (h':Pd f m' q) (hp:0 < p):Pd f m q:=fun i hi=>by
 have a:=h.mul m' (i+q) (by omega)
 have b:=h.mul m' i hi
 have ge:m'≤p*m':=Nat.le_mul_of_pos_left m' hp
 have c:=h' (i+p*m') (by omega)
 rw [←a,←b]
 have:i+q+p*m'=i+p*m'+q:=by omega
 rw [this]
 exact c
theorem Pd.gcd {f:Nat→Int} {m:Nat}:∀ {p q:Nat},Pd f m p→Pd f m q→Pd f m (Nat.gcd p q):=by
 intro p q
 induction p,q using Nat.gcd.induction with
 | H0 q=>intro _ h;rw [Nat.gcd_zero_left];exact h
 | H1 p q hp ih =>
  intro h1 h2
  rw [Nat.gcd_rec]
  refine ih (fun i hi=>?_) h1
  have a:=h1.mul (q / p) (i+q % p) (by omega)
  have e:i+q % p+p*(q / p)=i+q:=by have:=Nat.mod_add_div q p;omega
  rw [e] at a
  rw [←a]
  exact h2 i hi
structure IsPlain (e:Row):Prop where
 ring:e.2≠[]
 least:∀ d,0 < d→d < e.2.length→¬ Pd (lat e) e.1.length d
 cut:e.1=[]∨lat e (e.1.length - 1)≠lat e (e.1.length - 1+e.2.length)
theorem getD_of {l:List Int} {i:Nat} (h:i < l.length):l.getD i 0=l[i]:=by rw [List.getD_eq_getElem?_getD,List.getElem?_eq_getElem h];rfl
theorem lat_of {f:Nat→Int} {e:Row} (h1:∀ i,i < e.1.length→e.1.getD i 0=f i) (h2:∀ j,j < e.2.length→e.2.getD j 0=f (e.1.length+j)) (hp:Pd f e.1.length e.2.length) (h0:e.2≠[]):∀ i,lat e i=f i:=fun i=>by
 by_cases hi:i < e.1.length
 ·rw [lat_lo hi];exact h1 i hi
 ·have hl:0 < e.2.length:=List.length_pos_iff.mpr h0
  rw [lat_hi (by omega),h2 _ (Nat.mod_lt _ hl)]
  have a:=hp.mul ((i - e.1.length) / e.2.length) (e.1.length+(i - e.1.length) % e.2.length) (by omega)
  rw [←a]
  congr 1
  have:=Nat.mod_add_div (i - e.1.length) e.2.length
  omega
/-! ### the least ring -/
def Per (r:List Int) (s:Nat):Prop:=s ∣ r.length∧∀ i,i+s < r.length→r.getD (i+s) 0=r.getD i 0
theorem per_mod {r:List Int} {s:Nat} (h:Per r s) (hs:0 < s):∀ i,i < r.length→r.getD i 0=r.getD (i % s) 0:=by
 intro i
 induction i using Nat.strongRecOn with
 | ind i ih =>
  intro hi
  by_cases c:i < s
  ·rw [Nat.mod_eq_of_lt c]
  ·have a:=h.2 (i - s) (by omega)
   have e:i - s+s=i:=by omega
   rw [e] at a
   rw [a,ih (i - s) (by omega) (by omega),←Nat.mod_eq_sub_mod (by omega)]
theorem per_of_mod {r:List Int} {s:Nat} (hd:s ∣ r.length) (h:∀ i,i < r.length→r.getD i 0=r.getD (i % s) 0):Per r s:=⟨hd,fun i hi=>by rw [h (i+s) hi,h i (by omega),Nat.add_mod_right]⟩
theorem per_pd {e:Row} (h:e.2≠[]) {d:Nat} (hd:d ∣ e.2.length):Per e.2 d↔Pd (lat e) e.1.length d:=by
 have hl:0 < e.2.length:=List.length_pos_iff.mpr h
 have hd0:0 < d:=Nat.pos_of_dvd_of_pos hd hl
 constructor
 ·intro hp i hi
  rw [lat_hi hi,lat_hi (by omega),per_mod hp hd0 _ (Nat.mod_lt _ hl),per_mod hp hd0 ((i - e.1.length) % e.2.length) (Nat.mod_lt _ hl),Nat.mod_mod_of_dvd _ hd,Nat.mod_mod_of_dvd _ hd]
  have:i+d - e.1.length=i - e.1.length+d:=by omega
  rw [this,Nat.add_mod_right]
 ·intro hp
  refine ⟨hd,fun i hi=>?_⟩
  have:=hp (e.1.length+i) (by omega)
  rw [lat_hi (by omega),lat_hi (by omega)] at this
  have e1:e.1.length+i+d - e.1.length=i+d:=by omega
  rw [e1,Nat.add_sub_cancel_left,Nat.mod_eq_of_lt hi,Nat.mod_eq_of_lt (by omega)] at this
  exact this
structure Least (r:List Int) (s:Nat):Prop where
 pos:0 < s
 per:Per r s
 no:∀ d,0 < d→d < s→¬ Per r d
theorem Least.le {r:List Int} {s:Nat} (L:Least r s) (h:r≠[]):s≤r.length:=Nat.le_of_dvd (List.length_pos_iff.mpr h) L.per.1
theorem Least.none {e:Row} (h:e.2≠[]) {s:Nat} (L:Least e.2 s) {m d:Nat} (hd:0 < d) (hs:d < s):¬ Pd (lat e) m d:=fun hp=>by
 have hl:0 < e.2.length:=List.length_pos_iff.mpr h
 have P:=lat_pd h
 have Q:=P.down hp hl
 have G:=Q.gcd P
 have g1:Nat.gcd d e.2.length ∣ e.2.length:=Nat.gcd_dvd_right _ _
 have g2:Nat.gcd d e.2.length≤d:=Nat.le_of_dvd hd (Nat.gcd_dvd_left _ _)
 exact L.no _ (Nat.gcd_pos_of_pos_left _ hd) (by omega) ((per_pd h g1).mpr G)
structure Ringed (b r:List Int) (s c:Nat):Prop where
 le:c≤b.length
 eq:∀ j,j < c→b.getD (b.length - 1 - j) 0=r.getD (s - 1 - j % s) 0
 no:c=b.length∨b.getD (b.length - 1 - c) 0≠r.getD (s - 1 - c % s) 0
theorem mod_back {k s:Nat} (hs:0 < s):(-1 - (k:Int)) % (s:Int)=((s - 1 - k % s:Nat):Int):=by
 have h1:k % s < s:=Nat.mod_lt _ hs
 have h2:(-1 - (k:Int))=((s - 1 - k % s:Nat):Int)+(s:Int)*(-((k / s:Nat):Int) - 1):=by
  have:=Nat.mod_add_div k s
  have e:(k:Int)=((k % s:Nat):Int)+(s:Int)*((k / s:Nat):Int):=by rw [←Int.natCast_mul,←Int.natCast_add,this]
  have e2:((s - 1 - k % s:Nat):Int)=(s:Int) - 1 - ((k % s:Nat):Int):=by omega
  rw [e2,Int.mul_sub,Int.mul_neg,Int.mul_one]
  omega
 rw [h2,Int.add_mul_emod_self_left,Int.emod_eq_of_lt (by omega) (by omega)]
theorem lat_cut {e:Row} (h:e.2≠[]) {s c:Nat} (L:Least e.2 s) (R:Ringed e.1 e.2 s c):∀ i,e.1.length - c≤i→lat e i=e.2.getD (((i:Int) - (e.1.length:Int)) % (s:Int)).toNat 0:=fun i hi=>by
 have hl:0 < e.2.length:=List.length_pos_iff.mpr h
 have hle:=R.le
 by_cases c1:i < e.1.length
 ·have e1:=R.eq (e.1.length - 1 - i) (by omega)
  have e2:e.1.length - 1 - (e.1.length - 1 - i)=i:=by omega
  rw [e2] at e1
  rw [lat_lo c1,e1]
  have e3:(i:Int) - (e.1.length:Int)=-1 - ((e.1.length - 1 - i:Nat):Int):=by omega
  rw [e3,mod_back L.pos,Int.toNat_natCast]
 ·rw [lat_hi (by omega),per_mod L.per L.pos _ (Nat.mod_lt _ hl),Nat.mod_mod_of_dvd _ L.per.1]
  have e3:(i:Int) - (e.1.length:Int)=((i - e.1.length:Nat):Int):=by omega
  rw [e3,←Int.natCast_emod,Int.toNat_natCast]
def plainOf (e:Row) (s c:Nat):Row:=(e.1.take (e.1.length - c),(iota s).map fun k=>e.2.getD ((k - (c:Int)) % (s:Int)).toNat 0)
theorem plainOf_len {e:Row} {s c:Nat}:(plainOf e s c).1.length=e.1.length - c∧(plainOf e s c).2.length=s:=by
 refine ⟨?_,?_⟩
 ·show (e.1.take _).length=_
  rw [List.length_take];omega
 ·show ((iota s).map _).length=_
  rw [List.length_map,iota_len]
theorem plainOf_lat {e:Row} (h:e.2≠[]) {s c:Nat} (L:Least e.2 s) (R:Ringed e.1 e.2 s c):∀ i,lat (plainOf e s c) i=lat e i:=by
 obtain ⟨l1,l2⟩:=plainOf_len (e:=e) (s:=s) (c:=c)
 have hc:=lat_cut h L R
 refine lat_of (fun i hi=>?_) (fun j hj=>?_) (fun i hi=>?_) (fun z=>?_)
 ·rw [l1] at hi
  rw [lat_lo (by omega)]
  show (e.1.take _).getD i 0=_
  rw [List.getD_eq_getElem?_getD,List.getElem?_take,if_pos hi,←List.getD_eq_getElem?_getD]
 ·rw [l2] at hj
  rw [l1,hc _ (by omega)]
  show ((iota s).map _).getD j 0=_
  rw [List.getD_eq_getElem?_getD,List.getElem?_map,iota_get hj]
  show e.2.getD (((j:Int) - (c:Int)) % (s:Int)).toNat 0=_
  have:=R.le
  have e1:((e.1.length - c+j:Nat):Int) - (e.1.length:Int)=(j:Int) - (c:Int):=by omega
  rw [e1]
 ·rw [l1] at hi
  rw [l2,hc _ hi,hc _ (by omega)]
  have e1:((i+s:Nat):Int) - (e.1.length:Int)=((i:Int) - (e.1.length:Int))+(s:Int):=by omega
  rw [e1,Int.add_emod_right]
 ·have:=L.pos
  rw [z] at l2
  simp at l2
  omega
theorem plainOf_plain {e:Row} (h:e.2≠[]) {s c:Nat} (L:Least e.2 s) (R:Ringed e.1 e.2 s c):IsPlain (plainOf e s c):=by
 obtain ⟨l1,l2⟩:=plainOf_len (e:=e) (s:=s) (c:=c)
 have S:=plainOf_lat h L R
 have ef:lat (plainOf e s c)=lat e:=funext S
 have hs:=L.pos
 refine ⟨fun z=>?_,fun d hd hds=>?_,?_⟩
 ·rw [z] at l2;simp at l2;omega
 ·rw [ef]
  rw [l2] at hds
  exact L.none h hd hds
 ·rcases R.no with z | z
  ·left
   exact List.length_eq_zero_iff.mp (by rw [l1];omega)
  ·by_cases hb:c=e.1.length
   ·left
    exact List.length_eq_zero_iff.mp (by rw [l1];omega)
   ·right
    have hle:=R.le
    rw [ef,l1,l2]
    have hl:0 < e.2.length:=List.length_pos_iff.mpr h
    have hc:=lat_cut h L R (e.1.length - c - 1+s) (by omega)
    rw [hc,lat_lo (by omega)]
    have e1:((e.1.length - c - 1+s:Nat):Int) - (e.1.length:Int)=(-1 - (c:Int))+(s:Int):=by omega
    rw [e1,Int.add_emod_right,mod_back hs,Int.toNat_natCast]
    have e2:e.1.length - c - 1=e.1.length - 1 - c:=by omega
    rw [e2]
    exact z
end Gu

set_option Elab.async false
set_option linter.all false
set_option maxRecDepth 100000
set_option maxHeartbeats 4000000
namespace Gu
open PySem L2
def spLetterAt (K:PySem.W.Frag) (Ct:Addr):Sp:=fun vs H Q E=>∃ (v:V) (e:Row) (p:Int),vs=[v,.int p]∧Dr K H (rowD e) v∧e.2≠[]∧(0≤p→Q (.int (lat e p.toNat)) H)∧(p < 0→TMx Ct E H)
def hdW (e:Row) (m:Nat):List Int:=(List.range m).map (lat e)
def spHeadOf (K:PySem.W.Frag) (Ct:Addr):Sp:=fun vs H Q E=>∃ (v:V) (e:Row) (m:Int),vs=[v,.int m]∧Dr K H (rowD e) v∧e.2≠[]∧(0≤m→m≤2000→Gives K H Q (D.its (hdW e m.toNat)))∧(m < 0∨2000 < m→TMx Ct E H)
theorem at_word {e:Row} (h:e.2≠[]) {i:Nat}:(i < e.1.length→(e.1.map V.int)[i]?=some (V.int (lat e i)))∧(e.1.length≤i→(e.2.map V.int)[(i - e.1.length) % e.2.length]?=some (V.int (lat e i))):=by
 have hl:0 < e.2.length:=List.length_pos_iff.mpr h
 refine ⟨fun hi=>?_,fun hi=>?_⟩
 ·rw [lat_lo hi,List.getElem?_map,List.getElem?_eq_getElem hi,getD_of hi];rfl
 ·have:=Nat.mod_lt (i - e.1.length) hl
  rw [lat_hi hi,List.getElem?_map,List.getElem?_eq_getElem this,getD_of this];rfl
/-! ### cuts of lists of ints -/
def cutI (ns:List Int) (lo hi:Option Int):List Int:=(ns.drop (HT.sIx ns.length 0 lo)).take (HT.sIx ns.length ns.length hi - HT.sIx ns.length 0 lo)
theorem cutV_I (ns:List Int) (lo hi:Option Int):cutV (ns.map V.int) lo hi=(cutI ns lo hi).map V.int:=by
 unfold cutV cutI
 rw [List.length_map,List.map_take,List.map_drop]
theorem cutI_to (ns:List Int) (k:Nat):cutI ns none (some (k:Int))=ns.take k:=by
 unfold cutI
 rw [HT.sIx_none,HT.sIx_nat,List.drop_zero,Nat.sub_zero]
 rcases Nat.le_total k ns.length with h | h
 ·rw [Nat.min_eq_left h]
 ·rw [Nat.min_eq_right h,List.take_of_length_le (Nat.le_refl _),List.take_of_length_le h]
theorem cutI_from (ns:List Int) (k:Nat):cutI ns (some (k:Int)) none=ns.drop k:=by
 unfold cutI
 rw [HT.sIx_none,HT.sIx_nat]
 rcases Nat.le_total k ns.length with h | h
 ·rw [Nat.min_eq_left h,List.take_of_length_le (by rw [List.length_drop];omega)]
 ·rw [Nat.min_eq_right h,List.drop_of_length_le (Nat.le_refl _),List.drop_of_length_le h]
  simp
theorem flat_map (k:Nat) (r:List Int):(List.replicate k (r.map V.int)).flatten=(List.replicate k r).flatten.map V.int:=by
 rw [List.map_flatten,List.map_replicate]
theorem flat_len (k:Nat) (r:List Int):(List.replicate k r).flatten.length=k*r.length:=len_rep r k
end Gu

set_option Elab.async false
set_option linter.all false
set_option maxRecDepth 100000
set_option maxHeartbeats 4000000
namespace Gu
open PySem L2
theorem flat_getD (l:List Int):∀ (k j:Nat),j < k*l.length→(List.replicate k l).flatten.getD j 0=l.getD (j % l.length) 0
 | 0,j,h=>by simp at h
 | k+1,j,h=>by
  rw [List.replicate_succ,List.flatten_cons,List.getD_eq_getElem?_getD,List.getElem?_append]
  by_cases c:j < l.length
  ·rw [if_pos c,Nat.mod_eq_of_lt c,List.getD_eq_getElem?_getD]
  ·rw [if_neg c,←List.getD_eq_getElem?_getD,flat_getD l k (j - l.length) (by rw [Nat.succ_mul] at h;omega),←Nat.mod_eq_sub_mod (by omega)]
def CI (f:Nat→Int) (H:Hp) (i:Nat) (ys:List V) (H2:Hp):Prop:=ys=((List.range i).map f).map V.int∧Same H H2
theorem CI.nil {f:Nat→Int} {H:Hp} {l:Addr} (h:H l=none):CI f H 0 [] (upd H l (.lst [])):=⟨rfl,same_up (Same.refl H) h⟩
theorem CI.len {f:Nat→Int} {H H2:Hp} {i:Nat} {ys:List V} (h:CI f H i ys H2):ys.length=i:=by rw [h.1];simp
theorem CI.snoc {f:Nat→Int} {H H2 H3:Hp} {i:Nat} {ys:List V} {l:Addr} {o:HO} {x:Int} (h:CI f H i ys H2) (s:Same H2 H3) (hl:H l=none) (e:x=f i):CI f H (i+1) (ys++[.int x]) (upd H3 l o):=by
 refine ⟨?_,same_over (h.2.trans s) hl⟩
 rw [h.1,e,List.range_succ,List.map_append,List.map_append];rfl
end Gu
namespace Gu
open PySem L2
end Gu

set_option Elab.async false
set_option linter.all false
set_option maxRecDepth 100000
set_option maxHeartbeats 4000000
namespace L2
open PySem PySem.Spec PyProof.Rows
/-! ### a thing that stays as it is -/
section
variable {P:Program} {w:World} {H H1:Hp} {h:Heap} {a:Addr} {o:Obj}
end
end L2

set_option Elab.async false
set_option linter.all false
set_option maxRecDepth 100000
set_option maxHeartbeats 4000000
namespace L2
open PySem PySem.Spec PyProof.Rows
section
variable {X:Cx} {CX:CXT} {k:Nat} {x:Str} {p pos:Pos} {e:Expr} {es:List Expr} {t:TA}
end
end L2

set_option Elab.async false
set_option linter.all false
set_option maxRecDepth 100000
set_option maxHeartbeats 4000000
namespace L2
open PySem PySem.Spec PyProof.Rows
/-! ### code tables: where a def's lambda lies,and the code that was made of it -/
structure Tb where
 at_:Addr
 pos:Pos
 qual:Str
class NT (o:HO):Prop where
 no:∀ ps,o≠.tbl ps
instance NT.lst {xs:List V}:NT (.lst xs):=⟨fun _ z=>by cases z⟩
instance NT.tup {xs:List V}:NT (.tup xs):=⟨fun _ z=>by cases z⟩
instance NT.dK {xs:List (Key × V)}:NT (.dK xs):=⟨fun _ z=>by cases z⟩
instance NT.ext {f:Heap→Prop}:NT (.ext f):=⟨fun _ z=>by cases z⟩
instance NT.frz {o:Obj} {u:HO}:NT (.frz o u):=⟨fun _ z=>by cases z⟩
/-! ### a def is called with things tracked that the body around keeps to itself -/
section
variable {X:Cx} {pins:List (Addr × Obj)} {σ:St} {H:Hp} {s s':Shared} {cs:List Addr} {ob:Addr→Obj}
end
end L2

set_option Elab.async false
set_option linter.all false
set_option maxRecDepth 100000
set_option maxHeartbeats 4000000
namespace L2
open PySem PySem.Spec PyProof.Rows
section
variable {X:Cx} {N:List Str} {ix:List (Option Nat)} {params:Arguments} {body:Expr} {lsc:Scope} {lpos:Pos} {c:Addr} {T:Tb} {Ts:List Tb}
/-! ### g(e,lambda ..) -/
variable {k:Nat} {g:Addr} {gd:FuncData} {ps:List Str} {sp:Sp} {E:XK} {x:Str} {p pos:Pos} {e0:Expr} {t0:TE}
end
end L2

set_option Elab.async false
set_option linter.all false
set_option maxRecDepth 100000
set_option maxHeartbeats 4000000
namespace L2
open PySem PySem.Spec PyProof.Rows
/-! ### data stay where frozen things are hidden -/
end L2

set_option Elab.async false
set_option linter.all false
set_option maxRecDepth 100000
set_option maxHeartbeats 4000000
namespace Gu
open PySem L2
/-! ### machines whose rows are told by a function,under names -/
abbrev nV (nm:Int→Int) (i:Int):V:=.int (nm i)
abbrev kN (nm:Int→Int) (i:Int):Key:=Sum.inl (nm i)
def rowN (nm:Int→Int) (r:Row):Row:=(r.1,r.2.map nm)
theorem rowN_id (r:Row):rowN (fun i=>i) r=r:=by unfold rowN;rw [List.map_id']
section
variable (P:Program) (w:World) (K:PySem.W.Frag) (mg:Str→Option Value) (base:Heap) (CX:CXT) (k:Nat)
end
/-! ### what a def hands back that makes lambdas -/
end Gu

set_option Elab.async false
set_option linter.all false
set_option maxRecDepth 100000
set_option maxHeartbeats 4000000
namespace L2
open PySem PySem.Spec PyProof.Rows
end L2

set_option Elab.async false
set_option linter.all false
set_option maxRecDepth 100000
set_option maxHeartbeats 4000000
namespace L2
open PySem PySem.Spec PyProof.Rows
/-! ### a list or a tuple -/
def SqS (K:PySem.W.Frag) (H:Hp) (a:Addr) (xs:List V):Prop:=SqL K H a xs∨SqT K H a xs
theorem SqS.mono {K:PySem.W.Frag} {H H':Hp} {a:Addr} {xs:List V} (h:SqS K H a xs) (s:Same H H'):SqS K H' a xs:=by
 rcases h with h | h
 ·exact .inl (s.seq h)
 ·refine .inr ?_
  rcases h with (h | ⟨o,h⟩) | h
  ·exact .inl (.inl (s _ _ h))
  ·exact .inl (.inr ⟨o,s _ _ h⟩)
  ·exact .inr h
def rIxQ (K:PySem.W.Frag):R2:=fun x y H Q=>∃ p xs i v,x=.ref p∧y=.int i∧SqS K H p xs∧atI xs i=some v∧Q v H
theorem ixQ {X:Cx} (K:PySem.W.Frag) (h:X.K=K):IxR X (rIxQ K):=by
 subst h
 intro value slice pins s σ H x y v u Q I rx ry q hs
 obtain ⟨p,xs,i,z,e1,e2,hq,e3,q⟩:=q
 rcases hq with hq | hq
 ·exact ix_list value slice pins s σ H x y v u Q I rx ry ⟨p,xs,i,z,e1,e2,hq,e3,q⟩ hs
 ·exact ix_tup value slice pins s σ H x y v u Q I rx ry ⟨p,xs,i,z,e1,e2,hq,e3,q⟩ hs
end L2
namespace Gu
open PySem L2
def RowsN (K:PySem.W.Frag) (H:Hp) (us:List V) (rows:List Row) (nm:Int→Int):Prop:=∀ i:Int,0≤i→i < (rows.length:Int)→0≤nm i∧∃ v,us[(nm i).toNat]?=some v∧Dr K H (rowD (rowN nm (row rows i))) v
theorem RowsN.mono {K:PySem.W.Frag} {H H':Hp} {us:List V} {rows:List Row} {nm:Int→Int} (h:RowsN K H us rows nm) (s:Same H H'):RowsN K H' us rows nm:=fun i h0 h1=>by
 obtain ⟨a,v,e,d⟩:=h i h0 h1
 exact ⟨a,v,e,d.mono s⟩
theorem RowsN.of {K:PySem.W.Frag} {H:Hp} {us:List V} {rows:List Row} (h:DrL K H (rowsD rows) us):RowsN K H us rows (fun i=>i):=fun i h0 h1=>by
 obtain ⟨v,ev,dv⟩:=rows_at h (row_get h0 h1)
 exact ⟨h0,v,ev,by rw [rowN_id];exact dv⟩
/-! ### a dict from named rows to data -/
section
variable {K:PySem.W.Frag} {H H':Hp} {f:Int→D} {r:Int} {nm:Int→Int}
def MkN (nm:Int→Int) (K:PySem.W.Frag) (H:Hp) (o:List Int) (f:Int→D) (kvs:List (Key × V)):Prop:=∃ vs,kvs=mk (o.map nm) vs∧DrL K H (o.map f) vs
theorem MkN.nil:MkN nm K H [] f []:=⟨[],rfl,DrL.nil⟩
theorem MkN.get (ni:∀ x y,nm x=nm y→x=y):∀ {o:List Int} {kvs:List (Key × V)},MkN nm K H o f kvs→r∈o→∃ v,valV kvs (kN nm r)=some v∧Dr K H (f r) v
 | [],_,_,h=>by simp at h
 | b::o,_,⟨vs,rfl,d⟩,h=>by
  rw [List.map_cons] at d
  simp only [DrL] at d
  obtain ⟨v,r',rfl,d1,d2⟩:=d
  by_cases e:b=r
  ·subst e
   exact ⟨v,valV_pos (p:=(kN nm b,v)) rfl,d1⟩
  ·obtain ⟨v',h1,h2⟩:=MkN.get ni (o:=o) ⟨r',rfl,d2⟩ (by rcases List.mem_cons.mp h with z | z;exact absurd z.symm e;exact z)
   refine ⟨v',?_,h2⟩
   show valV ((kN nm b,v)::mk (o.map nm) r') (kN nm r)=_
   rw [valV_neg (p:=(kN nm b,v)) (fun z=>e (ni _ _ (Sum.inl.inj z)))]
   exact h1
theorem MkN.no (ni:∀ x y,nm x=nm y→x=y):∀ {o:List Int} {kvs:List (Key × V)},MkN nm K H o f kvs→r∉o→valV kvs (kN nm r)=none
 | [],_,⟨vs,rfl,d⟩,_=>rfl
 | b::o,_,⟨vs,rfl,d⟩,h=>by
  rw [List.map_cons] at d
  simp only [DrL] at d
  obtain ⟨v,r',rfl,d1,d2⟩:=d
  show valV ((kN nm b,v)::mk (o.map nm) r') (kN nm r)=_
  rw [valV_neg (p:=(kN nm b,v)) (fun z=>h (by rw [ni _ _ (Sum.inl.inj z)];simp))]
  exact MkN.no ni (o:=o) ⟨r',rfl,d2⟩ (fun z=>h (List.mem_cons_of_mem _ z))
theorem MkN.len {o:List Int} {kvs:List (Key × V)} (h:MkN nm K H o f kvs):kvs.length=o.length:=by
 obtain ⟨vs,rfl,d⟩:=h
 have:=d.length
 rw [List.length_map] at this
 unfold mk
 rw [List.length_map,List.length_zip,List.length_map];omega
theorem MkN.put (ni:∀ x y,nm x=nm y→x=y) {v:V} {o:List Int} {kvs:List (Key × V)} (h:MkN nm K H o f kvs) (hr:r∉o) (h':MkN nm K H' o f kvs) (dv:Dr K H' (f r) v):MkN nm K H' (o++[r]) f (putK kvs (kN nm r) v):=by
 rw [putK_new _ (h.no ni hr)]
 obtain ⟨vs,rfl,d⟩:=h'
 have hl:=d.length
 rw [List.length_map] at hl
 refine ⟨vs++[v],?_,by rw [List.map_append];exact DrL.append d (DrL.one dv)⟩
 unfold mk
 rw [List.map_append,List.zip_append (by rw [List.length_map];exact hl),List.map_append]
 rfl
theorem MkN.mono {o:List Int} {kvs:List (Key × V)} (h:MkN nm K H o f kvs) (s:Same H H'):MkN nm K H' o f kvs:=by
 obtain ⟨vs,e,d⟩:=h
 exact ⟨vs,e,d.mono s⟩
theorem MkN.keyed {o:List Int} {kvs:List (Key × V)} (h:MkN nm K H o f kvs) (k:TupK H H') (hf:FK f):MkN nm K H' o f kvs:=by
 obtain ⟨vs,e,d⟩:=h
 exact ⟨vs,e,d.keyed k (hf.keyL o)⟩
end
def spInLineN (K:PySem.W.Frag):Sp:=fun vs H Q _=>∃ (a l m:Addr) (n:Nat) (rows:List Row) (nm:Int→Int) (us:List V) (o:List Int) (k:Int→Int) (kvs:List (Key × V)),vs=[.ref a,.ref l,.ref m]∧SqS K H a us∧RowsN K H us rows nm∧(∀ x y,nm x=nm y→x=y)∧GoodM n rows∧n≤60∧H l=some (.lst (o.map (nV nm)))∧H m=some (.dK kvs) ∧
 MkN nm K H o (fun r=>D.int (k r)) kvs∧Line rows o∧(∀ r∈o,∀ g∈(row rows r).2,g∈o)∧Gives K H Q (D.tup (rowsD (inLine rows k o)))
def spShrunkN (K:PySem.W.Frag):Sp:=fun vs H Q _=>∃ (a:Addr) (n:Nat) (rows:List Row) (nm:Int→Int) (us:List V),vs=[.ref a,.int (nm 0)]∧SqS K H a us∧RowsN K H us rows nm∧(∀ x y,nm x=nm y→x=y)∧GoodM n rows∧n≤60∧Gives K H Q (D.tup (rowsD (shr rows)))
end Gu

set_option Elab.async false
set_option linter.all false
set_option maxRecDepth 100000
set_option maxHeartbeats 4000000
namespace Gu
open PySem L2
/-! ### the form and its machine -/
/-! ### a machine begun at another row -/
theorem iota_getI {L:Nat} {i:Int} (h0:0≤i) (h1:i < (L:Int)):(iota L)[i.toNat]?=some i:=by
 unfold iota
 rw [List.getElem?_map,List.getElem?_range (by omega)]
 show some ((i.toNat:Nat):Int)=some i
 congr 1;omega
/-! ### words -/
def goW (M:List Row):Int→List Int→Int
 | x,[]=>x
 | x,l::w=>goW M ((row M x).2.getD l.toNat 0) w
theorem goW_app (M:List Row):∀ (w w':List Int) (x:Int),goW M x (w++w')=goW M (goW M x w) w'
 | [],_,_=>rfl
 | l::w,w',x=>goW_app M w w' _
def LW (n:Nat) (w:List Int):Prop:=∀ l∈w,0≤l∧l < (n:Int)
theorem LW.tail {n:Nat} {l:Int} {w:List Int} (h:LW n (l::w)):LW n w:=fun x hx=>h x (List.mem_cons_of_mem _ hx)
theorem goW_all {n:Nat} {M:List Row} {C:Int→Prop} (hl:∀ x,C x→(row M x).2.length=n) (hc:∀ x,C x→∀ g∈(row M x).2,C g):∀ (w:List Int) (x:Int),LW n w→C x→C (goW M x w)
 | [],_,_,h=>h
 | l::w,x,hw,h=>by
  obtain ⟨l0,l1⟩:=hw l List.mem_cons_self
  have hi:l.toNat < (row M x).2.length:=by rw [hl x h];omega
  refine goW_all hl hc w _ hw.tail ?_
  rw [List.getD_eq_getElem?_getD,List.getElem?_eq_getElem hi]
  exact hc x h _ (List.getElem_mem hi)
theorem goW_rg {n:Nat} {M:List Row} (G:GoodM n M) {w:List Int} {x:Int} (hw:LW n w) (h0:0≤x) (h1:x < (M.length:Int)):0≤goW M x w∧goW M x w < (M.length:Int) :=
 goW_all (n:=n) (C:=fun x=>0≤x∧x < (M.length:Int)) (fun x hx=>G.len _ (row_mem hx.1 hx.2)) (fun x hx=>G.go _ (row_mem hx.1 hx.2)) w x hw ⟨h0,h1⟩
end Gu

set_option Elab.async false
set_option linter.all false
set_option maxRecDepth 100000
set_option maxHeartbeats 4000000
namespace L2
open PySem PySem.Spec PyProof.Rows
theorem FnOk.sub {P:Program} {w:World} {K:PySem.W.Frag} {mg:Str→Option Value} {base:Heap} {CX:CXT} {k:Nat} {f:Addr} {fd:FuncData} {ps:List Str} {sp sp':Sp} (h:FnOk P w K mg base CX k f fd ps sp) (i:∀ vs H Q E,sp' vs H Q E→sp vs H Q E):FnOk P w K mg base CX k f fd ps sp' :=
 { h with len:=fun vs H Q E q=>h.len vs H Q E (i vs H Q E q),run:=fun A outer s H args us vs Q E hr e0 b r q=>h.run A outer s H args us vs Q E hr e0 b r (i vs H Q E q) }
end L2
namespace Gu
open PySem L2
theorem shrunk_sub {K:PySem.W.Frag} (vs:List V) (H:Hp) (Q:VK) (E:XK) (h:spShrunk K vs H Q E):spShrunkN K vs H Q E:=by
 obtain ⟨a,n,rows,rfl,⟨us,ea,da⟩,GM,hn,q⟩:=h
 exact ⟨a,n,rows,fun i=>i,us,rfl,.inl (SqL.of ea),RowsN.of da,fun _ _ e=>e,GM,hn,q⟩
instance LW.dec (n:Nat) (w:List Int):Decidable (LW n w):=by unfold LW;infer_instance
def spCheckW (K:PySem.W.Frag) (Ct:Addr):Sp:=fun vs H Q E=>∃ (n:Nat) (u:V) (w:List Int),vs=[.int n,u]∧Dr K H (D.its w) u∧w.length≤5000∧(LW n w→∀ H',Same H H'→Q .non H')∧(¬ LW n w→TMx Ct E H)
end Gu

set_option Elab.async false
set_option linter.all false
set_option maxRecDepth 100000
set_option maxHeartbeats 4000000
namespace Gu
open PySem L2
/-! ### branches put together -/
def hds:Nat→List (List Row)→List Int
 | _,[]=>[]
 | o,g::gs=>(o:Int)::hds (o+g.length) gs
end Gu

set_option Elab.async false
set_option linter.all false
set_option maxRecDepth 100000
set_option maxHeartbeats 4000000
namespace L2
open PySem PySem.Spec PyProof.Rows
section
variable {X:Cx} {K:PySem.W.Frag} {k v:Expr} {tk tv:TE} {pos:Pos}
end
end L2

set_option Elab.async false
set_option linter.all false
set_option maxRecDepth 100000
set_option maxHeartbeats 4000000
namespace L2
open PySem PySem.Spec PyProof.Rows
/-! ### zip over any two things that are drawn from -/
section
variable {prog:Program} {w:World} {A:Around} {E:Value→Shared→Prop} {s:Shared} {z TI TO i1 i2:Addr} {fp1 fp2:List Addr} {n1 n2:Nat} {P1 P2:Nat→Value→Prop} {S1 S2:Nat→Heap→Prop}
end
end L2

set_option Elab.async false
set_option linter.all false
set_option maxRecDepth 100000
set_option maxHeartbeats 4000000
namespace L2
open PySem PySem.Spec PyProof.Rows
section
variable {prog:Program} {w:World} {A:Around} {E:Value→Shared→Prop} {s:Shared}
end
/-! ### zip over two tuples -/
section
variable {X:Cx} {elts:List Expr} {tk:Nat} {tp:Pos}
end
end L2

set_option Elab.async false
set_option linter.all false
set_option maxRecDepth 100000
set_option maxHeartbeats 4000000
namespace Gu
open PySem L2
/-! ### rows under pairs of numbers -/
section
variable (P:Program) (w:World) (K:PySem.W.Frag) (mg:Str→Option Value) (base:Heap) (CX:CXT) (k:Nat)
end
end Gu

set_option Elab.async false
set_option linter.all false
set_option maxRecDepth 100000
set_option maxHeartbeats 4000000
namespace Gu
open PySem L2
/-! ### the one and then the other -/
end Gu

set_option Elab.async false
set_option linter.all false
set_option maxRecDepth 100000
set_option maxHeartbeats 4000000
namespace Gu
open PySem L2
/-! ### the way back -/
/-! ### joined with the way back -/
end Gu

set_option Elab.async false
set_option linter.all false
set_option maxRecDepth 100000
set_option maxHeartbeats 4000000
namespace Gu
open PySem L2
theorem take_getD {r:List Int} {s i:Nat} (h:i < s):(r.take s).getD i 0=r.getD i 0:=by
 rw [List.getD_eq_getElem?_getD,List.getElem?_take,if_pos h,←List.getD_eq_getElem?_getD]
theorem rep_per {r:List Int} {s:Nat} (hs:0 < s) (hle:s≤r.length) (hd:s ∣ r.length):(List.replicate (r.length / s) (r.take s)).flatten=r↔Per r s:=by
 have lt:(r.take s).length=s:=by rw [List.length_take];omega
 have e1:r.length / s*s=r.length:=Nat.div_mul_cancel hd
 have lf:(List.replicate (r.length / s) (r.take s)).flatten.length=r.length:=by rw [flat_len,lt,e1]
 have g:∀ i,i < r.length→(List.replicate (r.length / s) (r.take s)).flatten.getD i 0=r.getD (i % s) 0:=fun i hi=>by
  rw [flat_getD _ _ _ (by rw [lt,e1];exact hi),lt,take_getD (Nat.mod_lt _ hs)]
 constructor
 ·intro h
  rw [h] at g
  exact per_of_mod hd g
 ·intro h
  refine List.ext_getElem lf fun i h1 h2=>?_
  have a:=g i h2
  rw [←per_mod h hs i h2,getD_of h1,getD_of h2] at a
  exact a
theorem per_all {r:List Int}:Per r r.length:=⟨Nat.dvd_refl _,fun i hi=>by omega⟩
theorem atI_neg {α:Type} {xs:List α} {c:Nat} (h:c < xs.length):atI xs (-1 - (c:Int))=xs[xs.length - 1 - c]?:=by
 have e:ixN xs.length (-1 - (c:Int))=some (xs.length - 1 - c):=by
  unfold ixN
  rw [if_neg (by omega),if_pos (by omega)]
  congr 1
  omega
 unfold atI
 rw [e]
 rfl
theorem at_negI {r:List Int} {c:Nat} (h:c < r.length):atI (r.map V.int) (-1 - (c:Int))=some (V.int (r.getD (r.length - 1 - c) 0)):=by
 rw [atI_neg (by rw [List.length_map];exact h),List.length_map,List.getElem?_map,List.getElem?_eq_getElem (by omega),getD_of (by omega)]
 rfl
theorem ringed_take {b r:List Int} {s c:Nat} (hs:0 < s) (h:Ringed b (r.take s) s c):Ringed b r s c:=by
 have g:∀ j,(r.take s).getD (s - 1 - j % s) 0=r.getD (s - 1 - j % s) 0:=fun j=>take_getD (by have:=Nat.mod_lt j hs;omega)
 exact ⟨h.le,fun j hj=>by rw [h.eq j hj,g],by have:=h.no;rw [g] at this;exact this⟩
theorem ring_cut {r:List Int} {s c:Nat} (hs:0 < s) (hle:s≤r.length):(r.take s).drop (s - c % s)++(r.take s).take (s - c % s)=(iota s).map fun k=>r.getD ((k - (c:Int)) % (s:Int)).toNat 0:=by
 have hm:c % s < s:=Nat.mod_lt _ hs
 have lt:(r.take s).length=s:=by rw [List.length_take];omega
 have e2:∀ i:Nat,(((i:Int) - (c:Int)) % (s:Int))=(((s - c % s+i) % s:Nat):Int):=fun i=>by
  rw [Int.natCast_emod]
  have e3:((s - c % s+i:Nat):Int)=((i:Int) - (c:Int))+(s:Int)*(((c / s:Nat):Int)+1):=by
   have:=Nat.mod_add_div c s
   have e4:(c:Int)=((c % s:Nat):Int)+(s:Int)*((c / s:Nat):Int):=by rw [←Int.natCast_mul,←Int.natCast_add,this]
   rw [Int.mul_add,Int.mul_one]
   omega
  rw [e3,Int.add_mul_emod_self_left]
 have gt:∀ i,i < s→(r.take s)[i]?=some (r.getD i 0):=fun i hi=>by rw [List.getElem?_take,if_pos hi,List.getElem?_eq_getElem (by omega),getD_of (by omega)]
 have e0:∀ (k:Nat) (l:List Int),k≤s→l.length=s→(l.drop k++l.take k).length=s:=fun k l hk hl=>by rw [List.length_append,List.length_drop,List.length_take];omega
 generalize r.take s=l at *
 obtain ⟨k,hk⟩:∃ k,k=s - c % s:=⟨_,rfl⟩
 have hk0:0 < k:=by omega
 have hks:k≤s:=by omega
 rw [←hk]
 refine List.ext_getElem (by rw [e0 _ _ hks lt,List.length_map,iota_len]) fun i h1 h2=>?_
 have hi:i < s:=by rw [e0 _ _ hks lt] at h1;exact h1
 have e1:((iota s).map fun k=>r.getD ((k - (c:Int)) % (s:Int)).toNat 0)[i]?=some (r.getD ((k+i) % s) 0):=by
  rw [List.getElem?_map,iota_get hi]
  show some (r.getD (((i:Int) - (c:Int)) % (s:Int)).toNat 0)=_
  rw [e2 i,←hk,Int.toNat_natCast]
 have e5:(l.drop k++l.take k)[i]?=some (r.getD ((k+i) % s) 0):=by
  rw [List.getElem?_append,List.length_drop,lt]
  by_cases h:i < s - k
  ·rw [if_pos h,List.getElem?_drop,gt _ (by omega),Nat.mod_eq_of_lt (by omega)]
  ·have e6:(k+i) % s=i - (s - k):=by
    rw [show k+i=(i - (s - k))+s by omega,Nat.add_mod_right,Nat.mod_eq_of_lt (by omega)]
   rw [if_neg h,List.getElem?_take,if_pos (by omega),gt _ (by omega),e6]
 rw [List.getElem?_eq_getElem h1] at e5
 rw [List.getElem?_eq_getElem h2] at e1
 exact (Option.some.inj e5).trans (Option.some.inj e1).symm
def spRinged (K:PySem.W.Frag):Sp:=fun vs H Q _=>∃ (v u:V) (b r:List Int),vs=[v,u]∧Dr K H (D.its b) v∧Dr K H (D.its r) u∧r≠[]∧∀ (c:Nat),Ringed b r r.length c→Q (.int c) H
def PlainOk (K:PySem.W.Frag) (H:Hp) (Q:VK) (b r:List Int):Prop:=∀ (x:V) (H':Hp) (e:Row),Same H H'→Dr K H' (rowD e) x→IsPlain e→(∀ i,lat e i=lat (b,r) i)→e.1.length≤b.length→e.2.length≤r.length→Q x H'
end Gu

set_option Elab.async false
set_option linter.all false
set_option maxRecDepth 100000
set_option maxHeartbeats 4000000
namespace Gu
open PySem L2
/-! ### what is made of a word -/
def outW (M:List Row):Int→List Int→List Int
 | _,[]=>[]
 | x,l::w=>(row M x).1.getD l.toNat 0::outW M ((row M x).2.getD l.toNat 0) w
theorem outW_len (M:List Row):∀ (w:List Int) (x:Int),(outW M x w).length=w.length
 | [],_=>rfl
 | _::w,x=>by show (outW M _ w).length+1=w.length+1;rw [outW_len M w]
theorem outW_app (M:List Row):∀ (w w':List Int) (x:Int),outW M x (w++w')=outW M x w++outW M (goW M x w) w'
 | [],_,_=>rfl
 | l::w,w',x=>by show _::outW M _ (w++w')=_::(outW M _ w++outW M (goW M _ w) w');rw [outW_app M w w']
theorem outW_take (M:List Row) (w:List Int) (x:Int) (k:Nat):(outW M x w).take k=outW M x (w.take k):=by
 have e:=outW_app M (w.take k) (w.drop k) x
 rw [List.take_append_drop] at e
 rw [e]
 by_cases h:k≤w.length
 ·have hl:(outW M x (w.take k)).length=k:=by rw [outW_len,List.length_take];omega
  rw [List.take_append_of_le_length (by omega),List.take_of_length_le (by omega)]
 ·have:w.drop k=[]:=List.drop_eq_nil_of_le (by omega)
  rw [this]
  show (outW M x (w.take k)++[]).take k=_
  rw [List.append_nil,List.take_of_length_le (by rw [outW_len,List.length_take];omega)]
theorem outW_lw {n:Nat} {M:List Row} (G:GoodM n M):∀ (w:List Int) (x:Int),LW n w→0≤x→x < (M.length:Int)→LW n (outW M x w)
 | [],_,_,_,_=>fun _ h=>by simp [outW] at h
 | l::w,x,hw,h0,h1=>fun y hy=>by
  obtain ⟨l0,l1⟩:=hw l List.mem_cons_self
  have hm:=row_mem h0 h1
  have hi:l.toNat < (row M x).2.length:=by rw [G.len _ hm];omega
  have hp:=G.perm _ hm
  have hi1:l.toNat < (row M x).1.length:=by rw [hp.len];omega
  rcases List.mem_cons.mp hy with rfl | hy
  ·rw [List.getD_eq_getElem?_getD,List.getElem?_eq_getElem hi1]
   exact mem_iota.mp (hp.mem_iff.mp (List.getElem_mem hi1))
  ·have hg:0≤(row M x).2.getD l.toNat 0∧(row M x).2.getD l.toNat 0 < (M.length:Int):=by
    rw [List.getD_eq_getElem?_getD,List.getElem?_eq_getElem hi]
    exact G.go _ hm _ (List.getElem_mem hi)
   exact outW_lw G w _ hw.tail hg.1 hg.2 y hy
def spRing (K:PySem.W.Frag) (Ct:Addr):Sp:=fun vs H Q E=>∃ (u:V) (r:List Int),vs=[u]∧Dr K H (D.its r) u∧(r≠[]→Q .non H)∧(r=[]→TMx Ct E H)
def spReadF (K:PySem.W.Frag):Sp:=fun vs H Q _=>∃ (v u:V) (rows:List Row) (n:Nat) (w:List Int) (s:Int),vs=[v,.int s,u]∧Dr K H (D.tup (rowsD rows)) v∧Dr K H (D.its w) u∧GoodM n rows∧n≤60∧w.length≤4900∧LW n w∧0≤s∧s < (rows.length:Int) ∧
 ∀ (r t:Addr) (H':Hp),Same H H'→H' r=some (.tup [.ref t,.int (goW rows s w)])→H' t=some (.tup ((outW rows s w).map V.int))→Q (.ref r) H'
def spWorn (K:PySem.W.Frag) (Ct:Addr):Sp:=fun vs H Q E=>∃ (v u:V) (rows:List Row) (n:Nat) (w:List Int),vs=[v,u]∧Dr K H (D.tup (rowsD rows)) v∧Dr K H (D.its w) u∧GoodM n rows∧n≤60∧w.length≤4900∧(LW n w→∀ (t:Addr) (H':Hp),Same H H'→H' t=some (.tup ((outW rows 0 w).map V.int))→Q (.ref t) H')∧(¬ LW n w→TMx Ct E H)
end Gu

set_option Elab.async false
set_option linter.all false
set_option maxRecDepth 100000
set_option maxHeartbeats 4000000
namespace L2
open PySem PySem.Spec PyProof.Rows
section
variable {M:Model} {A:Around} {E:Value→Shared→Prop}
variable {nm q:Str} {C N:Addr} {bs bm:List Value} {hdct:Bool} {sn:List Str} {sub:List Value} {ab:Bool} {col:Option Bool} {dd:Option Addr} {k0 k1 k2 k3 k5:Option Value} {newId:String}
variable {nm' q':Str} {C' N':Addr} {bs' bm':List Value} {hdct':Bool} {sn':List Str} {sub':List Value} {ab':Bool} {col':Option Bool} {dd':Option Addr} {k0' k1' k2' k3' k5':Option Value} {newId':String}
theorem exc_other {h:Heap} {g:Array GenState} {d:Drawn} {t:Nat} {os:OsState} {e:Addr} {oe:Obj} {Q:Bool→Shared→Prop}
  (hC:h.get? C=some (excClassObj nm q C N bs bm hdct sn sub ab col dd k0 k1 k2 k3 k5 newId)) (hC':h.get? C'=some (excClassObj nm' q' C' N' bs' bm' hdct' sn' sub' ab' col' dd' k0' k1' k2' k3' k5' newId')) (he:h.get? e=some oe) (hcls:oe.cls=.ref C) (hbase:bm'.contains (.type "BaseException")=true)
  (hno:(Value.ref C::bm).contains (.ref C')=false) (hq:Q false ⟨h,g,d,t,os⟩):wpAny M A (excMatches (.ref e) (.ref C')) Q E ⟨h,g,d,t,os⟩:=by
 have hcB:(Value.ref C'::bm').contains (.type "BaseException")=true:=by rw [List.contains_cons,hbase,Bool.or_true]
 have f:=tc_notTuple
 unfold excMatches
 repeat (first | (with_reducible refine wpAny_loadPart_at he ?_;rw [hcls]) | with_reducible refine wpAny_loadPart_at hC' ?_ | (with_reducible refine wpAny_isSubtype_exc hC' ?_;rw [hcB]) | (with_reducible refine wpAny_isSubtype_exc hC ?_;rw [hno]) | wp_step)
 exact hq
end
def apartIn (K:PySem.W.Frag) (C C':Addr):Bool:=match K.lookup C with
 | some ⟨_,_,.cls cd,_⟩=>!(cd.mro.contains (.ref C'))
 | _=>false
theorem exc_obj2 {K:PySem.W.Frag} {h:Heap} {C C':Addr} {bmB:List Value} {newId:String} (X:K.In h) (e:PySem.W.excIn K C bmB newId=true) (ap:apartIn K C C'=true):∃ bm N nm q bs hdct sn sub ab col dd k0 k1 k2 k3 k5 mN,
  h.get? C=some (excClassObj nm q C N bs bm hdct sn sub ab col dd k0 k1 k2 k3 k5 newId)∧h.Ns N mN∧mN "__init__"=none∧OwnTail h bmB bm∧(Value.ref C::bm).contains (.ref C')=false:=by
 obtain ⟨bm,N,nm,q,bs,hdct,sn,sub,ab,col,dd,k0,k1,k2,k3,k5,mN,hC,hN,hi,ht⟩:=exc_obj X e
 refine ⟨bm,N,nm,q,bs,hdct,sn,sub,ab,col,dd,k0,k1,k2,k3,k5,mN,hC,hN,hi,ht,?_⟩
 unfold apartIn at ap
 split at ap
 ·rename_i cls dd' cd sl hl
  have e1:=(X C _ hl).symm.trans hC
  have e2:cd.mro=.ref C::bm:=by
   have e3:=Option.some.inj e1
   unfold excClassObj at e3
   injection e3 with _ _ e4 _
   injection e4 with e5
   rw [e5]
  rw [e2] at ap
  simpa using ap
 ·cases ap
end L2

set_option Elab.async false
set_option linter.all false
set_option maxRecDepth 100000
set_option maxHeartbeats 4000000
namespace Gu
open PySem L2
theorem dvm {m:Nat} {g e:Int} (e0:0≤e) (e1:e < (m:Int)):(g*(m:Int)+e) / (m:Int)=g∧(g*(m:Int)+e) % (m:Int)=e:=by
 have hm:(0:Int) < (m:Int):=by omega
 constructor
 ·rw [Int.add_comm,Int.add_mul_ediv_right _ _ (by omega),Int.ediv_eq_zero_of_lt e0 e1];omega
 ·rw [Int.add_comm,Int.add_mul_emod_self_right,Int.emod_eq_of_lt e0 e1]
theorem go_get {n:Nat} {M:List Row} (G:GoodM n M) {x:Int} (x0:0≤x) (x1:x < (M.length:Int)) {k:Nat} (hk:k < n):0≤(row M x).2.getD k 0∧(row M x).2.getD k 0 < (M.length:Int)∧(row M x).2.getD k 0∈(row M x).2:=by
 have hm:=row_mem x0 x1
 have hl:=G.len _ hm
 rw [List.getD_eq_getElem?_getD,List.getElem?_eq_getElem (by omega)]
 have:=List.getElem_mem (show k < (row M x).2.length by omega)
 exact ⟨(G.go _ hm _ this).1,(G.go _ hm _ this).2,this⟩
theorem iotaN {L:Nat} {k:Nat} (h:k < L):(iota L)[k]?=some (k:Int):=by
 have:=iota_getI (L:=L) (i:=(k:Int)) (by omega) (by omega)
 rw [Int.toNat_natCast] at this
 exact this
end Gu

set_option Elab.async false
set_option linter.all false
set_option maxRecDepth 100000
set_option maxHeartbeats 4000000
namespace Gu
open PySem L2
/-! ### so many times -/
end Gu

set_option Elab.async false
set_option linter.all false
set_option maxRecDepth 100000
set_option maxHeartbeats 4000000
namespace L2
open PySem PySem.Spec PyProof.Rows
/-! ### xs[::-1] of a list -/
theorem pick_revL (its:List Value):slicePick its.toArray none none (some (-1))=its.reverse.toArray:=by
 have eb:sliceBounds none none (some (-1)) its.toArray.size=((its.length:Int) - 1,-1,-1):=by
  simp only [sliceBounds,Option.getD_some,List.size_toArray]
  rfl
 unfold slicePick
 rw [eb]
 congr 1
 have h:=HT.fm_rev its its.length (Nat.le_refl _)
 rw [List.take_of_length_le (by rw [List.length_reverse];exact Nat.le_refl _)] at h
 rw [←h]
 have er:sliceRange ((its.length:Int) - 1) (-1) (-1)=(List.range its.length).map fun m=>its.length - 1 - m:=by
  have ec:(if ((its.length:Int) - 1) > -1 then (((its.length:Int) - 1) - -1 - -1 - 1) / (- -1) else 0)=(its.length:Int):=by
   by_cases hn:(its.length:Int) - 1 > -1
   ·rw [if_pos hn,show (- -1:Int)=1 by decide,Int.ediv_one];omega
   ·rw [if_neg hn];omega
  unfold sliceRange
  simp only [show ¬ ((-1:Int) > 0) by decide,if_false]
  rw [ec,Int.toNat_natCast]
  refine List.map_congr_left fun m hm=>?_
  omega
 show (sliceRange ((its.length:Int) - 1) (-1) (-1)).filterMap _=_
 rw [er,List.filterMap_map]
 refine HT.fm_congr fun m hm=>?_
 show its.toArray[its.length - 1 - m]?=_
 rw [List.getElem?_toArray]
section
variable {X:Cx} {e st:Expr} {te ts:TE} {pos p2:Pos}
def tRevL (K:PySem.W.Frag) (te ts:TE):TE:=fun σ H Q=>te σ H fun x H1=>ts σ H1 fun y H2=>y=.int (-1)∧∃ a xs,x=.ref a∧SqL K H2 a xs∧∀ p,H2 p=none→Q (.ref p) (upd H2 p (.lst xs.reverse))
theorem pe_revL (he:PE X e te) (hst:PE X st ts):PE X (.Subscript e (.Slice none none (some st) p2) pos) (tRevL X.K te ts):=by
 intro pins s σ H Q I h
 refine Subscript_ (thn (he pins s σ H _ I h) fun v s1 ⟨x,H1,I1,r1,q1⟩=>?_)
 refine wpAny_Slice ?_
 rw [evalPart_none]
 refine wpAny_pure (wpAny_pure ?_)
 rw [evalPart_some]
 refine thn (hst pins s1 σ H1 _ I1 q1) fun vt s2 ⟨y,H2,I2,ry,ey,a,xs,ex,hx,q⟩=>?_
 subst ey ex
 obtain ⟨t,rfl⟩:=ry
 cases r1
 have I4:Inv X pins σ H2 { s2 with heap:=s2.heap.push { cls:=.type "slice",data:=.fields #[.none,.none,.int (-1) t] } }:=I2.kept (t':=s2.toks) fun b ob q=>Heap.get?_push_of_some _ q
 generalize hs5:({ s2 with heap:=s2.heap.push { cls:=.type "slice",data:=.fields #[.none,.none,.int (-1) t] } }:Shared)=s5 at I4
 have hsl:s5.heap.IsSliceOf s2.heap.objs.size .none .none (.int (-1) t):=by rw [←hs5];exact Heap.IsSliceOf.new ..
 obtain ⟨its,r,ht,hz⟩:=I4.list hx
 have hlen:its.toArray.size=xs.length:=by rw [List.size_toArray];exact r.length.symm
 have hg:wpAny (model X.prog X.w) X.A (getItem (.ref a) (.ref s2.heap.objs.size)) (EP X pins σ Q) X.xe s5:=by
  refine wpAny_getItem_list_slice ht.isList hsl .none .none (.int _ _) (by simp) ?_ (by rw [hlen];exact hz)
  rw [pick_revL]
  refine ⟨.ref s5.heap.objs.size,_,I4.laid (t':=s5.toks) (o:=.lst xs.reverse) (fun b ob q=>Heap.get?_push_of_some _ q) (Nat.le_refl _) ?_,rfl,q _ (I4.hok.fresh (Nat.le_refl _))⟩
  exact ⟨by rw [List.length_reverse];exact hz,_,0,r.reverse,Heap.get?_push_size _ rfl⟩
 exact tail_any (ops:=[.ref a,.ref s2.heap.objs.size]) ht.isList.typeIs slot_list_getitem.lookup hg (by with_unfolding_all rfl)
end
end L2

set_option Elab.async false
set_option linter.all false
set_option maxRecDepth 100000
set_option maxHeartbeats 4000000
namespace Gu
open PySem L2
/-! ### numbers of words -/
def numW (n:Int) (w:List Int):Int:=w.foldl (fun a l=>a*n+l) 0
theorem numW_snoc (n:Int) (w:List Int) (l:Int):numW n (w++[l])=numW n w*n+l:=by
 unfold numW
 rw [List.foldl_append]
 rfl
def lit (n:Int):Nat→Int→List Int
 | 0,_=>[]
 | k+1,x=>x % n::lit n k (x / n)
def dvn (n:Int):Nat→Int→Int
 | 0,x=>x
 | k+1,x=>dvn n k (x / n)
theorem dvn_snoc (n:Int):∀ (k:Nat) (x:Int),dvn n (k+1) x=dvn n k x / n
 | 0,_=>rfl
 | k+1,x=>dvn_snoc n k (x / n)
theorem lit_snoc (n:Int):∀ (k:Nat) (x:Int),lit n (k+1) x=lit n k x++[dvn n k x % n]
 | 0,_=>rfl
 | k+1,x=>by
  show x % n::lit n (k+1) (x / n)=x % n::(lit n k (x / n)++[dvn n k (x / n) % n])
  rw [lit_snoc n k (x / n)]
theorem lit_len (n:Int):∀ (k:Nat) (x:Int),(lit n k x).length=k
 | 0,_=>rfl
 | k+1,x=>by show (lit n k (x / n)).length+1=k+1;rw [lit_len n k]
theorem dvn_zero {n:Int} (hn:0 < n):∀ (k:Nat) (x:Int),dvn n k x=0↔0≤x∧x < n ^ k
 | 0,x=>by
  show x=0↔_
  rw [Int.pow_zero]
  omega
 | k+1,x=>by
  show dvn n k (x / n)=0↔_
  rw [dvn_zero hn k (x / n),Int.pow_succ]
  constructor
  ·rintro ⟨h0,h1⟩
   refine ⟨?_,?_⟩
   ·rcases Int.lt_or_le x 0 with z | z
    ·have:=Int.ediv_neg_of_neg_of_pos z hn
     omega
    ·exact z
   ·exact (Int.ediv_lt_iff_lt_mul hn).mp h1
  ·rintro ⟨h0,h1⟩
   exact ⟨Int.ediv_nonneg h0 (by omega),(Int.ediv_lt_iff_lt_mul hn).mpr h1⟩
def figW (n:Int) (k:Nat) (x:Int):List Int:=(lit n k x).reverse
theorem figW_len (n:Int) (k:Nat) (x:Int):(figW n k x).length=k:=by unfold figW;rw [List.length_reverse,lit_len]
theorem figW_lw {n:Nat} (hn:0 < n) (k:Nat) (x:Int):LW n (figW n k x):=by
 have:∀ (k:Nat) (x:Int),LW n (lit n k x):=fun k=>by
  induction k with
  | zero=>exact fun x l h=>by simp [lit] at h
  | succ k ih =>
   intro x l h
   rcases List.mem_cons.mp h with rfl | h
   ·exact ⟨Int.emod_nonneg _ (by omega),Int.emod_lt_of_pos _ (by omega)⟩
   ·exact ih _ l h
 exact fun l h=>this k x l (List.mem_reverse.mp h)
theorem num_word {n:Nat} (hn:0 < n):∀ (r:List Int),LW n r.reverse→figW n r.length (numW n r.reverse)=r.reverse∧0≤numW n r.reverse∧numW n r.reverse < (n:Int) ^ r.length
 | [],_=>⟨rfl,by simp [numW],by simp [numW]⟩
 | l::r,h=>by
  rw [List.reverse_cons] at h ⊢
  obtain ⟨e,h0,h1⟩:=num_word hn r fun x hx=>h x (List.mem_append_left _ hx)
  obtain ⟨l0,l1⟩:=h l (by simp)
  rw [numW_snoc]
  have hm:(0:Int) < (n:Int):=by omega
  obtain ⟨q1,q2⟩:=dvm (m:=n) (g:=numW n r.reverse) l0 l1
  refine ⟨?_,?_,?_⟩
  ·show (lit n (r.length+1) _).reverse=_
   show ((numW n r.reverse*(n:Int)+l) % (n:Int)::lit n r.length ((numW n r.reverse*(n:Int)+l) / (n:Int))).reverse=_
   rw [q1,q2,List.reverse_cons]
   exact congrArg (·++[l]) e
  ·have:=Int.mul_nonneg h0 (Int.le_of_lt hm)
   omega
  ·rw [List.length_cons,Int.pow_succ]
   have h2:(numW n r.reverse+1)*(n:Int)≤(n:Int) ^ r.length*(n:Int):=Int.mul_le_mul_of_nonneg_right (by omega) (by omega)
   rw [Int.add_mul,Int.one_mul] at h2
   omega
theorem num_word' {n:Nat} (hn:0 < n) {w:List Int} (h:LW n w):figW n w.length (numW n w)=w∧0≤numW n w∧numW n w < (n:Int) ^ w.length:=by
 have:=num_word hn w.reverse (by rw [List.reverse_reverse];exact h)
 rw [List.reverse_reverse,List.length_reverse] at this
 exact this
def spNumOf (K:PySem.W.Frag) (Ct:Addr):Sp:=fun vs H Q E=>∃ (n:Nat) (u:V) (w:List Int),vs=[.int n,u]∧Dr K H (D.its w) u∧n≤60∧w.length≤4900∧(LW n w→∀ H',Same H H'→Q (.int (numW n w)) H')∧(¬ LW n w→TMx Ct E H)
def GoodX (n:Nat) (many x:Int):Prop:=0≤many∧many≤1000∧0≤x∧x < (n:Int) ^ many.toNat
def spWordOf (K:PySem.W.Frag) (Cb:Addr):Sp:=fun vs H Q E=>∃ (n:Nat) (many x:Int),vs=[.int n,.int many,.int x]∧0 < n∧n≤60∧(GoodX n many x→∀ (t:Addr) (H':Hp),Same H H'→H' t=some (.tup ((figW n many.toNat x).map V.int))→Q (.ref t) H')∧(¬ GoodX n many x→TMx Cb E H)
end Gu

set_option Elab.async false
set_option linter.all false
set_option maxRecDepth 100000
set_option maxHeartbeats 4000000
namespace Gu
open PySem L2
/-! ### floors -/
def tabW (n:Nat) (one:List Row) (m:Nat):List Int:=(iota (n ^ m)).map fun x=>numW n (outW one 0 (figW n m x))
theorem tabW_len (n:Nat) (one:List Row) (m:Nat):(tabW n one m).length=n ^ m:=by unfold tabW;rw [List.length_map,iota_len]
theorem iota_map_take {α:Type} (f:Int→α) (L i:Nat) (h:i < L):((iota L).map f).take (i+1)=((iota L).map f).take i++[f (i:Int)]:=by
 rw [List.take_add_one]
 congr 1
 rw [List.getElem?_map,iotaN h]
 rfl
theorem floor_few {n m:Nat} (n2:2≤n) (h:n ^ m≤1024):m≤10:=by
 rcases Nat.lt_or_ge 10 m with z | z
 ·have h1:2 ^ 11≤2 ^ m:=Nat.pow_le_pow_right (by decide) z
  have h2:2 ^ m≤n ^ m:=Nat.pow_le_pow_left n2 m
  have:(2:Nat) ^ 11=2048:=by decide
  omega
 ·exact z
def spOnFloor (K:PySem.W.Frag) (Ct Cb:Addr):Sp:=fun vs H Q E=>∃ (n:Nat) (many:Int),vs=[.int n,.int many]∧2≤n∧n≤5∧many < 2 ^ 61∧(many < 0→TMx Cb E H)∧(0≤many→1024 < n ^ many.toNat→TMx Ct E H)∧(0≤many→n ^ many.toNat≤1024→Q (.int ((n ^ many.toNat:Nat):Int)) H)
def NewL (H:Hp) (Q:VK) (xs:List Int):Prop:=∀ (r:Addr) (H':Hp),Same H H'→H r=none→H' r=some (.lst (xs.map V.int))→Q (.ref r) H'
def spFloor (K:PySem.W.Frag) (Ct Cb:Addr):Sp:=fun vs H Q E=>∃ (v:V) (one:List Row) (n:Nat) (many:Int),vs=[v,.int many]∧Dr K H (D.tup (rowsD one)) v∧GoodM n one∧2≤n∧n≤5∧many < 2 ^ 61∧(many < 0→TMx Cb E H)∧(0≤many→1024 < n ^ many.toNat→TMx Ct E H)∧(0≤many→n ^ many.toNat≤1024→NewL H Q (tabW n one many.toNat))
end Gu

set_option Elab.async false
set_option linter.all false
set_option maxRecDepth 100000
set_option maxHeartbeats 4000000
namespace Gu
open PySem L2
/-! ### rounds -/
theorem nd_idx {l:List Int} (h:l.Nodup) {i j:Nat} (hi:i < l.length) (hj:j < l.length) (e:l[i]=l[j]):i=j:=by
 rcases Nat.lt_trichotomy i j with z | z | z
 ·exact absurd e (List.pairwise_iff_getElem.mp h i j hi hj z)
 ·exact z
 ·exact absurd e.symm (List.pairwise_iff_getElem.mp h j i hj hi z)
theorem outW_inj {n:Nat} {M:List Row} (G:GoodM n M):∀ (w w':List Int) (x:Int),LW n w→LW n w'→0≤x→x < (M.length:Int)→w.length=w'.length→outW M x w=outW M x w'→w=w'
 | [],[],_,_,_,_,_,_,_=>rfl
 | [],_::_,_,_,_,_,_,h,_=>by simp at h
 | _::_,[],_,_,_,_,_,h,_=>by simp at h
 | l::w,l'::w',x,h,h',x0,x1,hl,e=>by
  have hm:=row_mem x0 x1
  have hp:=G.perm _ hm
  have hpl:=hp.len
  obtain ⟨a0,a1⟩:=h l List.mem_cons_self
  obtain ⟨b0,b1⟩:=h' l' List.mem_cons_self
  have e':(row M x).1.getD l.toNat 0::outW M ((row M x).2.getD l.toNat 0) w=(row M x).1.getD l'.toNat 0::outW M ((row M x).2.getD l'.toNat 0) w':=e
  injection e' with e1 e2
  have nd:(row M x).1.Nodup:=hp.nodup_iff.mpr (iota_nodup n)
  have i1:l.toNat < (row M x).1.length:=by omega
  have i2:l'.toNat < (row M x).1.length:=by omega
  rw [List.getD_eq_getElem?_getD,List.getD_eq_getElem?_getD,List.getElem?_eq_getElem i1,List.getElem?_eq_getElem i2] at e1
  have e3:l.toNat=l'.toNat:=nd_idx nd i1 i2 e1
  have e4:l=l':=by omega
  subst e4
  obtain ⟨g0,g1,_⟩:=go_get G x0 x1 (show l.toNat < n by omega)
  rw [outW_inj G w w' _ h.tail h'.tail g0 g1 (by simpa using hl) e2]
def itW (M:List Row):Nat→List Int→List Int
 | 0,w=>w
 | k+1,w=>outW M 0 (itW M k w)
theorem itW_len (M:List Row):∀ (k:Nat) (w:List Int),(itW M k w).length=w.length
 | 0,_=>rfl
 | k+1,w=>by show (outW M 0 _).length=_;rw [outW_len,itW_len M k w]
theorem itW_lw {n:Nat} {M:List Row} (G:GoodM n M):∀ (k:Nat) (w:List Int),LW n w→LW n (itW M k w)
 | 0,_,h=>h
 | k+1,w,h=>outW_lw G _ 0 (itW_lw G k w h) (Int.le_refl 0) (by have:=G.some;omega)
theorem itW_add (M:List Row) (j:Nat):∀ (k:Nat) (w:List Int),itW M (k+j) w=itW M k (itW M j w)
 | 0,w=>by rw [Nat.zero_add];rfl
 | k+1,w=>by
  rw [Nat.succ_add]
  show outW M 0 (itW M (k+j) w)=outW M 0 (itW M k (itW M j w))
  rw [itW_add M j k w]
theorem itW_inj {n:Nat} {M:List Row} (G:GoodM n M):∀ (k:Nat) (w w':List Int),LW n w→LW n w'→w.length=w'.length→itW M k w=itW M k w'→w=w'
 | 0,_,_,_,_,_,e=>e
 | k+1,w,w',h,h',hl,e=>itW_inj G k w w' h h' hl (outW_inj G _ _ 0 (itW_lw G k w h) (itW_lw G k w' h') (Int.le_refl 0) (by have:=G.some;omega) (by rw [itW_len,itW_len,hl]) e)
def RoundR (M:List Row) (w:List Int) (r:Nat):Prop:=1≤r∧itW M r w=w∧∀ k,1≤k→k < r→itW M k w≠w
theorem leastN (p:Nat→Prop):∀ (N:Nat),(∃ k,1≤k∧k≤N∧p k)→∃ r,1≤r∧p r∧∀ k,1≤k→k < r→¬ p k
 | 0,h=>by obtain ⟨k,h1,h2,_⟩:=h;omega
 | N+1,h=>by
  by_cases e:∃ k,1≤k∧k≤N∧p k
  ·exact leastN p N e
  ·obtain ⟨k,h1,h2,hp⟩:=h
   have:k=N+1:=Classical.byContradiction fun z=>e ⟨k,h1,by omega,hp⟩
   subst this
   exact ⟨N+1,h1,hp,fun j j1 j2 z=>e ⟨j,j1,by omega,z⟩⟩
theorem not_nodup {L:Nat} {f:Nat→Int} (h:¬ ((List.range L).map f).Nodup):∃ i j,i < j∧j < L∧f i=f j:=by
 refine Classical.byContradiction fun z=>h ?_
 rw [List.nodup_iff_pairwise_ne,List.pairwise_map]
 refine List.Pairwise.imp_of_mem (R:=fun a b=>a < b) (fun {a b} ha hb hab e=>?_) List.pairwise_lt_range
 exact z ⟨a,b,hab,List.mem_range.mp hb,e⟩
theorem round_ex {n:Nat} {M:List Row} (G:GoodM n M) (n0:0 < n) {w:List Int} (h:LW n w):∃ r,RoundR M w r∧r≤n ^ w.length:=by
 have nn:¬ ((List.range (n ^ w.length+1)).map fun k=>numW n (itW M k w)).Nodup:=fun z=>by
  have:=nodup_len (n:=n ^ w.length) z fun x hx=>by
   obtain ⟨k,_,rfl⟩:=List.mem_map.mp hx
   obtain ⟨_,h0,h1⟩:=num_word' n0 (itW_lw G k w h)
   rw [itW_len] at h1
   exact ⟨h0,by rw [Int.natCast_pow];exact h1⟩
  rw [List.length_map,List.length_range] at this
  omega
 obtain ⟨i,j,hij,hj,e⟩:=not_nodup nn
 have ei:itW M i w=itW M j w:=by
  have h1:=(num_word' n0 (itW_lw G i w h)).1
  have h2:=(num_word' n0 (itW_lw G j w h)).1
  rw [itW_len] at h1 h2
  rw [←h1,←h2,e]
 have ej:j=i+(j - i):=by omega
 rw [ej,itW_add] at ei
 have back:=itW_inj G i w (itW M (j - i) w) h (itW_lw G _ w h) (by rw [itW_len]) ei
 obtain ⟨r,r1,rp,rm⟩:=leastN (fun k=>itW M k w=w) (j - i) ⟨j - i,by omega,Nat.le_refl _,back.symm⟩
 refine ⟨r,⟨r1,rp,rm⟩,?_⟩
 have:r≤j - i:=Nat.le_of_not_lt fun z=>rm (j - i) (by omega) z back.symm
 omega
theorem zeros_lw {n:Nat} (n0:0 < n) (m:Nat):LW n (List.replicate m 0):=fun x hx=>by rw [(List.mem_replicate.mp hx).2];omega
def spRounds (K:PySem.W.Frag) (Cw Ct:Addr):Sp:=fun vs H Q E=>∃ (v u:V) (one:List Row) (n:Nat) (w:List Int),vs=[v,u]∧Dr K H (D.tup (rowsD one)) v∧Dr K H (D.its w) u∧GoodM n one∧2≤n∧n≤5∧w.length≤4900∧(LW n w→n ^ w.length≤1024→∀ r,RoundR one w r→∀ H',Same H H'→Q (.int (r:Int)) H')∧(LW n w→1024 < n ^ w.length→TMx Ct E H)∧(¬ LW n w→TMx Cw E H)
def spWhirls (K:PySem.W.Frag) (Ct Cb:Addr):Sp:=fun vs H Q E=>∃ (v:V) (one:List Row) (n:Nat) (many:Int),vs=[v,.int many]∧Dr K H (D.tup (rowsD one)) v∧GoodM n one∧2≤n∧n≤5∧many < 2 ^ 61∧(many < 0→TMx Cb E H)∧(0≤many→1024 < n ^ many.toNat→TMx Ct E H)∧(0≤many→n ^ many.toNat≤1024→∀ r,RoundR one (List.replicate many.toNat 0) r→∀ H',Same H H'→Q (.bl (decide (r=n ^ many.toNat))) H')
end Gu

set_option Elab.async false
set_option linter.all false
set_option maxRecDepth 100000
set_option maxHeartbeats 4000000
namespace Gu
open PySem L2
/-! ### the way back of two joined -/
end Gu

set_option Elab.async false
set_option linter.all false
set_option maxRecDepth 100000
set_option maxHeartbeats 4000000
namespace Gu
open PySem L2
end Gu

set_option Elab.async false
set_option linter.all false
set_option maxRecDepth 100000
set_option maxHeartbeats 4000000
namespace Gu
open PySem L2
/-! ### one promise for least_form,by numbers and by pairs -/
theorem len1 {α:Type} {us:List α} (h:us.length=1):∃ a,us=[a]:=by
 cases us with
 | nil=>cases h
 | cons a r =>
  cases r with
  | nil=>exact ⟨a,rfl⟩
  | cons _ _=>simp at h
theorem len2 {α:Type} {us:List α} (h:us.length=2):∃ a b,us=[a,b]:=by
 cases us with
 | nil=>cases h
 | cons a r =>
  obtain ⟨b,rfl⟩:=len1 (show r.length=1 by simpa using h)
  exact ⟨a,b,rfl⟩
theorem len3 {α:Type} {us:List α} (h:us.length=3):∃ a b c,us=[a,b,c]:=by
 cases us with
 | nil=>cases h
 | cons a r =>
  obtain ⟨b,c,rfl⟩:=len2 (show r.length=2 by simpa using h)
  exact ⟨a,b,c,rfl⟩
section
variable (P:Program) (w:World) (K:PySem.W.Frag) (mg:Str→Option Value) (base:Heap) (CX:CXT) (k:Nat)
end
section
variable {P:Program} {w:World} {K:PySem.W.Frag} {mg:Str→Option Value} {base:Heap} {CX:CXT} {k:Nat} {Ct:Addr}
end
end Gu

set_option Elab.async false
set_option linter.all false
set_option maxRecDepth 100000
set_option maxHeartbeats 4000000
namespace L2
open PySem PySem.Spec PyProof.Rows
/-! ### a comprehension of one clause and one test -/
section
variable {prog:Program} {w:World} {A:Around} {R:Result→Shared→Prop} {s:Shared}
end
section
variable {X:Cx} {pins:List (Addr × Obj)} {σ:St} {H:Hp} {s:Shared} {N:List Str} {ix:List (Option Nat)} {scope:Scope} {elt iter tg cx:Expr} {pos:Pos} {g:TG} {tt:TT} {te:TE} {E:Value→Shared→Prop}
end
end L2

set_option Elab.async false
set_option linter.all false
set_option maxRecDepth 100000
set_option maxHeartbeats 4000000
namespace L2
open PySem PySem.Spec PyProof.Rows
/-! ### a comprehension over a dict without keys -/
section
variable {X:Cx} {pins:List (Addr × Obj)} {σ:St} {H:Hp} {s:Shared} {N:List Str} {ix:List (Option Nat)} {scope:Scope} {elt iter tg cx:Expr} {pos:Pos} {te:TE} {E:Value→Shared→Prop}
end
end L2

set_option Elab.async false
set_option linter.all false
set_option maxRecDepth 100000
set_option maxHeartbeats 4000000
namespace L2
open PySem PySem.Spec PyProof.Rows
/-! ### an exception that leaves the frame's values as they stood (a try whose body binds nothing) -/
section
variable {X:Cx} {CX:CXT} {k:Nat} {f C:Addr} {fd:FuncData} {ps:List Str} {sp:Sp} {dvs:List V} {ds:List Value} {E:XK} {x m:Str} {p pos apos:Pos} {e o:Expr} {es:List Expr} {ta:TE} {t:TA} {σ0:St}
end
theorem pss_dead {X:Cx} {st:List Stmt}:PSs X st (fun _ _ _=>False):=fun _ _ _ _ _ _ h=>h.elim
end L2

set_option Elab.async false
set_option linter.all false
set_option maxRecDepth 100000
set_option maxHeartbeats 4000000
namespace Gu
open PySem L2
/-! ### loops whose ends stay closed while a turn is read (the terms stay small) -/
theorem listO {K:PySem.W.Frag} {a:Addr} {xs:List V} {g:TG} {tb:TS} {D:Ends} {σ:St} {H:Hp} (Pv:Nat→St→Hp→Prop) (h0:Pv 0 σ H) (hl:∀ i σ H,i≤xs.length→Pv i σ H→SqL K H a xs)
  (hs:∀ i x σ H,xs[i]?=some x→Pv i σ H→∀ Ed:Ends,(∀ σ' H',Pv (i+1) σ' H'→Ed.nx σ' H')→g x σ H fun σ2 H2=>tb Ed σ2 H2) (hd:∀ σ H,Pv xs.length σ H→D.nx σ H) :
  ∃ W:Nat→Nat→St→Hp→Prop,(∃ m,W 0 m σ H)∧∀ i m σ H,W i m σ H →
   ((Itl K a).stop i H∧D.nx σ H)∨((Itl K a).go i H∧∃ N:St→Hp→Prop,(∀ σ' H',N σ' H'→∃ m',m' < m∧W (i+1) m' σ' H')∧∀ x H',(Itl K a).yld i H x H'→g x σ H' fun σ2 H2=>tb { D with nx:=N,ct:=N,bk:=D.nx } σ2 H2) :=
 for_list Pv h0 hl (fun i x σ H hx p=>hs i x σ H hx p _ fun _ _ z=>z) hd
theorem tupO {K:PySem.W.Frag} {a:Addr} {xs:List V} {g:TG} {tb:TS} {D:Ends} {σ:St} {H:Hp} (Pv:Nat→St→Hp→Prop) (h0:Pv 0 σ H) (hl:∀ i σ H,i≤xs.length→Pv i σ H→SqT K H a xs)
  (hs:∀ i x σ H,xs[i]?=some x→Pv i σ H→∀ Ed:Ends,(∀ σ' H',Pv (i+1) σ' H'→Ed.nx σ' H')→g x σ H fun σ2 H2=>tb Ed σ2 H2) (hd:∀ σ H,Pv xs.length σ H→D.nx σ H) :
  ∃ W:Nat→Nat→St→Hp→Prop,(∃ m,W 0 m σ H)∧∀ i m σ H,W i m σ H →
   ((Itt K a).stop i H∧D.nx σ H)∨((Itt K a).go i H∧∃ N:St→Hp→Prop,(∀ σ' H',N σ' H'→∃ m',m' < m∧W (i+1) m' σ' H')∧∀ x H',(Itt K a).yld i H x H'→g x σ H' fun σ2 H2=>tb { D with nx:=N,ct:=N,bk:=D.nx } σ2 H2) :=
 for_tup Pv h0 hl (fun i x σ H hx p=>hs i x σ H hx p _ fun _ _ z=>z) hd
theorem cutN {W:Nat→St→Hp→Prop} {m:Nat} {T:(St→Hp→Prop)→Prop} (h:∀ N:St→Hp→Prop,(∀ m' σ' H',m' < m→W m' σ' H'→N σ' H')→T N):∃ N:St→Hp→Prop,(∀ σ' H',N σ' H'→∃ m',m' < m∧W m' σ' H')∧T N :=
 ⟨fun σ' H'=>∃ m',m' < m∧W m' σ' H',fun _ _ z=>z,h _ fun m' σ' H' a b=>⟨m',a,b⟩⟩
theorem rangeO {lo:Int} {n:Nat} {g:TG} {tb:TS} {D:Ends} {σ:St} {H:Hp} (Pv:Nat→St→Hp→Prop) (h0:Pv 0 σ H)
  (hs:∀ i σ H,i < n→Pv i σ H→∀ Ed:Ends,(∀ σ' H',Pv (i+1) σ' H'→Ed.nx σ' H')→g (.int (lo+i)) σ H fun σ2 H2=>tb Ed σ2 H2) (hd:∀ σ H,Pv n σ H→D.nx σ H) :
  ∃ W:Nat→Nat→St→Hp→Prop,(∃ m,W 0 m σ H)∧∀ i m σ H,W i m σ H →
   ((Itr lo n).stop i H∧D.nx σ H)∨((Itr lo n).go i H∧∃ N:St→Hp→Prop,(∀ σ' H',N σ' H'→∃ m',m' < m∧W (i+1) m' σ' H')∧∀ x H',(Itr lo n).yld i H x H'→g x σ H' fun σ2 H2=>tb { D with nx:=N,ct:=N,bk:=D.nx } σ2 H2) :=
 for_range Pv h0 (fun i σ H hi p=>hs i σ H hi p _ fun _ _ z=>z) hd
theorem cutW {c:TT} {tb:TS} {D:Ends} {σ:St} {H:Hp} (Post:St→Hp→Prop) (h1:∀ Ed:Ends,(∀ σ' H',Post σ' H'→Ed.nx σ' H')→tWhile c tb Ed σ H) (h2:∀ σ' H',Post σ' H'→D.nx σ' H'):tWhile c tb D σ H:=h1 D h2
theorem cutQ {t1 t2:TS} {D:Ends} {σ:St} {H:Hp} (Post:St→Hp→Prop) (h1:∀ Ed:Ends,(∀ σ' H',Post σ' H'→Ed.nx σ' H')→t1 Ed σ H) (h2:∀ σ' H',Post σ' H'→t2 D σ' H'):tSeq t1 t2 D σ H:=h1 _ h2
end Gu

set_option Elab.async false
set_option linter.all false
set_option maxRecDepth 100000
set_option maxHeartbeats 4000000
namespace Gu
open PySem L2
/-! ### what stands behind a word in a joined guise -/
end Gu

set_option Elab.async false
set_option linter.all false
set_option maxRecDepth 100000
set_option maxHeartbeats 4000000
namespace L2
open PySem PySem.Spec PyProof.Rows PySem.SeqAt
section
variable {X:Cx} (K:PySem.W.Frag)
end
end L2

set_option Elab.async false
set_option linter.all false
set_option maxRecDepth 100000
set_option maxHeartbeats 4000000
namespace Gu
open PySem L2
/-! ### whole joining -/
end Gu

set_option Elab.async false
set_option linter.all false
set_option maxRecDepth 100000
set_option maxHeartbeats 4000000
namespace Gu
open PySem L2
/-! ### where two guises part -/
def fuL:List Int→List Int→Nat
 | a::as,b::bs=>if a=b then fuL as bs+1 else 0
 | _,_=>0
def pgo (m:Nat) (R S:Row):List Int:=(List.range R.2.length).map fun k=>R.2.getD k 0*(m:Int)+S.2.getD k 0
def prM (one other:List Row):List Row:=(iota (one.length*other.length)).map fun c=>((row one (c / (other.length:Int))).1,pgo other.length (row one (c / (other.length:Int))) (row other (c % (other.length:Int))))
def addWs (w:List Int):List Int→List (List Int)→Nat→List Int→List (List Int)
 | _,ws,_,[]=>ws
 | o,ws,k,g::gs=>if g∈o then addWs w o ws (k+1) gs else addWs w (o++[g]) (ws++[w++[(k:Int)]]) (k+1) gs
def pb (one other:List Row):Nat→List Int→List (List Int)→Nat→Option (List Int)
 | 0,_,_,_=>none
 | f+1,o,ws,i=>match o[i]?,ws[i]? with
  | some c,some w=>if (row one (c / (other.length:Int))).1=(row other (c % (other.length:Int))).1 then pb one other f (addAll o (row (prM one other) c).2) (addWs w o ws 0 (row (prM one other) c).2) (i+1)
   else some (w++[((fuL (row one (c / (other.length:Int))).1 (row other (c % (other.length:Int))).1:Nat):Int)])
  | _,_=>none
def parting (one other:List Row):Option (List Int):=pb one other (one.length*other.length+1) [0] [[]] 0
/-! the other way round -/
/-! none parts what is one,and what nothing parts is one -/
end Gu

set_option Elab.async false
set_option linter.all false
set_option maxRecDepth 100000
set_option maxHeartbeats 4000000
namespace L2
open PySem PySem.Spec PyProof.Rows
/-! ### enumerate over a zip: the zip's own tuple is held by a name,so the zip hands out fresh ones -/
section
variable {prog:Program} {w:World} {A:Around} {E:Value→Shared→Prop} {s:Shared} {z TI TO i1 i2:Addr} {fp1 fp2:List Addr} {n1 n2:Nat} {P1 P2:Nat→Value→Prop} {S1 S2:Nat→Heap→Prop}
end
end L2

set_option Elab.async false
set_option linter.all false
set_option maxRecDepth 100000
set_option maxHeartbeats 4000000
namespace L2
open PySem PySem.Spec PyProof.Rows
section
variable {X:Cx} {elts:List Expr} {tk:Nat} {tp:Pos}
end
end L2

set_option Elab.async false
set_option linter.all false
set_option maxRecDepth 100000
set_option maxHeartbeats 4000000
namespace Gu
open PySem L2
/-! ### parting words: what is promised -/
theorem its_keyL:∀ ws:List (List Int),D.keyL (ws.map D.its)
 | []=>by simp only [List.map_nil,D.keyL]
 | w::ws=>by simp only [List.map_cons,D.keyL];exact ⟨its_key w,its_keyL ws⟩
theorem its_inv {K:PySem.W.Frag} {H:Hp} {w:List Int} {v:V} (h:Dr K H (D.its w) v):∃ a,v=.ref a∧H a=some (.tup (w.map V.int)):=by
 simp only [Dr] at h
 obtain ⟨a,vs,e,s,d⟩:=h
 rw [DrL.ints_inv d] at s
 exact ⟨a,e,s⟩
theorem its_mk {K:PySem.W.Frag} {H:Hp} {w:List Int} {a:Addr} (h:H a=some (.tup (w.map V.int))):Dr K H (D.its w) (.ref a):=Dr.tup h (DrL.ints _)
end Gu

set_option Elab.async false
set_option linter.all false
set_option maxRecDepth 100000
set_option maxHeartbeats 4000000
namespace Gu
open PySem L2
/-! ### what the word that parts does -/
end Gu

set_option Elab.async false
set_option linter.all false
set_option maxRecDepth 100000
set_option maxHeartbeats 4000000
namespace L2
open PySem PySem.Spec PyProof.Rows
variable {X:Cx}
end L2

set_option Elab.async false
set_option linter.all false
set_option maxRecDepth 100000
set_option maxHeartbeats 4000000
namespace Gu
open PySem L2
end Gu

set_option Elab.async false
set_option linter.all false
set_option maxRecDepth 100000
set_option maxHeartbeats 4000000
namespace L2
open PySem PySem.Spec PyProof.Rows
/-! ### a comprehension of two clauses and no test -/
section
variable {prog:Program} {w:World} {A:Around} {R:Result→Shared→Prop} {s:Shared}
theorem compTurn_in (elt t1 i1 t2 i2:Expr) (scope:Scope) (pos:Pos) (it acc:Value) (env:Env) :
  compTurn (.ListComp elt [⟨t1,i1,[],0⟩,⟨t2,i2,[],0⟩] scope pos) 1 it acc env=(standAt i2.pos >>= fun _=>pyNext it >>= fun r=>match r with
   | none=>pure (.done .next)
   | some v=>letOwnedTupleGo t2 it v >>= fun _=>assign t2 env v >>= fun _ =>
    (eval elt env >>= fun x=>call (.builtin "list.append") [acc,x] >>= fun _=>pure ()) >>= fun _ =>
     again (.compLoop (.ListComp elt [⟨t1,i1,[],0⟩,⟨t2,i2,[],0⟩] scope pos) 1 it acc env)):=by rfl
theorem compTurn_out (elt t1 i1 t2 i2:Expr) (scope:Scope) (pos:Pos) (it acc:Value) (env:Env) :
  compTurn (.ListComp elt [⟨t1,i1,[],0⟩,⟨t2,i2,[],0⟩] scope pos) 0 it acc env=(standAt i1.pos >>= fun _=>pyNext it >>= fun r=>match r with
   | none=>pure (.done .next)
   | some v=>letOwnedTupleGo t1 it v >>= fun _=>assign t1 env v >>= fun _ =>
    eval i2 env >>= fun x=>standAt i2.pos >>= fun _=>foldedSetIterable i2 env x >>= fun x=>holding [x] (pyIter x) >>= fun it2=>runOwn (.compStart (.ListComp elt [⟨t1,i1,[],0⟩,⟨t2,i2,[],0⟩] scope pos) 1 it2 acc env) env >>= fun _ =>
     again (.compLoop (.ListComp elt [⟨t1,i1,[],0⟩,⟨t2,i2,[],0⟩] scope pos) 0 it acc env)):=by rfl
theorem comp_turnsI {elt t1 i1 t2 i2:Expr} {scope:Scope} {pos:Pos} {it acc:Value} {env:Env} (I:Nat→Shared→Prop)
  (turn:∀ n s,I n s→wpAny (model prog w) A (pyNext it) (fun r s1=>match r with
   | none=>R (.ok .next) s1
   | some v=>wpAny (model prog w) A (letOwnedTupleGo t2 it v) (fun _ s2=>wpAny (model prog w) A (assign t2 env v) (fun _ s3=>wpAny (model prog w) A (eval elt env) (fun x s4 =>
     wpAny (model prog w) A (call (.builtin "list.append") [acc,x]) (fun _ s5=>∃ m,m < n∧I m s5) noE s4) noE s3) noE s2) noE s1) noE s)
  (n:Nat) (h:I n s):codeAny (model prog w) A (.compLoop (.ListComp elt [⟨t1,i1,[],0⟩,⟨t2,i2,[],0⟩] scope pos) 1 it acc env) R s:=by
 have no:∀ (P:Value→Shared→Prop) (a:Value) (b:Shared),noE a b→P a b:=fun _ _ _ z=>False.elim z
 refine codeAny_loop rfl I (fun n s hI=>?_) n h
 show wpAny _ _ ((compTurn (.ListComp elt [⟨t1,i1,[],0⟩,⟨t2,i2,[],0⟩] scope pos) 1 it acc env).onRaise
  (fun x=>do noteFrame x env;theTreesLotGoes x)) _ _ s
 refine wpAny_noted ?_
 rw [compTurn_in]
 refine wpAny_bind (wpAny_standAt (wpAny_bind (wpAny_mono (turn n s hI) (fun r s1 h1=>?_) (no _))))
 cases r with
 | none=>exact wpAny_pure h1
 | some v =>
  refine wpAny_bind (wpAny_mono h1 (fun _ s2 h2=>?_) (no _))
  refine wpAny_bind (wpAny_mono h2 (fun _ s3 h3=>?_) (no _))
  refine wpAny_bind (wpAny_bind (wpAny_mono h3 (fun x s4 h4=>?_) (no _)))
  exact wpAny_bind (wpAny_mono h4 (fun _ s5 h5=>wpAny_pure (wpAny_pure ⟨rfl,h5⟩)) (no _))
theorem comp_turnsO {elt t1 i1 t2 i2:Expr} {scope:Scope} {pos:Pos} {it acc:Value} {env:Env} (hs:∀ x,foldedSetIterable i2 env x=pure x) (I:Nat→Shared→Prop)
  (turn:∀ n s,I n s→wpAny (model prog w) A (pyNext it) (fun r s1=>match r with
   | none=>R (.ok .next) s1
   | some v=>wpAny (model prog w) A (letOwnedTupleGo t1 it v) (fun _ s2=>wpAny (model prog w) A (assign t1 env v) (fun _ s3=>wpAny (model prog w) A (eval i2 env) (fun x s4 =>
     wpAny (model prog w) A (pyIter x) (fun it2 s5=>∀ R':Result→Shared→Prop,(∀ s6,(∃ m,m < n∧I m s6)→R' (.ok .next) s6)→codeAny (model prog w) A (.compStart (.ListComp elt [⟨t1,i1,[],0⟩,⟨t2,i2,[],0⟩] scope pos) 1 it2 acc env) R' s5) noE s4) noE s3) noE s2) noE s1) noE s)
  (n:Nat) (h:I n s):codeAny (model prog w) A (.compLoop (.ListComp elt [⟨t1,i1,[],0⟩,⟨t2,i2,[],0⟩] scope pos) 0 it acc env) R s:=by
 have no:∀ (P:Value→Shared→Prop) (a:Value) (b:Shared),noE a b→P a b:=fun _ _ _ z=>False.elim z
 refine codeAny_loop rfl I (fun n s hI=>?_) n h
 show wpAny _ _ ((compTurn (.ListComp elt [⟨t1,i1,[],0⟩,⟨t2,i2,[],0⟩] scope pos) 0 it acc env).onRaise
  (fun x=>do noteFrame x env;theTreesLotGoes x)) _ _ s
 refine wpAny_noted ?_
 rw [compTurn_out]
 refine wpAny_bind (wpAny_standAt (wpAny_bind (wpAny_mono (turn n s hI) (fun r s1 h1=>?_) (no _))))
 cases r with
 | none=>exact wpAny_pure h1
 | some v =>
  refine wpAny_bind (wpAny_mono h1 (fun _ s2 h2=>?_) (no _))
  refine wpAny_bind (wpAny_mono h2 (fun _ s3 h3=>?_) (no _))
  refine wpAny_bind (wpAny_mono h3 (fun x s4 h4=>?_) (no _))
  refine wpAny_bind (wpAny_standAt ?_)
  rw [hs]
  refine wpAny_bind (wpAny_pure (wpAny_bind (wpAny_holding (wpAny_mono h4 (fun it2 s5 h5=>?_) (no _)))))
  exact wpAny_bind (wpAny_runOwn (h5 _ fun s6 h6=>wpAny_pure ⟨rfl,h6⟩))
theorem compStart_in {elt t1 i1 t2 i2 scope pos it acc env}
  (h0:codeAny (model prog w) A (.compLoop (.ListComp elt [⟨t1,i1,[],0⟩,⟨t2,i2,[],0⟩] scope pos) 1 it acc env) R s)
  (h:wpAny (model prog w) A (pyIter it) (fun it' s'=>codeAny (model prog w) A (.compLoop (.ListComp elt [⟨t1,i1,[],0⟩,⟨t2,i2,[],0⟩] scope pos) 1 it' acc env) R s')
   (notedBy (model prog w) A env fun x s'=>R (.error x) s') s) :
  codeAny (model prog w) A (.compStart (.ListComp elt [⟨t1,i1,[],0⟩,⟨t2,i2,[],0⟩] scope pos) 1 it acc env) R s:=by
 refine codeAny_of_tree ?_
 show wpAny _ _ ((compStart (.ListComp elt [⟨t1,i1,[],0⟩,⟨t2,i2,[],0⟩] scope pos) 1 it acc env).onRaise (fun x=>do noteFrame x env;standAt theWindowsPlace)) _ _ s
 refine wpAny_notedAt ?_
 unfold compStart
 show wpAny _ _ (ask >>= _) _ _ s
 refine wpAny_bind (wpAny_askSetting (wpAny_ite ?_))
 split
 ·first
   | exact wpAny_bind (wpAny_pure (wpAny_pure (And.intro rfl h0)))
   | exact wpAny_pure (And.intro rfl h0)
 ·refine wpAny_bind (wpAny_rule ?_)
  refine wpAny_bind (wpAny_standAt (wpAny_bind (wpAny_mono h (fun it' s' h'=>wpAny_pure (And.intro rfl h')) fun _ _ z=>z)))
end
def inW (J2:It) (g2:TG) (te:TE) (σ2:St) (l:Addr) (ys:List V) (H3:Hp) (N:List V→Hp→Prop):Prop :=
 ∃ W:Nat→Nat→List V→St→Hp→Prop,(∃ m,W 0 m ys σ2 H3)∧∀ j m zs σ3 H,W j m zs σ3 H→H l=some (.lst zs) →
  (J2.stop j H∧N zs H)∨(J2.go j H∧zs.length < sizeLine∧∃ N2:List V→St→Hp→Prop,(∀ zs' σ' H',N2 zs' σ' H'→∃ m',m' < m∧W (j+1) m' zs' σ' H')∧∀ x H',J2.yld j H x H'→g2 x σ3 H' fun σ4 H4=>te σ4 H4 fun v H5 =>
   H5 l=some (.lst zs)∧N2 (zs++[v]) σ4 (upd H5 l (.lst (zs++[v]))))
def compW2 (ix:List (Option Nat)) (J:It) (g:TG) (wi2:TI) (g2:TG) (te:TE) (σ:St) (l:Addr) (H0:Hp) (Qe:Hp→Prop):Prop :=
 ∃ W:Nat→Nat→List V→Hp→Prop,(∃ m,W 0 m [] H0)∧∀ i m ys H,W i m ys H→H l=some (.lst ys) →
  (J.stop i H∧Qe H)∨(J.go i H∧∃ N:List V→Hp→Prop,(∀ zs H',N zs H'→∃ m',m' < m∧W (i+1) m' zs H')∧∀ x H',J.yld i H x H'→g x (compSt ix σ) H' fun σ2 H2=>wi2 σ2 H2 fun J2 H3 =>
   H3 l=some (.lst ys)∧inW J2 g2 te σ2 l ys H3 N)
def tComp2 (ix:List (Option Nat)) (wi:TI) (g:TG) (wi2:TI) (g2:TG) (te:TE):TE:=fun σ H Q=>wi σ H fun J H1=>∀ l,H1 l=none→compW2 ix J g wi2 g2 te σ l (upd H1 l (.lst [])) fun H'=>Q (.ref l) H'
section
variable {X:Cx} {pins:List (Addr × Obj)} {σ:St} {H:Hp} {s:Shared} {N:List Str} {ix:List (Option Nat)} {scope:Scope} {elt iter tg iter2 tg2:Expr} {pos:Pos} {g g2:TG} {wi2:TI} {te:TE} {E:Value→Shared→Prop}
theorem comp_inner {Y:Cx} {l it2:Addr} {t1 i1:Expr} {fp2:List Addr} {tn2:Nat→Heap→Prop} {J2:It} {pins:List (Addr × Obj)} {σ2:St} {H3:Hp} {s:Shared} {ys:List V} {NN:List V→Hp→Prop} {R:Result→Shared→Prop} (hx:Y.xe=noE) (hc:Y.calm=true)
  (hg:PG Y tg2 g2) (he:PE Y elt te) (I:Inv Y pins σ2 H3 s) (T:Turn Y.prog Y.w Y.K tg2 J2 fp2 it2 tn2) (st:tn2 0 s.heap) (hf:∀ b∈fp2,FpOk Y pins H3 b) (hl:H3 l=some (.lst ys)) (hw:inW J2 g2 te σ2 l ys H3 NN)
  (hR:∀ s' σ' H' zs,Inv Y pins σ' H' s'→H' l=some (.lst zs)→NN zs H'→R (.ok .next) s') :
  codeAny (model Y.prog Y.w) Y.A (.compStart (.ListComp elt [⟨t1,i1,[],0⟩,⟨tg2,iter2,[],0⟩] scope pos) 1 (.ref it2) (.ref l) Y.env) R s:=by
 obtain ⟨W,⟨m0,w0⟩,turn⟩:=hw
 have stat:∀ {H':Hp},(∀ b∈fp2,H' b=none)→∀ b∈fp2,FpOk Y pins H' b:=fun hn b hb=>⟨hn b hb,(hf b hb).2⟩
 have loop:codeAny (model Y.prog Y.w) Y.A (.compLoop (.ListComp elt [⟨t1,i1,[],0⟩,⟨tg2,iter2,[],0⟩] scope pos) 1 (.ref it2) (.ref l) Y.env) R s:=by
  refine comp_turnsI (fun n s'=>∃ j zs σ' Hc,Inv Y pins σ' Hc s'∧tn2 j s'.heap∧(∀ b∈fp2,Hc b=none)∧Hc l=some (.lst zs)∧W j n zs σ' Hc) ?_ m0 ⟨0,ys,σ2,H3,I,st,fun b hb=>(hf b hb).1,hl,w0⟩
  rintro n s5 ⟨j,zs,σ5,Hc,J5,st5,fr5,hl5,w5⟩
  rcases turn j n zs σ5 Hc w5 hl5 with ⟨stop,qe⟩ | ⟨go,hz,N2,hN2,step⟩
  ·refine thn (T.done Y rfl rfl rfl hc j pins s5 σ5 Hc noE J5 (stat fr5) st5 stop) fun r s6 h6=>?_
   obtain ⟨hr,J6⟩:=h6
   subst hr
   exact hR s6 σ5 Hc zs J6 hl5 qe
  ·refine thn (T.item Y rfl rfl rfl hc j pins s5 σ5 Hc noE J5 (stat fr5) st5 go) fun r s6 h6=>?_
   obtain ⟨u,hr,h6⟩:=h6
   subst hr
   refine thn h6 fun _ s7 h7=>?_
   obtain ⟨x,H7,J7,r7,y7,st7,fr7⟩:=h7
   have J7':=J7.pinned (stat fr7) (T.obj _ _ st7)
   have hgY:=hg _ s7 σ5 H7 x u _ J7' r7 (step x H7 y7)
   rw [hx] at hgY
   refine thn hgY fun _ s8 h8=>?_
   obtain ⟨σ8,H8,J8,q8⟩:=h8
   have heY:=he _ s8 σ8 H8 _ J8 q8
   rw [hx] at heY
   refine thn heY fun y s9 h9=>?_
   obtain ⟨v,H9,J9,r9,hl9,n9⟩:=h9
   obtain ⟨m',hm',w9⟩:=hN2 _ _ _ n9
   have hmt:=mt_append (X:=Y) _ s9 σ8 H9 (.ref l) [v] (.ref l) [y] (fun z Hz=>z=.non∧Hz=upd H9 l (.lst (zs++[v]))) J9 rfl (.cons r9 .nil) ⟨_,zs,v,rfl,rfl,hl9,hz,rfl,rfl⟩
   rw [hx] at hmt
   refine thn hmt fun _ s10 h10=>?_
   obtain ⟨_,H10,J10,_,_,e10⟩:=h10
   subst e10
   refine ⟨m',hm',j+1,zs++[v],σ8,_,J10.unpinned,T.keep _ _ _ st7 fun b hb o e=>(J10.pin (b,o) (List.mem_append_right _ (List.mem_append_right _ (mem_pinsAt hb e)))).1,fun b hb=>?_,upd_same,w9⟩
   obtain ⟨o,e,d⟩:=T.obj _ _ st7 b hb
   exact (J10.pin (b,o) (List.mem_append_right _ (List.mem_append_right _ (mem_pinsAt hb e)))).2.1
 exact compStart_in loop (T.self _ 0 _ _ _ st loop)
theorem comp_block2 {it:Addr} {fp:List Addr} {tn:Nat→Heap→Prop} {J:It} {Qe:Addr→Hp→Prop} {RR:Value→Addr→Result→Shared→Prop} (hc:X.calm=true) (S:CompS X.N X.env.scope N ix scope)
  (hg:∀ cl C ex s H,PG (cxComp X N scope cl C ex s H) tg g) (hi2:∀ cl C ex s H,PI (cxComp X N scope cl C ex s H) tg2 iter2 wi2) (hg2:∀ cl C ex s H,PG (cxComp X N scope cl C ex s H) tg2 g2) (he:∀ cl C ex s H,PE (cxComp X N scope cl C ex s H) elt te)
  (hs2:∀ env x,foldedSetIterable iter2 env x=pure x)
  (I:Inv X pins σ H s) (T:Turn X.prog X.w X.K tg J fp it tn) (st:tn 0 s.heap) (hf:∀ b∈fp,FpOk X pins H b)
  (hw:∀ l,H l=none→compW2 ix J g wi2 g2 te σ l (upd H l (.lst [])) (Qe l))
  (hRR:∀ l C s' H' m,s'.heap.Ns C m→Inv X pins σ H' s'→FpOk X pins H' C→Qe l H'→RR (.ref l) C (.ok .next) s') :
  wpAny (model X.prog X.w) X.A (newList []) (fun acc s3=>wpAny (model X.prog X.w) X.A (newFunctionEnv scope X.env.globals (closeL X.env.cells scope.names []) [] X.env.qual none .none (some X.env)) (fun cenv s4 =>
   codeAny (model X.prog X.w) X.A (.compStart (.ListComp elt [⟨tg,iter,[],0⟩,⟨tg2,iter2,[],0⟩] scope pos) 0 (.ref it) acc { cenv with scope:=relabel scope X.env }) (RR acc cenv.locals) s4) E s3) E s:=by
 have hlt:∀ b∈fp,b < s.heap.objs.size:=fun b hb=>by
  obtain ⟨o,e,_⟩:=T.obj 0 s.heap st b hb
  exact Heap.lt_size e
 have hl0:H s.heap.objs.size=none:=I.fresh
 obtain ⟨W,⟨m0,w0⟩,turn⟩:=hw s.heap.objs.size hl0
 refine wpAny_newObj_type ?_
 generalize hs3:({ s with heap:=s.heap.push { cls:=.type "list",dict:=none,data:=.seq ([]:List Value).toArray } }:Shared)=s3
 have I3:Inv X pins σ (upd H s.heap.objs.size (.lst [])) s3:=by
  rw [←hs3]
  exact I.lnew (its:=[]) (t':=s.toks) .nil (Nat.zero_le _)
 have k3:∀ b o,s.heap.get? b=some o→s3.heap.get? b=some o:=fun b o e=>by
  rw [←hs3];exact Heap.get?_push_of_some _ e
 have sz3:s3.heap.objs.size=s.heap.objs.size+1:=by rw [←hs3];exact Heap.size_push ..
 have lnfp:s.heap.objs.size∉fp:=fun hb=>Nat.lt_irrefl _ (hlt _ hb)
 have st3:tn 0 s3.heap:=T.keep 0 _ _ st fun b _ o e=>k3 b o e
 have hf3:∀ b∈fp,FpOk X pins (upd H s.heap.objs.size (.lst [])) b:=fun b hb=>by
  obtain ⟨f0,f⟩:=hf b hb
  have nb:b≠s.heap.objs.size:=fun e=>lnfp (by rw [←e];exact hb)
  exact ⟨by rw [upd_ne nb];exact f0,f⟩
 have hlt3:∀ b∈fp,b < s3.heap.objs.size:=fun b hb=>by rw [sz3];exact Nat.lt_succ_of_lt (hlt b hb)
 clear hs3
 refine wpAny_newFunctionEnv S.nocell (by intro y hy;simp at hy) (fun h1 hn1 hb1=>?_) S.kind
 have hk1:∀ b o,s3.heap.get? b=some o→h1.get? b=some o:=fun b o e =>
  (hb1.2 b (Nat.ne_of_lt (Heap.lt_size e))).trans (Heap.get?_push_of_some _ e)
 have J0:Inv (cxComp X N scope (closeL X.env.cells scope.names []) s3.heap.objs.size fp s3 (upd H s.heap.objs.size (.lst []))) [] (compSt ix σ) (upd H s.heap.objs.size (.lst [])) { s3 with heap:=h1,toks:=s3.toks+([]:List (Str × Value)).length } :=
  comp_inv I3 S rfl hf3 hlt3 hn1 hk1
 have st1:tn 0 h1:=T.keep 0 _ _ st3 fun b _ o e=>hk1 b o e
 have fpY:∀ {Hc:Hp},(∀ b∈fp,Hc b=none)→∀ b∈fp,FpOk (cxComp X N scope (closeL X.env.cells scope.names []) s3.heap.objs.size fp s3 (upd H s.heap.objs.size (.lst []))) [] Hc b:=fun {Hc} hn b hb=>by
  obtain ⟨_,f1,f2,_,f4,_⟩:=hf3 b hb
  refine ⟨hn b hb,Nat.ne_of_lt (hlt3 b hb),fun hb2=>(List.mem_cons.mp (I3.stkSub b hb2)).elim f1 f2,.inl hb,fun x c e=>f4 x c (comp_look I3 S e),fun p hp=>absurd (show p∈([]:List (Addr × Obj)) from hp) (by simp)⟩
 have loop:∀ s4:Shared,s4=({ s3 with heap:=h1,toks:=s3.toks+([]:List (Str × Value)).length }:Shared)→codeAny (model X.prog X.w) X.A (.compLoop (.ListComp elt [⟨tg,iter,[],0⟩,⟨tg2,iter2,[],0⟩] scope pos) 0 (.ref it) (.ref s.heap.objs.size)
   (compEnvC scope (closeL X.env.cells scope.names []) s3.heap.objs.size X.env)) (RR (.ref s.heap.objs.size) s3.heap.objs.size) s4:=by
  intro s4 hs4
  subst hs4
  refine comp_turnsO (hs2 _) (fun n s'=>∃ i ys Hc,Inv (cxComp X N scope (closeL X.env.cells scope.names []) s3.heap.objs.size fp s3 (upd H s.heap.objs.size (.lst []))) [] (compSt ix σ) Hc s'∧tn i s'.heap∧(∀ b∈fp,Hc b=none)∧Hc s.heap.objs.size=some (.lst ys)∧W i n ys Hc) ?_ m0 ⟨0,[],_,J0,st1,fun b hb=>(hf3 b hb).1,upd_same,w0⟩
  rintro n s5 ⟨i,ys,Hc,J5,st5,fr5,hl5,w5⟩
  rcases turn i n ys Hc w5 hl5 with ⟨stop,qe⟩ | ⟨go,NN,hNN,step⟩
  ·refine thn (T.done (cxComp X N scope (closeL X.env.cells scope.names []) s3.heap.objs.size fp s3 (upd H s.heap.objs.size (.lst []))) rfl rfl rfl hc i [] s5 _ Hc noE J5 (fpY fr5) st5 stop) fun r s6 h6=>?_
   obtain ⟨hr,J6⟩:=h6
   subst hr
   have I6:Inv X pins σ Hc s6:=I3.call' (ch:=fp) J6.os J6.base J6.hok J6.bare fun b hb=>by
    obtain ⟨_,f1,f2,f3,f4,f5⟩:=hf3 b hb
    exact ⟨f3,f1,f4,f5⟩
   obtain ⟨m6,hn6,_⟩:=J6.loc
   exact hRR _ _ s6 Hc m6 hn6 I6 (I3.fpOk (Nat.le_refl _) J6.free) qe
  ·refine thn (T.item (cxComp X N scope (closeL X.env.cells scope.names []) s3.heap.objs.size fp s3 (upd H s.heap.objs.size (.lst []))) rfl rfl rfl hc i [] s5 _ Hc noE J5 (fpY fr5) st5 go) fun r s6 h6=>?_
   obtain ⟨u,hr,h6⟩:=h6
   subst hr
   refine thn h6 fun _ s7 h7=>?_
   obtain ⟨x,H7,J7,r7,y7,st7,fr7⟩:=h7
   have J7':=J7.pinned (fpY fr7) (T.obj _ _ st7)
   refine thn (hg _ _ _ _ _ _ s7 _ H7 x u _ J7' r7 (step x H7 y7)) fun _ s8 h8=>?_
   obtain ⟨σ8,H8,J8,q8⟩:=h8
   refine thn (hi2 _ _ _ _ _ _ s8 σ8 H8 _ J8 q8) fun x2 s9 h9=>thn h9 fun it2 s10 h10=>?_
   obtain ⟨a2,fp2,tn2,J2,H10,e2,J10,T2,st10,f10,hl10,hw10⟩:=h10
   subst e2
   intro R' hR'
   refine comp_inner (Y:=cxComp X N scope (closeL X.env.cells scope.names []) s3.heap.objs.size fp s3 (upd H s.heap.objs.size (.lst []))) rfl hc (hg2 _ _ _ _ _) (he _ _ _ _ _) J10 T2 st10 f10 hl10 hw10 fun s' σ' H' zs J' hl' n'=>hR' s' ?_
   obtain ⟨m',hm',w9⟩:=hNN _ _ n'
   refine ⟨m',hm',i+1,zs,H',comp_again I3 S J',T.keep _ _ _ st7 fun b hb o e=>(J'.pin (b,o) (List.mem_append_right _ (List.mem_append_right _ (mem_pinsAt hb e)))).1,fun b hb=>?_,hl',w9⟩
   obtain ⟨o,e,d⟩:=T.obj _ _ st7 b hb
   exact (J'.pin (b,o) (List.mem_append_right _ (List.mem_append_right _ (mem_pinsAt hb e)))).2.1
 exact codeAny_compStart_list (loop _ rfl) (T.self _ 0 _ _ _ st1 (loop _ rfl))
theorem pe_comp2 {wi:TI} (hc:X.calm=true) (S:CompS X.N X.env.scope N ix scope) (hi:PI X tg iter wi)
  (hg:∀ cl C ex s H,PG (cxComp X N scope cl C ex s H) tg g) (hi2:∀ cl C ex s H,PI (cxComp X N scope cl C ex s H) tg2 iter2 wi2) (hg2:∀ cl C ex s H,PG (cxComp X N scope cl C ex s H) tg2 g2) (he:∀ cl C ex s H,PE (cxComp X N scope cl C ex s H) elt te)
  (hs2:∀ env x,foldedSetIterable iter2 env x=pure x:=by intro _ _;rfl)
  (hs:∀ x,foldedSetIterable iter X.env x=pure x:=by intro _;rfl):PE X (.ListComp elt [⟨tg,iter,[],0⟩,⟨tg2,iter2,[],0⟩] scope pos) (tComp2 ix wi g wi2 g2 te):=by
 intro pins s σ H Q I h
 rw [eval_ListComp]
 refine wpAny_comprehension_free (use:=none) rfl hs (closureFor_run (comp_cells I S)) S.kind S.names (thn (hi pins s σ H _ I h) fun v s1 h1=>thn h1 fun itv s2 h2=>?_)
 obtain ⟨it,fp,tn,J,H2,e,I2,T,st2,f2,hw⟩:=h2
 subst e
 refine comp_block2 (RR:=fun acc C=>compPost (model X.prog X.w) X.A X.xe none (EP X pins σ Q) acc C) hc S hg hi2 hg2 he hs2 I2 T st2 f2 hw fun l C s' H' m hn I' fC q=>⟨m,hn,fun h' hs'=>?_⟩
 obtain ⟨c0,c1,_,c3,c4,c5⟩:=fC
 exact ⟨.ref l,H',I'.turned (t':=s'.toks) (fun b o hb e=>(hs'.2 b hb).trans e) c0 c1 c3 c4 c5,rfl,q⟩
end
theorem comp2_tups {K:PySem.W.Frag} {a l:Addr} {xs:List V} {ix:List (Option Nat)} {g:TG} {wi2:TI} {g2:TG} {te:TE} {σ:St} {H0:Hp} {Qe:Hp→Prop} (Pv:Nat→List V→Hp→Prop) (h0:Pv 0 [] H0) (hl:∀ i ys H,i≤xs.length→Pv i ys H→SqL K H a xs)
  (hs:∀ i x ys H,xs[i]?=some x→Pv i ys H→H l=some (.lst ys)→g x (compSt ix σ) H fun σ2 H2=>wi2 σ2 H2 fun J2 H3=>H3 l=some (.lst ys)∧inW J2 g2 te σ2 l ys H3 (Pv (i+1)))
  (hd:∀ ys H,Pv xs.length ys H→H l=some (.lst ys)→Qe H):compW2 ix (Itl K a) g wi2 g2 te σ l H0 Qe:=by
 refine ⟨fun i m ys H=>m=xs.length - i∧i≤xs.length∧Pv i ys H,⟨xs.length,by simp,Nat.zero_le _,h0⟩,?_⟩
 rintro i m ys H ⟨rfl,hi,p⟩ hy
 have q:=hl i ys H hi p
 by_cases hlt:i < xs.length
 ·refine .inr ⟨⟨xs,xs[i],q,by simp [hlt]⟩,Pv (i+1),fun zs H' r=>⟨xs.length - (i+1),by omega,rfl,hlt,r⟩,fun x H' y=>?_⟩
  obtain ⟨e,y⟩:=y
  subst e
  exact hs i x ys _ (y xs q) p hy
 ·have e:i=xs.length:=by omega
  subst e
  exact .inl ⟨⟨xs,q,Nat.le_refl _⟩,hd ys H p hy⟩
theorem in_tup {K:PySem.W.Frag} {a l:Addr} {xs ys:List V} {g2:TG} {te:TE} {σ2:St} {H3:Hp} {N:List V→Hp→Prop} (Pv:Nat→List V→St→Hp→Prop) (h0:Pv 0 ys σ2 H3) (hl:∀ j zs σ H,j≤xs.length→Pv j zs σ H→SqT K H a xs) (hz:∀ j zs σ H,j≤xs.length→Pv j zs σ H→zs.length < sizeLine)
  (hs:∀ j x zs σ H,xs[j]?=some x→Pv j zs σ H→H l=some (.lst zs)→g2 x σ H fun σ4 H4=>te σ4 H4 fun v H5=>H5 l=some (.lst zs)∧Pv (j+1) (zs++[v]) σ4 (upd H5 l (.lst (zs++[v]))))
  (hd:∀ zs σ H,Pv xs.length zs σ H→H l=some (.lst zs)→N zs H):inW (Itt K a) g2 te σ2 l ys H3 N:=by
 refine ⟨fun j m zs σ H=>m=xs.length - j∧j≤xs.length∧Pv j zs σ H,⟨xs.length,by simp,Nat.zero_le _,h0⟩,?_⟩
 rintro j m zs σ H ⟨rfl,hj,p⟩ hy
 have q:=hl j zs σ H hj p
 by_cases hlt:j < xs.length
 ·refine .inr ⟨⟨xs,xs[j],q,by simp [hlt]⟩,hz j zs σ H hj p,fun zs' σ' H'=>Pv (j+1) zs' σ' H',fun zs' σ' H' r=>⟨xs.length - (j+1),by omega,rfl,hlt,r⟩,fun x H' y=>?_⟩
  obtain ⟨e,y⟩:=y
  subst e
  exact hs j x zs σ _ (y xs q) p hy
 ·have e:j=xs.length:=by omega
  subst e
  exact .inl ⟨⟨xs,q,Nat.le_refl _⟩,hd zs σ H p hy⟩
end L2

set_option Elab.async false
set_option linter.all false
set_option maxRecDepth 100000
set_option maxHeartbeats 4000000
namespace Gu
open PySem L2
/-! ### an endless word,worn -/
theorem hdW_len (e:Row) (m:Nat):(hdW e m).length=m:=by unfold hdW;rw [List.length_map,List.length_range]
theorem hdW_succ (e:Row) (m:Nat):hdW e (m+1)=hdW e m++[lat e m]:=by unfold hdW;rw [List.range_succ,List.map_append];rfl
theorem hdW_take (e:Row) {k m:Nat} (h:k≤m):(hdW e m).take k=hdW e k:=by
 unfold hdW
 rw [←List.map_take,List.take_range,Nat.min_eq_left h]
def stS (M:List Row) (e:Row) (i:Nat):Int:=goW M 0 (hdW e i)
def oS (M:List Row) (e:Row) (i:Nat):Int:=(row M (stS M e i)).1.getD (lat e i).toNat 0
theorem stS_succ (M:List Row) (e:Row) (i:Nat):stS M e (i+1)=(row M (stS M e i)).2.getD (lat e i).toNat 0:=by
 unfold stS
 rw [hdW_succ,goW_app]
 rfl
theorem out_succ (M:List Row) (e:Row) (i:Nat):outW M 0 (hdW e (i+1))=outW M 0 (hdW e i)++[oS M e i]:=by
 rw [hdW_succ,outW_app]
 rfl
theorem out_getD (M:List Row) (e:Row) {i m:Nat} (h:i < m):(outW M 0 (hdW e m)).getD i 0=oS M e i:=by
 have h1:(outW M 0 (hdW e m)).take (i+1)=outW M 0 (hdW e (i+1)):=by rw [outW_take,hdW_take e h]
 have h2:(outW M 0 (hdW e m)).getD i 0=(outW M 0 (hdW e (i+1))).getD i 0:=by rw [←h1,take_getD (Nat.lt_succ_self i)]
 rw [h2,out_succ,List.getD_eq_getElem?_getD,List.getElem?_append_right (by rw [outW_len,hdW_len];exact Nat.le_refl _),outW_len,hdW_len,Nat.sub_self]
 rfl
def lapA (M:List Row) (e:Row):Nat→Int
 | 0=>goW M 0 e.1
 | t+1=>goW M (lapA M e t) e.2
def laps (M:List Row) (e:Row) (t:Nat):List (List Int):=(List.range t).map fun j=>outW M (lapA M e j) e.2
theorem laps_succ (M:List Row) (e:Row) (t:Nat):laps M e (t+1)=laps M e t++[outW M (lapA M e t) e.2]:=by unfold laps;rw [List.range_succ,List.map_append];rfl
theorem laps_len (M:List Row) (e:Row) (t:Nat):(laps M e t).length=t:=by unfold laps;rw [List.length_map,List.length_range]
theorem flat_laps (M:List Row) (e:Row):∀ t,(laps M e t).flatten.length=t*e.2.length
 | 0=>by unfold laps;simp
 | t+1=>by rw [laps_succ,List.flatten_append,List.length_append,flat_laps M e t];simp only [List.flatten_cons,List.flatten_nil,List.append_nil];rw [outW_len,Nat.add_mul,Nat.one_mul]
theorem hdW_get (e:Row) (m i:Nat) (h:i < (hdW e m).length):(hdW e m)[i]=lat e i:=by
 have h':i < m:=by rw [hdW_len] at h;exact h
 have:(hdW e m)[i]?=some (lat e i):=by
  unfold hdW
  rw [List.getElem?_map,List.getElem?_range h']
  rfl
 rw [List.getElem?_eq_getElem h] at this
 exact Option.some.inj this
theorem hd_first (e:Row):hdW e e.1.length=e.1:=by
 refine List.ext_getElem (hdW_len _ _) fun i i1 i2=>?_
 rw [hdW_get,lat_lo i2,getD_of i2]
theorem hd_lap {e:Row} (h:e.2≠[]) (t:Nat):hdW e (e.1.length+(t+1)*e.2.length)=hdW e (e.1.length+t*e.2.length)++e.2:=by
 have hl:0 < e.2.length:=List.length_pos_iff.mpr h
 refine List.ext_getElem (by rw [List.length_append,hdW_len,hdW_len,Nat.add_mul,Nat.one_mul];omega) fun i i1 i2=>?_
 have e1:(hdW e (e.1.length+(t+1)*e.2.length))[i]=lat e i:=hdW_get _ _ _ _
 rw [e1]
 rw [hdW_len] at i1
 by_cases hi:i < e.1.length+t*e.2.length
 ·rw [List.getElem_append_left (by rw [hdW_len];exact hi)]
  rw [hdW_get]
 ·rw [List.getElem_append_right (by rw [hdW_len];omega)]
  rw [lat_hi (by have:=Nat.zero_le (t*e.2.length);omega)]
  have em:(i - e.1.length) % e.2.length=i - (e.1.length+t*e.2.length):=by
   have:i - e.1.length=(i - (e.1.length+t*e.2.length))+t*e.2.length:=by omega
   rw [this,Nat.add_mul_mod_self_right,Nat.mod_eq_of_lt]
   rw [Nat.add_mul,Nat.one_mul] at i1
   omega
  rw [em]
  have hj:i - (e.1.length+t*e.2.length) < e.2.length:=by rw [Nat.add_mul,Nat.one_mul] at i1;omega
  rw [getD_of hj]
  congr 1
  rw [hdW_len]
theorem lap_out (M:List Row) {e:Row} (h:e.2≠[]):∀ t,outW M 0 (hdW e (e.1.length+t*e.2.length))=outW M 0 e.1++(laps M e t).flatten∧stS M e (e.1.length+t*e.2.length)=lapA M e t
 | 0=>by
  unfold stS
  rw [Nat.zero_mul,Nat.add_zero,hd_first]
  exact ⟨by unfold laps;simp,rfl⟩
 | t+1=>by
  obtain ⟨i1,i2⟩:=lap_out M h t
  unfold stS at i2 ⊢
  rw [hd_lap h t,outW_app,goW_app,i1,i2,laps_succ,List.flatten_append]
  exact ⟨by rw [List.append_assoc];simp,rfl⟩
theorem worn_lat (M:List Row) {e:Row} (h:e.2≠[]) {k first:Nat} (hf:first < k) (hk:lapA M e k=lapA M e first) :
  ∀ i,lat (outW M 0 e.1++((laps M e k).take first).flatten,((laps M e k).drop first).flatten) i=oS M e i:=by
 have hl:0 < e.2.length:=List.length_pos_iff.mpr h
 have htk:(laps M e k).take first=laps M e first:=by
  unfold laps
  rw [←List.map_take,List.take_range,Nat.min_eq_left (Nat.le_of_lt hf)]
 have hall:(outW M 0 e.1++((laps M e k).take first).flatten)++((laps M e k).drop first).flatten=outW M 0 (hdW e (e.1.length+k*e.2.length)):=by
  rw [(lap_out M h k).1,List.append_assoc,←List.flatten_append,List.take_append_drop]
 have l1:(outW M 0 e.1++((laps M e k).take first).flatten).length=e.1.length+first*e.2.length:=by rw [htk,List.length_append,outW_len,flat_laps]
 have l2:(outW M 0 e.1++((laps M e k).take first).flatten).length+((laps M e k).drop first).flatten.length=e.1.length+k*e.2.length:=by
  rw [←List.length_append,hall,outW_len,hdW_len]
 have hmul:first*e.2.length+(k - first)*e.2.length=k*e.2.length:=by rw [←Nat.add_mul];congr 1;omega
 have l3:((laps M e k).drop first).flatten.length=(k - first)*e.2.length:=by omega
 have hpos:0 < (k - first)*e.2.length:=Nat.mul_pos (by omega) hl
 generalize outW M 0 e.1++((laps M e k).take first).flatten=A at *
 generalize ((laps M e k).drop first).flatten=B at *
 refine lat_of (fun i hi=>?_) (fun j hj=>?_) ?_ (fun z=>?_)
 ·have hi:i < A.length:=hi
  rw [←out_getD M e (i:=i) (m:=e.1.length+k*e.2.length) (by omega),←hall,List.getD_eq_getElem?_getD,List.getD_eq_getElem?_getD,List.getElem?_append_left hi]
 ·have hj:j < B.length:=hj
  show B.getD j 0=oS M e (A.length+j)
  rw [←out_getD M e (i:=A.length+j) (m:=e.1.length+k*e.2.length) (by omega),←hall,List.getD_eq_getElem?_getD,List.getD_eq_getElem?_getD,List.getElem?_append_right (by omega),Nat.add_sub_cancel_left]
 ·show Pd (oS M e) A.length B.length
  have pl:Pd (lat e) A.length B.length:=by
   have:=(lat_pd h).mul (k - first)
   rw [Nat.mul_comm] at this
   rw [l3]
   exact this.mono (by omega)
  have ps:∀ d,stS M e (A.length+d+B.length)=stS M e (A.length+d):=by
   intro d
   induction d with
   | zero =>
    rw [Nat.add_zero,l2,l1,(lap_out M h k).2,(lap_out M h first).2,hk]
   | succ d ih =>
    rw [show A.length+(d+1)+B.length=(A.length+d+B.length)+1 by omega,show A.length+(d+1)=A.length+d+1 by omega,stS_succ,stS_succ,ih,pl (A.length+d) (by omega)]
  intro i hi
  unfold oS
  have:=ps (i - A.length)
  rw [show A.length+(i - A.length)=i by omega] at this
  rw [this,pl i hi]
 ·have:B=[]:=z
  rw [this] at l3
  simp at l3
  omega
/-! two endless words are unlike where what is made of them is -/
/-! how far two words go together -/
end Gu

set_option Elab.async false
set_option linter.all false
set_option maxRecDepth 100000
set_option maxHeartbeats 4000000
namespace Gu
open PySem L2
theorem cutV_to (xs:List V) (k:Nat) (h:k≤xs.length):cutV xs none (some (k:Int))=xs.take k:=by
 unfold cutV
 rw [HT.sIx_none,HT.sIx_nat,List.drop_zero,Nat.sub_zero,Nat.min_eq_left h]
theorem cutV_from (xs:List V) (k:Nat) (h:k≤xs.length):cutV xs (some (k:Int)) none=xs.drop k:=by
 unfold cutV
 rw [HT.sIx_none,HT.sIx_nat,Nat.min_eq_left h]
 exact List.take_of_length_le (by rw [List.length_drop];exact Nat.le_refl _)
theorem drl_take {K:PySem.W.Frag} {H:Hp}:∀ {ds:List D} {us:List V} (k:Nat),DrL K H ds us→DrL K H (ds.take k) (us.take k)
 | _,_,0,_=>by rw [List.take_zero,List.take_zero];exact DrL.nil
 | [],_,k+1,h=>by simp only [DrL] at h;subst h;exact DrL.nil
 | d::ds,_,k+1,h=>by
  simp only [DrL] at h
  obtain ⟨v,r,rfl,h1,h2⟩:=h
  rw [List.take_succ_cons,List.take_succ_cons]
  exact DrL.cons h1 (drl_take k h2)
theorem drl_drop {K:PySem.W.Frag} {H:Hp}:∀ {ds:List D} {us:List V} (k:Nat),DrL K H ds us→DrL K H (ds.drop k) (us.drop k)
 | _,_,0,h=>h
 | [],_,k+1,h=>by simp only [DrL] at h;subst h;exact DrL.nil
 | d::ds,_,k+1,h=>by
  simp only [DrL] at h
  obtain ⟨v,r,rfl,h1,h2⟩:=h
  rw [List.drop_succ_cons,List.drop_succ_cons]
  exact drl_drop k h2
end Gu

set_option Elab.async false
set_option linter.all false
set_option maxRecDepth 100000
set_option maxHeartbeats 4000000
namespace L2
open PySem PySem.Spec PyProof.Rows PySem.SeqAt
/-! no list or tuple in it is very long -/
section
variable {X:Cx}
end
end L2

set_option Elab.async false
set_option linter.all false
set_option maxRecDepth 100000
set_option maxHeartbeats 4000000
namespace L2
open PySem PySem.Spec PyProof.Rows
open PySem.AutoSeq1 (wpAny_loadPart')
section
variable {X:Cx}
theorem tup_mulB (l:Addr) (its:List Value) (n:Nat) (k:Int) (t:Tok) (h2:2≤k) (hk:k≤1000000) (hne:its≠[]) (hz:its.length*k.toNat≤sizeLine) :
  Meets (Builtin.«tuple.__mul__» ⟨[.ref l,.int k t],[]⟩) (fun _ R s=>s.heap.get? l=some { cls:=.type "tuple",dict:=none,data:=.seq its.toArray n,slots:=#[] } ∧
   R (.ok (.ret (.ref s.heap.objs.size))) { s with heap:=s.heap.push { cls:=.type "tuple",data:=.seq (List.replicate k.toNat its).flatten.toArray } }) :=
 .of_wp fun prog w A R s h=>by
  obtain ⟨hp,g,d,tk,os⟩:=s
  obtain ⟨hl,h⟩:=h
  have hie:its.toArray.isEmpty=false:=by cases its with | nil=>exact absurd rfl hne | cons a r=>simp
  have hcap:¬ ((its.toArray.size:Int)*k > (2 ^ 63 - 1) / 8):=by
   have h1:((its.length*k.toNat:Nat):Int)≤sizeLine:=by omega
   have h3:((its.length*k.toNat:Nat):Int)=(its.length:Int)*k:=by rw [Int.natCast_mul];congr 1;omega
   have h4:(sizeLine:Int)≤(2 ^ 63 - 1) / 8:=by rw [sizeLine_eq];decide
   simp only [List.size_toArray]
   omega
  wp_walk using wpAny_loadPart' hl
  refine wpAny_ite_split (fun hab=>absurd hab (by simp;omega)) (fun _=>?_)
  wp_walk using wpAny_loadPart' hl
  have hk1:(k == 1)=false:=by simpa using (show k≠1 by omega)
  have hk0:decide (k≤0)=false:=by simpa using (show ¬ k≤0 by omega)
  refine wpAny_ite_split (fun hab=>absurd hab (by rw [hie,hk1];decide)) (fun _=>?_)
  refine wpAny_ite_split (fun hab=>absurd hab (by rw [hie,hk0];decide)) (fun _=>?_)
  refine wpAny_ite_split (fun hab=>absurd hab hcap) (fun _=>?_)
  have htm:Builtin.Tuple.tupleTooMany ((its.toArray.size:Int)*k)=false:=by
   have h1:((its.length*k.toNat:Nat):Int)≤sizeLine:=by omega
   have h3:((its.length*k.toNat:Nat):Int)=(its.length:Int)*k:=by rw [Int.natCast_mul];congr 1;omega
   unfold Builtin.Tuple.tupleTooMany
   simp only [List.size_toArray]
   exact decide_eq_false (by omega)
  refine wpAny_ite_split (fun hab=>absurd hab (by rw [htm];decide)) (fun _=>?_)
  have hnew:List.foldl (fun x1 x2=>x1++x2) #[] (List.replicate k.toNat its.toArray)=(List.replicate k.toNat its).flatten.toArray:=by
   have q:=foldl_rep its k.toNat []
   rw [List.nil_append] at q
   exact q
  rw [hnew]
  unfold Builtin.Tuple.tupleExact
  refine wpAny_bind (wpAny_newObj_type ?_ (by show (List.replicate k.toNat its).flatten.toArray.size≤sizeLine;rw [List.size_toArray,len_rep,Nat.mul_comm];exact hz))
  exact wpAny_pure ⟨_,rfl,h⟩
theorem op_repTB:OpR X (binaryOp .Mult) (fun x y H Q=>∃ (l:Addr) (k:Int) (xs:List V),x=.ref l∧y=.int k∧H l=some (.tup xs)∧xs≠[]∧2≤k∧k≤1000000∧xs.length*k.toNat≤sizeLine ∧
  ∀ p,H p=none→Q (.ref p) (upd H p (.tup (List.replicate k.toNat xs).flatten))):=by
 intro pins s σ H x y v u Q I rx ry h
 obtain ⟨l,k,xs,rfl,rfl,hH,hne,h2,hk,hz,q⟩:=h
 cases rx
 obtain ⟨t,rfl⟩:=ry
 obtain ⟨z,its,n,r,e⟩:=I.hok l _ hH
 have hl:=r.length
 have hne':its≠[]:=fun w=>by subst w;exact hne (List.length_eq_zero_iff.mp (by simpa using hl))
 refine wpAny_binaryOp_repeat_ref (T:="tuple") (U:="int") (by decide) ⟨_,e,rfl⟩ (fun s'=>typeIs_int s' k t) noFill_tuple F.fills_int_mul F.slot_int_rmul repeat_tup F.slot_int_index.lookup
  (call_meets F.slot_int_rmul (typeIs_int s k t) F.entry_int_rmul (F.args_int_rmul_2 _ _) (int_rmul_tup k t l its.toArray n)
   ⟨e,rfl,⟨_,e,rfl⟩,call_meets F.slot_tuple_mul ⟨_,e,rfl⟩ F.entry_tuple_mul (F.args_tuple_mul_2 _ _) (tup_mulB l its n k t h2 hk hne' (by rw [←hl];exact hz)) ⟨e,?_⟩⟩)
 exact ⟨.ref _,_,I.laid (o:=.tup (List.replicate k.toNat xs).flatten) (t':=s.toks) (fun b u q=>Heap.get?_push_of_some _ q) (Nat.le_refl _) ⟨by rw [len_rep,Nat.mul_comm];exact hz,_,0,r.rep k.toNat,Heap.get?_push_size _ rfl⟩,rfl,q _ I.fresh⟩
theorem tup_mul1B (l:Addr) (its:List Value) (n:Nat) (k:Int) (t:Tok) (h0:-1000≤k) (hk:k≤1000000) (hne:its=[]∨k=1) :
  Meets (Builtin.«tuple.__mul__» ⟨[.ref l,.int k t],[]⟩) (fun _ R s=>s.heap.get? l=some { cls:=.type "tuple",dict:=none,data:=.seq its.toArray n,slots:=#[] }∧R (.ok (.ret (.ref l))) s) :=
 .of_wp fun prog w A R s h=>by
  obtain ⟨hp,g,d,tk,os⟩:=s
  obtain ⟨hl,h⟩:=h
  have hyes:(its.toArray.isEmpty || k == 1)=true:=by
   rcases hne with e | e
   ·subst e;simp
   ·subst e;simp
  wp_walk using wpAny_loadPart' hl
  refine wpAny_ite_split (fun hab=>absurd hab (by simp;omega)) (fun _=>?_)
  wp_walk using wpAny_loadPart' hl
  exact ⟨_,rfl,h⟩
theorem op_repUB:OpR X (binaryOp .Mult) (fun x y H Q=>∃ (l:Addr) (k:Int) (xs:List V),x=.ref l∧y=.int k∧H l=some (.tup xs)∧-1000≤k∧k≤1000000∧xs.length*k.toNat≤sizeLine ∧
  ∀ (p:Addr) (H':Hp),Same H H'→H' p=some (.tup (List.replicate k.toNat xs).flatten)→Q (.ref p) H'):=by
 intro pins s σ H x y v u Q I rx ry h
 obtain ⟨l,k,xs,rfl,rfl,hH,h0,hk,hz,q⟩:=h
 by_cases hs:xs≠[]∧2≤k
 ·exact op_repTB pins s σ H _ _ v u Q I rx ry ⟨l,k,xs,rfl,rfl,hH,hs.1,hs.2,hk,hz,fun p hp=>q p _ (Gu.same_up (Same.refl H) hp) upd_same⟩
 ·cases rx
  obtain ⟨t,rfl⟩:=ry
  obtain ⟨z,its,n,r,e⟩:=I.hok l _ hH
  have hl:=r.length
  by_cases h1:its=[]∨k=1
  ·refine wpAny_binaryOp_repeat_ref (T:="tuple") (U:="int") (by decide) ⟨_,e,rfl⟩ (fun s'=>typeIs_int s' k t) noFill_tuple F.fills_int_mul F.slot_int_rmul repeat_tup F.slot_int_index.lookup
    (call_meets F.slot_int_rmul (typeIs_int s k t) F.entry_int_rmul (F.args_int_rmul_2 _ _) (int_rmul_tup k t l its.toArray n)
     ⟨e,rfl,⟨_,e,rfl⟩,call_meets F.slot_tuple_mul ⟨_,e,rfl⟩ F.entry_tuple_mul (F.args_tuple_mul_2 _ _) (tup_mul1B l its n k t h0 hk h1) ⟨e,?_⟩⟩)
   refine ⟨.ref l,H,I,rfl,q l H (Same.refl H) ?_⟩
   have:(List.replicate k.toNat xs).flatten=xs:=by
    rcases h1 with w | w
    ·subst w
     have:xs=[]:=List.length_eq_zero_iff.mp (by simpa using hl)
     subst this
     simp
    ·subst w
     simp
   rw [this]
   exact hH
  ·have hne:its≠[]:=fun w=>h1 (.inl w)
   have hxs:xs≠[]:=fun w=>hne (List.length_eq_zero_iff.mp (by rw [←hl,w];rfl))
   have hk0:k≤0:=by
    have a1:k≠1:=fun w=>h1 (.inr w)
    have a2:¬ 2≤k:=fun w=>hs ⟨hxs,w⟩
    omega
   refine wpAny_binaryOp_repeat_ref (T:="tuple") (U:="int") (by decide) ⟨_,e,rfl⟩ (fun s'=>typeIs_int s' k t) noFill_tuple F.fills_int_mul F.slot_int_rmul repeat_tup F.slot_int_index.lookup
    (call_meets F.slot_int_rmul (typeIs_int s k t) F.entry_int_rmul (F.args_int_rmul_2 _ _) (int_rmul_tup k t l its.toArray n)
     ⟨e,rfl,⟨_,e,rfl⟩,call_meets F.slot_tuple_mul ⟨_,e,rfl⟩ F.entry_tuple_mul (F.args_tuple_mul_2 _ _) (tup_mul0 l its n k t h0 hk0 hne) ⟨e,?_⟩⟩)
   have e0:k.toNat=0:=by omega
   rw [e0] at q
   exact ⟨.ref _,_,I.laid (o:=.tup []) (t':=s.toks) (fun b u q=>Heap.get?_push_of_some _ q) (Nat.le_refl _) ⟨Nat.zero_le _,[],0,.nil,Heap.get?_push_size _ rfl⟩,rfl,q _ _ (Gu.same_up (Same.refl H) I.fresh) upd_same⟩
/-! ### t != u of ints -/
end
end L2

set_option Elab.async false
set_option linter.all false
set_option maxRecDepth 100000
set_option maxHeartbeats 4000000
namespace Gu
open PySem L2
/-! ### endless words worn,of great length,and refused -/
theorem line_leB {n:Nat} (h:n≤1000000):n≤sizeLine:=Nat.le_trans h (by decide)
theorem smallB {n:Nat} (h:n≤1000000):n < sizeLine:=Nat.lt_of_le_of_lt h (by decide)
def spLeastRB (K:PySem.W.Frag):Sp:=fun vs H Q _=>∃ (v:V) (r:List Int),vs=[v]∧Dr K H (D.its r) v∧r≠[]∧r.length≤40000∧∀ (s:Nat),Least r s→Gives K H Q (D.its (r.take s))
def spPlainWB (K:PySem.W.Frag) (Ct:Addr):Sp:=fun vs H Q E=>∃ (v u:V) (b r:List Int),vs=[v,u]∧Dr K H (D.its b) v∧Dr K H (D.its r) u∧b.length≤40000∧r.length≤40000∧(r≠[]→PlainOk K H Q b r)∧(r=[]→TMx Ct E H)
def spStrungB (K:PySem.W.Frag):Sp:=fun vs H Q _=>∃ (a:Addr) (us:List V) (ls:List (List Int)),vs=[.ref a]∧H a=some (.lst us)∧DrL K H (ls.map D.its) us∧ls.flatten.length≤40000∧∀ (t:Addr) (H':Hp),Same H H'→H' t=some (.tup (ls.flatten.map V.int))→Q (.ref t) H'
def GoodE (n:Nat) (e:Row):Prop:=e.2≠[]∧LW n e.1∧LW n e.2
def spCheckEX (K:PySem.W.Frag) (Ct:Addr):Sp:=fun vs H Q E=>∃ (n:Nat) (u:V) (e:Row),vs=[.int n,u]∧Dr K H (rowD e) u∧e.1.length≤4900∧e.2.length≤4900∧(GoodE n e→∀ H',Same H H'→Q .non H')∧(¬ GoodE n e→TMx Ct E H)
def WornOk (K:PySem.W.Frag) (H:Hp) (Q:VK) (one:List Row) (e:Row):Prop:=∀ (x:V) (H':Hp) (E:Row),Same H H'→Dr K H' (rowD E) x→IsPlain E→(∀ i,lat E i=oS one e i)→E.1.length≤40000→E.2.length≤40000→Q x H'
def spWornEX (K:PySem.W.Frag) (Ct:Addr):Sp:=fun vs H Q E=>∃ (v u:V) (one:List Row) (e:Row) (n:Nat),vs=[v,u]∧Dr K H (D.tup (rowsD one)) v∧Dr K H (rowD e) u∧GoodM n one∧n≤60∧e.1.length≤4900∧e.2.length≤4900∧e.1.length+one.length*e.2.length≤40000 ∧
 (GoodE n e→WornOk K H Q one e)∧(¬ GoodE n e→TMx Ct E H)
theorem lapA_rg {n:Nat} {M:List Row} (G:GoodM n M) {e:Row} (l1:LW n e.1) (l2:LW n e.2):∀ t,0≤lapA M e t∧lapA M e t < (M.length:Int)
 | 0=>by have:=G.some;exact goW_rg G l1 (by omega) (by omega)
 | t+1=>by
  obtain ⟨a,b⟩:=lapA_rg G l1 l2 t
  exact goW_rg G l2 a b
def kI:Int→Key:=fun a=>Sum.inl a
theorem kI_inj (x y:Int) (e:kI x=kI y):x=y:=Sum.inl.inj e
def seen (M:List Row) (e:Row) (t:Nat):List Int:=(List.range t).map (lapA M e)
theorem seen_succ (M:List Row) (e:Row) (t:Nat):seen M e (t+1)=seen M e t++[lapA M e t]:=by unfold seen;rw [List.range_succ,List.map_append];rfl
theorem seen_len (M:List Row) (e:Row) (t:Nat):(seen M e t).length=t:=by unfold seen;rw [List.length_map,List.length_range]
end Gu

set_option Elab.async false
set_option linter.all false
set_option maxRecDepth 100000
set_option maxHeartbeats 4000000
namespace Gu
open PySem L2
/-! ### what guises make of words: of least forms,joined,turned back -/
/-! ### the same of endless words -/
/-! ### the promises of endless words worn twice -/
end Gu
namespace Gu
open PySem L2
/-! the rest of a body,kept closed while a statement is read -/
theorem seqG {a b:TS} {D:Ends} {σ:St} {H:Hp} (h:∀ R:TS,R=b→tSeq a R D σ H):tSeq a b D σ H:=h b rfl
theorem atR {R b:TS} {D:Ends} {σ:St} {H:Hp} (e:R=b) (h:b D σ H):R D σ H:=by rw [e];exact h
end Gu

set_option Elab.async false
set_option linter.all false
set_option maxRecDepth 100000
set_option maxHeartbeats 4000000
namespace L2
open PySem PySem.Spec PyProof.Rows
/-! ### a comprehension whose element raises -/
def FlyM (h0:Heap) (H:Hp) (h:Heap) (ea C:Addr) (fl:Value):Prop:=h0.get? ea=none∧H ea=none∧∃ a0 oe vs T oT ts,h.get? ea=some oe∧(oe.cls=.ref C∧vs[0]?=some a0)∧oe.data=.fields vs∧vs[1]?=some (.ref T)∧T≠ea∧h0.get? T=none∧H T=none∧h.get? T=some oT∧oT.data=.fields ts∧ts[3]?=some fl
section
variable {P:Program} {w:World}
theorem left_okM {fl:Value} {fr:List Addr} {H1 H':Hp} {h1 h h':Heap} {env:Env} {outer:List Env} {ea C:Addr} {a0:Value} {base:Heap} {hid:List Addr} (FF:h.FunFrames base (env::outer)) (u:Un fr [] H1 H' h1 h) (hok:HOk P w H' h)
  (hfr:∀ b∈frs (env::outer),H' b=none∧(b∈fr∨h1.get? b=none)) (hfr2:∀ b∈fr,b∈frs (env::outer)) (he1:h1.get? ea=none) (heH:H' ea=none) (hid1:∀ b∈hid,h1.get? b=none∧H' b=none)
  (lf:(PySem.W.hideAll h (ea::(hid++frs (env::outer)))).NotedW (env::outer) ea (.ref C) a0 fl h h') :
  Un fr [] H1 H' h1 h'∧HOk P w H' h'∧FlyM h1 H' h' ea C fl:=by
 obtain ⟨st,ff,tr,sl⟩:=lf
 have keep:∀ b o,h.get? b=some o→b≠ea→b∉hid→b∉frs (env::outer)→h'.get? b=some o:=fun b o e n1 n2 n3 =>
  st b o (PySem.W.hideAll_get _ e fun z=>by
   rcases List.mem_cons.mp z with z | z
   ·exact n1 z
   ·rcases List.mem_append.mp z with z | z
    ·exact n2 z
    ·exact n3 z)
 have slot:∀ b o,h.get? b=some o→b∈frs (env::outer)→∃ s,h'.get? b=some { o with slots:=s }:=fun b o e hb=>by
  obtain ⟨o',e',hd⟩:=funFrames_at FF b hb
  rw [e] at e'
  cases e'
  exact sl b o e hd
 have nh:∀ b o,h1.get? b=some o→b≠ea∧b∉hid:=fun b o e=>⟨fun z=>(by rw [z,he1] at e;cases e),fun z=>(by rw [(hid1 b z).1] at e;cases e)⟩
 refine ⟨⟨fun b o e n hb hx=>?_,fun b o e n hb hx=>?_,u.free,fun b o e hx=>?_,u.tups,u.frzs,u.tbls⟩,fun a o e=>?_,he1,heH,?_⟩
 ·have e2:=u.keep b o e n hb hx
  refine keep b o e2 (nh b o e).1 (nh b o e).2 fun z=>?_
  rcases (hfr b z).2 with z | z
  ·exact hb z
  ·rw [z] at e;cases e
 ·obtain ⟨s1,e2⟩:=u.slot b o e n hb hx
  obtain ⟨s2,e3⟩:=slot b _ e2 (hfr2 b hb)
  exact ⟨s2,e3⟩
 ·obtain ⟨o',e2⟩:=u.there b o e hx
  by_cases hb:b∈frs (env::outer)
  ·obtain ⟨s2,e3⟩:=slot b _ e2 hb
   exact ⟨_,e3⟩
  ·exact ⟨o',keep b o' e2 (nh b o e).1 (nh b o e).2 hb⟩
 ·refine (hok a o e).stay (fun b v hb q=>?_) (fun _ q=>q) fun _ _ q=>q
  have hbs:∃ ob,H' b=some ob:=by
   rcases hb with z | z
   ·rw [z];exact ⟨_,e⟩
   ·exact ⟨_,z⟩
  obtain ⟨ob,hob⟩:=hbs
  refine keep b v q (fun z=>?_) (fun z=>?_) fun z=>?_
  ·rw [z,heH] at hob;cases hob
  ·rw [(hid1 b z).2] at hob;cases hob
  ·rw [(hfr b z).1] at hob;cases hob
 ·obtain ⟨oe,vs,T,oT,ts,g1,g2,g3,g4,g5,g6,g7,g8,g9⟩:=tr
  have hT:h1.get? T=none∧H' T=none:=by
   cases eT:h.get? T with
   | none =>
    refine ⟨?_,?_⟩
    ·cases q:h1.get? T with
     | none=>rfl
     | some o =>
      obtain ⟨o',e2⟩:=u.there T o q (by simp)
      rw [eT] at e2;cases e2
    ·cases q:H' T with
     | none=>rfl
     | some o =>
      obtain ⟨ob,hob⟩:=objThere (hok T o q)
      rw [eT] at hob;cases hob
   | some oT' =>
    have hm:T∈ea::(hid++frs (env::outer)):=Classical.byContradiction fun nm=>by
     rw [PySem.W.hideAll_get _ eT nm] at g5;cases g5
    rcases List.mem_cons.mp hm with z | z
    ·exact absurd z g6
    ·rcases List.mem_append.mp z with z | z
     ·exact hid1 T z
     ·obtain ⟨o',e',hd⟩:=funFrames_at ff T z
      rw [g7] at e'
      cases e'
      exact absurd g8 (hd ts)
  exact ⟨a0,oe,vs,T,oT,ts,g1,g2,g3,g4,g6,hT.1,hT.2,g7,g8,g9⟩
theorem leave_at {M:Model} {A:Around} {E:Value→Shared→Prop} {s:Shared} {base:Heap} {env:Env} {outer:List Env} {L e:Addr} {cls a0 v:Value} {Q:Unit→Shared→Prop} (hA:A.frames=some (env::outer)) (hl:s.heap.FunFrames base (env::outer)) (hL:env.frame=some L)
  (ht:s.heap.TracedAtW base e cls a0 v) (hb:base.StaysIn s.heap) (he0:base.get? e=none) (k:∀ h',Heap.LeftW base (env::outer) e cls a0 s.heap h'→Q () { s with heap:=h' }):wpAny M A (leaving env (.ref e)) Q E s:=by
 obtain ⟨oe,vs,T,oT,ts,g1,⟨g2,g20⟩,g3,g4,g5,g6,g7,g8,g9⟩:=id ht
 subst g2
 unfold leaving
 refine wpAny_bind ?_
 unfold noteFrame
 simp only [hL]
 refine wpAny_bind (wpAny_field g1 g3 g4 ?_)
 rw [if_pos (show (Value.ref T != .none)=true by simp)]
 refine wpAny_bind (wpAny_field g7 g8 g9 ?_)
 cases hv:v == rawInt L with
 | true =>
  rw [if_pos rfl]
  refine wpAny_pure (wpAny_setFlight_noneW hb hl ht fun h' k1 k2 k3 k4=>k h' ⟨k1,k2,k3,fun b o q hn=>⟨o.slots,k4 b o q hn⟩⟩)
 | false =>
  rw [if_neg (by simp)]
  refine wpAny_bind (wpAny_setField g7 g8 (Array.getElem?_eq_some_iff.mp g9).1 ?_)
  have oth:∀ b,b≠T→(s.heap.update T (Obj.mapFields fun z=>z.setIfInBounds 3 Value.none)).get? b=s.heap.get? b:=fun b hb'=>Heap.get?_update_other _ _ (Ne.symm hb')
  have nT:∀ b o,s.heap.get? b=some o→(∀ z,o.data≠.fields z)→b≠T:=fun b o q hn z=>by
   rw [z,g7] at q;cases q;exact hn ts g8
  refine wpAny_newEntryW hA (hl.of_keeps fun b o q hn=>⟨o,(oth b (nT b o q hn)).trans q,rfl⟩) hL ((oth e (Ne.symm g6)).trans g1) (fun b o q=>(oth b fun z=>(by rw [z,g5] at q;cases q)).trans (hb b o q)) he0 g3 (Array.getElem?_eq_some_iff.mp g4).1 g20 fun h' x=>k h' ⟨x.1,x.2.1,x.2.2.1,fun b o q hn=>x.2.2.2 b o ((oth b (nT b o q hn)).trans q) hn⟩
section
variable {M:Model} {A:Around} {E:Value→Shared→Prop} {Q:Unit→Shared→Prop} {s:Shared} {fr:List Addr} {H1 H':Hp} {h1:Heap} {env:Env} {outer:List Env} {L ea C:Addr} {base:Heap} {fl:Value}
theorem noted_ok (hA:A.frames=some (env::outer)) (hL:env.frame=some L) (FF:s.heap.FunFrames base (env::outer)) (u:Un fr [] H1 H' h1 s.heap) (hok:HOk P w H' s.heap)
  (hfr:∀ b∈frs (env::outer),H' b=none∧(b∈fr∨h1.get? b=none)) (hfr2:∀ b∈fr,b∈frs (env::outer)) (hf:Fly h1 H' s.heap ea C)
  (k:∀ h',Un fr [] H1 H' h1 h'→HOk P w H' h'→FlyM h1 H' h' ea C (rawInt L)→s.heap.UpToSlots h'→Q () { s with heap:=h' }):wpAny M A (noteFrame (.ref ea) env) Q E s:=by
 obtain ⟨he1,heH,a0,oe,vs,T,oT,ts,g1,g2,g3,g4,g5,g6,g7,g8,g9,g10⟩:=hf
 have FF':s.heap.FunFrames (PySem.W.hideAll s.heap (ea::([T]++frs (env::outer)))) (env::outer):=funFrames_base FF fun b hb=>PySem.W.hideAll_none _ (by simp [hb])
 refine wpAny_noteFrame_onW hA FF' hL ⟨oe,vs,T,oT,ts,g1,g2,g3,g4,PySem.W.hideAll_none _ (by simp),g5,g8,g9,g10⟩ (fun b o e=>PySem.W.of_hideAll _ e) (PySem.W.hideAll_none _ (by simp)) fun h2 nt=>?_
 obtain ⟨a,b,c⟩:=left_okM (hid:=[T]) FF u hok hfr hfr2 he1 heH (fun b hb=>by rw [List.mem_singleton.mp hb];exact ⟨g6,g7⟩) nt
 exact k h2 a b c nt.2.2.2
theorem pass_leave {what:String} {cenv:Env} (hA:A.frames=some (env::outer)) (hL:env.frame=some L) (FF:s.heap.FunFrames base (env::outer)) (u:Un fr [] H1 H' h1 s.heap) (hok:HOk P w H' s.heap)
  (hfr:∀ b∈frs (env::outer),H' b=none∧(b∈fr∨h1.get? b=none)) (hfr2:∀ b∈fr,b∈frs (env::outer)) (hf:FlyM h1 H' s.heap ea C fl)
  (k:∀ h',Un fr [] H1 H' h1 h'→HOk P w H' h'→Fly h1 H' h' ea C→Q () { s with heap:=h' }):wpAny M A (PySem.passOn what (.ref ea) cenv:Sem Value) (fun _ _=>False) (fun e s'=>e=.ref ea∧wpAny M A (leaving env (.ref ea)) Q E s') s:=by
 obtain ⟨he1,heH,a0,oe,vs,T,oT,ts,g1,⟨g2,g20⟩,g3,g4,g5,g6,g7,g8,g9,g10⟩:=hf
 have FF':s.heap.FunFrames (PySem.W.hideAll s.heap (ea::([T]++frs (env::outer)))) (env::outer):=funFrames_base FF fun b hb=>PySem.W.hideAll_none _ (by simp [hb])
 unfold PySem.passOn setFlight
 refine wpAny_bind (wpAny_field g1 g3 g4 ?_)
 rw [if_neg (show ¬ ((Value.ref T == .none)=true) by simp)]
 refine wpAny_bind (wpAny_bind (wpAny_field g1 g3 g4 ?_))
 rw [if_pos (show (Value.ref T != .none)=true by simp)]
 refine wpAny_setField g8 g9 (Array.getElem?_eq_some_iff.mp g10).1 (wpAny_throw ⟨rfl,?_⟩)
 have oth:∀ b,b≠T→(s.heap.update T (Obj.mapFields fun z=>z.setIfInBounds 3 (cenv.frame.elim Value.none fun f=>rawInt f))).get? b=s.heap.get? b:=fun b hb'=>Heap.get?_update_other _ _ (Ne.symm hb')
 have nT:∀ b o,s.heap.get? b=some o→(∀ z,o.data≠.fields z)→b≠T:=fun b o q hn z=>by
  rw [z,g8] at q;cases q;exact hn ts g9
 have sz:3 < ts.size:=(Array.getElem?_eq_some_iff.mp g10).1
 refine leave_at (base:=PySem.W.hideAll s.heap (ea::([T]++frs (env::outer)))) (cls:=.ref C) (a0:=a0) (v:=cenv.frame.elim Value.none fun f=>rawInt f) hA (FF'.of_keeps fun b o q hn=>⟨o,(oth b (nT b o q hn)).trans q,rfl⟩) hL
  ⟨oe,vs,T,_,_,(oth ea (Ne.symm g5)).trans g1,⟨g2,g20⟩,g3,g4,PySem.W.hideAll_none _ (by simp),g5,Heap.get?_update_self _ g8 (Obj.isFreed_of_fields (Obj.data_mapFields g9 _)),Obj.data_mapFields g9 _,by simp [sz]⟩
  (fun b o q=>(oth b fun z=>(by rw [z,PySem.W.hideAll_none _ (by simp)] at q;cases q)).trans (PySem.W.of_hideAll _ q)) (PySem.W.hideAll_none _ (by simp)) fun h' x=>?_
 obtain ⟨a,b,c⟩:=left_ok (h':=h') (C:=C) (a0:=a0) (hid:=[T]) FF u hok hfr hfr2 he1 heH (fun b hb=>by rw [List.mem_singleton.mp hb];exact ⟨g6,g7⟩) ⟨x.1,x.2.1,x.2.2.1,fun b o q hn=>x.2.2.2 b o ((oth b (nT b o q hn)).trans q) hn⟩
 exact k h' a b c
end
end
def PassA (X:Cx) (E:XK):Prop:=∀ (pins:List (Addr × Obj)) (σ:St) (H':Hp) (s':Shared) (ea C:Addr) (fl:Value) (cenv:Env),Inv X pins σ H' s'→FlyM X.s₀.heap H' s'.heap ea C fl→E (.ref ea) (some C) H' →
 wpAny (model X.prog X.w) X.A (PySem.passOn "comprehension.variables-let-go" (.ref ea) cenv:Sem Value) (fun _ _=>False) X.xe s'
theorem passA {P:Program} {w:World} {K:PySem.W.Frag} {mg:Str→Option Value} {base:Heap} {N:List Str} {qual:Str} {scope:Scope} {f:Addr} {cd:Value} {A:Around} {outer:List Env} {s:Shared} {H:Hp} {E:XK}:PassA (cxOf (CXx P w) P w K mg base N qual scope f cd A outer s H E) E:=by
 intro pins σ H' s' ea C fl cenv J hf hE
 have hsub:=J.stkSub
 have hfree:=J.stkFree
 have hst:=J.stack
 have hfrm:=J.ok.frames
 refine wpAny_mono (pass_leave (P:=P) (w:=w) (fr:=frs outer) (H1:=H) (H':=H') (h1:=s.heap) (base:=base) (E:=fun e' s''=>CXx P w outer H s E e' s'') (Q:=fun _ s''=>CXx P w outer H s E (.ref ea) s'') (env:=envOfC qual scope s.heap.objs.size f cd) (outer:=outer) hfrm rfl hst J.base J.hok (fun b hb=>⟨hfree b hb,?_⟩) (fun b hb=>List.mem_cons_of_mem _ hb) hf fun h' a b c=>?_) (fun _ _ z=>z) fun e s2 z=>?_
 ·rcases List.mem_cons.mp (hsub b hb) with z | z
  ·right
   rw [z]
   exact Heap.get?_none_of_le (Nat.le_refl _)
  ·exact .inl z
 ·exact ⟨ea,C,H',rfl,J.os,J.bare,a,b,c,hE⟩
 ·obtain ⟨rfl,z⟩:=z
  exact z
def cxCompE (X:Cx) (N:List Str) (scope:Scope) (cl:List (Str × Addr)) (C:Addr) (ex:List Addr) (s:Shared) (H:Hp) (E:XK):Cx :=
 { cxComp X N scope cl C ex s H with xe:=fun e s'=>∃ (pins:List (Addr × Obj)) (σ:St) (H1:Hp) (s1:Shared),Inv (cxComp X N scope cl C ex s H) pins σ H1 s1∧CXx X.prog X.w X.stack H1 s1 E e s' }
section
variable {X:Cx} {N:List Str} {scope:Scope} {cl:List (Str × Addr)} {C:Addr} {ex:List Addr} {s:Shared} {H:Hp} {E:XK} {pins:List (Addr × Obj)} {σ:St} {H':Hp} {s':Shared}
theorem Inv.unE (I:Inv (cxCompE X N scope cl C ex s H E) pins σ H' s'):Inv (cxComp X N scope cl C ex s H) pins σ H' s' :=
 ⟨⟨I.ok.mod,I.ok.kind,I.ok.glob,I.ok.blt,I.ok.above,I.ok.inj,I.ok.has,I.ok.cab,I.ok.hd,I.ok.frames,I.ok.stk,I.ok.exf,I.ok.bs,I.ok.bsz,I.ok.noex,I.ok.exfs,I.ok.funs,I.ok.frf⟩,I.os,I.bare,I.base,I.loc,I.cell,I.free,I.freeC,I.pin,I.hok,I.len⟩
theorem Inv.toE (I:Inv (cxComp X N scope cl C ex s H) pins σ H' s'):Inv (cxCompE X N scope cl C ex s H E) pins σ H' s' :=
 ⟨⟨I.ok.mod,I.ok.kind,I.ok.glob,I.ok.blt,I.ok.above,I.ok.inj,I.ok.has,I.ok.cab,I.ok.hd,I.ok.frames,I.ok.stk,I.ok.exf,I.ok.bs,I.ok.bsz,I.ok.noex,I.ok.exfs,I.ok.funs,I.ok.frf⟩,I.os,I.bare,I.base,I.loc,I.cell,I.free,I.freeC,I.pin,I.hok,I.len⟩
theorem passE:Passes (CXx X.prog X.w) (cxCompE X N scope cl C ex s H E) E:=fun pins σ H1 s1 e s' I hx=>⟨pins,σ,H1,s1,I.unE,hx⟩
end
section
variable {prog:Program} {w:World} {A:Around} {R:Result→Shared→Prop} {s:Shared}
theorem comp_turnsX {elt tg iter:Expr} {scope:Scope} {pos:Pos} {it acc:Value} {env:Env} {EE:Value→Shared→Prop} (hE:∀ e s',EE e s'→notedBy (model prog w) A env (fun x s''=>R (.error x) s'') e s') (I:Nat→Shared→Prop)
  (turn:∀ n s,I n s→wpAny (model prog w) A (pyNext it) (fun r s1=>match r with
   | none=>R (.ok .next) s1
   | some v=>wpAny (model prog w) A (letOwnedTupleGo tg it v) (fun _ s2=>wpAny (model prog w) A (assign tg env v) (fun _ s3=>wpAny (model prog w) A (eval elt env) (fun x s4 =>
     wpAny (model prog w) A (call (.builtin "list.append") [acc,x]) (fun _ s5=>∃ m,m < n∧I m s5) EE s4) EE s3) EE s2) noE s1) noE s)
  (n:Nat) (h:I n s):codeAny (model prog w) A (.compLoop (.ListComp elt [⟨tg,iter,[],0⟩] scope pos) 0 it acc env) R s:=by
 have no:∀ (P:Value→Shared→Prop) (a:Value) (b:Shared),noE a b→P a b:=fun _ _ _ z=>False.elim z
 refine codeAny_loop rfl I (fun n s hI=>?_) n h
 show wpAny _ _ ((compTurn (.ListComp elt [⟨tg,iter,[],0⟩] scope pos) 0 it acc env).onRaise
  (fun x=>do noteFrame x env;theTreesLotGoes x)) _ _ s
 refine wpAny_noted ?_
 rw [compTurn_list1]
 refine wpAny_bind (wpAny_standAt (wpAny_bind (wpAny_mono (turn n s hI) (fun r s1 h1=>?_) (no _))))
 cases r with
 | none=>exact wpAny_pure h1
 | some v =>
  refine wpAny_bind (wpAny_mono h1 (fun _ s2 h2=>?_) (no _))
  refine wpAny_bind (wpAny_mono h2 (fun _ s3 h3=>?_) hE)
  refine wpAny_bind (wpAny_bind (wpAny_mono h3 (fun x s4 h4=>?_) hE))
  exact wpAny_bind (wpAny_mono h4 (fun _ s5 h5=>wpAny_pure (wpAny_pure ⟨rfl,h5⟩)) hE)
end
section
variable {X:Cx} {pins:List (Addr × Obj)} {σ:St} {H:Hp} {s:Shared} {N:List Str} {ix:List (Option Nat)} {scope:Scope} {elt iter tg:Expr} {pos:Pos} {g:TG} {te:TE} {E:Value→Shared→Prop}
theorem comp_blockX {E0:XK} {it:Addr} {fp:List Addr} {tn:Nat→Heap→Prop} {J:It} {Qe:Addr→Hp→Prop} {RR:Value→Addr→Result→Shared→Prop} (hc:X.calm=true) (S:CompS X.N X.env.scope N ix scope)
  (hfr:X.env.frame=some X.env.locals) (hstk:X.stack=X.env::X.outer) (hex:X.ex=[]) (hg:∀ cl C ex s H,PG (cxCompE X N scope cl C ex s H E0) tg g) (he:∀ cl C ex s H,PE (cxCompE X N scope cl C ex s H E0) elt te)
  (I:Inv X pins σ H s) (T:Turn X.prog X.w X.K tg J fp it tn) (st:tn 0 s.heap) (hf:∀ b∈fp,FpOk X pins H b)
  (hw:∀ l,H l=none→compW ix J g te σ l (upd H l (.lst [])) (Qe l))
  (hRR:∀ l C s' H' m,s'.heap.Ns C m→Inv X pins σ H' s'→FpOk X pins H' C→Qe l H'→RR (.ref l) C (.ok .next) s')
  (hRX:∀ l C s' H' m ea Ce,s'.heap.Ns C m→Inv X pins σ H' s'→FpOk X pins H' C→FlyM X.s₀.heap H' s'.heap ea Ce (rawInt X.env.locals)→E0 (.ref ea) (some Ce) H'→RR (.ref l) C (.error (.ref ea)) s') :
  wpAny (model X.prog X.w) X.A (newList []) (fun acc s3=>wpAny (model X.prog X.w) X.A (newFunctionEnv scope X.env.globals (closeL X.env.cells scope.names []) [] X.env.qual none .none (some X.env)) (fun cenv s4 =>
   codeAny (model X.prog X.w) X.A (.compStart (.ListComp elt [⟨tg,iter,[],0⟩] scope pos) 0 (.ref it) acc { cenv with scope:=relabel scope X.env }) (RR acc cenv.locals) s4) E s3) E s:=by
 have hlt:∀ b∈fp,b < s.heap.objs.size:=fun b hb=>by
  obtain ⟨o,e,_⟩:=T.obj 0 s.heap st b hb
  exact Heap.lt_size e
 have hl0:H s.heap.objs.size=none:=I.fresh
 obtain ⟨W,⟨m0,w0⟩,turn⟩:=hw s.heap.objs.size hl0
 refine wpAny_newObj_type ?_
 generalize hs3:({ s with heap:=s.heap.push { cls:=.type "list",dict:=none,data:=.seq ([]:List Value).toArray } }:Shared)=s3
 have I3:Inv X pins σ (upd H s.heap.objs.size (.lst [])) s3:=by
  rw [←hs3]
  exact I.lnew (its:=[]) (t':=s.toks) .nil (Nat.zero_le _)
 have k3:∀ b o,s.heap.get? b=some o→s3.heap.get? b=some o:=fun b o e=>by
  rw [←hs3];exact Heap.get?_push_of_some _ e
 have sz3:s3.heap.objs.size=s.heap.objs.size+1:=by rw [←hs3];exact Heap.size_push ..
 have lnfp:s.heap.objs.size∉fp:=fun hb=>Nat.lt_irrefl _ (hlt _ hb)
 have st3:tn 0 s3.heap:=T.keep 0 _ _ st fun b _ o e=>k3 b o e
 have hf3:∀ b∈fp,FpOk X pins (upd H s.heap.objs.size (.lst [])) b:=fun b hb=>by
  obtain ⟨f0,f⟩:=hf b hb
  have nb:b≠s.heap.objs.size:=fun e=>lnfp (by rw [←e];exact hb)
  exact ⟨by rw [upd_ne nb];exact f0,f⟩
 have hlt3:∀ b∈fp,b < s3.heap.objs.size:=fun b hb=>by rw [sz3];exact Nat.lt_succ_of_lt (hlt b hb)
 clear hs3
 refine wpAny_newFunctionEnv S.nocell (by intro y hy;simp at hy) (fun h1 hn1 hb1=>?_) S.kind
 have hk1:∀ b o,s3.heap.get? b=some o→h1.get? b=some o:=fun b o e =>
  (hb1.2 b (Nat.ne_of_lt (Heap.lt_size e))).trans (Heap.get?_push_of_some _ e)
 have J0:Inv (cxCompE X N scope (closeL X.env.cells scope.names []) s3.heap.objs.size fp s3 (upd H s.heap.objs.size (.lst [])) E0) [] (compSt ix σ) (upd H s.heap.objs.size (.lst [])) { s3 with heap:=h1,toks:=s3.toks+([]:List (Str × Value)).length } :=
  (comp_inv I3 S rfl hf3 hlt3 hn1 hk1).toE
 have st1:tn 0 h1:=T.keep 0 _ _ st3 fun b _ o e=>hk1 b o e
 have fpY:∀ {Hc:Hp},(∀ b∈fp,Hc b=none)→∀ b∈fp,FpOk (cxCompE X N scope (closeL X.env.cells scope.names []) s3.heap.objs.size fp s3 (upd H s.heap.objs.size (.lst [])) E0) [] Hc b:=fun {Hc} hn b hb=>by
  obtain ⟨_,f1,f2,_,f4,_⟩:=hf3 b hb
  refine ⟨hn b hb,Nat.ne_of_lt (hlt3 b hb),fun hb2=>(List.mem_cons.mp (I3.stkSub b hb2)).elim f1 f2,.inl hb,fun x c e=>f4 x c (comp_look I3 S e),fun p hp=>absurd (show p∈([]:List (Addr × Obj)) from hp) (by simp)⟩
 have loop:∀ s4:Shared,s4=({ s3 with heap:=h1,toks:=s3.toks+([]:List (Str × Value)).length }:Shared)→codeAny (model X.prog X.w) X.A (.compLoop (.ListComp elt [⟨tg,iter,[],0⟩] scope pos) 0 (.ref it) (.ref s.heap.objs.size)
   (compEnvC scope (closeL X.env.cells scope.names []) s3.heap.objs.size X.env)) (RR (.ref s.heap.objs.size) s3.heap.objs.size) s4:=by
  intro s4 hs4
  subst hs4
  refine comp_turnsX (EE:=(cxCompE X N scope (closeL X.env.cells scope.names []) s3.heap.objs.size fp s3 (upd H s.heap.objs.size (.lst [])) E0).xe) (fun e s' z=>?_) (fun n s'=>∃ i ys Hc,Inv (cxCompE X N scope (closeL X.env.cells scope.names []) s3.heap.objs.size fp s3 (upd H s.heap.objs.size (.lst [])) E0) [] (compSt ix σ) Hc s'∧tn i s'.heap∧(∀ b∈fp,Hc b=none)∧Hc s.heap.objs.size=some (.lst ys)∧W i n ys Hc) ?_ m0 ⟨0,[],_,J0,st1,fun b hb=>(hf3 b hb).1,upd_same,w0⟩
  ·obtain ⟨pins',σ',H1,s1,J1,ea,Ce,H',rfl,os,bare,un,hok,fly,hEE⟩:=z
   have J:=J1.call' (ch:=[]) os un hok bare (fun b z=>absurd z (by simp))
   have FF:s'.heap.FunFrames X.base (X.env::X.outer):=by rw [←hstk];exact J.stack
   have un':Un (frs (X.env::X.outer)) [] H1 H' s1.heap s'.heap:=by rw [←hstk];exact un
   have hfree:∀ b∈frs (X.env::X.outer),H' b=none∧(b∈frs (X.env::X.outer)∨s1.heap.get? b=none):=fun b hb=>⟨J.stkFree b (by show b∈frs X.stack;rw [hstk];exact hb),.inl hb⟩
   show wpAny (model X.prog X.w) X.A (noteFrame (.ref ea) X.env) _ _ s'
   refine noted_ok (P:=X.prog) (w:=X.w) (fr:=frs (X.env::X.outer)) (H1:=H1) (H':=H') (h1:=s1.heap) (base:=X.base) (outer:=X.outer) (L:=X.env.locals) (by rw [I.ok.frames,hstk]) hfr FF un' hok hfree (fun b hb=>hb) fly fun h2 u2 k2 f2 _=>?_
   have J2:=J1.call' (s':={ s' with heap:=h2 }) (ch:=[]) os (by show Un (frs X.stack) [] H1 H' s1.heap h2;rw [hstk];exact u2) k2 bare (fun b z=>absurd z (by simp))
   have I6:Inv X pins σ H' { s' with heap:=h2 }:=I3.call' (ch:=fp) J2.os J2.base J2.hok J2.bare fun b hb=>by
    obtain ⟨_,f1,f2,f3,f4,f5⟩:=hf3 b hb
    exact ⟨f3,f1,f4,f5⟩
   obtain ⟨m6,hn6,_⟩:=J2.loc
   have up:∀ b,s1.heap.get? b=none→X.s₀.heap.get? b=none:=fun b z=>by
    cases q:X.s₀.heap.get? b with
    | none=>rfl
    | some o =>
     obtain ⟨o3,e3⟩:=I3.base.there b o q (by rw [hex];simp)
     obtain ⟨o4,e4⟩:=J1.base.there b o3 e3 (fun hb=>by
      obtain ⟨_,_,_,f3,_⟩:=hf3 b hb
      rcases f3 with f3 | f3
      ·rw [hex] at f3;cases f3
      ·exact absurd (Nat.lt_of_lt_of_le (Heap.lt_size q) f3) (Nat.lt_irrefl _))
     rw [z] at e4;cases e4
   obtain ⟨a1,a2,a0,oe,vs,T,oT,ts,g1,g2,g3,g4,g5,g6,r⟩:=f2
   exact hRX _ _ _ H' m6 ea Ce hn6 I6 (I3.fpOk (Nat.le_refl _) J2.free) ⟨up _ a1,a2,a0,oe,vs,T,oT,ts,g1,g2,g3,g4,g5,up _ g6,r⟩ hEE
  rintro n s5 ⟨i,ys,Hc,J5,st5,fr5,hl5,w5⟩
  rcases turn i n ys Hc w5 hl5 with ⟨stop,qe⟩ | ⟨go,hz,NN,hNN,step⟩
  ·refine thn (T.done (cxCompE X N scope (closeL X.env.cells scope.names []) s3.heap.objs.size fp s3 (upd H s.heap.objs.size (.lst [])) E0) rfl rfl rfl hc i [] s5 _ Hc noE J5 (fpY fr5) st5 stop) fun r s6 ⟨hr,J6⟩=>?_
   subst hr
   have I6:Inv X pins σ Hc s6:=I3.call' (ch:=fp) J6.os J6.base J6.hok J6.bare fun b hb=>by
    obtain ⟨_,f1,f2,f3,f4,f5⟩:=hf3 b hb
    exact ⟨f3,f1,f4,f5⟩
   obtain ⟨m6,hn6,_⟩:=J6.loc
   exact hRR _ _ s6 Hc m6 hn6 I6 (I3.fpOk (Nat.le_refl _) J6.free) qe
  ·refine thn (T.item (cxCompE X N scope (closeL X.env.cells scope.names []) s3.heap.objs.size fp s3 (upd H s.heap.objs.size (.lst [])) E0) rfl rfl rfl hc i [] s5 _ Hc noE J5 (fpY fr5) st5 go) fun r s6 ⟨u,hr,h6⟩=>?_
   subst hr
   refine thn h6 fun _ s7 ⟨x,H7,J7,r7,y7,st7,fr7⟩=>?_
   have J7':=J7.pinned (fpY fr7) (T.obj _ _ st7)
   refine thn (hg _ _ _ _ _ _ s7 _ H7 x u _ J7' r7 (step x H7 y7)) fun _ s8 ⟨σ8,H8,J8,q8⟩=>?_
   refine wpAny_mono (he _ _ _ _ _ _ s8 σ8 H8 _ J8 q8) (fun y s9 ⟨v,H9,J9,r9,hl9,n9⟩=>?_) fun _ _ z=>z
   obtain ⟨m',hm',w9⟩:=hNN _ _ n9
   refine thn (mt_append (X:=cxCompE X N scope (closeL X.env.cells scope.names []) s3.heap.objs.size fp s3 (upd H s.heap.objs.size (.lst [])) E0) _ s9 σ8 H9 (.ref s.heap.objs.size) [v] (.ref s.heap.objs.size) [y]
    (fun z Hz=>z=.non∧Hz=upd H9 s.heap.objs.size (.lst (ys++[v]))) J9 rfl (.cons r9 .nil) ⟨_,ys,v,rfl,rfl,hl9,hz,rfl,rfl⟩) fun _ s10 ⟨_,H10,J10,_,_,e10⟩=>?_
   subst e10
   have len8:(compSt ix σ).length=σ8.length:=by
    rw [J10.len]
    unfold compSt
    rw [List.length_map]
    exact S.len
   refine ⟨m',hm',i+1,ys++[v],_,?_,T.keep _ _ _ st7 fun b hb o e=>(J10.pin (b,o) (List.mem_append_right _ (List.mem_append_right _ (mem_pinsAt hb e)))).1,fun b hb=>?_,upd_same,w9⟩
   ·exact (comp_again I3 S J10.unE).toE
   ·obtain ⟨o,e,d⟩:=T.obj _ _ st7 b hb
    exact (J10.pin (b,o) (List.mem_append_right _ (List.mem_append_right _ (mem_pinsAt hb e)))).2.1
 exact codeAny_compStart_list (loop _ rfl) (T.self _ 0 _ _ _ st1 (loop _ rfl))
theorem ps_compX {E0:XK} {wi:TI} {i:Nat} {x:Str} {spos pos':Pos} (hc:X.calm=true) (S:CompS X.N X.env.scope N ix scope) (hi:PI X tg iter wi) (hfr:X.env.frame=some X.env.locals) (hstk:X.stack=X.env::X.outer) (hex:X.ex=[]) (hpa:PassA X E0)
  (hg:∀ cl C ex s H,PG (cxCompE X N scope cl C ex s H E0) tg g) (he:∀ cl C ex s H,PE (cxCompE X N scope cl C ex s H E0) elt te)
  (hN:X.N.Nodup) (hx:X.N[i]?=some x) (hl:X.env.scope.names.lookup x=some .local)
  (hsw:swapsWith (.ListComp elt [⟨tg,iter,[],0⟩] scope pos) (some (.Name x pos')) spos.line X.env=pure true:=by rfl)
  (hs:∀ x,foldedSetIterable iter X.env x=pure x:=by intro _;rfl):PS X (.Assign [.Name x pos'] (.ListComp elt [⟨tg,iter,[],0⟩] scope pos) spos) (tAsg (tComp ix wi g te) (gName i)):=by
 intro pins s σ H D I h
 rw [exec_Assign_Name_used _ _ _ _ hsw]
 refine wpAny_bind (wpAny_standAt (wpAny_bind ?_))
 show wpAny _ _ (comprehension (.ListComp elt [⟨tg,iter,[],0⟩] scope pos) scope X.env _ (newList []) false (eval iter X.env) (some (assign (.Name x pos') X.env)) >>= fun _=>pure ()) _ _ s
 refine wpAny_bind (wpAny_mono (wpAny_comprehension_free (use:=some (assign (.Name x pos') X.env)) (Q:=fun _ s'=>SP X pins D .next s') rfl hs (closureFor_run (comp_cells I S)) S.kind S.names
  (thn (hi pins s σ H _ I h) fun v s1 h1=>thn h1 fun itv s2 h2=>?_)) (fun _ s' q=>wpAny_pure (wpAny_pure q)) fun _ _ e=>e)
 obtain ⟨it,fp,tn,J,H2,e,I2,T,st2,f2,hw⟩:=h2
 subst e
 refine comp_blockX (RR:=fun acc C=>compPost (model X.prog X.w) X.A X.xe (some (assign (.Name x pos') X.env)) (fun _ s'=>SP X pins D .next s') acc C) hc S hfr hstk hex hg he I2 T st2 f2 hw (fun l C s' H' m hn I' fC q=>?_) fun l C s' H' m ea Ce hn I' fC fly hE=>⟨m,hn,fun h' hs' cenv _=>?_⟩
 ·obtain ⟨c0,c1,c2,c3,c4,c5⟩:=fC
  show wpAny _ _ (assign (.Name x pos') X.env (.ref l)) _ _ _
  refine wpAny_assign_Name (store_ok2 I' hN hx (.inl hl) (v:=.ref l) rfl (fun s'' I'' ⟨a,sb,ha⟩=>?_) (.inr hl))
  have haC:C≠a:=by
   rcases ha with ha | ha
   ·rw [ha];exact c1
   ·exact fun z=>c4 x a ha z.symm
  refine ⟨m,hn.sameBut sb haC,fun h' hs'=>?_⟩
  exact ⟨_,H',I''.turned (t':=s''.toks) (fun b o hb e=>(hs'.2 b hb).trans e) c0 c1 c3 c4 c5,q⟩
 ·obtain ⟨c0,c1,c2,c3,c4,c5⟩:=fC
  have I2':=I'.turned (t':=s'.toks) (h':=h') (fun b o hb e=>(hs'.2 b hb).trans e) c0 c1 c3 c4 c5
  obtain ⟨oC,_,_,eC,dC,_⟩:=hn
  have nC:∀ b o vs,s'.heap.get? b=some o→o.data=.fields vs→b≠C:=fun b o vs e d z=>by
   rw [z,eC] at e;cases e;rw [dC] at d;cases d
  obtain ⟨a1,a2,a0,oe,vs,T,oT,ts,g1,g2,g3,g4,g5,g6,g7,g8,g9,g10⟩:=fly
  exact hpa pins σ H' { s' with heap:=h' } ea Ce _ cenv I2' ⟨a1,a2,a0,oe,vs,T,oT,ts,(hs'.2 _ (nC _ _ _ g1 g3)).trans g1,g2,g3,g4,g5,g6,g7,(hs'.2 _ (nC _ _ _ g8 g9)).trans g8,g9,g10⟩ hE
end
end L2

set_option Elab.async false
set_option linter.all false
set_option maxRecDepth 100000
set_option maxHeartbeats 4000000
namespace L2
open PySem PySem.Spec PyProof.Rows
/-! ### a try with three excepts -/
def XE3 (C C2 C3:Addr) (n:Nat) (th th2 th3:TS) (D:Ends):XK:=fun _ C' H'=>(C'=some C∧∀ σ:St,σ.length=n→th D σ H')∨(C'=some C2∧∀ σ:St,σ.length=n→th2 D σ H')∨(C'=some C3∧∀ σ:St,σ.length=n→th3 D σ H')
theorem ps_try3 {X:Cx} {x x2 x3:Str} {C C2 C3:Addr} {newId newId2 newId3:String} {bmB bmB2 bmB3:List Value} {np hpos np2 hpos2 np3 hpos3 pos:Pos} {body suite suite2 suite3:List Stmt} {b₀ b₂ b₃:Stmt} {tb:Ends→TS} {th th2 th3:TS} (hfr:X.env.frame=some X.env.locals) (hstk:X.stack=X.env::X.outer)
  (hx:X.mg x=some (.ref C)) (hg:Gl X x) (he:PySem.W.excIn X.K C bmB newId=true) (hB:bmB.contains (.type "BaseException")=true)
  (hx2:X.mg x2=some (.ref C2)) (hg2:Gl X x2) (he2:PySem.W.excIn X.K C2 bmB2 newId2=true) (hB2:bmB2.contains (.type "BaseException")=true) (hap:apartIn X.K C2 C=true) (hx3:X.mg x3=some (.ref C3)) (hg3:Gl X x3) (he3:PySem.W.excIn X.K C3 bmB3 newId3=true) (hB3:bmB3.contains (.type "BaseException")=true) (hap3:apartIn X.K C3 C=true) (hap4:apartIn X.K C3 C2=true)
  (hb:∀ pn E1 D,Passes (CXx X.prog X.w) (X.tried pn E1) (XE3 C C2 C3 X.N.length th th2 th3 D)→PSs (X.tried pn E1) body (tb D))
  (hs:∀ e,PSs (X.sup e) (b₀::suite) th) (hs2:∀ e,PSs (X.sup e) (b₂::suite2) th2) (hs3:∀ e,PSs (X.sup e) (b₃::suite3) th3) (hdb:(x == ("__debug__":Str))=false:=by decide) (hdb2:(x2 == ("__debug__":Str))=false:=by decide) (hdb3:(x3 == ("__debug__":Str))=false:=by decide) :
  PS X (.Try body [.ExceptHandler (some (.Name x np)) none (b₀::suite) hpos,.ExceptHandler (some (.Name x2 np2)) none (b₂::suite2) hpos2,.ExceptHandler (some (.Name x3 np3)) none (b₃::suite3) hpos3] [] [] pos) (fun D σ H=>tb D D σ H):=by
 intro pins s σ H D I h
 refine wpAny_Try_except ?_
 have pass:Passes (CXx X.prog X.w) (X.tried (X.pn++pins) fun e s₁=>wpAny (model X.prog X.w) X.A (noteFrame e X.env) (fun _ s₂=>wpAny (model X.prog X.w) X.A (setFlight e none) (fun _ s₃=>wpAny (model X.prog X.w) X.A (handleBy e X.env [.ExceptHandler (some (.Name x np)) none (b₀::suite) hpos,.ExceptHandler (some (.Name x2 np2)) none (b₂::suite2) hpos2,.ExceptHandler (some (.Name x3 np3)) none (b₃::suite3) hpos3]) (SP X pins D) X.xe s₃) X.xe s₂) X.xe s₁) (XE3 C C2 C3 X.N.length th th2 th3 D):=by
  intro pins' σ' H1 s1 e s' I1 hx'
  obtain ⟨ea,Ce,H',rfl,os,bare,un,hok,fly,hE⟩:=hx'
  have J:=I1.call' (ch:=[]) os un hok bare (fun b z=>absurd z (by simp))
  have FF:s'.heap.FunFrames X.base (X.env::X.outer):=by have:=J.stack;rw [show (X.tried (X.pn++pins) _).stack=X.stack from rfl,hstk] at this;exact this
  have un':Un (frs (X.env::X.outer)) [] H1 H' s1.heap s'.heap:=by rw [←hstk];exact un
  have hfree:∀ b∈frs (X.env::X.outer),H' b=none∧(b∈frs (X.env::X.outer)∨s1.heap.get? b=none):=fun b hb=>⟨J.stkFree b (by show b∈frs X.stack;rw [hstk];exact hb),.inl hb⟩
  refine land_ok (P:=X.prog) (w:=X.w) (fr:=frs (X.env::X.outer)) (H1:=H1) (H':=H') (h1:=s1.heap) (base:=X.base) (outer:=X.outer) (L:=X.env.locals) (by rw [I.ok.frames,hstk]) hfr FF un' hok hfree (fun b hb=>hb) fly fun h2 u2 k2 f2=>?_
  have mk:∀ h3,Un (frs (X.env::X.outer)) [] H1 H' s1.heap h3→HOk X.prog X.w H' h3→Inv (X.sup ea) pins σ' H' { s' with heap:=h3 }:=fun h3 u3 k3=>by
   have J3:=I1.call' (s':={ s' with heap:=h3 }) (ch:=[]) os (by show Un (frs X.stack) [] H1 H' s1.heap h3;rw [hstk];exact u3) k3 bare (fun b z=>absurd z (by simp))
   exact ⟨I.ok.sup ea,J3.os,J3.bare,J3.base,J3.loc,J3.cell,J3.free,J3.freeC,fun p hp=>J3.pin p (List.mem_append_left _ hp),J3.hok,J3.len⟩
  have J2:=mk h2 u2 k2
  rcases hE with ⟨hC,hth⟩ | ⟨hC,hth⟩ | ⟨hC,hth⟩
  ·cases hC
   obtain ⟨bm,NN,nm,q,bs,hd,sn,sub,ab,col,dict,a0,a1,a2,a3,a5,mN,hC,hN,hi,ht⟩:=exc_obj J2.kIn he
   refine wpAny_handleBy_cons (codeAny_handlers_test (ld_glob J2 hg hx ?_ hdb)) (by intro z;cases z)
   obtain ⟨_,_,b0,oe,vs,T,oT,ts,g1,⟨g2,_⟩,_⟩:=id f2
   refine wpAny_excMatches_sub_self hC g1 g2 (tail_has ht hB) ?_
   refine codeAny_handlers_suite ?_
   refine again_ok (P:=X.prog) (w:=X.w) (fr:=frs (X.env::X.outer)) (H1:=H1) (H':=H') (h1:=s1.heap) (base:=X.base) (env:=X.env) (outer:=X.outer) (by have:=J2.stack;rw [show (X.sup ea).stack=X.stack from rfl,hstk] at this;exact this) u2 k2 hfree (fun b hb=>hb) f2 fun h3 u3 k3 f3=>?_
   have J3:=mk h3 u3 k3
   refine wpAny_mono (hs ea pins _ σ' H' D J3 (hth σ' J3.len)) (fun f s4 sp=>?_) fun _ _ z=>False.elim z
   have back:∀ {σ4 H4},Inv (X.sup ea) pins σ4 H4 s4→Inv X pins σ4 H4 s4:=fun K4=>⟨I.ok,K4.os,K4.bare,K4.base,K4.loc,K4.cell,K4.free,K4.freeC,K4.pin,K4.hok,K4.len⟩
   cases f with
   | next=>obtain ⟨σ4,H4,K4,q⟩:=sp;exact ⟨σ4,H4,back K4,q⟩
   | brk=>obtain ⟨σ4,H4,K4,q⟩:=sp;exact ⟨σ4,H4,back K4,q⟩
   | cont=>obtain ⟨σ4,H4,K4,q⟩:=sp;exact ⟨σ4,H4,back K4,q⟩
   | ret u=>obtain ⟨v,σ4,H4,K4,r,q⟩:=sp;exact ⟨v,σ4,H4,back K4,r,q⟩
  ·cases hC
   obtain ⟨bm,NN,nm,q,bs,hd,sn,sub,ab,col,dict,a0,a1,a2,a3,a5,mN,hC,hN,hi,ht⟩:=exc_obj J2.kIn he
   obtain ⟨bm',NN',nm',q',bs',hd',sn',sub',ab',col',dict',a0',a1',a2',a3',a5',mN',hC',hN',hi',ht',hno'⟩:=exc_obj2 J2.kIn he2 hap
   obtain ⟨_,_,b0',oe',vs',T',oT',ts',g1',⟨g2',_⟩,_⟩:=id f2
   refine wpAny_handleBy_cons (codeAny_handlers_test (ld_glob J2 hg hx ?_ hdb)) (by intro z;cases z)
   refine exc_other hC' hC g1' g2' (tail_has ht hB) hno' ?_
   refine wpAny_handleBy_cons (codeAny_handlers_test (ld_glob J2 hg2 hx2 ?_ hdb2)) (by intro z;cases z)
   obtain ⟨_,_,b0,oe,vs,T,oT,ts,g1,⟨g2,_⟩,_⟩:=id f2
   refine wpAny_excMatches_sub_self hC' g1 g2 (tail_has ht' hB2) ?_
   refine codeAny_handlers_suite ?_
   refine again_ok (P:=X.prog) (w:=X.w) (fr:=frs (X.env::X.outer)) (H1:=H1) (H':=H') (h1:=s1.heap) (base:=X.base) (env:=X.env) (outer:=X.outer) (by have:=J2.stack;rw [show (X.sup ea).stack=X.stack from rfl,hstk] at this;exact this) u2 k2 hfree (fun b hb=>hb) f2 fun h3 u3 k3 f3=>?_
   have J3:=mk h3 u3 k3
   refine wpAny_mono (hs2 ea pins _ σ' H' D J3 (hth σ' J3.len)) (fun f s4 sp=>?_) fun _ _ z=>False.elim z
   have back:∀ {σ4 H4},Inv (X.sup ea) pins σ4 H4 s4→Inv X pins σ4 H4 s4:=fun K4=>⟨I.ok,K4.os,K4.bare,K4.base,K4.loc,K4.cell,K4.free,K4.freeC,K4.pin,K4.hok,K4.len⟩
   cases f with
   | next=>obtain ⟨σ4,H4,K4,q⟩:=sp;exact ⟨σ4,H4,back K4,q⟩
   | brk=>obtain ⟨σ4,H4,K4,q⟩:=sp;exact ⟨σ4,H4,back K4,q⟩
   | cont=>obtain ⟨σ4,H4,K4,q⟩:=sp;exact ⟨σ4,H4,back K4,q⟩
   | ret u=>obtain ⟨v,σ4,H4,K4,r,q⟩:=sp;exact ⟨v,σ4,H4,back K4,r,q⟩
  ·cases hC
   obtain ⟨bm,NN,nm,q,bs,hd,sn,sub,ab,col,dict,a0,a1,a2,a3,a5,mN,hC,hN,hi,ht⟩:=exc_obj J2.kIn he
   obtain ⟨bm',NN',nm',q',bs',hd',sn',sub',ab',col',dict',a0',a1',a2',a3',a5',mN',hC',hN',hi',ht',hno'⟩:=exc_obj2 J2.kIn he3 hap3
   obtain ⟨bm2,NN2,nm2,q2,bs2,hd2,sn2,sub2,ab2,col2,dict2,e0,e1,e2,e3,e5,mN2,hC2,hN2,hi2,ht2⟩:=exc_obj J2.kIn he2
   obtain ⟨bm3,NN3,nm3,q3,bs3,hd3,sn3,sub3,ab3,col3,dict3,f0,f1,f22,f3,f5,mN3,hC3,hN3,hi3,ht3,hno3⟩:=exc_obj2 J2.kIn he3 hap4
   obtain ⟨_,_,b0',oe',vs',T',oT',ts',g1',⟨g2',_⟩,_⟩:=id f2
   refine wpAny_handleBy_cons (codeAny_handlers_test (ld_glob J2 hg hx ?_ hdb)) (by intro z;cases z)
   refine exc_other hC' hC g1' g2' (tail_has ht hB) hno' ?_
   refine wpAny_handleBy_cons (codeAny_handlers_test (ld_glob J2 hg2 hx2 ?_ hdb2)) (by intro z;cases z)
   refine exc_other hC3 hC2 g1' g2' (tail_has ht2 hB2) hno3 ?_
   refine wpAny_handleBy_cons (codeAny_handlers_test (ld_glob J2 hg3 hx3 ?_ hdb3)) (by intro z;cases z)
   obtain ⟨_,_,b0,oe,vs,T,oT,ts,g1,⟨g2,_⟩,_⟩:=id f2
   refine wpAny_excMatches_sub_self hC' g1 g2 (tail_has ht' hB3) ?_
   refine codeAny_handlers_suite ?_
   refine again_ok (P:=X.prog) (w:=X.w) (fr:=frs (X.env::X.outer)) (H1:=H1) (H':=H') (h1:=s1.heap) (base:=X.base) (env:=X.env) (outer:=X.outer) (by have:=J2.stack;rw [show (X.sup ea).stack=X.stack from rfl,hstk] at this;exact this) u2 k2 hfree (fun b hb=>hb) f2 fun h3 u3 k3 f3=>?_
   have J3:=mk h3 u3 k3
   refine wpAny_mono (hs3 ea pins _ σ' H' D J3 (hth σ' J3.len)) (fun f s4 sp=>?_) fun _ _ z=>False.elim z
   have back:∀ {σ4 H4},Inv (X.sup ea) pins σ4 H4 s4→Inv X pins σ4 H4 s4:=fun K4=>⟨I.ok,K4.os,K4.bare,K4.base,K4.loc,K4.cell,K4.free,K4.freeC,K4.pin,K4.hok,K4.len⟩
   cases f with
   | next=>obtain ⟨σ4,H4,K4,q⟩:=sp;exact ⟨σ4,H4,back K4,q⟩
   | brk=>obtain ⟨σ4,H4,K4,q⟩:=sp;exact ⟨σ4,H4,back K4,q⟩
   | cont=>obtain ⟨σ4,H4,K4,q⟩:=sp;exact ⟨σ4,H4,back K4,q⟩
   | ret u=>obtain ⟨v,σ4,H4,K4,r,q⟩:=sp;exact ⟨v,σ4,H4,back K4,r,q⟩
 have I0:∀ E,Inv (X.tried (X.pn++pins) E) [] σ H s:=fun E=>⟨I.ok.tried _ _,I.os,I.bare,I.base,I.loc,I.cell,I.free,I.freeC,fun p hp=>I.pin p (by rw [List.append_nil] at hp;exact hp),I.hok,I.len⟩
 refine wpAny_mono (hb (X.pn++pins) _ D pass [] s σ H D (I0 _) h) (fun f s1 sp=>?_) fun e s1 z=>z
 have back:∀ {E σ4 H4 s4},Inv (X.tried (X.pn++pins) E) [] σ4 H4 s4→Inv X pins σ4 H4 s4:=fun K4=>⟨I.ok,K4.os,K4.bare,K4.base,K4.loc,K4.cell,K4.free,K4.freeC,fun p hp=>K4.pin p (by rw [List.append_nil];exact hp),K4.hok,K4.len⟩
 cases f with
 | next=>obtain ⟨σ4,H4,K4,q⟩:=sp;exact wpAny_execs_nil ⟨σ4,H4,back K4,q⟩
 | brk=>obtain ⟨σ4,H4,K4,q⟩:=sp;exact ⟨σ4,H4,back K4,q⟩
 | cont=>obtain ⟨σ4,H4,K4,q⟩:=sp;exact ⟨σ4,H4,back K4,q⟩
 | ret u=>obtain ⟨v,σ4,H4,K4,r,q⟩:=sp;exact ⟨v,σ4,H4,back K4,r,q⟩
def isStr:Expr→Bool
 | .Constant (.str _) _ _=>true
 | _=>false
def strOf:Expr→V
 | .Constant (.str x) _ _=>.str x
 | _=>.non
theorem pa_texts {X:Cx}:∀ {es:List Expr},es.all isStr=true→PA X es (fun _ H Q=>Q (es.map strOf) H)
 | [],_=>pa_nil
 | e::es,h=>by
  obtain ⟨h1,h2⟩:isStr e=true∧es.all isStr=true:=by rw [List.all_cons,Bool.and_eq_true] at h;exact h
  obtain ⟨x,j,p,rfl⟩:∃ x j p,e=.Constant (.str x) j p:=by
   unfold isStr at h1
   split at h1
   ·exact ⟨_,_,_,rfl⟩
   ·cases h1
  exact pa_cons pe_str (pa_texts h2)
end L2

set_option Elab.async false
set_option linter.all false
set_option maxRecDepth 100000
set_option maxHeartbeats 4000000
namespace Gu
open PySem L2
theorem len4 {α:Type} {us:List α} (h:us.length=4):∃ a b c d,us=[a,b,c,d]:=by
 cases us with
 | nil=>cases h
 | cons a r =>
  obtain ⟨b,c,d,rfl⟩:=len3 (show r.length=3 by simpa using h)
  exact ⟨a,b,c,d,rfl⟩
/-! ### refusals alone -/
def spOrdR (Cb:Addr):Sp:=fun vs H Q E=>∃ (v:V) (m:Int),vs=[v,.int m]∧(m < 1∨64 < m)∧TMx Cb E H
def spTimR (Cb:Addr):Sp:=fun vs H Q E=>∃ (v:V) (m:Int),vs=[v,.int m]∧(m < -64∨64 < m)∧TMx Cb E H
def spBehR (K:PySem.W.Frag) (Cw:Addr):Sp:=fun vs H Q E=>∃ (v u:V) (rows:List Row) (n:Nat) (w:List Int),vs=[v,u]∧Dr K H (D.tup (rowsD rows)) v∧Dr K H (D.its w) u∧GoodM n rows∧n≤60∧w.length≤4900∧¬ LW n w∧TMx Cw E H
def spCmpR (K:PySem.W.Frag) (Ct Cb:Addr):Sp:=fun vs H Q E=>∃ (l:Addr) (v:V) (one:List Row) (n:Nat) (many:Int),vs=[.ref l,.int many]∧H l=some (.lst [v,v])∧Dr K H (D.tup (rowsD one)) v∧GoodM n one∧2≤n∧n≤5∧many < 2 ^ 61∧(many < 0→TMx Cb E H)∧(0≤many→1024 < n ^ many.toNat∧TMx Ct E H)
def cls31 (d:Nat) (far:Int):Nat:=if d=0 then 1 else if d≤3 then (if far < 0 then 2 else 3) else if d≤6 then 2 else if d=7 then (if far < 0 then 2 else 0) else if d=8 then 2 else 1
def txt31:Nat→V
 | 0=>.str ""
 | 1=>.str "bad"
 | 2=>.str "count"
 | _=>.str "many"
def Rs31 (Cw Cb Ct:Addr) (E:XK) (H:Hp) (k:Nat):Prop:=(k=1→TMx Cw E H)∧(k=2→TMx Cb E H)∧(k=3→TMx Ct E H)
structure In31 (K:PySem.W.Frag) (H:Hp) (v:V) (one:List Row) (n:Nat) (b far:Int):Prop where
 dr:Dr K H (D.tup (rowsD one)) v
 gm:GoodM n one
 n2:2≤n
 n5:n≤5
 o8:one.length≤8
 bd:¬ (0≤b∧b < (n:Int))
 f1:-51≤far
 f2:far≤60
 f3:far < 0∨11≤far
theorem In31.mono {K:PySem.W.Frag} {H H':Hp} {v:V} {one:List Row} {n:Nat} {b far:Int} (h:In31 K H v one n b far) (s:Same H H'):In31 K H' v one n b far:=⟨h.dr.mono s,h.gm,h.n2,h.n5,h.o8,h.bd,h.f1,h.f2,h.f3⟩
theorem In31.big {K:PySem.W.Frag} {H:Hp} {v:V} {one:List Row} {n:Nat} {b far:Int} (h:In31 K H v one n b far) (z:0≤far):1024 < n ^ far.toNat:=by
 have h3:=h.f3
 have e1:n ^ 11≤n ^ far.toNat:=Nat.pow_le_pow_right (by have:=h.n2;omega) (by omega)
 have e2:2 ^ 11≤n ^ 11:=Nat.pow_le_pow_left h.n2 11
 omega
def spFirst31 (K:PySem.W.Frag) (Cw Cb Ct:Addr):Sp:=fun vs H Q E=>∃ (v:V) (one:List Row) (n d:Nat) (b far:Int),vs=[.int d,v,.int b,.int far]∧In31 K H v one n b far∧(7≤d→∀ H',Same H H'→Q .non H')∧(d≤6→Rs31 Cw Cb Ct E H (cls31 d far))
def spSecond31 (K:PySem.W.Frag) (Cw Cb Ct:Addr):Sp:=fun vs H Q E=>∃ (v:V) (one:List Row) (n d:Nat) (b far:Int),vs=[.int d,v,.int b,.int far]∧In31 K H v one n b far∧7≤d∧d≤12∧(cls31 d far=0→∀ H',Same H H'→Q .non H')∧Rs31 Cw Cb Ct E H (cls31 d far)
def spTold31 (K:PySem.W.Frag):Sp:=fun vs H Q E=>∃ (v:V) (one:List Row) (n d:Nat) (b far:Int),vs=[.int d,v,.int b,.int far]∧In31 K H v one n b far∧d≤12∧∀ H',Same H H'→Q (txt31 (cls31 d far)) H'
end Gu

set_option Elab.async false
set_option linter.all false
set_option maxRecDepth 100000
set_option maxHeartbeats 4000000
namespace Gu
open PySem L2
section
variable {P:Program} {w:World} {K:PySem.W.Frag} {mg:Str→Option Value} {base:Heap} {f g:Addr} {fd gd:FuncData} {CX:CXT} [NoE CX]
theorem scCell:FnScope ["_law_script","_law_at"] ["_law_script","_law_at"] (defScope sCell):=⟨rfl,rfl,rfl,by decide +kernel,rfl,by decide +kernel,by decide +kernel⟩
theorem ok_cell (F:Fun K "_law_cell" "_law_cell" sCell f fd) (ml:mg "len"=none):FnOk P w K mg base CX 1 f fd ["_law_script","_law_at"] (spCell K):=by
 refine F.okc scCell (fun vs H Q E h=>?_) (fun cdv A outer s H vs Q E hr h=>?_)
 ·obtain ⟨a,ns,i,rfl,_⟩:=h
  rfl
 obtain ⟨a,ns,i,rfl,hS,h63,hi,q⟩:=h
 refine ⟨_,pss_cons (ps_if (pt_cmpR op_lt (pv 1) (pe_callB call_len_seq rfl ml PySem.boot_len (pa_cons (pv 0) pa_nil)) (nomark _)) (pss_one (ps_ret (pe_ix ix_list (pv 0) (pv 1) (fun _ _=>rfl)))) pss_nil)
  (pss_cons (ps_if (pt_cmpR op_eq (pe_callB call_len_seq rfl ml PySem.boot_len (pa_cons (pv 0) pa_nil)) pe_int (nomark _)) (pss_one (ps_ret (pe_op op_add (pe_op op_mul pe_int (pv 1)) pe_int))) pss_nil)
  (pss_one (ps_ret (pe_op op_add (pe_op op_mod (pe_ix ix_list (pv 0) (pe_op op_mod (pv 1) (pe_callB call_len_seq rfl ml PySem.boot_len (pa_cons (pv 0) pa_nil))) (fun _ _=>rfl)) pe_int) (pe_op op_mul pe_int (pv 1)))))),?_⟩
 have hl:(ns.map V.int).length=ns.length:=List.length_map _
 refine ⟨_,rfl,_,rfl,a,_,rfl,.inl hS,_,_,rfl,rfl,_,rfl,?_⟩
 refine ite2 (fun c=>?_) (fun c=>?_)
 ·have c':(i:Int) < (((ns.map V.int).length:Nat):Int):=of_decide_eq_true c
  rw [hl] at c'
  have hin:i < ns.length:=by omega
  refine ⟨_,rfl,_,rfl,a,_,_,V.int (ns.getD i 0),rfl,rfl,hS,atI_nat (by simp [hin]),?_⟩
  have e:cell ns i=ns.getD i 0:=by unfold cell;rw [if_pos hin]
  rw [e] at q
  exact q
 ·have c':¬ (i:Int) < (((ns.map V.int).length:Nat):Int):=of_decide_eq_false (Bool.eq_false_iff.mpr c)
  rw [hl] at c'
  have hin:¬ i < ns.length:=by omega
  refine ⟨_,rfl,a,_,rfl,.inl hS,rfl,_,rfl,?_⟩
  refine ite2 (fun c=>?_) (fun c=>?_)
  ·have c2:=of_decide_eq_true c
   rw [hl] at c2
   have hz:ns.length=0:=by injection c2 with c2;omega
   refine ⟨_,rfl,_,_,rfl,rfl,.inl ⟨by decide,by decide⟩,_,_,rfl,rfl,?_⟩
   have e:cell ns i=29*i+5:=by unfold cell;rw [if_neg hin,if_pos hz]
   rw [e] at q
   exact q
  ·have c2:=of_decide_eq_false (Bool.eq_false_iff.mpr c)
   rw [hl] at c2
   have hz:¬ ns.length=0:=fun z=>c2 (congrArg V.int (by omega))
   have hpos:(0:Int) < ns.length:=by omega
   have hm:i % ns.length < ns.length:=Nat.mod_lt _ (by omega)
   have em:(i:Int) % (((ns.map V.int).length:Nat):Int)=((i % ns.length:Nat):Int):=by rw [hl];exact (Int.natCast_emod i ns.length).symm
   refine ⟨_,rfl,_,rfl,_,rfl,a,_,rfl,.inl hS,_,_,rfl,rfl,by rw [hl];exact hpos,a,_,_,V.int (ns.getD (i % ns.length) 0),rfl,rfl,hS,(by rw [em];exact atI_nat (by simp [hm])),_,_,rfl,rfl,(by show (0:Int) < 1000003;decide),_,rfl,_,_,rfl,rfl,.inl ⟨by decide,by decide⟩,_,_,rfl,rfl,?_⟩
   have e:cell ns i=ns.getD (i % ns.length) 0 % 1000003+103*i:=by unfold cell;rw [if_neg hin,if_neg hz]
   rw [e] at q
   exact q
theorem scLetters:FnScope ["_law_script","_law_at"] ["_law_script","_law_at"] (defScope sLetters):=⟨rfl,rfl,rfl,by decide +kernel,rfl,by decide +kernel,by decide +kernel⟩
theorem ok_letters (F:Fun K "_law_letters" "_law_letters" sLetters f fd) (G:FnOk P w K mg base CX 1 g gd ["_law_script","_law_at"] (spCell K)) (bG:Binds K gd ["_law_script","_law_at"] []) (kG:PySem.W.keepIn K (.ref g)=true) (mG:mg "_law_cell"=some (.ref g)) :
  FnOk P w K mg base CX 2 f fd ["_law_script","_law_at"] (spLetters K):=by
 refine F.okc scLetters (fun vs H Q E h=>?_) (fun cdv A outer s H vs Q E hr h=>?_)
 ·obtain ⟨a,ns,i,rfl,_⟩:=h
  rfl
 obtain ⟨a,ns,i,rfl,hS,h63,hi,q⟩:=h
 refine ⟨_,pss_one (ps_ret (pe_op op_add pe_int (pe_op op_mod (pe_call G hr rfl mG kG bG .nil passN (pa_cons (pv 0) (pa_cons (pv 1) pa_nil))) pe_int))),?_⟩
 rw [letN_int] at q
 exact ⟨_,rfl,_,rfl,a,ns,i,rfl,hS,h63,hi,_,_,rfl,rfl,(by show (0:Int) < 4;decide),_,_,rfl,rfl,q⟩
theorem scNumbers:FnScope ["_law_cell_here","_law_many","_law_row","_law_rest","_law_seed"] ["_law_cell_here","_law_many"] (defScope sNumbers):=⟨rfl,rfl,rfl,by decide +kernel,rfl,by decide +kernel,by decide +kernel⟩
theorem ok_numbers (F:Fun K "_law_numbers" "_law_numbers" sNumbers f fd) (ml:mg "len"=none):FnOk P w K mg base CX 1 f fd ["_law_cell_here","_law_many"] (spNumbers K):=by
 refine F.okc scNumbers (fun vs H Q E h=>?_) (fun cdv A outer s H vs Q E hr h=>?_)
 ·obtain ⟨c,m,rfl,_⟩:=h
  rfl
 obtain ⟨c,m,rfl,hm,q⟩:=h
 refine ⟨_,pss_cons (ps_set (i:=2) scNumbers.nd rfl (Or.inl rfl) (pe_lst pa_nil))
  (pss_cons (ps_set (i:=3) scNumbers.nd rfl (Or.inl rfl) (pe_op op_sub (pv 0) (pe_op op_pow pe_int pe_int)))
  (pss_cons (ps_while PassesOwn.never (PW.pt (pw_and (pt_cmpR op_gt (pv 3) pe_int (nomark _)) (pw_and1 (pt_cmpR op_lt (pe_callB call_len_seq rfl ml PySem.boot_len (pa_cons (pv 2) pa_nil)) (pv 1) (nomark _)))))
   (pss_cons (ps_expr (pe_bm PySem.F.plainAttrs_list PySem.F.slot_list_append PySem.F.type_list_append mt_append (pv 2) (pa_cons (pe_op op_mod (pv 3) pe_int) pa_nil)))
   (pss_one (ps_set (i:=3) scNumbers.nd rfl (Or.inl rfl) (pe_op op_fdiv (pv 3) pe_int)))))
  (pss_cons (ps_set (i:=4) scNumbers.nd rfl (Or.inl rfl) (pe_op op_mod (pv 0) pe_int))
  (pss_cons (ps_while PassesOwn.never (pt_cmpR op_lt (pe_callB call_len_seq rfl ml PySem.boot_len (pa_cons (pv 2) pa_nil)) (pv 1) (nomark _))
   (pss_cons (ps_set (i:=4) scNumbers.nd rfl (Or.inl rfl) (pe_op op_mod (pe_op op_add (pe_op op_add (pe_op op_mul (pv 4) pe_int) pe_int) (pe_callB call_len_seq rfl ml PySem.boot_len (pa_cons (pv 2) pa_nil))) pe_int))
   (pss_one (ps_expr (pe_bm PySem.F.plainAttrs_list PySem.F.slot_list_append PySem.F.type_list_append mt_append (pv 2) (pa_cons (pe_op op_mod (pe_op op_fdiv (pe_op op_mod (pe_op op_mul (pv 4) pe_int) pe_int) pe_int) pe_int) pa_nil))))))
  (pss_one (ps_ret (pv 2))))))),?_⟩
 refine ⟨by show 0≤sizeLine;decide,fun l hl=>⟨_,rfl,_,_,rfl,rfl,⟨by decide,by decide,by decide⟩,_,_,rfl,rfl,?_⟩⟩
 show tWhile _ _ _ _ _
 refine cutW (fun σ' H'=>∃ (k:Nat) (r:Int) (ns:List Int),σ'=[some (.int c),some (.int m),some (.ref l),some (.int r),none]∧Same H H'∧H' l=some (.lst (ns.map V.int))∧k+ns.length=m∧∀ x∈ns,0≤x∧x < 1009) (fun Ed nx=>?_) (fun σ' H' p=>?_)
 rotate_left
 ·obtain ⟨k,r,ns,rfl,s2,e2,hk,hns⟩:=p
  refine ⟨_,rfl,_,_,rfl,rfl,pmod,?_⟩
  refine ⟨fun k σ H2=>∃ (v:Int) (ns:List Int),σ=[some (.int c),some (.int m),some (.ref l),some (.int r),some (.int v)]∧Same H H2∧H2 l=some (.lst (ns.map V.int))∧k+ns.length=m∧∀ x∈ns,0≤x∧x < 1009,
   ⟨k,_,ns,rfl,s2,e2,hk,hns⟩,?_⟩
  rintro k σ H2 ⟨v,ns,rfl,s2,e2,hk,hns⟩
  have hnl:(ns.map V.int).length=ns.length:=List.length_map _
  refine ⟨_,rfl,l,_,rfl,.inl (SqL.of e2),_,rfl,_,_,rfl,rfl,_,rfl,ite2 (fun c2=>?_) (fun c2=>?_)⟩
  ·have c2':=of_decide_eq_true c2
   rw [hnl] at c2'
   have hkp:ns.length < m:=by omega
   refine cutN fun N nx2=>?_
   refine ⟨_,rfl,_,_,rfl,rfl,.inr ⟨by decide,by decide⟩,_,_,rfl,rfl,_,rfl,l,_,rfl,.inl (SqL.of e2),_,_,rfl,rfl,_,_,rfl,rfl,pmod,?_⟩
   refine ⟨_,rfl,.inl ⟨rfl,_,SqL.of e2⟩,_,rfl,_,_,rfl,rfl,.inr ⟨by decide,by decide⟩,_,_,rfl,rfl,pmod,_,_,rfl,rfl,⟨by decide,by decide⟩,_,_,rfl,rfl,pmod,l,_,_,rfl,rfl,e2,by rw [hnl];exact small1000 (by omega),?_⟩
   refine nx2 (k - 1) _ _ (by omega) ⟨_,ns++[(v*48271+9973+((ns.map V.int).length:Nat)) % 2147483647*39373 % 2147483629 / 11 % 1009],rfl,same_over s2 hl,?_,?_,nums_snoc hns (mod1009 _)⟩
   ·rw [upd_same,List.map_append];rfl
   ·rw [List.length_append];show k - 1+(ns.length+1)=m;omega
  ·have c2':=of_decide_eq_false (Bool.eq_false_iff.mpr c2)
   rw [hnl] at c2'
   exact ⟨_,rfl,q l H2 ns s2 e2 ⟨by omega,hns⟩⟩
 refine ⟨fun k σ H2=>∃ (r:Int) (ns:List Int),σ=[some (.int c),some (.int m),some (.ref l),some (.int r),none]∧Same H H2∧H2 l=some (.lst (ns.map V.int))∧k+ns.length=m∧∀ x∈ns,0≤x∧x < 1009,
  ⟨m,_,[],rfl,same_up (Same.refl H) hl,upd_same,rfl,fun x hx=>by simp at hx⟩,?_⟩
 rintro k σ H2 ⟨r,ns,rfl,s2,e2,hk,hns⟩
 have hnl:(ns.map V.int).length=ns.length:=List.length_map _
 refine ⟨_,rfl,_,_,rfl,rfl,_,rfl,ite2 (fun c1=>⟨_,rfl,l,_,rfl,.inl (SqL.of e2),_,rfl,_,_,rfl,rfl,_,rfl,ite2 (fun c2=>?_) (fun c2=>?_)⟩) (fun c1=>iteF ?_)⟩
 ·have c2':=of_decide_eq_true c2
  rw [hnl] at c2'
  have hkp:ns.length < m:=by omega
  refine cutN fun N nx2=>?_
  refine ⟨_,rfl,.inl ⟨rfl,_,SqL.of e2⟩,_,rfl,_,_,rfl,rfl,pmod,l,_,_,rfl,rfl,e2,by rw [hnl];exact small1000 (by omega),?_⟩
  refine ⟨_,rfl,_,_,rfl,rfl,⟨by decide,by decide⟩,nx2 (k - 1) _ _ (by omega) ⟨_,ns++[r % 1009],rfl,same_over s2 hl,?_,?_,nums_snoc hns (mod1009 r)⟩⟩
  ·rw [upd_same,List.map_append];rfl
  ·rw [List.length_append];show k - 1+(ns.length+1)=m;omega
 all_goals exact nx _ _ ⟨k,r,ns,rfl,s2,e2,hk,hns⟩
theorem scRear:FnScope ["_law_pick","_law_letters_here","_law_left","_law_made","_law_k","_law_many"] ["_law_pick","_law_letters_here"] (defScope sRear):=⟨rfl,rfl,rfl,by decide +kernel,rfl,by decide +kernel,by decide +kernel⟩
theorem ok_rear (F:Fun K "_law_rearranged" "_law_rearranged" sRear f fd) (ml:mg "len"=none) (mt:mg "tuple"=none) (mr:mg "range"=none) (mls:mg "list"=none):FnOk P w K mg base CX 1 f fd ["_law_pick","_law_letters_here"] (spRear K):=by
 refine F.okc scRear (fun vs H Q E h=>?_) (fun cdv A outer s H vs Q E hr h=>?_)
 ·obtain ⟨pick,n,rfl,_⟩:=h
  rfl
 obtain ⟨pick,n,rfl,hn,k⟩:=h
 refine ⟨_,pss_cons (ps_set (i:=2) scRear.nd rfl (Or.inl rfl) (pe_callTy (call_list_rng rfl) rfl mls PyProof.Rows.boot_list (pa_cons (pe_callTy call_rng rfl mr PyProof.Rows.boot_range (pa_cons (pv 1) pa_nil)) pa_nil)))
  (pss_cons (ps_set (i:=3) scRear.nd rfl (Or.inl rfl) (pe_lst pa_nil))
  (pss_cons (ps_for PassesOwn.never rfl (pi_range1 rfl mr (pa_cons (pv 1) pa_nil)) (pg_name (i:=4) scRear.nd rfl (Or.inl rfl))
   (pss_cons (ps_set (i:=5) scRear.nd rfl (Or.inl rfl) (pe_callB call_len_seq rfl ml PySem.boot_len (pa_cons (pv 2) pa_nil)))
   (pss_cons (ps_expr (pe_bm PySem.F.plainAttrs_list PySem.F.slot_list_append PySem.F.type_list_append mt_append (pv 3) (pa_cons (pe_bm PySem.F.plainAttrs_list PySem.F.slot_list_pop PySem.F.type_list_pop mt_popAt (pv 2) (pa_cons (pe_op op_mod (pv 0) (pv 5)) pa_nil)) pa_nil)))
   (pss_one (ps_set (i:=0) scRear.nd rfl (Or.inl rfl) (pe_op op_fdiv (pv 0) (pv 5)))))))
  (pss_one (ps_ret (pe_callTy call_tuple_of rfl mt PyProof.Rows.boot_tuple (pa_cons (pv 3) pa_nil)))))),?_⟩
 refine ⟨_,rfl,(n:Int),rfl,by omega,by omega,fun p hp=>⟨p,0,(n:Int),rfl,upd_same,⟨by decide,by decide,by omega,by omega⟩,by omega,fun l hl=>⟨by show 0≤sizeLine;decide,fun m hm=>?_⟩⟩⟩
 have e:((n:Int) - 0).toNat=n:=by omega
 rw [e,rint_iota] at hm ⊢
 have s1:Same H (upd H p (.rng 0 n)):=same_up (Same.refl H) hp
 have s2:Same H (upd (upd H p (.rng 0 n)) l (.lst ((iota n).map V.int))):=same_up s1 hl
 have hl0:H l=none:=s1.free hl
 have hm0:H m=none:=s2.free hm
 have hlm:l≠m:=ne_of_none upd_same hm
 have s3:Same H (upd (upd (upd H p (.rng 0 n)) l (.lst ((iota n).map V.int))) m (.lst [])):=same_up s2 hm
 refine ⟨_,rfl,(n:Int),rfl,by omega,by omega,rangeO (n:=(n:Int).toNat) (fun i σ H2=>∃ (u v:Option V) (pk:Int) (left made:List Int),σ=[some (.int pk),some (.int n),some (.ref l),some (.ref m),u,v]∧Same H H2∧H2 l=some (.lst (left.map V.int))∧H2 m=some (.lst (made.map V.int)) ∧
   left.length+i=n∧made.length=i∧rearr pick n=made++rear left.length pk left)
  ⟨none,none,pick,iota n,[],rfl,s3,(by rw [upd_ne hlm,upd_same]),upd_same,iota_len n,rfl,by rw [iota_len];rfl⟩ (fun i σ H2 hi h Ed nx3=>?_) (fun σ H2 h=>?_)⟩
 ·obtain ⟨u,v,pk,left,made,rfl,t2,gl,gm,e1,e2,e3⟩:=h
  have hin:i < n:=by simpa using hi
  have hpos:0 < left.length:=by omega
  have hL:(left.map V.int).length=left.length:=List.length_map _
  obtain ⟨ix,hixe,hix⟩:∃ ix:Nat,pk % (((left.map V.int).length:Nat):Int)=(ix:Int)∧ix < left.length:=by
   rw [hL]
   have h0:=Int.emod_nonneg pk (show (left.length:Int)≠0 by omega)
   have h1:=Int.emod_lt_of_pos pk (show (0:Int) < left.length by omega)
   exact ⟨(pk % (left.length:Int)).toNat,by omega,by omega⟩
  have hsq:PySem.seqIndex? (pk % (((left.map V.int).length:Nat):Int)) (left.map V.int).length=some ix:=by
   rw [hixe,hL,PySem.seqIndex_of (by omega) (by omega)]
   simp
  refine ⟨_,rfl,l,_,rfl,.inl (SqL.of gl),_,rfl,.inl ⟨rfl,_,SqL.of gm⟩,_,rfl,.inl ⟨rfl,_,SqL.of gl⟩,_,rfl,_,rfl,_,_,rfl,rfl,by rw [hL];omega,?_⟩
  refine ⟨l,_,_,ix,V.int (left.getD ix 0),rfl,rfl,gl,by rw [hixe];omega,by rw [hixe];omega,hsq,by simp [hix],m,_,_,rfl,rfl,by rw [upd_ne (Ne.symm hlm)];exact gm,by rw [List.length_map];exact small1000 (by omega),?_⟩
  refine ⟨_,rfl,_,rfl,_,_,rfl,rfl,⟨by rw [hL];omega,by rw [hL];omega⟩,?_⟩
  refine nx3 _ _ ⟨_,_,pk / (((left.map V.int).length:Nat):Int),left.eraseIdx ix,made++[left.getD ix 0],rfl,same_over (same_over t2 hl0) hm0,?_,?_,?_,by simp [e2],?_⟩
  ·rw [upd_ne hlm,upd_same]
   congr 2
   exact map_erase V.int left ix
  ·rw [upd_same,List.map_append];rfl
  ·rw [List.length_eraseIdx_of_lt hix];omega
  ·rw [e3,List.append_assoc]
   congr 1
   obtain ⟨q,hq⟩:∃ q,left.length=q+1:=⟨left.length - 1,by omega⟩
   have e5:(left.eraseIdx ix).length=q:=by rw [List.length_eraseIdx_of_lt hix];omega
   rw [e5,hL]
   rw [hL] at hixe
   have e6:(pk % (left.length:Int)).toNat=ix:=by omega
   have e7:rear (q+1) pk left=left.getD (pk % (left.length:Int)).toNat 0::rear q (pk / (left.length:Int)) (left.eraseIdx (pk % (left.length:Int)).toNat):=rfl
   rw [hq,e7,e6]
   rw [hq]
   rfl
 ·obtain ⟨u,v,pk,left,made,rfl,t2,gl,gm,e1,e2,e3⟩:=h
  refine ⟨_,rfl,m,_,rfl,.inl ⟨SqL.of gm,fun t ht=>?_⟩⟩
  have e9:(n:Int).toNat=n:=by omega
  have e4:left.length=0:=by omega
  rw [e4] at e3
  have e5:rearr pick n=made:=by rw [e3];unfold rear;simp
  rw [←e5]
  exact k _ _ (same_up t2 ht) (Dr.tup upd_same (DrL.ints _))
end
end Gu

set_option Elab.async false
set_option linter.all false
set_option maxRecDepth 100000
set_option maxHeartbeats 4000000
namespace Gu
open PySem L2
section
variable {P:Program} {w:World} {K:PySem.W.Frag} {mg:Str→Option Value} {base:Heap} {f g:Addr} {fd gd:FuncData} {CX:CXT} [NoE CX]
abbrev nRows:List Str:=["_law_letters_here","_law_cell_here","_law_nums","_law_many","_law_kind","_law_rows_here","_law_at","_law_pick","_law_first_here","_law_goings"]
theorem scRows:FnScope nRows ["_law_letters_here","_law_cell_here"] (defScope sRows):=⟨rfl,rfl,rfl,by decide +kernel,rfl,by decide +kernel,by decide +kernel⟩
theorem csRows1:CompS nRows (defScope sRows) ["_law_k","_law_many","_law_pick"] [none,some 3,some 7] (csc [(".0",.local),("_law_k",.local),("_law_many",.free),("_law_pick",.free)]):=⟨rfl,by decide +kernel,by decide +kernel,by decide +kernel,rfl,by decide +kernel,by decide +kernel⟩
theorem csRows2:CompS nRows (defScope sRows) ["_law_to","_law_at","_law_many"] [none,some 6,some 3] (csc [(".0",.local),("_law_to",.local),("min",.globalImplicit),("_law_at",.free),("_law_many",.free)]):=⟨rfl,by decide +kernel,by decide +kernel,by decide +kernel,rfl,by decide +kernel,by decide +kernel⟩
theorem csRows3:CompS nRows (defScope sRows) ["_law_k","_law_goings","_law_letters_here","_law_many","_law_pick"] [none,some 9,some 0,some 3,some 7] (csc [(".0",.local),("_law_k",.local),("_law_goings",.free),("_law_letters_here",.free),("_law_many",.free),("_law_pick",.free)]):=⟨rfl,by decide +kernel,by decide +kernel,by decide +kernel,rfl,by decide +kernel,by decide +kernel⟩
theorem ok_rows {k:Addr} {kd:FuncData} (F:Fun K "_law_rows" "_law_rows" sRows f fd) (mr:mg "range"=none) (mt:mg "tuple"=none) (mm:mg "min"=none)
  (G:FnOk P w K mg base CX 1 g gd ["_law_cell_here","_law_many"] (spNumbers K)) (bG:Binds K gd ["_law_cell_here","_law_many"] []) (kG:PySem.W.keepIn K (.ref g)=true) (mG:mg "_law_numbers"=some (.ref g))
  (T:FnOk P w K mg base CX 1 k kd ["_law_pick","_law_letters_here"] (spRear K)) (bT:Binds K kd ["_law_pick","_law_letters_here"] []) (kT:PySem.W.keepIn K (.ref k)=true) (mT:mg "_law_rearranged"=some (.ref k)):FnOk P w K mg base CX 2 f fd ["_law_letters_here","_law_cell_here"] (spRows K):=by
 refine F.okc scRows (fun vs H Q E h=>?_) (fun cdv A outer s H vs Q E hr h=>?_)
 ·obtain ⟨n,c,rfl,_⟩:=h
  rfl
 obtain ⟨n,c,rfl,hn2,hn5,q⟩:=h
 refine ⟨_,pss_cons (ps_set (i:=2) scRows.nd rfl (Or.inl rfl) (pe_call G hr rfl mG kG bG .nil passN (pa_cons (pv 1) (pa_cons pe_int pa_nil))))
  (pss_cons (ps_set (i:=3) scRows.nd rfl (Or.inr rfl) (pe_op op_add pe_int (pe_op op_mod (pe_ix ix_list (pv 2) pe_int (fun _ _=>rfl)) pe_int)))
  (pss_cons (ps_set (i:=4) scRows.nd rfl (Or.inl rfl) (pe_op op_mod (pe_ix ix_list (pv 2) pe_int (fun _ _=>rfl)) pe_int))
  (pss_cons (ps_set (i:=5) scRows.nd rfl (Or.inl rfl) (pe_lst pa_nil))
  (pss_cons (ps_for PassesOwn.never rfl (pi_range1 rfl mr (pa_cons (pv 3) pa_nil)) (pg_name (i:=6) scRows.nd rfl (Or.inr rfl))
   (pss_cons (ps_set (i:=7) scRows.nd rfl (Or.inr rfl) (pe_slice sl_list (pv 2) (po_some (pe_op op_add pe_int (pe_op op_mul pe_int (pv 6)))) (po_some (pe_op op_add pe_int (pe_op op_mul pe_int (pv 6))))))
   (pss_cons (ps_set (i:=8) scRows.nd rfl (Or.inl rfl) (pe_call T hr rfl mT kT bT .nil passN (pa_cons (pe_ix ix_list (pv 7) pe_int (fun _ _=>rfl)) (pa_cons (pv 0) pa_nil))))
   (pss_cons (ps_set (i:=9) scRows.nd rfl (Or.inr rfl) (pe_comp rfl csRows1 (pi_range1 rfl mr (pa_cons (pv 0) pa_nil)) (fun _ _ _ _ _=>pg_name (i:=0) csRows1.nd rfl (Or.inl rfl)) (fun _ _ _ _ _=>pe_op op_mod (pe_ix (ixL K rfl) (pv 2) (pe_op op_add pe_int (pv 0)) (fun _ _=>rfl)) (pv 1))))
   (pss_cons (PS.weak (tRI K) (ps_if (pt_cmp (pc_eqI (pv 4) pe_int)) (pss_one (ps_set (i:=9) scRows.nd rfl (Or.inr rfl) (pe_comp rfl csRows2 (pi_list (pv 9)) (fun _ _ _ _ _=>pg_name (i:=0) csRows2.nd rfl (Or.inl rfl)) (fun _ _ _ _ _=>pe_callB (call_min2 rfl) rfl mm PyProof.Rows.boot_min (pa_cons (pe_op op_sub (pv 2) pe_int) (pa_cons (pe_op op_add (pe_op op_add (pv 1) pe_int) (pv 0)) pa_nil)))))) pss_nil) ?_)
   (pss_cons (PS.weak (tRI K) (ps_if (pt_cmp (pc_eqI (pv 4) pe_int)) (pss_one (ps_set (i:=9) scRows.nd rfl (Or.inr rfl) (pe_comp rfl csRows3 (pi_range1 rfl mr (pa_cons (pv 0) pa_nil)) (fun _ _ _ _ _=>pg_name (i:=0) csRows3.nd rfl (Or.inl rfl)) (fun _ _ _ _ _=>pe_ifExp (pt_cmp (pc_eqI (pv 0) (pe_op op_mod (pe_op op_fdiv (pe_ix (ixL K rfl) (pv 4) pe_int (fun _ _=>rfl)) pe_int) (pv 2)))) (pe_ix (ixL K rfl) (pv 1) (pv 0) (fun _ _=>rfl)) (pe_op op_sub (pv 3) pe_int))))) pss_nil) ?_)
   (pss_cons (PS.weak (tRI K) (ps_if (PT.weak (tAny (PreRI K)) (PW.pt (pw_or (PW.pt (pw_and (pt_chain op_le op_le pe_int (pv 4) pe_int) (pw_and1 (pt_cmp (pc_eqI (pv 6) (pe_op op_sub (pv 3) pe_int)))))) (pw_or1 (PW.pt (pw_and (pt_cmp (pc_eqI (pv 4) pe_int)) (pw_and1 (pt_cmp (pc_eqI (pe_op op_mod (pe_ix ix_list (pv 7) pe_int (fun _ _=>rfl)) pe_int) pe_int)))))))) ?_)
    (pss_one (ps_set (i:=8) scRows.nd rfl (Or.inl rfl) (pe_callTy (call_tuple_rng rfl) rfl mt PyProof.Rows.boot_tuple (pa_cons (pe_callTy call_rng rfl mr PyProof.Rows.boot_range (pa_cons (pv 0) pa_nil)) pa_nil)))) pss_nil) ?_)
   (pss_cons (PS.weak (tRI K) (ps_if (PT.weak (tAny (PreRI K)) (PW.pt (pw_and (pt_chain op_le op_le pe_int (pv 4) pe_int) (pw_and1 (pt_cmp (pc_eqI (pv 6) (pe_op op_sub (pv 3) pe_int)))))) ?_)
    (pss_one (ps_set (i:=9) scRows.nd rfl (Or.inr rfl) (pe_op op_rep (pe_lst (pa_cons (pv 6) pa_nil)) (pv 0)))) pss_nil) ?_)
   (pss_one (ps_expr (pe_bm PySem.F.plainAttrs_list PySem.F.slot_list_append PySem.F.type_list_append mt_append (pv 5) (pa_cons (pe_tup (pa_cons (pv 8) (pa_cons (pe_callTy call_tuple_of rfl mt PyProof.Rows.boot_tuple (pa_cons (pv 9) pa_nil)) pa_nil))) pa_nil))))))))))))
  (pss_one (ps_ret (pv 5))))))),?_⟩
 ·intro D σ H h
  obtain ⟨n,m,c,kd,j,ln,lr,lp,ps,H0,rf,ri,nx⟩:=h
  obtain ⟨b,lg,p,gs,rfl,s0,db,hp,eg,hgl,hgr⟩:=ri.ex
  have h5:=rf.n5
  have hjm:=rf.jm
  refine ⟨_,rfl,_,_,rfl,rfl,_,rfl,ite2 (fun _=>?_) (fun _=>nx _ _ ri)⟩
  refine ⟨_,rfl,lg,rfl,⟨_,SqL.of eg⟩,fun l hl=>comp_list (xs:=gs.map V.int) (GI m H) (GI.nil hl) (fun i ys H2 _ h=>by obtain ⟨_,_,_,_,s⟩:=h;exact SqL.of (s _ _ eg)) (by rw [List.length_map];exact line_le (by omega)) (fun i ys H2 h=>h.len) (fun i x ys H2 hx h hy=>?_) (fun ys H2 h hy=>?_)⟩
  ·have hil:i < gs.length:=by have:=(List.getElem?_eq_some_iff.mp hx).1;rwa [List.length_map] at this
   have eg':gs[i]?=some gs[i]:=List.getElem?_eq_getElem hil
   obtain ⟨h0,h1⟩:=hgr _ (List.getElem_mem hil)
   generalize gs[i]=gi at eg' h0 h1
   have ex:x=V.int gi:=by rw [List.getElem?_map,eg'] at hx;exact (Option.some.inj hx).symm
   subst ex
   exact ⟨_,rfl,_,_,rfl,rfl,_,rfl,_,_,rfl,rfl,_,rfl,_,_,rfl,rfl,_,_,rfl,hy,h.snoc hl ⟨by split<;>omega,by split<;>omega⟩⟩
  ·obtain ⟨gs',rfl,el,r',s'⟩:=h
   rw [List.length_map] at el
   exact nx _ _ ⟨b,l,p,gs',rfl,s0.trans s',db.mono s',hp,hy,by omega,r'⟩
 ·intro D σ H h
  obtain ⟨n,m,c,kd,j,ln,lr,lp,ps,H0,rf,ri,nx⟩:=h
  obtain ⟨b,lg,p,gs,rfl,s0,db,hp,eg,hgl,hgr⟩:=ri.ex
  have h5:=rf.n5
  have h2:=rf.n2
  have hjm:=rf.jm
  have elp:=s0 _ _ rf.lp
  have h6:=rf.len
  have ep:ps[0]?=some ps[0]:=List.getElem?_eq_getElem (by omega)
  refine ⟨_,rfl,_,_,rfl,rfl,_,rfl,ite2 (fun _=>?_) (fun _=>nx _ _ ri)⟩
  refine ⟨_,rfl,(n:Int),rfl,by omega,by omega,fun l hl=>comp_range (n:=(n:Int).toNat) (GI m H) (GI.nil hl) (line_le (by omega)) (fun i ys H2 h=>h.len) (fun i ys H2 hi h hy=>?_) (fun ys H2 h hy=>?_)⟩
  ·have e0:(0:Int)+(i:Int)=(i:Int):=by omega
   rw [e0]
   have hil:i < gs.length:=by omega
   have eg':gs[i]?=some gs[i]:=List.getElem?_eq_getElem hil
   obtain ⟨h0,h1⟩:=hgr _ (List.getElem_mem hil)
   generalize gs[i]=gi at eg' h0 h1
   obtain ⟨_,_,_,_,s2⟩:=id h
   refine ⟨_,rfl,_,rfl,lp,_,_,V.int ps[0],rfl,rfl,SqL.of (s2 _ _ elp),atI_nat (j:=0) (by rw [List.getElem?_map,ep];rfl),_,_,rfl,rfl,⟨by decide,by decide⟩,_,rfl,_,_,rfl,rfl,pmod (by omega),_,_,rfl,rfl,_,rfl,ite2 (fun _=>?_) (fun _=>?_)⟩
   ·exact ⟨_,rfl,_,rfl,lg,_,_,V.int gi,rfl,rfl,SqL.of (s2 _ _ eg),atI_nat (by rw [List.getElem?_map,eg'];rfl),hy,h.snoc hl ⟨h0,h1⟩⟩
   ·exact ⟨_,rfl,_,_,rfl,rfl,hy,h.snoc hl ⟨by omega,by omega⟩⟩
  ·obtain ⟨gs',rfl,el,r',s'⟩:=h
   exact nx _ _ ⟨b,l,p,gs',rfl,s0.trans s',db.mono s',hp,hy,by omega,r'⟩
 ·intro σ H Q h
  obtain ⟨⟨n,m,c,kd,j,ln,lr,lp,ps,H0,rf,ri⟩,q⟩:=h
  obtain ⟨b,lg,p,gs,rfl,s0,db,hp,eg,hgl,hgr⟩:=ri.ex
  have elp:=s0 _ _ rf.lp
  have h6:=rf.len
  have ep:ps[0]?=some ps[0]:=List.getElem?_eq_getElem (by omega)
  refine ⟨_,rfl,_,_,rfl,rfl,_,rfl,ite2 (fun _=>⟨_,_,rfl,rfl,_,rfl,ite2 (fun _=>⟨_,rfl,_,rfl,_,_,rfl,rfl,_,_,rfl,rfl,_,rfl,ite2 (fun _=>q _) (fun _=>?_)⟩) (fun _=>iteF ?_)⟩) (fun _=>⟨_,rfl,iteF (iteF ?_)⟩)⟩
  all_goals exact ⟨_,rfl,_,_,rfl,rfl,_,rfl,ite2 (fun _=>⟨_,rfl,lp,_,_,V.int ps[0],rfl,rfl,SqL.of elp,atI_nat (j:=0) (by rw [List.getElem?_map,ep];rfl),_,_,rfl,rfl,pmod,_,_,rfl,rfl,_,rfl,q _⟩) (fun _=>q _)⟩
 ·intro D σ H h
  obtain ⟨n,m,c,kd,j,ln,lr,lp,ps,H0,rf,ri,nx⟩:=h
  obtain ⟨b,lg,p,gs,rfl,s0,db,hp,eg,hgl,hgr⟩:=ri.ex
  have h5:=rf.n5
  refine ⟨⟨n,m,c,kd,j,ln,lr,lp,ps,H0,rf,ri⟩,fun cc=>ite2 (fun _=>?_) (fun _=>nx _ _ ri)⟩
  refine ⟨_,rfl,(n:Int),rfl,by omega,by omega,fun r hr0=>⟨r,0,(n:Int),rfl,upd_same,⟨by decide,by decide,by omega,by omega⟩,by omega,fun l hl=>?_⟩⟩
  have e:((n:Int) - 0).toNat=n:=by omega
  rw [e,rint_iota]
  have s':=same_up (o:=HO.tup ((iota n).map V.int)) (same_up (o:=HO.rng 0 n) (Same.refl H) hr0) hl
  exact nx _ _ ⟨.ref l,lg,iota n,gs,rfl,s0.trans s',Dr.tup upd_same (DrL.ints _),isP_iota n,s' _ _ eg,hgl,hgr⟩
 ·intro σ H Q h
  obtain ⟨⟨n,m,c,kd,j,ln,lr,lp,ps,H0,rf,ri⟩,q⟩:=h
  obtain ⟨b,lg,p,gs,rfl,s0,db,hp,eg,hgl,hgr⟩:=ri.ex
  exact ⟨_,rfl,_,_,rfl,rfl,_,rfl,ite2 (fun _=>⟨_,_,rfl,rfl,_,rfl,ite2 (fun _=>⟨_,rfl,_,rfl,_,_,rfl,rfl,_,_,rfl,rfl,_,rfl,q _⟩) (fun _=>q _)⟩) (fun _=>⟨_,rfl,iteF (q _)⟩)⟩
 ·intro D σ H h
  obtain ⟨n,m,c,kd,j,ln,lr,lp,ps,H0,rf,ri,nx⟩:=h
  obtain ⟨b,lg,p,gs,rfl,s0,db,hp,eg,hgl,hgr⟩:=ri.ex
  have h5:=rf.n5
  have hjm:=rf.jm
  refine ⟨⟨n,m,c,kd,j,ln,lr,lp,ps,H0,rf,ri⟩,fun cc=>ite2 (fun _=>?_) (fun _=>nx _ _ ri)⟩
  refine ⟨_,rfl,by show 1≤sizeLine;decide,fun l0 hl0=>⟨_,rfl,l0,(n:Int),_,rfl,rfl,upd_same,by omega,by omega,?_,fun l hl=>?_⟩⟩
  ·show 1*(n:Int).toNat≤sizeLine
   exact line_le (by omega)
  have e:((n:Int)).toNat=n:=by omega
  rw [e,flat1]
  have s':=same_up (o:=HO.lst ((List.replicate n (j:Int)).map V.int)) (same_up (o:=HO.lst [V.int (j:Int)]) (Same.refl H) hl0) hl
  exact nx _ _ ⟨b,l,p,List.replicate n (j:Int),rfl,s0.trans s',db.mono s',hp,upd_same,List.length_replicate,fun g hg=>by rw [(List.mem_replicate.mp hg).2];omega⟩
 refine ⟨_,rfl,c,64,rfl,by omega,fun ln H1 ns s1 e1 hns=>?_⟩
 have hnl:=hns.1
 have en0:ns[0]?=some ns[0]:=List.getElem?_eq_getElem (by omega)
 have en1:ns[1]?=some ns[1]:=List.getElem?_eq_getElem (by omega)
 obtain ⟨m,hm⟩:=nat_of (x:=(1:Int)+ns[0] % 8) (by omega)
 have hm1:1≤m:=by omega
 have hm8:m≤8:=by omega
 refine ⟨_,rfl,ln,_,_,V.int ns[0],rfl,rfl,SqL.of e1,atI_nat (j:=0) (by rw [List.getElem?_map,en0];rfl),_,_,rfl,rfl,pmod,_,_,rfl,rfl,?_⟩
 generalize ns[1]=n1 at en1
 refine ⟨_,rfl,ln,_,_,V.int n1,rfl,rfl,SqL.of e1,atI_nat (j:=1) (by rw [List.getElem?_map,en1];rfl),_,_,rfl,rfl,pmod,by show 0≤sizeLine;decide,fun lr hlr=>?_⟩
 obtain ⟨kd,hkd⟩:∃ kd,kd=n1 % 6:=⟨_,rfl⟩
 have s2:=same_up (o:=HO.lst []) (Same.refl H1) hlr
 refine ⟨_,rfl,(m:Int),(by rw [←hm]),by omega,by omega,rangeO (n:=(m:Int).toNat) (fun i σ H2=>∃ (u6 u7 u8 u9:Option V) (us:List V) (rs:List Row),σ=[some (.int n),some (.int c),some (.ref ln),some (.int m),some (.int kd),some (.ref lr),u6,u7,u8,u9]∧Same H1 H2∧H2 lr=some (.lst us)∧DrL K H2 (rowsD rs) us∧rs.length=i∧GR n m rs)
  ⟨_,_,_,_,[],[],(by rw [←hm,hkd];rfl),s2,upd_same,DrL.nil,rfl,fun r hr=>by simp at hr⟩ (fun i σ H2 hi h Ed nx3=>?_) (fun σ H2 h=>?_)⟩
 ·obtain ⟨u6,u7,u8,u9,us,rs,rfl,t2,elr,drs,hrl,gr⟩:=h
  have e0:(0:Int)+(i:Int)=(i:Int):=by omega
  rw [e0]
  have him:i < m:=by omega
  obtain ⟨ps,ecut,hp6,hpr⟩:=cut6 (i:=i) hns (by omega)
  have ep:ps[0]?=some ps[0]:=List.getElem?_eq_getElem (by omega)
  refine ⟨_,rfl,_,rfl,_,_,rfl,rfl,.inl ⟨by decide,by decide⟩,_,_,rfl,rfl,_,rfl,_,rfl,_,_,rfl,rfl,.inl ⟨by decide,by decide⟩,_,_,rfl,rfl,_,rfl,ln,_,rfl,SqL.of (t2 _ _ e1),fun lp hlp=>?_⟩
  rw [ecut]
  have s3:=same_up (o:=HO.lst (ps.map V.int)) (Same.refl H2) hlp
  refine ⟨_,rfl,lp,_,_,V.int ps[0],rfl,rfl,SqL.of upd_same,atI_nat (j:=0) (by rw [List.getElem?_map,ep];rfl),_,rfl,ps[0],n,rfl,by omega,fun b H3 s4 d3=>?_⟩
  have elp3:H3 lp=some (.lst (ps.map V.int)):=s4 _ _ upd_same
  refine ⟨_,rfl,(n:Int),rfl,by omega,by omega,fun lg hlg=>comp_range (n:=(n:Int).toNat) (GI m H3) (GI.nil hlg) (line_le (by omega)) (fun i ys H h=>h.len) (fun k ys H4 hk h hy=>?_) (fun ys H4 h hy=>?_)⟩
  ·have ek:(1:Int)+(0+(k:Int))=((1+k:Nat):Int):=by omega
   have ek':ps[1+k]?=some (ps[1+k]'(by omega)):=List.getElem?_eq_getElem (by omega)
   generalize ps[1+k]'(by omega)=pk at ek'
   obtain ⟨_,_,_,_,s5⟩:=id h
   refine ⟨_,rfl,_,rfl,_,_,rfl,rfl,lp,_,_,V.int pk,rfl,rfl,SqL.of (s5 _ _ elp3),(by rw [ek];exact atI_nat (by rw [List.getElem?_map,ek'];rfl)),_,rfl,_,_,rfl,rfl,pmod (by omega),hy,h.snoc hlg ⟨?_,?_⟩⟩
   ·exact Int.emod_nonneg _ (by omega)
   ·exact Int.emod_lt_of_pos _ (by omega)
  obtain ⟨gs,rfl,hgl,hgr,s5⟩:=h
  have rf:RF n m i ps lp H3:=⟨hn2,hn5,him,hm8,elp3,hp6,hpr⟩
  refine ⟨n,m,c,kd,i,ln,lr,lp,ps,H3,rf,⟨b,lg,_,gs,rfl,s5,d3.mono s5,rearr_perm _ _,hy,by omega,hgr⟩,fun σ1 H5 r1=>⟨n,m,c,kd,i,ln,lr,lp,ps,H3,rf,r1,fun σ2 H6 r2=>⟨n,m,c,kd,i,ln,lr,lp,ps,H3,rf,r2,fun σ3 H7 r3=>⟨n,m,c,kd,i,ln,lr,lp,ps,H3,rf,r3,fun σ4 H8 r4=>?_⟩⟩⟩⟩
  clear hgl hgr hy
  obtain ⟨b,lg,p,gs,rfl,s0,db,hp,eg,hgl,hgr⟩:=r4.ex
  have s28:Same H2 H8:=(s3.trans s4).trans s0
  refine ⟨_,rfl,.inl ⟨rfl,_,SqL.of (s28 _ _ elr)⟩,_,rfl,_,rfl,lg,_,rfl,.inl ⟨SqL.of eg,fun t4 ht4=>⟨by show 2≤sizeLine;decide,fun t5 ht5=>?_⟩⟩⟩
  have s9:=same_up (o:=HO.tup (gs.map V.int)) (Same.refl H8) ht4
  have s10:=same_up (o:=HO.tup [b,.ref t4]) s9 ht5
  have elr':=s10 _ _ (s28 _ _ elr)
  have hul:us.length=i:=by have:=drs.length;unfold rowsD at this;rw [List.length_map] at this;omega
  refine ⟨lr,us,.ref t5,rfl,rfl,elr',small1000 (by omega),?_⟩
  obtain ⟨b0,rfl,eb⟩:=Dr.its_inv db
  have kk:TupK H8 (upd (upd (upd H8 t4 (.tup (gs.map V.int))) t5 (.tup [.ref b0,.ref t4])) lr (.lst (us++[.ref t5]))):=TupK.up (TupK.of s10) elr' (fun _ z=>by cases z)
  have nt5:t5≠lr:=ne_of upd_same elr' (by intro z;cases z)
  have nt4:t4≠t5:=ne_of_none upd_same ht5
  have nt4f:t4≠lr:=ne_of (show upd (upd H8 t4 (.tup (gs.map V.int))) t5 (.tup [.ref b0,.ref t4]) t4=some (.tup (gs.map V.int)) by rw [upd_ne nt4];exact upd_same) elr' (by intro z;cases z)
  refine nx3 _ _ ⟨_,_,_,_,us++[.ref t5],rs++[(p,gs)],rfl,same_over (t2.trans (s28.trans s10)) hlr,upd_same,?_,by rw [List.length_append,hrl];rfl,gr.snoc ⟨hp,hgl,hgr⟩⟩
  unfold rowsD
  rw [List.map_append]
  refine DrL.append ((drs.mono s28).keyed kk (rows_key _)) (DrL.one (rowD_mk (r:=(p,gs)) (b:=b0) (c:=t4) ?_ (kk _ _ eb) ?_))
  ·rw [upd_ne nt5];exact upd_same
  ·rw [upd_ne nt4f,upd_ne nt4];exact upd_same
 ·obtain ⟨u6,u7,u8,u9,us,rs,rfl,t2,elr,drs,hrl,gr⟩:=h
  exact ⟨_,rfl,q lr H2 rs (s1.trans t2) ⟨us,elr,drs⟩ (gr.good (by omega) hm1 (by omega)) (by omega)⟩
end
end Gu

set_option Elab.async false
set_option linter.all false
set_option maxRecDepth 100000
set_option maxHeartbeats 4000000
namespace Gu
open PySem L2
section
variable {P:Program} {w:World} {K:PySem.W.Frag} {mg:Str→Option Value} {base:Heap} {f g:Addr} {fd gd:FuncData} {CX:CXT} [NoE CX]
abbrev nIlN:List Str:=["_law_rows_here","_law_line","_law_marks","_law_place","_law_heads","_law_row"]
abbrev nIlN1:List Str:=["_law_row","_law_marks","_law_place","_law_rows_here"]
abbrev cIlN1:Scope:=csc [(".0",.local),("_law_row",.local),("tuple",.globalImplicit),("_law_marks",.free),("_law_place",.free),("_law_rows_here",.free)]
theorem scIlN:FnScope nIlN ["_law_rows_here","_law_line","_law_marks"] (defScope sInLine):=⟨rfl,rfl,rfl,by decide +kernel,rfl,by decide +kernel,by decide +kernel⟩
theorem csIlN1:CompS nIlN (defScope sInLine) nIlN1 [none,some 2,some 3,some 0] cIlN1:=⟨rfl,by decide +kernel,by decide +kernel,by decide +kernel,rfl,by decide +kernel,by decide +kernel⟩
abbrev cIlN2:Scope:=csc [(".0",.local),("_law_row",.local),("tuple",.globalImplicit),("_law_marks",.cell),("_law_place",.cell),("_law_rows_here",.cell)]
theorem csIlN2:CompS nIlN1 cIlN2 ["_law_to","_law_marks","_law_place"] [none,some 1,some 2] (csc [(".0",.local),("_law_to",.local),("_law_marks",.free),("_law_place",.free)]):=⟨rfl,by decide +kernel,by decide +kernel,by decide +kernel,rfl,by decide +kernel,by decide +kernel⟩
theorem ok_inlineN (F:Fun K "_law_in_line" "_law_in_line" sInLine f fd) (ml:mg "len"=none) (mt:mg "tuple"=none):FnOk P w K mg base CX 1 f fd ["_law_rows_here","_law_line","_law_marks"] (spInLineN K):=by
 refine F.okc scIlN (fun vs H Q E h=>?_) (fun cdv A outer s H vs Q E hr h=>?_)
 ·obtain ⟨a,l,m,n,rows,nm,us,o,k,kvs,rfl,_⟩:=h
  rfl
 obtain ⟨a,l,m,n,rows,nm,us,o,k,kvs,rfl,Sa,da,ni,GM,hn,el,em,mk,L,cl,q⟩:=h
 have hu:=hu_of hr
 refine ⟨_,pss_cons (ps_set (i:=3) scIlN.nd rfl (Or.inr rfl) pe_dnewK)
  (pss_cons (ps_set (i:=4) scIlN.nd rfl (Or.inl rfl) (pe_lst pa_nil))
  (pss_cons (ps_for PassesOwn.never rfl (pi_list (pv 1)) (pg_name (i:=5) scIlN.nd rfl (Or.inl rfl))
   (pss_one (ps_if (pt_cmp (pc_dnotin hu (pe_dget hu (pv 2) (pv 5) (fun _ _=>rfl)) (pv 3)))
    (pss_cons (ps_dput hu (pv 3) (pe_dget hu (pv 2) (pv 5) (fun _ _=>rfl)) (pe_callB call_len_seq rfl ml PySem.boot_len (pa_cons (pv 4) pa_nil)) rfl)
    (pss_one (ps_expr (pe_bm PySem.F.plainAttrs_list PySem.F.slot_list_append PySem.F.type_list_append mt_append (pv 4) (pa_cons (pv 5) pa_nil))))) pss_nil)))
  (pss_one (ps_ret (pe_callTy call_tuple_of rfl mt PyProof.Rows.boot_tuple (pa_cons (pe_comp rfl csIlN1 (pi_list (pv 4)) (fun _ _ _ _ _=>pg_name (i:=0) csIlN1.nd rfl (Or.inl rfl))
   (fun _ _ _ _ _=>pe_tup (pa_cons (pe_callTy (cTup K rfl) rfl mt PyProof.Rows.boot_tuple (pa_cons (pe_ix (ixT K rfl) (pe_ix (ixQ K rfl) (pv 3) (pv 0) (fun _ _=>rfl)) pe_int (fun _ _=>rfl)) pa_nil))
    (pa_cons (pe_callTy (cTup K rfl) rfl mt PyProof.Rows.boot_tuple (pa_cons (pe_comp rfl csIlN2 (piT K rfl (pe_ix (ixT K rfl) (pe_ix (ixQ K rfl) (pv 3) (pv 0) (fun _ _=>rfl)) pe_int (fun _ _=>rfl))) (fun _ _ _ _ _=>pg_name (i:=0) csIlN2.nd rfl (Or.inl rfl))
     (fun _ _ _ _ _=>pe_dget hu (pv 2) (pe_dget hu (pv 1) (pv 0) (fun _ _=>rfl)) (fun _ _=>rfl))) pa_nil)) pa_nil)))) pa_nil)))))),?_⟩
 have hol:=L.len
 have h400:=GM.few
 have gk:∀ r∈o,valV kvs (kN nm r)=some (V.int (k r)):=fun r hr=>by
  obtain ⟨v,hv,d⟩:=mk.get ni hr
  simp only [Dr] at d
  rw [hv,d]
 refine fun lp hlp=>⟨by show 0≤sizeLine;decide,fun lh hlh=>?_⟩
 have s1:=same_up (o:=HO.dK []) (Same.refl H) hlp
 have hlh0:H lh=none:=s1.free hlh
 have nph:lp≠lh:=ne_of_none upd_same hlh
 have s2:=same_up (o:=HO.lst []) s1 hlh
 refine ⟨_,rfl,l,rfl,⟨_,SqL.of (s2 _ _ el)⟩,listO (xs:=o.map (nV nm)) (fun i σ H2=>∃ (u:Option V),σ=[some (.ref a),some (.ref l),some (.ref m),some (.ref lp),some (.ref lh),u]∧Same H H2∧H2 lh=some (.lst ((heads k (o.take i)).map (nV nm)))∧H2 lp=some (.dK (prs Sum.inl ((heads k (o.take i)).map k))))
  ⟨_,rfl,s2,upd_same,by rw [upd_ne nph];exact upd_same⟩ (fun i σ H2 _ h=>by obtain ⟨_,_,t2,_⟩:=h;exact SqL.of (t2 _ _ el)) (fun i x σ H2 hx h Ed nx3=>?_) (fun σ H2 h=>?_)⟩
 ·obtain ⟨u,rfl,t2,e1,e2⟩:=h
  have hil:i < o.length:=by have:=(List.getElem?_eq_some_iff.mp hx).1;rwa [List.length_map] at this
  have eo:o[i]?=some o[i]:=List.getElem?_eq_getElem hil
  have hro:o[i]∈o:=List.getElem_mem hil
  generalize o[i]=r at eo hro
  have ex:x=V.int (nm r):=by rw [List.getElem?_map,eo] at hx;exact (Option.some.inj hx).symm
  subst ex
  have et:heads k (o.take (i+1))=hdStep k (heads k (o.take i)) r:=by rw [List.take_add_one,eo];exact heads_snoc k _ _
  have hhl:=(heads_has k (o.take i)).2.2
  rw [List.length_take] at hhl
  generalize heads k (o.take i)=hs at *
  have gm:DGet H2 m (V.int (nm r)) (some (V.int (k r))):=by rw [←gk r hro];exact DGet.k (k:=kN nm r) (t2 _ _ em)
  refine ⟨_,rfl,_,rfl,m,_,rfl,gm,_,rfl,lp,_,rfl,DGet.k (k:=Sum.inl (k r)) e2,_,rfl,?_⟩
  have hv:=prs_val (κ:=Key) Sum.inl inl_inj (hs.map k) (k r)
  by_cases hm:k r∈hs.map k
  ·rw [hv,if_pos hm]
   refine iteF (nx3 _ _ ⟨_,rfl,t2,?_,?_⟩)
   ·rw [et,hdStep,if_pos hm];exact e1
   ·rw [et,hdStep,if_pos hm];exact e2
  ·rw [hv,if_neg hm]
   have nlop:lh≠lp:=Ne.symm nph
   refine iteT ⟨_,rfl,lh,_,rfl,.inl (SqL.of e1),_,rfl,_,rfl,_,rfl,m,_,rfl,gm,lp,_,rfl,DPut.k (k:=Sum.inl (k r)) e2 (by rw [prsF_len,List.length_map];exact small5 (by omega)),?_⟩
   have e1':upd H2 lp (.dK (putK (prs Sum.inl (hs.map k)) (Sum.inl (k r):Key) (V.int ((hs.map (nV nm)).length:Nat)))) lh=some (.lst (hs.map (nV nm))):=by rw [upd_ne nlop];exact e1
   refine ⟨_,rfl,.inl ⟨rfl,_,SqL.of e1'⟩,_,rfl,lh,_,_,rfl,rfl,e1',by rw [List.length_map];exact small5 (by omega),?_⟩
   refine nx3 _ _ ⟨_,rfl,same_over (same_over t2 hlp) hlh0,?_,?_⟩
   ·rw [upd_same,et,hdStep,if_neg hm,List.map_append];rfl
   ·rw [upd_ne nph,upd_same,et,hdStep,if_neg hm,List.map_append]
    have:=prs_put (κ:=Key) Sum.inl inl_inj hm
    rw [List.length_map] at this ⊢
    rw [this];rfl
 ·obtain ⟨u,rfl,t2,e1,e2⟩:=h
  rw [List.length_map,List.take_length] at e1 e2
  obtain ⟨hh1,hh2,hh3⟩:=heads_has k o
  unfold inLine at q
  generalize heads k o=hs at *
  refine ⟨_,rfl,lh,rfl,⟨_,SqL.of e1⟩,fun l3 hl3=>comp_list (xs:=hs.map (nV nm)) (fun i ys H3=>i≤hs.length∧ys.length=i∧Same H2 H3∧DrL K H3 (((hs.take i).map fun r=>rowD ((row rows r).1,(row rows r).2.map fun g=>(((hs.map k).idxOf (k g):Nat):Int)))) ys) ⟨Nat.zero_le _,rfl,same_up (Same.refl H2) hl3,DrL.nil⟩ (fun i ys H3 _ h=>SqL.of (h.2.2.1 _ _ e1)) (by rw [List.length_map];exact line_le (by omega)) (fun i ys H3 h=>h.2.1) (fun i x ys H3 hx h hy=>?_) (fun ys H3 h hy=>?_)⟩
  ·obtain ⟨_,hyl,s3,d3⟩:=h
   have hil:i < hs.length:=by have:=(List.getElem?_eq_some_iff.mp hx).1;rwa [List.length_map] at this
   have eo:hs[i]?=some hs[i]:=List.getElem?_eq_getElem hil
   have hrh:hs[i]∈hs:=List.getElem_mem hil
   generalize hs[i]=r at eo hrh
   have hro:=hh2 r hrh
   have ex:x=V.int (nm r):=by rw [List.getElem?_map,eo] at hx;exact (Option.some.inj hx).symm
   subst ex
   obtain ⟨r0,r1⟩:=L.rg r hro
   obtain ⟨nr0,v,ev,dv⟩:=da r r0 r1
   have t3:=t2.trans s3
   obtain ⟨t,b,cc,rfl,et,eb,ec⟩:=rowD_inv (dv.mono t3)
   dsimp only [rowN] at eb ec
   have hgl:=GM.len _ (row_mem r0 r1)
   have hgo:=cl r hro
   have esn:=take_snoc (fun r=>rowD ((row rows r).1,(row rows r).2.map fun g=>(((hs.map k).idxOf (k g):Nat):Int))) eo
   generalize hrr:(row rows r).2=gs at *
   refine ⟨_,rfl,_,rfl,a,_,nm r,.ref t,rfl,rfl,Sa.mono t3,atI_of nr0 ev,t,_,_,.ref b,rfl,rfl,SqT.of et,atI_nat (j:=0) rfl,b,_,rfl,.inr ⟨SqT.of eb,?_⟩⟩
   refine ⟨_,rfl,_,rfl,a,_,nm r,.ref t,rfl,rfl,Sa.mono t3,atI_of nr0 ev,t,_,_,.ref cc,rfl,rfl,SqT.of et,atI_nat (j:=1) rfl,cc,rfl,⟨_,SqT.of ec⟩,fun l4 hl4=>comp_tup (xs:=(gs.map nm).map V.int) (fun j zs H4=>j≤gs.length∧zs=((gs.take j).map fun g=>(((hs.map k).idxOf (k g):Nat):Int)).map V.int∧Same H3 H4) ⟨Nat.zero_le _,rfl,same_up (Same.refl H3) hl4⟩ (fun j zs H4 _ h=>SqT.of (h.2.2 _ _ ec)) (by rw [List.length_map,List.length_map];exact line_le (by omega)) (fun j zs H4 h=>?_) (fun j x zs H4 hx h hy4=>?_) (fun zs H4 h hy4=>?_)⟩
   ·obtain ⟨hj,rfl,_⟩:=h
    rw [List.length_map,List.length_map,List.length_take]
    omega
   ·obtain ⟨hj,rfl,s4⟩:=h
    have hjl:j < gs.length:=by have:=(List.getElem?_eq_some_iff.mp hx).1;rwa [List.length_map,List.length_map] at this
    have eg:gs[j]?=some gs[j]:=List.getElem?_eq_getElem hjl
    have hgm:=hgo _ (List.getElem_mem hjl)
    generalize gs[j]=gj at eg hgm
    have ex:x=V.int (nm gj):=by rw [List.getElem?_map,List.getElem?_map,eg] at hx;exact (Option.some.inj hx).symm
    subst ex
    have t4:=t3.trans s4
    have gm:DGet H4 m (V.int (nm gj)) (some (V.int (k gj))):=by rw [←gk gj hgm];exact DGet.k (k:=kN nm gj) (t4 _ _ em)
    have hv:=prs_val (κ:=Key) Sum.inl inl_inj (hs.map k) (k gj)
    rw [if_pos (hh1 gj hgm)] at hv
    refine ⟨_,rfl,_,rfl,_,rfl,m,_,rfl,gm,lp,_,rfl,(by rw [←hv];exact DGet.k (k:=Sum.inl (k gj)) (s4 _ _ (s3 _ _ e2))),hy4,hjl,?_,same_over s4 hl4⟩
    rw [take_snoc _ eg,List.map_append]
    rfl
   ·obtain ⟨_,rfl,s4⟩:=h
    rw [List.length_map,List.length_map,List.take_length] at hy4
    refine ⟨l4,_,rfl,.inl ⟨SqL.of hy4,fun t4 ht4=>⟨by show 2≤sizeLine;decide,fun t5 ht5=>?_⟩⟩⟩
    have s5:=same_up (o:=HO.tup ((gs.map fun g=>(((hs.map k).idxOf (k g):Nat):Int)).map V.int)) s4 ht4
    have s6:=same_up (o:=HO.tup [.ref b,.ref t4]) s5 ht5
    have hy6:=s6 _ _ hy
    refine ⟨hy6,hil,by rw [List.length_append,hyl];rfl,same_over (s3.trans s6) hl3,?_⟩
    have kk:TupK H3 (upd (upd (upd H4 t4 (.tup ((gs.map fun g=>(((hs.map k).idxOf (k g):Nat):Int)).map V.int))) t5 (.tup [.ref b,.ref t4])) l3 (.lst (ys++[.ref t5]))):=TupK.up (TupK.of s6) hy6 (fun _ z=>by cases z)
    have nt5:t5≠l3:=ne_of upd_same hy6 (by intro z;cases z)
    have nt4:t4≠t5:=ne_of_none upd_same ht5
    have nt4f:t4≠l3:=ne_of (show upd (upd H4 t4 (.tup ((gs.map fun g=>(((hs.map k).idxOf (k g):Nat):Int)).map V.int))) t5 (.tup [.ref b,.ref t4]) t4=_ by rw [upd_ne nt4];exact upd_same) hy6 (by intro z;cases z)
    rw [esn]
    refine DrL.append (d3.keyed kk (by have:=rows_key ((hs.take i).map fun r=>((row rows r).1,(row rows r).2.map fun g=>(((hs.map k).idxOf (k g):Nat):Int)));unfold rowsD at this;rw [List.map_map] at this;exact this)) (DrL.one (rowD_mk (b:=b) (c:=t4) ?_ (kk _ _ eb) ?_))
    ·rw [upd_ne nt5];exact upd_same
    ·rw [upd_ne nt4f,upd_ne nt4];exact upd_same
  ·obtain ⟨_,_,s3,d3⟩:=h
   rw [List.length_map,List.take_length] at d3
   refine ⟨l3,_,rfl,.inl ⟨SqL.of hy,fun t ht=>?_⟩⟩
   refine q _ _ ((t2.trans s3).trans (same_up (Same.refl H3) ht)) (Dr.tup upd_same ?_)
   unfold rowsD
   rw [List.map_map]
   exact d3.mono (same_up (Same.refl H3) ht)
end
end Gu

set_option Elab.async false
set_option linter.all false
set_option maxRecDepth 100000
set_option maxHeartbeats 4000000
namespace Gu
open PySem L2
section
variable {P:Program} {w:World} {K:PySem.W.Frag} {mg:Str→Option Value} {base:Heap} {f g:Addr} {fd gd:FuncData} {CX:CXT} [NoE CX]
abbrev nShN:List Str:=["_law_rows_here","_law_start","_law_line","_law_marks","_law_at","_law_to","_law_many","_law_grown","_law_known","_law_fresh","_law_row","_law_key"]
theorem scShN:FnScope nShN ["_law_rows_here","_law_start"] (defScope sShrunk):=⟨rfl,rfl,rfl,by decide +kernel,rfl,by decide +kernel,by decide +kernel⟩
theorem csShN:CompS nShN (defScope sShrunk) ["_law_to","_law_marks"] [none,some 3] (csc [(".0",.local),("_law_to",.local),("_law_marks",.free)]):=⟨rfl,by decide +kernel,by decide +kernel,by decide +kernel,rfl,by decide +kernel,by decide +kernel⟩
theorem put_addN2 (u:List D) (d:D) (hn:u.Nodup):putK (prs id u) d ((valV (prs id u) d).getD (V.int ((prs id u).length:Nat)))=prs id (addN u d):=by
 have hv:valV (prs id u) d=_:=prs_val id (fun _ _ e=>e) u d
 by_cases hm:d∈u
 ·rw [hv,if_pos hm,addN_mem hm]
  have:=prs_put_same 0 u d hm hn
  rw [Nat.zero_add] at this
  exact this
 ·rw [hv,if_neg hm,addN_new hm,←prs_put id (fun _ _ e=>e) hm]
  rw [prsF_len]
  rfl
theorem ok_shrunkN (F:Fun K "_law_shrunk" "_law_shrunk" sShrunk f fd) (ml:mg "len"=none) (mt:mg "tuple"=none)
  (G:FnOk P w K mg base CX 1 g gd ["_law_rows_here","_law_line","_law_marks"] (spInLineN K)) (bG:Binds K gd ["_law_rows_here","_law_line","_law_marks"] []) (kG:PySem.W.keepIn K (.ref g)=true) (mG:mg "_law_in_line"=some (.ref g)):FnOk P w K mg base CX 2 f fd ["_law_rows_here","_law_start"] (spShrunkN K):=by
 refine F.okc scShN (fun vs H Q E h=>?_) (fun cdv A outer s H vs Q E hr h=>?_)
 ·obtain ⟨a,n,rows,nm,us,rfl,_⟩:=h
  rfl
 obtain ⟨a,n,rows,nm,us,rfl,Sa,da,ni,GM,hn,q⟩:=h
 have hu:=hu_of hr
 have hu9:(A.deeper (PyProof.Rows.envOfC "_law_shrunk" (defScope sShrunk) s.heap.objs.size f cdv)).units+9 < cLine:=by have:=hr.units;omega
 refine ⟨_,pss_cons (ps_set (i:=2) scShN.nd rfl (Or.inl rfl) (pe_lst (pa_cons (pv 1) pa_nil)))
  (pss_cons (ps_set (i:=3) scShN.nd rfl (Or.inr rfl) (pe_disp (pps_cons (pv 1) (pe_ix ix_tup (pe_ix (ixQ K rfl) (pv 0) (pv 1) (fun _ _=>rfl)) pe_int (fun _ _=>rfl)) pps_nil) rfl rfl (by simp) (by decide)))
  (pss_cons (ps_set (i:=4) scShN.nd rfl (Or.inl rfl) pe_int)
  (pss_cons (ps_while PassesOwn.never (pt_cmpR op_lt (pv 4) (pe_callB call_len_seq rfl ml PySem.boot_len (pa_cons (pv 2) pa_nil)) (nomark _))
   (pss_cons (ps_for PassesOwn.never rfl (pi_tup (pe_ix ix_tup (pe_ix (ixQ K rfl) (pv 0) (pe_ix ix_list (pv 2) (pv 4) (fun _ _=>rfl)) (fun _ _=>rfl)) pe_int (fun _ _=>rfl))) (pg_name (i:=5) scShN.nd rfl (Or.inl rfl))
    (pss_one (ps_if (pt_cmp (pc_dnotin hu (pv 5) (pv 3)))
     (pss_cons (ps_dput hu (pv 3) (pv 5) (pe_ix ix_tup (pe_ix (ixQ K rfl) (pv 0) (pv 5) (fun _ _=>rfl)) pe_int (fun _ _=>rfl)) rfl)
     (pss_one (ps_expr (pe_bm PySem.F.plainAttrs_list PySem.F.slot_list_append PySem.F.type_list_append mt_append (pv 2) (pa_cons (pv 5) pa_nil))))) pss_nil)))
   (pss_one (ps_aug (i:=4) scShN.nd rfl (Or.inl rfl) pe_int ip_add))))
  (pss_cons (ps_set (i:=6) scShN.nd rfl (Or.inl rfl) pe_int)
  (pss_cons (ps_set (i:=7) scShN.nd rfl (Or.inl rfl) pe_bl)
  (pss_cons (ps_while PassesOwn.never (pt_val (pv 7))
   (pss_cons (ps_set (i:=8) scShN.nd rfl (Or.inl rfl) (pe_newD (K:=K)))
   (pss_cons (ps_set (i:=9) scShN.nd rfl (Or.inl rfl) pe_dnewK)
   (pss_cons (ps_for PassesOwn.never rfl (pi_list (pv 2)) (pg_name (i:=10) scShN.nd rfl (Or.inl rfl))
    (pss_cons (ps_set (i:=11) scShN.nd rfl (Or.inl rfl) (pe_tup (pa_cons (pe_dget hu (pv 3) (pv 10) (fun _ _=>rfl)) (pa_cons (pe_callTy call_tuple_of rfl mt PyProof.Rows.boot_tuple (pa_cons
     (pe_comp rfl csShN (pi_tup (pe_ix ix_tup (pe_ix (ixQ K rfl) (pv 0) (pv 10) (fun _ _=>rfl)) pe_int (fun _ _=>rfl))) (fun _ _ _ _ _=>pg_name (i:=0) csShN.nd rfl (Or.inl rfl)) (fun _ _ _ _ _=>pe_dget hu (pv 1) (pv 0) (fun _ _=>rfl))) pa_nil)) pa_nil))))
    (pss_cons (ps_putD (K:=K) hu9 (pv 8) (pv 11) (pe_get2D (K:=K) hu9 (pv 8) (pv 11) (pe_callB (cLenD K) rfl ml PySem.boot_len (pa_cons (pv 8) pa_nil)) ⟨rfl,rfl,rfl,rfl⟩))
    (pss_one (ps_dput hu (pv 9) (pv 10) (pe_getD (K:=K) hu9 (pv 8) (pv 11) (fun _ _=>rfl)) rfl)))))
   (pss_cons (ps_set (i:=7) scShN.nd rfl (Or.inl rfl) (pe_cmpR op_gt (pe_callB (cLenD K) rfl ml PySem.boot_len (pa_cons (pv 8) pa_nil)) (pv 6) (nomark _)))
   (pss_cons (ps_set (i:=6) scShN.nd rfl (Or.inl rfl) (pe_callB (cLenD K) rfl ml PySem.boot_len (pa_cons (pv 8) pa_nil)))
   (pss_one (ps_set (i:=3) scShN.nd rfl (Or.inr rfl) (pv 9)))))))))
  (pss_one (ps_ret (pe_call G hr rfl mG kG bG .nil passN (pa_cons (pv 0) (pa_cons (pv 2) (pa_cons (pv 3) pa_nil)))))))))))),?_⟩
 have h400:=GM.few
 have h1:=GM.some
 have hz1:(0:Int) < (rows.length:Int):=by omega
 refine ⟨_,rfl,by show 1≤sizeLine;decide,fun lo hlo=>?_⟩
 refine fun lm hlm=>⟨_,rfl,?_⟩
 have s1:=same_up (o:=HO.lst [V.int (nm 0)]) (Same.refl H) hlo
 have s2:=same_up (o:=HO.dK []) s1 hlm
 have nlo:lo≠lm:=ne_of_none upd_same hlm
 have hlm0:H lm=none:=s1.free hlm
 obtain ⟨nz0,v0,ev0,dv0⟩:=da 0 (Int.le_refl 0) hz1
 obtain ⟨t0,b0,c0,rfl,et0,eb0,ec0⟩:=rowD_inv (dv0.mono s2)
 refine ⟨_,rfl,_,rfl,a,_,nm 0,.ref t0,rfl,rfl,Sa.mono s2,atI_of nz0 ev0,t0,_,_,.ref b0,rfl,rfl,SqT.of et0,atI_nat (j:=0) rfl,upd_same,[(Sum.inl (nm 0),V.ref b0)],rfl,by simp,?_⟩
 have s3:Same H (upd (upd (upd H lo (.lst [.int (nm 0)])) lm (.dK [])) lm (.dK (mergeK [] [(Sum.inl (nm 0),V.ref b0)]))):=same_over s2 hlm0
 have hF0:=FK.its rows
 have L0:=line0 GM
 have OL:=order_line GM
 have hol:=OL.1.len
 show tWhile _ _ _ _ _
 refine cutW (fun σ' H'=>∃ (i0:Int) (o:List Int) (u5:Option V) (kvs:List (Key × V)),σ'=[some (.ref a),some (.int (nm 0)),some (.ref lo),some (.ref lm),some (.int i0),u5,none,none,none,none,none,none]∧Same H H'∧H' lo=some (.lst (o.map (nV nm)))∧H' lm=some (.dK kvs)∧MkN nm K H' o (fun r=>D.its (row rows r).1) kvs∧Line rows o∧order rows=o) (fun Ed nx=>?_) (fun σ' H' p=>?_)
 rotate_left
 ·obtain ⟨i0,o,u5,kvs,rfl,t2,glo,glm,mk2,L,eoo⟩:=p
  have cl:∀ r∈o,∀ g∈(row rows r).2,g∈o:=by have:=OL.2;rwa [eoo] at this
  have hln:=L.len
  refine ⟨fun m σ H3=>∃ (f:Int→D) (many:Nat) (gr:Bool) (lm:Addr) (kvs:List (Key × V)) (u8 u9 u10 u11:Option V),σ=[some (.ref a),some (.int (nm 0)),some (.ref lo),some (.ref lm),some (.int i0),u5,some (.int many),some (.bl gr),u8,u9,u10,u11]∧Same H H3∧H3 lo=some (.lst (o.map (nV nm)))∧H3 lm=some (.dK kvs)∧MkN nm K H3 o f kvs∧FK f ∧
    ((gr=true∧o.length+2≤m+many∧many≤o.length∧sloop rows o m many f=smarks rows)∨(gr=false∧f=smarks rows)),
   ⟨rows.length+2,_,0,true,lm,kvs,_,_,_,_,rfl,t2,glo,glm,mk2,hF0,.inl ⟨rfl,by omega,by omega,by unfold smarks;rw [eoo]⟩⟩,?_⟩
  clear glm mk2
  rintro m σ H3 ⟨f,many,gr,lm,kvs,u8,u9,u10,u11,rfl,t3,elo,elm,mk3,hf,alt⟩
  refine ⟨_,rfl,_,rfl,ite2 (fun c=>?_) (fun c=>?_)⟩
  ·obtain ⟨_,hm1,hm2,hsl⟩:=alt.resolve_right fun z=>by rw [z.1] at c;cases c
   clear alt
   refine cutN fun N nx2=>?_
   intro lk hlk ob0 g0 lf hlf
   have s4:=same_up (o:=ob0) (Same.refl H3) hlk
   have hlf0:H3 lf=none:=s4.free hlf
   have nkf:lk≠lf:=ne_of_none upd_same hlf
   have s5:=same_up (o:=HO.dK []) s4 hlf
   refine ⟨_,rfl,lo,rfl,⟨_,SqL.of (s5 _ _ elo)⟩,listO (xs:=o.map (nV nm)) (fun i σ H4=>∃ (u10 u11:Option V) (kv4:List (Key × V)),σ=[some (.ref a),some (.int (nm 0)),some (.ref lo),some (.ref lm),some (.int i0),u5,some (.int many),some (.bl gr),some (.ref lk),some (.ref lf),u10,u11]∧Same H3 H4∧DD P w K H4 lk (prs id (uniq ((skeys rows o f).take i)))∧H4 lf=some (.dK kv4)∧MkN nm K H4 (o.take i) (sround rows o f) kv4)
    ⟨_,_,[],rfl,s5,?_,upd_same,MkN.nil⟩ (fun i σ H4 _ h=>by obtain ⟨_,_,_,_,t4,_⟩:=h;exact SqL.of (t4 _ _ elo)) (fun i x σ H4 hx h Ed nx3=>?_) (fun σ H4 h=>?_)⟩
   ·exact g0.mono (same_up (Same.refl _) hlf)
   ·obtain ⟨u10,u11,kv4,rfl,t4,g4,elf,mk4⟩:=h
    have hil:i < o.length:=by have:=(List.getElem?_eq_some_iff.mp hx).1;rwa [List.length_map] at this
    have eo:o[i]?=some o[i]:=List.getElem?_eq_getElem hil
    have hro:o[i]∈o:=List.getElem_mem hil
    have hnew:o[i]∉o.take i:=nd_take L.nd eo
    generalize o[i]=r at eo hro hnew
    have ex:x=V.int (nm r):=by rw [List.getElem?_map,eo] at hx;exact (Option.some.inj hx).symm
    subst ex
    obtain ⟨r0,r1⟩:=L.rg r hro
    have t34:=t3.trans t4
    obtain ⟨nr0,vr,evr,dvr⟩:=da r r0 r1
    obtain ⟨t,b,cc,rfl,et,eb,ec⟩:=rowD_inv (dvr.mono t34)
    dsimp only [rowN] at eb ec
    have hgl:=GM.len _ (row_mem r0 r1)
    have hgo:=cl r hro
    obtain ⟨v,hv,dv⟩:=mk3.get ni hro
    have gm:DGet H4 lm (V.int (nm r)) (some v):=by rw [←hv];exact DGet.k (k:=kN nm r) (t4 _ _ elm)
    have ekey:keyOf rows f r=D.tup [f r,D.tup ((row rows r).2.map f)]:=rfl
    have ks:=hf.key (rows:=rows) r
    have esk:(skeys rows o f)[i]?=some (keyOf rows f r):=by unfold skeys;rw [List.getElem?_map,eo];rfl
    have hidx:(((uniq ((skeys rows o f).take (i+1))).idxOf (keyOf rows f r):Nat):Int)=sroundI rows o f r:=by
     unfold sroundI
     obtain ⟨m2,e2⟩:=addAll_sub ((skeys rows o f).drop (i+1)) (uniq ((skeys rows o f).take (i+1)))
     have e3:uniq (skeys rows o f)=uniq ((skeys rows o f).take (i+1))++m2:=by
      rw [←e2]
      unfold uniq addAll
      rw [←List.foldl_append,List.take_append_drop]
     rw [e3,idxOf_app]
     refine addAll_mem.mpr (.inr ?_)
     rw [List.take_add_one,esk]
     simp
    have hun:uniq ((skeys rows o f).take (i+1))=addN (uniq ((skeys rows o f).take i)) (keyOf rows f r):=by
     unfold uniq
     rw [List.take_add_one,esk]
     exact addAll_snoc _ _ _
    have hund:(uniq ((skeys rows o f).take i)).Nodup:=addAll_nodup _ _ List.nodup_nil
    have hunl:(uniq ((skeys rows o f).take i)).length≤4000:=by
     have:=uniq_le ((skeys rows o f).take i)
     rw [List.length_take] at this
     omega
    rw [hun] at hidx
    generalize uniq ((skeys rows o f).take i)=un at *
    generalize hgs:(row rows r).2=gs at *
    dsimp only [gName]
    refine cutQ (fun σ' H'=>∃ t7:Addr,σ'=[some (.ref a),some (.int (nm 0)),some (.ref lo),some (.ref lm),some (.int i0),u5,some (.int many),some (.bl gr),some (.ref lk),some (.ref lf),some (.int (nm r)),some (.ref t7)]∧Same H4 H'∧Dr K H' (keyOf rows f r) (.ref t7)) (fun Eq nxq=>?_) (fun σ' H7 p=>?_)
    rotate_left
    ·obtain ⟨t7,rfl,s47,dk⟩:=p
     have g7:=g4.mono s47
     have e7f:=s47 _ _ elf
     have t7':=t4.trans s47
     refine ⟨_,rfl,lk,_,rfl,g7,_,rfl,_,rfl,lk,_,rfl,g7,_,_,g7,keyV ks dk,_,rfl,_,rfl,lk,_,_,rfl,g7,keyV ks dk,by rw [prsF_len];exact small5 (by omega),fun ob g8=>?_⟩
     rw [put_addN2 un _ hund] at g8
     have k8:TupK H7 (upd H7 lk ob):=by
      obtain ⟨xs,e0,_⟩:=g7
      exact TupK.up (TupK.refl _) e0 (fun _ z=>by unfold dExt at z;cases z)
     have dk8:=dk.keyed k8 ks.1
     have hval:valV (prs id (addN un (keyOf rows f r))) (keyOf rows f r)=some (V.int (sroundI rows o f r)):=by
      have:=prs_val (κ:=D) id (fun _ _ e=>e) (addN un (keyOf rows f r)) (keyOf rows f r)
      rw [if_pos (addN_has _ _),hidx] at this
      exact this
     have e8f:upd H7 lk ob lf=some (.dK kv4):=by rw [upd_ne nkf.symm];exact e7f
     refine ⟨_,rfl,_,rfl,lk,_,_,_,rfl,g8,keyV ks dk8,hval,_,rfl,_,rfl,lf,_,rfl,DPut.k (k:=kN nm r) e8f (by rw [mk4.len,List.length_take];exact small5 (by omega)),?_⟩
     have k9:TupK (upd H7 lk ob) (upd (upd H7 lk ob) lf (.dK (putK kv4 (kN nm r) (V.int (sroundI rows o f r))))):=TupK.up (TupK.refl _) e8f (fun _ z=>by cases z)
     refine nx3 _ _ ⟨_,_,_,rfl,same_over (same_over t7' hlk) hlf0,?_,upd_same,?_⟩
     ·rw [hun]
      exact DD.keyed g8 k9 (by rw [upd_ne nkf])
     ·rw [List.take_add_one,eo]
      exact (mk4.mono s47).put ni hnew (((mk4.mono s47).keyed k8 (FK.int _)).keyed k9 (FK.int _)) (Dr.int _)
    refine ⟨_,rfl,_,rfl,lm,v,rfl,gm,_,rfl,_,rfl,a,_,nm r,.ref t,rfl,rfl,Sa.mono t34,atI_of nr0 evr,t,_,_,.ref cc,rfl,rfl,SqT.of et,atI_nat (j:=1) rfl,cc,rfl,⟨_,SqT.of ec⟩,fun l5 hl5=>comp_tup (xs:=(gs.map nm).map V.int) (fun j zs H5=>j≤gs.length∧zs.length=j∧Same H4 H5∧DrL K H5 ((gs.take j).map f) zs) ⟨Nat.zero_le _,rfl,same_up (Same.refl H4) hl5,DrL.nil⟩ (fun j zs H5 _ h=>SqT.of (h.2.2.1 _ _ ec)) (by rw [List.length_map,List.length_map];exact line_le (by omega)) (fun j zs H5 h=>h.2.1) (fun j x zs H5 hx h hy5=>?_) (fun zs H5 h hy5=>?_)⟩
    ·obtain ⟨hj,hzl,s5',d5⟩:=h
     have hjl:j < gs.length:=by have:=(List.getElem?_eq_some_iff.mp hx).1;rwa [List.length_map,List.length_map] at this
     have eg:gs[j]?=some gs[j]:=List.getElem?_eq_getElem hjl
     have hgm:=hgo _ (List.getElem_mem hjl)
     generalize gs[j]=gj at eg hgm
     have ex:x=V.int (nm gj):=by rw [List.getElem?_map,List.getElem?_map,eg] at hx;exact (Option.some.inj hx).symm
     subst ex
     obtain ⟨vg,hvg,dvg⟩:=mk3.get ni hgm
     have gmg:DGet H5 lm (V.int (nm gj)) (some vg):=by rw [←hvg];exact DGet.k (k:=kN nm gj) (s5' _ _ (t4 _ _ elm))
     have kk:TupK H5 (upd H5 l5 (.lst (zs++[vg]))):=TupK.up (TupK.refl _) hy5 (fun _ z=>by cases z)
     refine ⟨_,rfl,_,rfl,lm,vg,rfl,gmg,hy5,hjl,by rw [List.length_append,hzl];rfl,same_over s5' hl5,?_⟩
     rw [take_snoc _ eg]
     exact DrL.append (d5.keyed kk (hf.keyL _)) (DrL.one ((dvg.mono (t4.trans s5')).keyed kk (hf gj).1))
    ·obtain ⟨_,hzl,s5',d5⟩:=h
     rw [List.length_map,List.length_map,List.take_length] at d5
     refine ⟨l5,_,rfl,.inl ⟨SqL.of hy5,fun t6 ht6=>⟨by show 2≤sizeLine;decide,fun t7 ht7=>?_⟩⟩⟩
     have s6:=same_up (o:=HO.tup zs) (Same.refl H5) ht6
     have s7:=same_up (o:=HO.tup [v,.ref t6]) s6 ht7
     have s47:=s5'.trans s7
     have nt6:t6≠t7:=ne_of_none upd_same ht7
     have dk:Dr K (upd (upd H5 t6 (.tup zs)) t7 (.tup [v,.ref t6])) (keyOf rows f r) (.ref t7):=by
      rw [ekey]
      exact Dr.tup upd_same (DrL.cons (dv.mono (t4.trans s47)) (DrL.one (Dr.tup (by rw [upd_ne nt6];exact upd_same) (d5.mono s7))))
     exact nxq _ _ ⟨t7,rfl,s47,dk⟩
   ·obtain ⟨u10,u11,kv4,rfl,t4,g4,elf,mk4⟩:=h
    rw [List.length_map] at g4 mk4
    rw [List.take_length] at mk4
    rw [List.take_of_length_le (by unfold skeys;rw [List.length_map];omega)] at g4
    have hcl:=scount_le rows o f
    refine ⟨_,rfl,lk,_,rfl,g4,_,rfl,_,_,rfl,rfl,_,rfl,lk,_,rfl,g4,_,rfl,?_⟩
    have hpl:(prs id (uniq (skeys rows o f))).length=scount rows o f:=prsF_len _ _ _
    cases m with
    | zero=>omega
    | succ m =>
     refine nx2 m _ _ (Nat.lt_succ_self m) ⟨sround rows o f,scount rows o f,decide ((many:Int) < (scount rows o f:Nat)),lf,kv4,_,_,_,_,(by rw [←hpl];rfl),t3.trans t4,t4 _ _ elo,elf,mk4,FK.int _,?_⟩
     unfold sloop at hsl
     by_cases hc:many < scount rows o f
     ·rw [if_pos hc] at hsl
      exact .inl ⟨decide_eq_true (by omega),by omega,hcl,hsl⟩
     ·rw [if_neg hc] at hsl
      exact .inr ⟨decide_eq_false (by omega),hsl⟩
  ·rcases alt with ⟨hg,_⟩ | ⟨_,hfs⟩
   ·exact absurd hg c
   refine ⟨_,rfl,_,rfl,_,rfl,a,lo,lm,n,rows,nm,us,o,kOf rows,kvs,rfl,Sa.mono t3,da.mono t3,ni,GM,hn,elo,elm,?_,L,cl,fun v H4 s4 d4=>?_⟩
   ·rw [hfs,smarks_int rows] at mk3;exact mk3
   ·refine q v H4 (t3.trans s4) ?_
    unfold shr
    rw [eoo]
    exact d4
 refine ⟨fun m σ H2=>∃ (i:Nat) (o:List Int) (u5:Option V) (kvs:List (Key × V)),m=rows.length+1 - i∧σ=[some (.ref a),some (.int (nm 0)),some (.ref lo),some (.ref lm),some (.int i),u5,none,none,none,none,none,none]∧Same H H2∧H2 lo=some (.lst (o.map (nV nm)))∧H2 lm=some (.dK kvs) ∧
   MkN nm K H2 o (fun r=>D.its (row rows r).1) kvs∧Line rows o∧i≤o.length∧bfs rows (rows.length+1 - i) i o=order rows,
  ⟨_,0,[0],none,_,rfl,rfl,s3,?_,upd_same,?_,L0,by simp,rfl⟩,?_⟩
 ·rw [upd_ne nlo,upd_ne nlo];exact upd_same
 ·refine ⟨[.ref b0],rfl,?_⟩
  show DrL K _ [D.its (row rows 0).1] [.ref b0]
  exact DrL.one (Dr.tup (by rw [upd_ne (ne_of eb0 upd_same (by intro z;cases z))];exact eb0) (DrL.ints _))
 rintro m σ H2 ⟨i,o,u5,kvs,rfl,rfl,t2,glo,glm,mk2,L,hi,hb⟩
 have hol2:(o.map (nV nm)).length=o.length:=List.length_map _
 refine ⟨_,rfl,_,rfl,lo,_,rfl,.inl (SqL.of glo),_,_,rfl,rfl,_,rfl,ite2 (fun c=>?_) (fun c=>?_)⟩
 ·have c':=of_decide_eq_true c
  rw [hol2] at c'
  have hio:i < o.length:=by omega
  have eo:o[i]?=some o[i]:=List.getElem?_eq_getElem hio
  have hro:o[i]∈o:=List.getElem_mem hio
  generalize o[i]=r at eo hro
  obtain ⟨r0,r1⟩:=L.rg r hro
  obtain ⟨nr0,v,ev,dv⟩:=da r r0 r1
  obtain ⟨t,b,cc,rfl,et,eb,ec⟩:=rowD_inv (dv.mono t2)
  dsimp only [rowN] at eb ec
  have hrow:=row_mem r0 r1
  have hgl:=GM.len _ hrow
  have hgo:=GM.go _ hrow
  have hlen:=L.len
  refine cutN fun N nx2=>?_
  refine ⟨_,rfl,_,rfl,_,rfl,lo,_,_,V.int (nm r),rfl,rfl,SqL.of glo,atI_nat (by rw [List.getElem?_map,eo];rfl),a,_,nm r,.ref t,rfl,rfl,Sa.mono t2,atI_of nr0 ev,t,_,_,.ref cc,rfl,rfl,SqT.of et,atI_nat (j:=1) rfl,cc,rfl,⟨_,SqT.of ec⟩,?_⟩
  generalize hgs:(row rows r).2=gs at *
  refine tupO (xs:=(gs.map nm).map V.int) (fun j σ H3=>∃ (u:Option V) (kv3:List (Key × V)),σ=[some (.ref a),some (.int (nm 0)),some (.ref lo),some (.ref lm),some (.int i),u,none,none,none,none,none,none]∧Same H H3∧TupK H2 H3∧H3 lo=some (.lst ((addAll o (gs.take j)).map (nV nm)))∧H3 lm=some (.dK kv3)∧MkN nm K H3 (addAll o (gs.take j)) (fun r=>D.its (row rows r).1) kv3)
   ⟨_,kvs,rfl,t2,TupK.refl _,glo,glm,mk2⟩ (fun j σ H3 _ h=>by obtain ⟨_,_,_,_,k3,_⟩:=h;exact SqT.of (k3 _ _ ec)) (fun j x σ H3 hx h Ed nx3=>?_) (fun σ H3 h=>?_)
  ·obtain ⟨u,kv3,rfl,t3,k3,e1,e2,mk3⟩:=h
   have hjl:j < gs.length:=by have:=(List.getElem?_eq_some_iff.mp hx).1;rwa [List.length_map,List.length_map] at this
   have eg:gs[j]?=some gs[j]:=List.getElem?_eq_getElem hjl
   obtain ⟨g0,g1⟩:=hgo _ (List.getElem_mem hjl)
   generalize gs[j]=gj at eg g0 g1
   have ex:x=V.int (nm gj):=by rw [List.getElem?_map,List.getElem?_map,eg] at hx;exact (Option.some.inj hx).symm
   subst ex
   have et':addAll o (gs.take (j+1))=addN (addAll o (gs.take j)) gj:=by rw [List.take_add_one,eg];exact addAll_snoc _ _ _
   have hal:(addAll o (gs.take j)).length≤4500:=by
    have:=addAll_len (gs.take j) o
    rw [List.length_take] at this
    omega
   generalize addAll o (gs.take j)=oj at *
   refine ⟨_,rfl,_,rfl,lm,_,rfl,DGet.k (k:=kN nm gj) e2,_,rfl,?_⟩
   by_cases hm:gj∈oj
   ·obtain ⟨v',hv',_⟩:=mk3.get ni hm
    rw [hv']
    refine iteF (nx3 _ _ ⟨_,kv3,rfl,t3,k3,?_,e2,?_⟩)
    ·rw [et',addN_mem hm];exact e1
    ·rw [et',addN_mem hm];exact mk3
   ·rw [mk3.no ni hm]
    have nlop:lo≠lm:=nlo
    obtain ⟨ng0,v',ev',dv'⟩:=da gj g0 g1
    obtain ⟨t',b',c'',rfl,et'',eb'',ec''⟩:=rowD_inv (dv'.mono t3)
    refine iteT ⟨_,rfl,_,rfl,a,_,nm gj,.ref t',rfl,rfl,Sa.mono t3,atI_of ng0 ev',t',_,_,.ref b',rfl,rfl,SqT.of et'',atI_nat (j:=0) rfl,_,rfl,_,rfl,lm,_,rfl,DPut.k (k:=kN nm gj) e2 (by rw [mk3.len];exact small5 (by omega)),?_⟩
    have e1':upd H3 lm (.dK (putK kv3 (kN nm gj) (V.ref b'))) lo=some (.lst (oj.map (nV nm))):=by rw [upd_ne nlop];exact e1
    refine ⟨_,rfl,.inl ⟨rfl,_,SqL.of e1'⟩,_,rfl,lo,_,_,rfl,rfl,e1',by rw [List.length_map];exact small5 (by omega),?_⟩
    have kk:TupK H3 (upd (upd H3 lm (.dK (putK kv3 (kN nm gj) (V.ref b')))) lo (.lst (oj.map (nV nm)++[V.int (nm gj)]))):=TupK.up (TupK.up (TupK.refl _) e2 (fun _ z=>by cases z)) e1' (fun _ z=>by cases z)
    refine nx3 _ _ ⟨_,_,rfl,same_over (same_over t3 hlm0) hlo,k3.trans kk,?_,(by rw [upd_ne nlo.symm];exact upd_same),?_⟩
    ·rw [upd_same,et',addN_new hm,List.map_append];rfl
    ·rw [et',addN_new hm]
     exact mk3.put ni hm (mk3.keyed kk hF0) (Dr.tup (kk _ _ eb'') (DrL.ints _))
  ·obtain ⟨u,kv3,rfl,t3,k3,e1,e2,mk3⟩:=h
   rw [List.length_map,List.length_map,List.take_length] at e1 mk3
   obtain ⟨mm,em⟩:=bfs_sub rows (rows.length+1 - (i+1)) (i+1) (addAll o gs)
   have hb':bfs rows (rows.length+1 - (i+1)) (i+1) (addAll o gs)=order rows:=by
    rw [←hb,show rows.length+1 - i=(rows.length+1 - (i+1))+1 by omega,bfs_step eo,hgs]
   have L':Line rows (addAll o gs):=by rw [←hgs];exact L.add GM hro
   obtain ⟨m1,em1⟩:=addAll_sub gs o
   have hi':i+1≤(addAll o gs).length:=by rw [em1,List.length_append];omega
   exact ⟨_,rfl,_,_,rfl,rfl,nx2 (rows.length+1 - (i+1)) _ _ (by omega) ⟨i+1,addAll o gs,_,kv3,rfl,rfl,t3,e1,e2,mk3,L',hi',hb'⟩⟩
 have c':=of_decide_eq_false (Bool.eq_false_iff.mpr c)
 rw [hol2] at c'
 have eoo:order rows=o:=by rw [←hb];exact bfs_stop (by omega)
 exact nx _ _ ⟨_,o,u5,kvs,rfl,t2,glo,glm,mk2,L,eoo⟩
theorem scGuise:FnScope ["_law_letters_here","_law_cell_here"] ["_law_letters_here","_law_cell_here"] (defScope sGuise):=⟨rfl,rfl,rfl,by decide +kernel,rfl,by decide +kernel,by decide +kernel⟩
theorem ok_guise {k:Addr} {kd:FuncData} (F:Fun K "_law_guise" "_law_guise" sGuise f fd)
  (G:FnOk P w K mg base CX 2 g gd ["_law_letters_here","_law_cell_here"] (spRows K)) (bG:Binds K gd ["_law_letters_here","_law_cell_here"] []) (kG:PySem.W.keepIn K (.ref g)=true) (mG:mg "_law_rows"=some (.ref g))
  (T:FnOk P w K mg base CX 2 k kd ["_law_rows_here","_law_start"] (spShrunk K)) (bT:Binds K kd ["_law_rows_here","_law_start"] []) (kT:PySem.W.keepIn K (.ref k)=true) (mT:mg "_law_shrunk"=some (.ref k)):FnOk P w K mg base CX 3 f fd ["_law_letters_here","_law_cell_here"] (spGuise K):=by
 refine F.okc scGuise (fun vs H Q E h=>?_) (fun cdv A outer s H vs Q E hr h=>?_)
 ·obtain ⟨n,c,rfl,_⟩:=h
  rfl
 obtain ⟨n,c,rfl,h2,h5,q⟩:=h
 refine ⟨_,pss_one (ps_ret (pe_call T hr rfl mT kT bT .nil passN (pa_cons (pe_call G hr rfl mG kG bG .nil passN (pa_cons (pv 0) (pa_cons (pv 1) pa_nil))) (pa_cons pe_int pa_nil)))),?_⟩
 refine ⟨_,rfl,_,rfl,n,c,rfl,h2,h5,fun r H1 rows s1 hr1 G1 h8=>⟨r,n,rows,rfl,hr1,G1,by omega,fun v H2 s2 d=>q v H2 rows (s1.trans s2) G1 h8 d⟩⟩
end
end Gu

set_option Elab.async false
set_option linter.all false
set_option maxRecDepth 100000
set_option maxHeartbeats 4000000
namespace Gu
open PySem L2
section
variable {P:Program} {w:World} {K:PySem.W.Frag} {mg:Str→Option Value} {base:Heap} {f g:Addr} {fd gd:FuncData} {CX:CXT} [NoE CX]
abbrev nLR:List Str:=["ring","size"]
theorem scLR:FnScope nLR ["ring"] (defScope sLeastR):=⟨rfl,rfl,rfl,by decide +kernel,rfl,by decide +kernel,by decide +kernel⟩
theorem ok_leastring (F:Fun K "least_ring" "least_ring" sLeastR f fd) (ml:mg "len"=none):FnOk P w K mg base CX 1 f fd ["ring"] (spLeastRB K):=by
 refine F.okc scLR (fun vs H Q E h=>?_) (fun cdv A outer s H vs Q E hr h=>?_)
 ·obtain ⟨v,r,rfl,_⟩:=h
  rfl
 obtain ⟨v,r,rfl,d,hne,hl,q⟩:=h
 obtain ⟨a,rfl,ea⟩:=Dr.its_inv d
 refine ⟨_,pss_cons (ps_set (i:=1) scLR.nd rfl (Or.inl rfl) pe_int)
  (pss_cons (ps_while PassesOwn.never (PW.pt (pw_or (pt_cmp (pc_neI (pe_op op_mod (pe_callB call_len_seq rfl ml PySem.boot_len (pa_cons (pv 0) pa_nil)) (pv 1)) pe_int)) (pw_or1 (pt_cmpR (op_neT hr.units0) (pe_op op_repUB (pe_slice sl_tupU (pv 0) po_none (po_some (pv 1))) (pe_op op_fdiv (pe_callB call_len_seq rfl ml PySem.boot_len (pa_cons (pv 0) pa_nil)) (pv 1))) (pv 0) (nomark _)))))
   (pss_one (ps_aug (i:=1) scLR.nd rfl (Or.inl rfl) pe_int ip_add)))
  (pss_one (ps_ret (pe_slice sl_tupU (pv 0) po_none (po_some (pv 1)))))),?_⟩
 have hp:0 < r.length:=List.length_pos_iff.mpr hne
 have lr:(r.map V.int).length=r.length:=List.length_map _
 refine ⟨fun m σ H2=>∃ z:Nat,σ=[some (.ref a),some (.int z)]∧Same H H2∧0 < z∧z≤r.length∧(∀ d,0 < d→d < z→¬ Per r d)∧m+z=r.length,
  ⟨r.length - 1,1,rfl,Same.refl H,by omega,by omega,fun d h0 h1=>by omega,by omega⟩,?_⟩
 rintro m σ H2 ⟨z,rfl,s2,hz0,hzl,hno,hm⟩
 have em:((((r.map V.int).length:Nat):Int) % (z:Int))=((r.length % z:Nat):Int):=by rw [lr];exact (Int.natCast_emod _ _).symm
 have ed:((((r.map V.int).length:Nat):Int) / (z:Int))=((r.length / z:Nat):Int):=by rw [lr];exact (Int.natCast_ediv _ _).symm
 have more:∀ H3,Same H H3→¬ Per r z→∃ m',m' < m∧∃ z':Nat,[some (V.ref a),some (V.int ((z:Int)+1))]=[some (.ref a),some (.int z')]∧Same H H3∧0 < z'∧z'≤r.length∧(∀ d,0 < d→d < z'→¬ Per r d)∧m'+z'=r.length:=fun H3 s3 hn=>by
  have hlt:z < r.length:=by
   rcases Nat.lt_or_ge z r.length with c | c
   ·exact c
   ·have:z=r.length:=by omega
    subst this
    exact absurd per_all hn
  refine ⟨m - 1,by omega,z+1,rfl,s3,by omega,by omega,fun d h0 h1=>?_,by omega⟩
  by_cases c:d < z
  ·exact hno d h0 c
  ·have:d=z:=by omega
   rw [this];exact hn
 refine ⟨_,rfl,a,_,rfl,.inr (SqT.of (s2 _ _ ea)),_,rfl,_,_,rfl,rfl,by omega,_,_,rfl,rfl,_,rfl,ite2 (fun c1=>?_) (fun c1=>?_)⟩
 ·have c1':¬ r.length % z=0:=fun w=>by
   rw [em,w] at c1
   simp at c1
  refine iteT ⟨fun σ' H'=>∃ m',m' < m∧_,fun _ _ w=>w,_,rfl,_,_,rfl,rfl,?_⟩
  exact more H2 s2 fun hp=>c1' (Nat.mod_eq_zero_of_dvd hp.1)
 ·have c1':r.length % z=0:=by
   by_cases w:r.length % z=0
   ·exact w
   ·refine absurd ?_ c1
    rw [em]
    simp
    omega
  have hdv:z ∣ r.length:=Nat.dvd_of_mod_eq_zero c1'
  refine ⟨_,rfl,_,rfl,_,rfl,a,_,rfl,s2 _ _ ea,fun p3 H3 s3 f3=>?_⟩
  rw [cutV_I,cutI_to] at f3
  have hq1:r.length / z≤r.length:=Nat.div_le_self _ _
  refine ⟨_,rfl,a,_,rfl,.inr (SqT.of (s3 _ _ (s2 _ _ ea))),_,rfl,_,_,rfl,rfl,⟨by omega,by omega⟩,p3,((r.length / z:Nat):Int),_,rfl,(by rw [←ed]),f3,(Int.le_trans (by decide) (Int.natCast_nonneg _)),by omega,?_,fun p4 H4 s4 f4=>?_⟩
  ·rw [List.length_map,List.length_take,Int.toNat_natCast,Nat.min_eq_left hzl]
   exact line_leB (by rw [Nat.mul_comm,Nat.div_mul_cancel hdv];omega)
  rw [Int.toNat_natCast,flat_map] at f4
  have s24:=s2.trans (s3.trans s4)
  refine ⟨_,rfl,p4,a,_,r,rfl,rfl,f4,s24 _ _ ea,_,rfl,ite2 (fun c2=>?_) (fun c2=>?_)⟩
  ·have c2':¬ (List.replicate (r.length / z) (r.take z)).flatten=r:=by simpa using c2
   refine ⟨fun σ' H'=>∃ m',m' < m∧_,fun _ _ w=>w,_,rfl,_,_,rfl,rfl,?_⟩
   exact more H4 s24 fun hp=>c2' ((rep_per hz0 hzl hdv).mpr hp)
  ·have c2':(List.replicate (r.length / z) (r.take z)).flatten=r:=by simpa using c2
   have L:Least r z:=⟨hz0,(rep_per hz0 hzl hdv).mp c2',hno⟩
   refine ⟨_,rfl,_,rfl,_,rfl,a,_,rfl,s24 _ _ ea,fun p5 H5 s5 f5=>?_⟩
   rw [cutV_I,cutI_to] at f5
   exact q z L _ _ (s24.trans s5) (Dr.tup f5 (DrL.ints _))
abbrev nCR:List Str:=["beginning","ring","count"]
theorem scCR:FnScope nCR ["beginning","ring"] (defScope sRinged):=⟨rfl,rfl,rfl,by decide +kernel,rfl,by decide +kernel,by decide +kernel⟩
theorem ok_ringed (F:Fun K "count_ringed" "count_ringed" sRinged f fd) (ml:mg "len"=none):FnOk P w K mg base CX 1 f fd ["beginning","ring"] (spRinged K):=by
 refine F.okc scCR (fun vs H Q E h=>?_) (fun cdv A outer s H vs Q E hr h=>?_)
 ·obtain ⟨v,u,b,r,rfl,_⟩:=h
  rfl
 obtain ⟨v,u,b,r,rfl,d,d',hne,q⟩:=h
 obtain ⟨a,rfl,ea⟩:=Dr.its_inv d
 obtain ⟨a',rfl,ea'⟩:=Dr.its_inv d'
 refine ⟨_,pss_cons (ps_set (i:=2) scCR.nd rfl (Or.inl rfl) pe_int)
  (pss_cons (ps_while PassesOwn.never (PW.pt (pw_and (pt_cmpR op_lt (pv 2) (pe_callB call_len_seq rfl ml PySem.boot_len (pa_cons (pv 0) pa_nil)) (nomark _)) (pw_and1 (pt_cmp (pc_eqI (pe_ix ix_tup (pv 0) (pe_op op_sub (pe_un un_neg pe_int) (pv 2)) (fun _ _=>rfl)) (pe_ix ix_tup (pv 1) (pe_op op_sub (pe_un un_neg pe_int) (pe_op op_mod (pv 2) (pe_callB call_len_seq rfl ml PySem.boot_len (pa_cons (pv 1) pa_nil)))) (fun _ _=>rfl)))))))
   (pss_one (ps_aug (i:=2) scCR.nd rfl (Or.inl rfl) pe_int ip_add)))
  (pss_one (ps_ret (pv 2)))),?_⟩
 have hp:0 < r.length:=List.length_pos_iff.mpr hne
 have lb:(b.map V.int).length=b.length:=List.length_map _
 have lr:(r.map V.int).length=r.length:=List.length_map _
 refine ⟨fun m σ H2=>∃ c:Nat,σ=[some (.ref a),some (.ref a'),some (.int c)]∧H2=H∧c≤b.length∧(∀ j,j < c→b.getD (b.length - 1 - j) 0=r.getD (r.length - 1 - j % r.length) 0)∧m+c=b.length,
  ⟨b.length,0,rfl,rfl,by omega,fun j hj=>absurd hj (Nat.not_lt_zero _),by omega⟩,?_⟩
 rintro m σ H2 ⟨c,rfl,rfl,hc,heq,hm⟩
 have em:((c:Int) % (((r.map V.int).length:Nat):Int))=((c % r.length:Nat):Int):=by rw [lr];exact (Int.natCast_emod _ _).symm
 have hmr:c % r.length < r.length:=Nat.mod_lt _ hp
 refine ⟨_,rfl,_,rfl,a,_,rfl,.inr (SqT.of ea),_,_,rfl,rfl,_,rfl,ite2 (fun c1=>?_) (fun c1=>?_)⟩
 ·have c1':=of_decide_eq_true c1
  rw [lb] at c1'
  have hcb:c < b.length:=by omega
  refine ⟨_,rfl,_,rfl,_,rfl,_,_,rfl,rfl,a,_,_,_,rfl,rfl,SqT.of ea,at_negI hcb,_,rfl,_,rfl,_,rfl,_,rfl,a',_,rfl,.inr (SqT.of ea'),_,_,rfl,rfl,(by rw [lr];omega),_,_,rfl,rfl,a',_,_,_,rfl,rfl,SqT.of ea',(by rw [em];exact at_negI hmr),_,_,rfl,rfl,_,rfl,ite2 (fun c2=>?_) (fun c2=>?_)⟩
  ·have c2':=of_decide_eq_true c2
   refine ⟨fun σ' H'=>∃ m',m' < m∧_,fun _ _ w=>w,_,rfl,_,_,rfl,rfl,m - 1,by omega,c+1,rfl,rfl,by omega,fun j hj=>?_,by omega⟩
   by_cases w:j < c
   ·exact heq j w
   ·have:j=c:=by omega
    rw [this];exact c2'
  ·have c2':=of_decide_eq_false (Bool.eq_false_iff.mpr c2)
   exact ⟨_,rfl,q c ⟨hc,heq,.inr c2'⟩⟩
 ·have c1':=of_decide_eq_false (Bool.eq_false_iff.mpr c1)
  rw [lb] at c1'
  exact iteF ⟨_,rfl,q c ⟨hc,heq,.inl (by omega)⟩⟩
abbrev nPW:List Str:=["beginning","ring","least","ringed","cut"]
theorem scPW:FnScope nPW ["beginning","ring"] (defScope sPlainW):=⟨rfl,rfl,rfl,by decide +kernel,rfl,by decide +kernel,by decide +kernel⟩
theorem scRing:FnScope ["ring"] ["ring"] (defScope sRing):=⟨rfl,rfl,rfl,by decide +kernel,rfl,by decide +kernel,by decide +kernel⟩
theorem ok_ring {Ct:Addr} {bmB:List Value} {B newId initId:String} (mC:mg "BadWord"=some (.ref Ct)) (xC:PySem.W.excIn K Ct bmB newId=true) (hB:ExcBaseFacts B newId initId bmB) (F:Fun K "check_ring" "check_ring" sRing f fd) (ml:mg "len"=none):FnOk P w K mg base (CXx P w) 1 f fd ["ring"] (spRing K Ct):=by
 refine F.okx scRing (fun vs H Q E h=>?_) (fun cdv A outer s H vs Q E hr h=>?_)
 ·obtain ⟨u,r,rfl,_⟩:=h
  rfl
 obtain ⟨u,r,rfl,d',q,qx⟩:=h
 obtain ⟨a',rfl,ea'⟩:=Dr.its_inv d'
 refine ⟨_,pss_one (ps_if (pt_cmp (pc_eqI (pe_callB call_len_seq rfl ml PySem.boot_len (pa_cons (pv 0) pa_nil)) pe_int)) (pss_one (ps_raise mC rfl xC hB pe_str)) pss_nil),?_⟩
 have lr:(r.map V.int).length=r.length:=List.length_map _
 refine ⟨_,rfl,a',_,rfl,.inr (SqT.of ea'),_,_,rfl,rfl,_,rfl,ite2 (fun c1=>?_) (fun c1=>?_)⟩
 ·have c1':=of_decide_eq_true c1
  rw [lr] at c1'
  exact fun ea=>qx (List.length_eq_zero_iff.mp (by omega)) ea H (Same.refl H)
 have c1':=of_decide_eq_false (Bool.eq_false_iff.mpr c1)
 rw [lr] at c1'
 exact q (fun z=>by subst z;simp at c1')
theorem ok_plainw {Ct:Addr} (F:Fun K "plain_word" "plain_word" sPlainW f fd) (ml:mg "len"=none)
  {aRg:Addr} {dRg:FuncData} (Rg:FnOk P w K mg base (CXx P w) 1 aRg dRg ["ring"] (spRing K Ct)) (bRg:Binds K dRg ["ring"] []) (kRg:PySem.W.keepIn K (.ref aRg)=true) (mRg:mg "check_ring"=some (.ref aRg))
  {aLr:Addr} {dLr:FuncData} (Lr:FnOk P w K mg base (CXx P w) 1 aLr dLr ["ring"] (spLeastRB K)) (bLr:Binds K dLr ["ring"] []) (kLr:PySem.W.keepIn K (.ref aLr)=true) (mLr:mg "least_ring"=some (.ref aLr))
  {aCr:Addr} {dCr:FuncData} (Cr:FnOk P w K mg base (CXx P w) 1 aCr dCr ["beginning","ring"] (spRinged K)) (bCr:Binds K dCr ["beginning","ring"] []) (kCr:PySem.W.keepIn K (.ref aCr)=true) (mCr:mg "count_ringed"=some (.ref aCr)):FnOk P w K mg base (CXx P w) 2 f fd ["beginning","ring"] (spPlainWB K Ct):=by
 refine F.okx scPW (fun vs H Q E h=>?_) (fun cdv A outer s H vs Q E hr h=>?_)
 ·obtain ⟨v,u,b,r,rfl,_⟩:=h
  rfl
 obtain ⟨v,u,b,r,rfl,d,d',hb,hrl,q,qx⟩:=h
 obtain ⟨a,rfl,ea⟩:=Dr.its_inv d
 obtain ⟨a',rfl,ea'⟩:=Dr.its_inv d'
 refine ⟨_,pss_cons (ps_expr (pe_call Rg hr rfl mRg kRg bRg .nil (passX fun _ _ _ z=>z) (pa_cons (pv 1) pa_nil)))
  (pss_cons (ps_set (i:=2) scPW.nd rfl (Or.inl rfl) (pe_call Lr hr rfl mLr kLr bLr .nil passN (pa_cons (pv 1) pa_nil)))
  (pss_cons (ps_set (i:=3) scPW.nd rfl (Or.inl rfl) (pe_call Cr hr rfl mCr kCr bCr .nil passN (pa_cons (pv 0) (pa_cons (pv 2) pa_nil))))
  (pss_cons (ps_set (i:=4) scPW.nd rfl (Or.inl rfl) (pe_op op_sub (pe_callB call_len_seq rfl ml PySem.boot_len (pa_cons (pv 2) pa_nil)) (pe_op op_mod (pv 3) (pe_callB call_len_seq rfl ml PySem.boot_len (pa_cons (pv 2) pa_nil)))))
  (pss_one (ps_ret (pe_tup (pa_cons (pe_slice sl_tupU (pv 0) po_none (po_some (pe_op op_sub (pe_callB call_len_seq rfl ml PySem.boot_len (pa_cons (pv 0) pa_nil)) (pv 3)))) (pa_cons (pe_op op_catU (pe_slice sl_tupU (pv 2) (po_some (pv 4)) po_none) (pe_slice sl_tupU (pv 2) po_none (po_some (pv 4)))) pa_nil)))))))),?_⟩
 have lb:(b.map V.int).length=b.length:=List.length_map _
 have lr:(r.map V.int).length=r.length:=List.length_map _
 refine ⟨_,rfl,_,r,rfl,d',fun hne=>?_,fun z ea H1 s1=>qx z ea H1 s1⟩
 replace q:=q hne
 refine ⟨_,rfl,_,r,rfl,d',hne,hrl,fun z L u1 H1 s1 d1=>?_⟩
 have hz:=L.pos
 have hzl:=L.le hne
 have ltz:(r.take z).length=z:=by rw [List.length_take];omega
 have ltm:((r.take z).map V.int).length=z:=by rw [List.length_map,ltz]
 refine ⟨_,rfl,_,rfl,_,u1,b,r.take z,rfl,d.mono s1,d1,(fun w=>by rw [w] at ltz;simp at ltz;omega),fun c R=>?_⟩
 rw [ltz] at R
 have R':=ringed_take hz R
 have hcb:=R.le
 obtain ⟨a1,rfl,ea1⟩:=Dr.its_inv d1
 have hm:c % z < z:=Nat.mod_lt _ hz
 have ecut:(((((r.take z).map V.int).length:Nat):Int) - (c:Int) % ((((r.take z).map V.int).length:Nat):Int))=((z - c % z:Nat):Int):=by
  rw [ltm,←Int.natCast_emod];omega
 refine ⟨_,rfl,a1,_,rfl,.inr (SqT.of ea1),_,rfl,_,rfl,a1,_,rfl,.inr (SqT.of ea1),_,_,rfl,rfl,(by rw [ltm];omega),_,_,rfl,rfl,?_⟩
 have elb:((((b.map V.int).length:Nat):Int) - (c:Int))=((b.length - c:Nat):Int):=by rw [lb];omega
 refine ⟨_,rfl,_,rfl,a,_,rfl,.inr (SqT.of (s1 _ _ ea)),_,rfl,_,_,rfl,rfl,_,rfl,a,_,rfl,s1 _ _ ea,fun p2 H2 s2 f2=>?_⟩
 replace f2:H2 p2=some (.tup ((b.take (b.length - c)).map V.int)):=by rw [←cutI_to,←elb,←cutV_I];exact f2
 refine ⟨_,rfl,_,rfl,_,rfl,a1,_,rfl,s2 _ _ ea1,fun p3 H3 s3 f3=>?_⟩
 replace f3:H3 p3=some (.tup (((r.take z).drop (z - c % z)).map V.int)):=by rw [←cutI_from,←ecut,←cutV_I];exact f3
 refine ⟨_,rfl,_,rfl,_,rfl,a1,_,rfl,s3 _ _ (s2 _ _ ea1),fun p4 H4 s4 f4=>?_⟩
 replace f4:H4 p4=some (.tup (((r.take z).take (z - c % z)).map V.int)):=by rw [←cutI_to,←ecut,←cutV_I];exact f4
 refine ⟨p3,p4,_,_,rfl,rfl,s4 _ _ f3,f4,(by simp only [List.length_map,List.length_drop,List.length_take];exact line_leB (by omega)),fun p5 H5 s5 f5=>⟨by show 2≤sizeLine;decide,fun p6 hp6=>?_⟩⟩
 rw [←List.map_append,ring_cut hz hzl] at f5
 have s6:=same_up (o:=HO.tup [V.ref p2,V.ref p5]) (Same.refl H5) hp6
 have s26:=s3.trans (s4.trans (s5.trans s6))
 obtain ⟨l1,l2⟩:=plainOf_len (e:=(b,r)) (s:=z) (c:=c)
 exact q _ _ (plainOf (b,r) z c) (s1.trans (s2.trans s26)) (rowD_mk (r:=plainOf (b,r) z c) upd_same (s26 _ _ f2) (s6 _ _ f5)) (plainOf_plain (e:=(b,r)) hne L R') (plainOf_lat (e:=(b,r)) hne L R') (by rw [l1];exact Nat.sub_le _ _) (by rw [l2];exact hzl)
end
end Gu

set_option Elab.async false
set_option linter.all false
set_option maxRecDepth 100000
set_option maxHeartbeats 4000000
namespace Gu
open PySem L2
section
variable {P:Program} {w:World} {K:PySem.W.Frag} {mg:Str→Option Value} {base:Heap} {f g:Addr} {fd gd:FuncData} {CX:CXT} [NoE CX]
abbrev nCkW:List Str:=["letters","word"]
theorem scCkW:FnScope nCkW ["letters","word"] (defScope sCheckW):=⟨rfl,rfl,rfl,by decide +kernel,rfl,by decide +kernel,by decide +kernel⟩
theorem csCkW:CompS nCkW (defScope sCheckW) ["letter","letters"] [none,some 0] (csc [(".0",.local),("letter",.local),("letters",.free)]):=⟨rfl,by decide +kernel,by decide +kernel,by decide +kernel,rfl,by decide +kernel,by decide +kernel⟩
def badL (n:Nat) (l:Int):Bool:=!(decide (0≤l) && decide (l < (n:Int)))
theorem badL_any {n:Nat} {w:List Int}:((w.map (badL n)).any _root_.id=true)↔¬ LW n w:=by
 unfold LW badL
 rw [List.any_map]
 simp only [List.any_eq_true,Function.comp,_root_.id,Bool.not_eq_true',Bool.and_eq_false_iff,decide_eq_false_iff_not]
 constructor
 ·rintro ⟨x,hx,h⟩ z
  have:=z x hx
  omega
 ·intro h
  apply Classical.byContradiction
  intro h2
  exact h fun l hl=>Classical.byContradiction fun h3=>h2 ⟨l,hl,by omega⟩
theorem ok_checkw {Ct:Addr} {bmB:List Value} {B newId initId:String} (mC:mg "BadWord"=some (.ref Ct)) (xC:PySem.W.excIn K Ct bmB newId=true) (hB:ExcBaseFacts B newId initId bmB) (F:Fun K "check_word" "check_word" sCheckW f fd) (many:mg "any"=none):FnOk P w K mg base (CXx P w) 1 f fd ["letters","word"] (spCheckW K Ct):=by
 refine F.okx scCkW (fun vs H Q E h=>?_) (fun cdv A outer s H vs Q E hr h=>?_)
 ·obtain ⟨n,u,w,rfl,_⟩:=h
  rfl
 obtain ⟨n,u,w,rfl,dw,h5,q,qx⟩:=h
 obtain ⟨a,rfl,ea⟩:=Dr.its_inv dw
 refine ⟨_,pss_one (ps_if (pt_val (pe_callB (cAny K rfl rfl) rfl many PyProof.Rows.boot_any (pa_cons (pe_comp rfl csCkW (pi_tup (pv 1)) (fun _ _ _ _ _=>pg_name (i:=0) csCkW.nd rfl (Or.inl rfl)) (fun _ _ _ _ _=>pe_not (pe_chain op_le op_lt pe_int (pv 0) (pv 1)))) pa_nil))) (pss_one (ps_raise mC rfl xC hB pe_str)) pss_nil),?_⟩
 refine ⟨_,rfl,a,rfl,⟨_,SqT.of ea⟩,fun l hl0=>comp_tup (xs:=w.map V.int) (fun i ys H4=>i≤w.length∧ys=((w.take i).map (badL n)).map V.bl∧Same H H4) ⟨Nat.zero_le _,rfl,same_up (Same.refl H) hl0⟩ (fun i ys H4 _ h=>SqT.of (h.2.2 _ _ ea)) (by rw [List.length_map];exact line_le (by omega)) (fun i ys H4 h=>?_) (fun i x ys H4 hx h hy=>?_) (fun ys H4 h hy=>?_)⟩
 ·obtain ⟨_,rfl,_⟩:=h
  rw [List.length_map,List.length_map,List.length_take];omega
 ·obtain ⟨_,rfl,s4⟩:=h
  have hil:i < w.length:=by have:=(List.getElem?_eq_some_iff.mp hx).1;rwa [List.length_map] at this
  have eg:w[i]?=some w[i]:=List.getElem?_eq_getElem hil
  generalize w[i]=gi at eg
  have ex:x=V.int gi:=by rw [List.getElem?_map,eg] at hx;exact (Option.some.inj hx).symm
  subst ex
  have et:(w.take (i+1)).map (badL n)=(w.take i).map (badL n)++[badL n gi]:=take_snoc _ eg
  refine ⟨_,rfl,_,_,rfl,rfl,_,rfl,ite2 (fun c=>⟨_,rfl,_,_,rfl,rfl,_,rfl,hy,hil,?_,same_over s4 hl0⟩) (fun c=>⟨_,rfl,hy,hil,?_,same_over s4 hl0⟩)⟩
  ·rw [et,List.map_append]
   have c':=of_decide_eq_true c
   unfold badL
   rw [decide_eq_true c',Bool.true_and]
   rfl
  ·rw [et,List.map_append]
   have c':=of_decide_eq_false (Bool.eq_false_iff.mpr c)
   unfold badL
   rw [decide_eq_false c',Bool.false_and]
   rfl
 ·obtain ⟨_,rfl,s4⟩:=h
  refine ⟨l,_,rfl,SqL.of hy,_,rfl,ite2 (fun c=>?_) (fun c=>?_)⟩
  ·rw [List.length_map,List.take_length] at c
   exact fun e=>qx (badL_any.mp c) e H4 s4
  ·rw [List.length_map,List.take_length] at c
   exact q (Decidable.byContradiction fun z=>c (badL_any.mpr z)) H4 s4
abbrev nRf:List Str:=["guise","row","word","made","at","letter","rearranging","goings"]
theorem scRf:FnScope nRf ["guise","row","word"] (defScope sReadF):=⟨rfl,rfl,rfl,by decide +kernel,rfl,by decide +kernel,by decide +kernel⟩
theorem ok_readf (F:Fun K "read_from" "read_from" sReadF f fd) (mt:mg "tuple"=none):FnOk P w K mg base CX 1 f fd ["guise","row","word"] (spReadF K):=by
 refine F.okc scRf (fun vs H Q E h=>?_) (fun cdv A outer s H vs Q E hr h=>?_)
 ·obtain ⟨v,u,rows,n,wd,s0,rfl,_⟩:=h
  rfl
 obtain ⟨v,u,rows,n,wd,s0,rfl,dv,dw,GM,hn,h5,hw,h0,h1,q⟩:=h
 obtain ⟨av,us,rfl,eav,dus⟩:∃ (av:Addr) (us:List V),v=.ref av∧H av=some (.tup us)∧DrL K H (rowsD rows) us:=by
  simp only [Dr] at dv
  exact dv
 obtain ⟨aw,rfl,eaw⟩:=Dr.its_inv dw
 refine ⟨_,pss_cons (ps_set (i:=3) scRf.nd rfl (Or.inl rfl) (pe_lst pa_nil))
  (pss_cons (ps_set (i:=4) scRf.nd rfl (Or.inl rfl) (pv 1))
  (pss_cons (ps_for PassesOwn.never rfl (pi_tup (pv 2)) (pg_name (i:=5) scRf.nd rfl (Or.inl rfl))
   (pss_cons (ps_asg (pe_ix ix_tup (pv 0) (pv 4) (fun _ _=>rfl)) (pg_tup rfl (pgs_cons (pg_name (i:=6) scRf.nd rfl (Or.inl rfl)) (pgs_cons (pg_name (i:=7) scRf.nd rfl (Or.inl rfl)) pgs_nil))))
   (pss_cons (ps_expr (pe_bm PySem.F.plainAttrs_list PySem.F.slot_list_append PySem.F.type_list_append mt_append (pv 3) (pa_cons (pe_ix ix_tup (pv 6) (pv 5) (fun _ _=>rfl)) pa_nil)))
   (pss_one (ps_set (i:=4) scRf.nd rfl (Or.inl rfl) (pe_ix ix_tup (pv 7) (pv 5) (fun _ _=>rfl)))))))
  (pss_one (ps_ret (pe_tup (pa_cons (pe_callTy call_tuple_of rfl mt PyProof.Rows.boot_tuple (pa_cons (pv 3) pa_nil)) (pa_cons (pv 4) pa_nil))))))),?_⟩
 refine ⟨by show 0≤sizeLine;decide,fun lm hlm=>?_⟩
 have s1:=same_up (o:=HO.lst []) (Same.refl H) hlm
 refine ⟨_,rfl,_,rfl,aw,rfl,⟨_,SqT.of (s1 _ _ eaw)⟩,for_tup (xs:=wd.map V.int) (fun i σ H3=>∃ (u5 u6 u7:Option V),σ=[some (.ref av),some (.int s0),some (.ref aw),some (.ref lm),some (.int (goW rows s0 (wd.take i))),u5,u6,u7]∧Same H H3∧H3 lm=some (.lst ((outW rows s0 (wd.take i)).map V.int)))
  ⟨_,_,_,rfl,s1,upd_same⟩ (fun i σ H3 _ h=>by obtain ⟨_,_,_,_,t3,_⟩:=h;exact SqT.of (t3 _ _ eaw)) (fun i x σ H3 hx h=>?_) (fun σ H3 h=>?_)⟩
 ·obtain ⟨u5,u6,u7,rfl,t3,em⟩:=h
  have hil:i < wd.length:=by have:=(List.getElem?_eq_some_iff.mp hx).1;rwa [List.length_map] at this
  have eg:wd[i]?=some wd[i]:=List.getElem?_eq_getElem hil
  obtain ⟨l0,l1⟩:=hw _ (List.getElem_mem hil)
  generalize wd[i]=l at eg l0 l1
  have ex:x=V.int l:=by rw [List.getElem?_map,eg] at hx;exact (Option.some.inj hx).symm
  subst ex
  have hwt:LW n (wd.take i):=fun x hx=>hw x (List.mem_of_mem_take hx)
  obtain ⟨g0,g1⟩:=goW_rg GM hwt h0 h1
  have est:goW rows s0 (wd.take (i+1))=(row rows (goW rows s0 (wd.take i))).2.getD l.toNat 0:=by
   rw [List.take_add_one,eg,Option.toList,goW_app]
   rfl
  have eot:outW rows s0 (wd.take (i+1))=outW rows s0 (wd.take i)++[(row rows (goW rows s0 (wd.take i))).1.getD l.toNat 0]:=by
   rw [List.take_add_one,eg,Option.toList,outW_app]
   rfl
  have hol:(outW rows s0 (wd.take i)).length=i:=by rw [outW_len,List.length_take];omega
  rw [est,eot]
  generalize outW rows s0 (wd.take i)=ms at em hol
  generalize goW rows s0 (wd.take i)=g at g0 g1
  obtain ⟨vr,evr,dvr⟩:=rows_at dus (row_get g0 g1)
  obtain ⟨t,b',c',rfl,et,eb,ec⟩:=rowD_inv (dvr.mono t3)
  have hgl:=GM.len _ (row_mem g0 g1)
  have hpl:=(GM.perm _ (row_mem g0 g1)).len
  have hll:l.toNat < (row rows g).2.length:=by omega
  have hl1:l.toNat < (row rows g).1.length:=by omega
  refine ⟨_,rfl,_,rfl,av,_,g,.ref t,rfl,rfl,SqT.of (t3 _ _ eav),atI_of g0 evr,t,_,rfl,SqT.of et,rfl,_,_,rfl,_,_,rfl,rfl,?_⟩
  refine ⟨_,rfl,.inl ⟨rfl,_,SqL.of em⟩,_,rfl,_,rfl,b',_,l,V.int ((row rows g).1.getD l.toNat 0),rfl,rfl,SqT.of eb,atI_of l0 ?_,lm,_,_,rfl,rfl,em,small5 (by rw [List.length_map];omega),?_⟩
  ·rw [List.getElem?_map,List.getD_eq_getElem?_getD,List.getElem?_eq_getElem hl1]
   rfl
  have kk:TupK H3 (upd H3 lm (.lst (ms.map V.int++[V.int ((row rows g).1.getD l.toNat 0)]))):=TupK.up (TupK.refl _) em (fun _ z=>by cases z)
  have t4:Same H (upd H3 lm (.lst (ms.map V.int++[V.int ((row rows g).1.getD l.toNat 0)]))):=same_over t3 hlm
  refine ⟨_,rfl,_,rfl,c',_,l,V.int ((row rows g).2.getD l.toNat 0),rfl,rfl,SqT.of (kk _ _ ec),atI_of l0 ?_,_,_,_,rfl,t4,?_⟩
  ·rw [List.getElem?_map,List.getD_eq_getElem?_getD,List.getElem?_eq_getElem hll]
   rfl
  ·rw [List.map_append]
   exact upd_same
 ·obtain ⟨u5,u6,u7,rfl,t3,em⟩:=h
  rw [List.length_map,List.take_length] at *
  refine ⟨_,rfl,lm,_,rfl,.inl ⟨SqL.of em,fun t ht=>⟨_,rfl,by show 2≤sizeLine;decide,fun r hr'=>?_⟩⟩⟩
  exact q r t _ (same_up (same_up t3 ht) hr') upd_same (same_up (Same.refl _) hr' _ _ upd_same)
theorem scBreadth:FnScope ["guise","rearranging","goings"] ["guise"] (defScope sBreadth):=⟨rfl,rfl,rfl,by decide +kernel,rfl,by decide +kernel,by decide +kernel⟩
theorem ok_breadth (F:Fun K "breadth" "breadth" sBreadth f fd) (ml:mg "len"=none):FnOk P w K mg base CX 1 f fd ["guise"] (spBreadth K):=by
 refine F.okc scBreadth (fun vs H Q E h=>?_) (fun cdv A outer s H vs Q E hr h=>?_)
 ·obtain ⟨a,r,rest,rfl,_⟩:=h
  rfl
 obtain ⟨a,r,rest,rfl,ha,hl,q⟩:=h
 refine ⟨_,pss_cons (ps_asg (pe_ix ix_tup (pv 0) pe_int (fun _ _=>rfl)) (pg_tup rfl (pgs_cons (pg_name (i:=1) scBreadth.nd rfl (Or.inl rfl)) (pgs_cons (pg_name (i:=2) scBreadth.nd rfl (Or.inl rfl)) pgs_nil))))
  (pss_one (ps_ret (pe_callB call_len_seq rfl ml PySem.boot_len (pa_cons (pv 1) pa_nil)))),?_⟩
 simp only [Dr,DrL] at ha
 obtain ⟨a,vs,rfl,ea,v,l,rfl,hv,_⟩:=ha
 obtain ⟨t,b,c,rfl,et,eb,ec⟩:=rowD_inv hv
 refine ⟨_,rfl,a,_,_,.ref t,rfl,rfl,SqT.of ea,atI_nat (j:=0) rfl,t,_,rfl,SqT.of et,rfl,_,_,rfl,_,_,rfl,rfl,_,rfl,b,_,rfl,.inr (SqT.of eb),?_⟩
 rw [List.length_map]
 exact q _ (Same.refl H)
abbrev nWr:List Str:=["guise","word","made","at"]
theorem scWr:FnScope nWr ["guise","word"] (defScope sWorn):=⟨rfl,rfl,rfl,by decide +kernel,rfl,by decide +kernel,by decide +kernel⟩
theorem ok_worn {b c Cw:Addr} {bd cd:FuncData} (F:Fun K "worn" "worn" sWorn f fd)
  (G:FnOk P w K mg base (CXx P w) 1 g gd ["letters","word"] (spCheckW K Cw)) (bG:Binds K gd ["letters","word"] []) (kG:PySem.W.keepIn K (.ref g)=true) (mG:mg "check_word"=some (.ref g))
  (R:FnOk P w K mg base (CXx P w) 1 b bd ["guise"] (spBreadth K)) (bR:Binds K bd ["guise"] []) (kR:PySem.W.keepIn K (.ref b)=true) (mR:mg "breadth"=some (.ref b))
  (U:FnOk P w K mg base (CXx P w) 1 c cd ["guise","row","word"] (spReadF K)) (bU:Binds K cd ["guise","row","word"] []) (kU:PySem.W.keepIn K (.ref c)=true) (mU:mg "read_from"=some (.ref c)):FnOk P w K mg base (CXx P w) 2 f fd ["guise","word"] (spWorn K Cw):=by
 refine F.okx scWr (fun vs H Q E h=>?_) (fun cdv A outer s H vs Q E hr h=>?_)
 ·obtain ⟨v,u,rows,n,w,rfl,_⟩:=h
  rfl
 obtain ⟨v,u,rows,n,wd,rfl,dv,dw,GM,hn,h5,gv,gx⟩:=h
 refine ⟨_,pss_cons (ps_expr (pe_call G hr rfl mG kG bG .nil (passX fun _ _ _ z=>z) (pa_cons (pe_call R hr rfl mR kR bR .nil passN (pa_cons (pv 0) pa_nil)) (pa_cons (pv 1) pa_nil))))
  (pss_cons (ps_asg (pe_call U hr rfl mU kU bU .nil passN (pa_cons (pv 0) (pa_cons pe_int (pa_cons (pv 1) pa_nil)))) (pg_tup rfl (pgs_cons (pg_name (i:=2) scWr.nd rfl (Or.inl rfl)) (pgs_cons (pg_name (i:=3) scWr.nd rfl (Or.inl rfl)) pgs_nil))))
  (pss_one (ps_ret (pv 2)))),?_⟩
 have h1:=GM.some
 obtain ⟨r0,rt,er⟩:∃ r0 rt,rows=r0::rt:=by
  cases rows with
  | nil=>simp at h1
  | cons r0 rt=>exact ⟨r0,rt,rfl⟩
 have hp0:=GM.perm r0 (by rw [er];simp)
 have hl0:=hp0.len
 refine ⟨_,rfl,v,r0,rowsD rt,rfl,(by rw [er] at dv;exact dv),by omega,fun H1 s1=>⟨_,rfl,n,u,wd,(by rw [hl0];rfl),dw.mono s1,by omega,fun hw H2 s2=>?_,fun hw ea H2 s2=>gx hw ea H2 (s1.trans s2)⟩⟩
 have s02:=s1.trans s2
 refine ⟨_,rfl,_,rfl,v,u,rows,n,wd,0,rfl,dv.mono s02,dw.mono s02,GM,hn,h5,hw,Int.le_refl 0,by omega,fun r t H3 s3 er' et=>?_⟩
 exact ⟨r,_,rfl,SqT.of er',rfl,_,_,rfl,_,_,rfl,rfl,_,rfl,gv hw t H3 (s02.trans s3) et⟩
end
end Gu

set_option Elab.async false
set_option linter.all false
set_option maxRecDepth 100000
set_option maxHeartbeats 4000000
namespace Gu
open PySem L2
section
variable {P:Program} {w:World} {K:PySem.W.Frag} {mg:Str→Option Value} {base:Heap} {f g:Addr} {fd gd:FuncData} {CX:CXT} [NoE CX]
abbrev nCheckE:List Str:=["letters","endless","beginning","ring"]
theorem scCheckE:FnScope nCheckE ["letters","endless"] (defScope sEndless):=⟨rfl,rfl,rfl,by decide +kernel,rfl,by decide +kernel,by decide +kernel⟩
theorem ok_checkEX {Ct:Addr} (F:Fun K "check_endless" "check_endless" sEndless f fd) {aR aW:Addr} {dR dW:FuncData}
  (R:FnOk P w K mg base (CXx P w) 1 aR dR ["ring"] (spRing K Ct)) (bR:Binds K dR ["ring"] []) (kR:PySem.W.keepIn K (.ref aR)=true) (mR:mg "check_ring"=some (.ref aR))
  (W:FnOk P w K mg base (CXx P w) 1 aW dW ["letters","word"] (spCheckW K Ct)) (bW:Binds K dW ["letters","word"] []) (kW:PySem.W.keepIn K (.ref aW)=true) (mW:mg "check_word"=some (.ref aW)):FnOk P w K mg base (CXx P w) 2 f fd ["letters","endless"] (spCheckEX K Ct):=by
 refine F.okx scCheckE (fun vs H Q E h=>?_) (fun cdv A outer s H vs Q E hr h=>?_)
 ·obtain ⟨n,u,e,rfl,_⟩:=h
  rfl
 obtain ⟨n,u,e,rfl,de,h1,h2,q,gx⟩:=h
 refine ⟨_,pss_cons (ps_asg (pv 1) (pg_tup rfl (pgs_cons (pg_name (i:=2) scCheckE.nd rfl (Or.inl rfl)) (pgs_cons (pg_name (i:=3) scCheckE.nd rfl (Or.inl rfl)) pgs_nil))))
  (pss_cons (ps_expr (pe_call R hr rfl mR kR bR .nil (passX fun _ _ _ z=>z) (pa_cons (pv 3) pa_nil)))
  (pss_cons (ps_expr (pe_call W hr rfl mW kW bW .nil (passX fun _ _ _ z=>z) (pa_cons (pv 0) (pa_cons (pv 2) pa_nil))))
  (pss_one (ps_expr (pe_call W hr rfl mW kW bW .nil (passX fun _ _ _ z=>z) (pa_cons (pv 0) (pa_cons (pv 3) pa_nil))))))),?_⟩
 obtain ⟨t,b,c,rfl,et,eb,ec⟩:=rowD_inv de
 refine ⟨_,rfl,t,_,rfl,SqT.of et,rfl,_,_,rfl,_,_,rfl,rfl,?_⟩
 refine ⟨_,rfl,.ref c,e.2,rfl,its_mk ec,fun hne=>?_,fun z ea H' s'=>gx (fun g=>g.1 z) ea H' s'⟩
 refine ⟨_,rfl,_,rfl,n,.ref b,e.1,rfl,its_mk eb,by omega,fun l1 H1 s1=>?_,fun z ea H' s'=>gx (fun g=>z g.2.1) ea H' s'⟩
 exact ⟨_,rfl,_,rfl,n,.ref c,e.2,rfl,its_mk (s1 _ _ ec),by omega,fun l2 H2 s2=>q ⟨hne,l1,l2⟩ H2 (s1.trans s2),fun z ea H' s'=>gx (fun g=>z g.2.2) ea H' (s1.trans s')⟩
theorem scStrung:FnScope ["laps"] ["laps"] (defScope sStrung):=⟨rfl,rfl,rfl,by decide +kernel,rfl,by decide +kernel,by decide +kernel⟩
theorem csStrung:CompS ["laps"] (defScope sStrung) ["lap","letter"] [none,none] (csc [(".0",.local),("lap",.local),("letter",.local)]):=⟨rfl,by decide +kernel,by decide +kernel,by decide +kernel,rfl,by decide +kernel,by decide +kernel⟩
theorem flat_take {ls:List (List Int)} {i:Nat} {x:List Int} (h:ls[i]?=some x):(ls.take (i+1)).flatten=(ls.take i).flatten++x:=by
 rw [List.take_add_one,h,List.flatten_append]
 simp
theorem flat_le {ls:List (List Int)} (i:Nat):(ls.take i).flatten.length≤ls.flatten.length:=by
 have:ls.flatten=(ls.take i).flatten++(ls.drop i).flatten:=by rw [←List.flatten_append,List.take_append_drop]
 rw [this,List.length_append]
 omega
theorem ok_strung (F:Fun K "strung" "strung" sStrung f fd) (mt:mg "tuple"=none):FnOk P w K mg base CX 1 f fd ["laps"] (spStrungB K):=by
 refine F.okc scStrung (fun vs H Q E h=>?_) (fun cdv A outer s H vs Q E hr h=>?_)
 ·obtain ⟨a,us,ls,rfl,_⟩:=h
  rfl
 obtain ⟨a,us,ls,rfl,ea,dus,hl,q⟩:=h
 refine ⟨_,pss_one (ps_ret (pe_callTy call_tuple_of rfl mt PyProof.Rows.boot_tuple (pa_cons (pe_comp2 rfl csStrung (pi_list (pv 0)) (fun _ _ _ _ _=>pg_name (i:=0) csStrung.nd rfl (Or.inl rfl)) (fun _ _ _ _ _=>(piT K rfl (pv 0))) (fun _ _ _ _ _=>(pg_name (i:=1) csStrung.nd rfl (Or.inl rfl))) (fun _ _ _ _ _=>pv 1)) pa_nil))),?_⟩
 have hul:us.length=ls.length:=by have:=dus.length;rw [List.length_map] at this;omega
 refine ⟨_,rfl,a,rfl,⟨_,SqL.of ea⟩,fun l hlz=>comp2_tups (xs:=us) (fun i ys H2=>ys=(ls.take i).flatten.map V.int∧Same H H2) ⟨rfl,same_up (Same.refl H) hlz⟩ (fun i ys H2 _ h=>SqL.of (h.2 _ _ ea)) (fun i x ys H2 hx h hy=>?_) (fun ys H2 h hy=>?_)⟩
 ·obtain ⟨rfl,s2⟩:=h
  have hil:i < us.length:=(List.getElem?_eq_some_iff.mp hx).1
  have ew:ls[i]?=some ls[i]:=List.getElem?_eq_getElem (by omega)
  obtain ⟨x',ex,dx⟩:=dus.get (show (ls.map D.its)[i]?=some (D.its ls[i]) by rw [List.getElem?_map,ew];rfl)
  rw [hx] at ex
  cases ex
  generalize ls[i]=wi at *
  obtain ⟨ax,rfl,eax⟩:=its_inv dx
  have hft:=flat_take ew
  have hle:=flat_le (ls:=ls) (i+1)
  rw [hft,List.length_append] at hle
  refine ⟨_,rfl,ax,rfl,⟨_,SqT.of (s2 _ _ eax)⟩,hy,in_tup (xs:=wi.map V.int) (fun j zs σ H3=>zs=((ls.take i).flatten++wi.take j).map V.int∧Same H H3∧∃ u:Option V,σ=[some (.ref ax),u]) ⟨by rw [List.take_zero,List.append_nil],s2,_,rfl⟩ (fun j zs σ H3 _ h=>SqT.of (h.2.1 _ _ eax)) (fun j zs σ H3 hj h=>?_) (fun j y zs σ H3 hy3 h hz=>?_) (fun zs σ H3 h hz=>?_)⟩
  ·rw [h.1,List.length_map,List.length_append,List.length_take]
   exact Nat.lt_of_le_of_lt (show _≤40000 by omega) (smallB (by omega))
  ·obtain ⟨rfl,s3,u,rfl⟩:=h
   have hjl:j < wi.length:=by have:=(List.getElem?_eq_some_iff.mp hy3).1;rwa [List.length_map] at this
   have ej:wi[j]?=some wi[j]:=List.getElem?_eq_getElem hjl
   have ey:y=.int wi[j]:=by rw [List.getElem?_map,ej] at hy3;exact (Option.some.inj hy3).symm
   subst ey
   refine ⟨_,rfl,hz,?_,same_over s3 hlz,_,rfl⟩
   rw [List.take_add_one,ej,←List.append_assoc,List.map_append (l₁:=(ls.take i).flatten++wi.take j)]
   rfl
  ·obtain ⟨rfl,s3,_⟩:=h
   rw [List.length_map,List.take_length] at hz ⊢
   exact ⟨by rw [hft],s3⟩
 ·obtain ⟨rfl,s2⟩:=h
  rw [hul,List.take_length] at hy
  exact ⟨l,_,rfl,.inl ⟨SqL.of hy,fun t ht=>q t _ (same_up s2 ht) upd_same⟩⟩
abbrev nWornE:List Str:=["guise","endless","beginning","ring","made","at","laps","laps_ahead","lap","first"]
theorem scWornE:FnScope nWornE ["guise","endless"] (defScope sWornE):=⟨rfl,rfl,rfl,by decide +kernel,rfl,by decide +kernel,by decide +kernel⟩
theorem ok_wornEX {Ct:Addr} (F:Fun K "worn_endless" "worn_endless" sWornE f fd) (ml:mg "len"=none) {aC aB aF aP aS:Addr} {dC dB dF dP dS:FuncData}
  (C:FnOk P w K mg base (CXx P w) 2 aC dC ["letters","endless"] (spCheckEX K Ct)) (bC:Binds K dC ["letters","endless"] []) (kC:PySem.W.keepIn K (.ref aC)=true) (mC:mg "check_endless"=some (.ref aC))
  (B:FnOk P w K mg base (CXx P w) 2 aB dB ["guise"] (spBreadth K)) (bB:Binds K dB ["guise"] []) (kB:PySem.W.keepIn K (.ref aB)=true) (mB:mg "breadth"=some (.ref aB))
  (R:FnOk P w K mg base (CXx P w) 2 aF dF ["guise","row","word"] (spReadF K)) (bF:Binds K dF ["guise","row","word"] []) (kF:PySem.W.keepIn K (.ref aF)=true) (mF:mg "read_from"=some (.ref aF))
  (Pw:FnOk P w K mg base (CXx P w) 2 aP dP ["beginning","ring"] (spPlainWB K Ct)) (bP:Binds K dP ["beginning","ring"] []) (kP:PySem.W.keepIn K (.ref aP)=true) (mP:mg "plain_word"=some (.ref aP))
  (S:FnOk P w K mg base (CXx P w) 2 aS dS ["laps"] (spStrungB K)) (bS:Binds K dS ["laps"] []) (kS:PySem.W.keepIn K (.ref aS)=true) (mS:mg "strung"=some (.ref aS)):FnOk P w K mg base (CXx P w) 3 f fd ["guise","endless"] (spWornEX K Ct):=by
 refine F.okx scWornE (fun vs H Q E h=>?_) (fun cdv A outer s H vs Q E hr h=>?_)
 ·obtain ⟨v,u,one,e,n,rfl,_⟩:=h
  rfl
 obtain ⟨v,u,one,e,n,rfl,dv,du,G,hn,he1,he2,h1000,qg,gx⟩:=h
 have hu:=hu_of hr
 refine ⟨_,pss_cons (ps_expr (pe_call C hr rfl mC kC bC .nil (passX fun _ _ _ z=>z) (pa_cons (pe_call B hr rfl mB kB bB .nil passN (pa_cons (pv 0) pa_nil)) (pa_cons (pv 1) pa_nil))))
  (pss_cons (ps_asg (pv 1) (pg_tup rfl (pgs_cons (pg_name (i:=2) scWornE.nd rfl (Or.inl rfl)) (pgs_cons (pg_name (i:=3) scWornE.nd rfl (Or.inl rfl)) pgs_nil))))
  (pss_cons (ps_asg (pe_call R hr rfl mF kF bF .nil passN (pa_cons (pv 0) (pa_cons pe_int (pa_cons (pv 2) pa_nil)))) (pg_tup rfl (pgs_cons (pg_name (i:=4) scWornE.nd rfl (Or.inl rfl)) (pgs_cons (pg_name (i:=5) scWornE.nd rfl (Or.inl rfl)) pgs_nil))))
  (pss_cons (ps_set (i:=6) scWornE.nd rfl (Or.inl rfl) (pe_lst pa_nil))
  (pss_cons (ps_set (i:=7) scWornE.nd rfl (Or.inl rfl) pe_dnewK)
  (pss_cons (ps_while PassesOwn.leaving (pt_cmp (pc_dnotin hu (pv 5) (pv 7)))
   (pss_cons (ps_dput hu (pv 7) (pv 5) (pe_callB call_len_seq rfl ml PySem.boot_len (pa_cons (pv 6) pa_nil)) rfl)
   (pss_cons (ps_asg (pe_call R hr rfl mF kF bF .nil passN (pa_cons (pv 0) (pa_cons (pv 5) (pa_cons (pv 3) pa_nil)))) (pg_tup rfl (pgs_cons (pg_name (i:=8) scWornE.nd rfl (Or.inl rfl)) (pgs_cons (pg_name (i:=5) scWornE.nd rfl (Or.inl rfl)) pgs_nil))))
   (pss_one (ps_expr (pe_bm PySem.F.plainAttrs_list PySem.F.slot_list_append PySem.F.type_list_append mt_append (pv 6) (pa_cons (pv 8) pa_nil)))))))
  (pss_cons (ps_set (i:=9) scWornE.nd rfl (Or.inl rfl) (pe_dget hu (pv 7) (pv 5) (fun _ _=>rfl)))
  (pss_one (ps_ret (pe_call Pw hr rfl mP kP bP .nil passN (pa_cons (pe_op op_catU (pv 4) (pe_call S hr rfl mS kS bS .nil passN (pa_cons (pe_slice sl_list (pv 6) po_none (po_some (pv 9))) pa_nil))) (pa_cons (pe_call S hr rfl mS kS bS .nil passN (pa_cons (pe_slice sl_list (pv 6) (po_some (pv 9)) po_none) pa_nil)) pa_nil))))))))))),?_⟩
 have h1:=G.some
 obtain ⟨r0,rt,er⟩:∃ r0 rt,one=r0::rt:=by
  cases one with
  | nil=>simp at h1
  | cons r0 rt=>exact ⟨r0,rt,rfl⟩
 have hp0:=G.perm r0 (by rw [er];simp)
 have hl0:=hp0.len
 obtain ⟨tE,bE,cE,rfl,etE,ebE,ecE⟩:=rowD_inv du
 refine ⟨_,rfl,v,r0,rowsD rt,rfl,(by rw [er] at dv;exact dv),by omega,fun H1 s1=>⟨_,rfl,n,.ref tE,e,(by rw [hl0];rfl),du.mono s1,he1,he2,fun hg H2 s2=>?_,fun hb ea H2 s2=>gx hb ea H2 (s1.trans s2)⟩⟩
 obtain ⟨hne,l1,l2⟩:=id hg
 have q:=qg hg
 have hL:0 < e.2.length:=List.length_pos_iff.mpr hne
 have s02:=s1.trans s2
 refine ⟨_,rfl,tE,_,rfl,SqT.of (s02 _ _ etE),rfl,_,_,rfl,_,_,rfl,rfl,?_⟩
 refine ⟨_,rfl,_,rfl,v,.ref bE,one,n,e.1,0,rfl,dv.mono s02,its_mk (s02 _ _ ebE),G,hn,by omega,l1,Int.le_refl 0,by omega,fun r3 t3 H3 s3 er3 et3=>?_⟩
 refine ⟨r3,_,rfl,SqT.of er3,rfl,_,_,rfl,_,_,rfl,rfl,?_⟩
 have s03:=s02.trans s3
 refine ⟨by show 0≤sizeLine;decide,fun ll hll=>?_⟩
 have s4:=same_up (o:=HO.lst []) (Same.refl H3) hll
 have ell:upd H3 ll (.lst []) ll=some (.lst []):=upd_same
 have hll0:H ll=none:=s03.free hll
 generalize upd H3 ll (.lst [])=H4 at s4 ell
 refine fun ld hld=>?_
 have nld:ll≠ld:=ne_of_none ell hld
 have s5:=same_up (o:=HO.dK []) (Same.refl H4) hld
 have eld:upd H4 ld (.dK []) ld=some (.dK []):=upd_same
 have hld0:H ld=none:=(s03.trans s4).free hld
 replace ell:=s5 _ _ ell
 have s05:=s03.trans (s4.trans s5)
 replace et3:=(s4.trans s5) _ _ et3
 generalize upd H4 ld (.dK [])=H5 at s05 ell eld et3
 clear s1 s2 s3 s4 s5 s02 s03
 refine ⟨fun m σ H6=>∃ (t:Nat) (u8:Option V) (us:List V),m=one.length+1 - t∧σ=[some v,some (.ref tE),some (.ref bE),some (.ref cE),some (.ref t3),some (.int (lapA one e t)),some (.ref ll),some (.ref ld),u8,none]∧Same H H6∧H6 t3=some (.tup ((outW one 0 e.1).map V.int))∧H6 ll=some (.lst us)∧DrL K H6 ((laps one e t).map D.its) us∧H6 ld=some (.dK (prs kI (seen one e t)))∧(seen one e t).Nodup,
  ⟨_,0,none,[],rfl,rfl,s05,et3,ell,DrL.nil,eld,List.nodup_nil⟩,?_⟩
 rintro m σ H6 ⟨t,u8,us,rfl,rfl,t6,e6,el,dl,ed,nd⟩
 have ht:t≤one.length:=by
  have:=nodup_len nd (fun x hx=>by
   obtain ⟨j,_,rfl⟩:=List.mem_map.mp hx
   exact lapA_rg G l1 l2 j)
  rw [seen_len] at this
  exact this
 have hul:us.length=t:=by have:=dl.length;rw [List.length_map,laps_len] at this;omega
 obtain ⟨a0,a1⟩:=lapA_rg G l1 l2 t
 have h4000:=G.few
 refine ⟨_,rfl,_,rfl,ld,_,rfl,DGet.k (k:=kI (lapA one e t)) ed,_,rfl,?_⟩
 have hv:=prs_val (κ:=Key) kI kI_inj (seen one e t) (lapA one e t)
 by_cases hm:lapA one e t∈seen one e t
 ·rw [hv,if_pos hm]
  refine iteF ?_
  rw [if_pos hm] at hv
  obtain ⟨first,hf⟩:∃ first,first=(seen one e t).idxOf (lapA one e t):=⟨_,rfl⟩
  have hfl:first < t:=by rw [hf];have:=List.idxOf_lt_length_of_mem hm;rwa [seen_len] at this
  have hfa:lapA one e t=lapA one e first:=by
   have h':(seen one e t)[first]?=some (lapA one e t):=by rw [hf,List.getElem?_eq_getElem (List.idxOf_lt_length_of_mem hm),List.getElem_idxOf]
   unfold seen at h'
   rw [List.getElem?_map,List.getElem?_range hfl] at h'
   exact (Option.some.inj h').symm
  have hlat:=worn_lat one hne hfl hfa
  rw [←hf] at hv
  have hmk:t*e.2.length≤one.length*e.2.length:=Nat.mul_le_mul_right _ ht
  have hmf:first*e.2.length≤t*e.2.length:=Nat.mul_le_mul_right _ (Nat.le_of_lt hfl)
  have lt1:((laps one e t).take first).flatten.length=first*e.2.length:=by
   have:(laps one e t).take first=laps one e first:=by
    unfold laps
    rw [←List.map_take,List.take_range,Nat.min_eq_left (Nat.le_of_lt hfl)]
   rw [this,flat_laps]
  have lt2:((laps one e t).drop first).flatten.length≤t*e.2.length:=by
   have h':((laps one e t).take first).flatten.length+((laps one e t).drop first).flatten.length=t*e.2.length:=by
    rw [←List.length_append,←List.flatten_append,List.take_append_drop,flat_laps]
   omega
  have hrne:((laps one e t).drop first).flatten≠[]:=fun z=>by
   have h':((laps one e t).take first).flatten.length+((laps one e t).drop first).flatten.length=t*e.2.length:=by
    rw [←List.length_append,←List.flatten_append,List.take_append_drop,flat_laps]
   rw [z,lt1,List.length_nil,Nat.add_zero] at h'
   have:=Nat.eq_of_mul_eq_mul_right hL h'
   omega
  refine ⟨_,rfl,_,rfl,ld,_,rfl,(by rw [←hv];exact DGet.k (k:=kI (lapA one e t)) ed),?_⟩
  refine ⟨_,rfl,_,rfl,_,rfl,_,rfl,ll,_,rfl,SqL.of el,fun p1 hp1=>?_⟩
  rw [cutV_to us first (by omega)]
  have s7:=same_up (o:=HO.lst (us.take first)) (Same.refl H6) hp1
  have e7:upd H6 p1 (.lst (us.take first)) p1=some (.lst (us.take first)):=upd_same
  generalize upd H6 p1 (.lst (us.take first))=H7 at s7 e7
  have d7:DrL K H7 (((laps one e t).take first).map D.its) (us.take first):=by rw [List.map_take];exact drl_take first (dl.mono s7)
  refine ⟨p1,_,_,rfl,e7,d7,by omega,fun t8 H8 s8 e8=>⟨t3,t8,_,_,rfl,rfl,s8 _ _ (s7 _ _ e6),e8,?_,fun p9 H9 s9 e9=>?_⟩⟩
  ·rw [List.length_map,List.length_map,outW_len,lt1]
   exact line_leB (by omega)
  rw [←List.map_append] at e9
  have s79:=s7.trans (s8.trans s9)
  refine ⟨_,rfl,_,rfl,_,rfl,ll,_,rfl,SqL.of (s79 _ _ el),fun p2 hp2=>?_⟩
  rw [cutV_from us first (by omega)]
  have s10:=same_up (o:=HO.lst (us.drop first)) (Same.refl H9) hp2
  have e10:upd H9 p2 (.lst (us.drop first)) p2=some (.lst (us.drop first)):=upd_same
  generalize upd H9 p2 (.lst (us.drop first))=H10 at s10 e10
  have d10:DrL K H10 (((laps one e t).drop first).map D.its) (us.drop first):=by rw [List.map_drop];exact drl_drop first (dl.mono (s79.trans s10))
  refine ⟨p2,_,_,rfl,e10,d10,by omega,fun t11 H11 s11 e11=>?_⟩
  refine ⟨.ref p9,.ref t11,_,_,rfl,its_mk ((s10.trans s11) _ _ e9),its_mk e11,?_,by omega,fun _ x H12 E s12 dE pE latE le1 le2=>?_,fun z=>absurd z hrne⟩
  ·rw [List.length_append,outW_len,lt1];omega
  ·rw [List.length_append,outW_len,lt1] at le1
   exact q x H12 E (t6.trans (s79.trans (s10.trans (s11.trans s12)))) dE pE (fun i=>(latE i).trans (hlat i)) (by omega) (by omega)
 ·rw [hv,if_neg hm]
  refine iteT ?_
  refine cutN fun N nx2=>?_
  refine ⟨_,rfl,ll,_,rfl,.inl (SqL.of el),_,rfl,_,rfl,ld,_,rfl,DPut.k (k:=kI (lapA one e t)) ed (by rw [prsF_len,seen_len];exact small5 (by omega)),?_⟩
  have e7l:upd H6 ld (.dK (putK (prs kI (seen one e t)) (kI (lapA one e t)) (V.int (us.length:Nat)))) ll=some (.lst us):=by rw [upd_ne nld];exact el
  have k7:TupK H6 (upd H6 ld (.dK (putK (prs kI (seen one e t)) (kI (lapA one e t)) (V.int (us.length:Nat))))):=TupK.up (TupK.refl _) ed (fun _ z=>by cases z)
  have e7d:upd H6 ld (.dK (putK (prs kI (seen one e t)) (kI (lapA one e t)) (V.int (us.length:Nat)))) ld=some (.dK (prs kI (seen one e (t+1)))):=by
   rw [upd_same,hul,seen_succ,←prs_put kI kI_inj hm,seen_len]
  have t7:=same_over (o:=HO.dK (putK (prs kI (seen one e t)) (kI (lapA one e t)) (V.int (us.length:Nat)))) t6 hld0
  generalize upd H6 ld (.dK (putK (prs kI (seen one e t)) (kI (lapA one e t)) (V.int (us.length:Nat))))=H7 at *
  refine ⟨_,rfl,_,rfl,_,rfl,v,.ref cE,one,n,e.2,lapA one e t,rfl,dv.mono t7,its_mk (t7 _ _ ecE),G,hn,by omega,l2,a0,a1,fun r8 t8 H8 s8 er8 et8=>?_⟩
  refine ⟨r8,_,rfl,SqT.of er8,rfl,_,_,rfl,_,_,rfl,rfl,?_⟩
  have e8l:=s8 _ _ e7l
  refine ⟨_,rfl,.inl ⟨rfl,_,SqL.of e8l⟩,_,rfl,ll,_,_,rfl,rfl,e8l,by rw [hul];exact small5 (by omega),?_⟩
  have k9:TupK H8 (upd H8 ll (.lst (us++[.ref t8]))):=TupK.up (TupK.refl _) e8l (fun _ z=>by cases z)
  refine nx2 (one.length+1 - (t+1)) _ _ (by omega) ⟨t+1,_,us++[.ref t8],rfl,rfl,same_over (t7.trans s8) hll0,k9 _ _ (s8 _ _ (k7 _ _ e6)),upd_same,?_,?_,?_⟩
  ·rw [laps_succ,List.map_append]
   exact DrL.append (((dl.keyed k7 (its_keyL _)).mono s8).keyed k9 (its_keyL _)) (DrL.one (its_mk (k9 _ _ et8)))
  ·rw [upd_ne nld.symm];exact s8 _ _ e7d
  ·rw [seen_succ]
   exact List.nodup_append.mpr ⟨nd,by simp,fun x hx y hy z=>hm (by rw [←(show y=lapA one e t by simpa using hy),←z];exact hx)⟩
end
end Gu

set_option Elab.async false
set_option linter.all false
set_option maxRecDepth 100000
set_option maxHeartbeats 4000000
namespace Gu
open PySem L2
section
variable {P:Program} {w:World} {K:PySem.W.Frag} {mg:Str→Option Value} {base:Heap} {f g:Addr} {fd gd:FuncData} {CX:CXT} [NoE CX]
abbrev nNO:List Str:=["letters","word","number","letter"]
theorem scNO:FnScope nNO ["letters","word"] (defScope sNumberOf):=⟨rfl,rfl,rfl,by decide +kernel,rfl,by decide +kernel,by decide +kernel⟩
theorem ok_numberof {Ct aCk:Addr} {dCk:FuncData} (F:Fun K "number_of" "number_of" sNumberOf f fd)
  (Ck:FnOk P w K mg base (CXx P w) 1 aCk dCk ["letters","word"] (spCheckW K Ct)) (bCk:Binds K dCk ["letters","word"] []) (kCk:PySem.W.keepIn K (.ref aCk)=true) (mCk:mg "check_word"=some (.ref aCk)):FnOk P w K mg base (CXx P w) 2 f fd ["letters","word"] (spNumOf K Ct):=by
 refine F.okx scNO (fun vs H Q E h=>?_) (fun cdv A outer s H vs Q E hr h=>?_)
 ·obtain ⟨n,u,wd,rfl,_⟩:=h
  rfl
 obtain ⟨n,u,wd,rfl,dw,hn,h5,gv,gx⟩:=h
 refine ⟨_,pss_cons (ps_expr (pe_call Ck hr rfl mCk kCk bCk .nil (passX fun _ _ _ z=>z) (pa_cons (pv 0) (pa_cons (pv 1) pa_nil))))
  (pss_cons (ps_set (i:=2) scNO.nd rfl (Or.inl rfl) pe_int)
  (pss_cons (ps_for PassesOwn.leaving rfl (pi_tup (pv 1)) (pg_name (i:=3) scNO.nd rfl (Or.inl rfl))
   (pss_one (ps_set (i:=2) scNO.nd rfl (Or.inl rfl) (pe_op op_add (pe_op op_mul (pv 2) (pv 0)) (pv 3)))))
  (pss_one (ps_ret (pv 2))))),?_⟩
 refine ⟨_,rfl,_,rfl,n,u,wd,rfl,dw,by omega,fun hw H2 s2=>?_,fun hw ea H2 s2=>gx hw ea H2 s2⟩
 obtain ⟨aw,rfl,eaw⟩:=Dr.its_inv dw
 refine ⟨_,rfl,aw,rfl,⟨_,SqT.of (s2 _ _ eaw)⟩,for_tup (xs:=wd.map V.int) (fun i σ H3=>∃ (u3:Option V),σ=[some (.int n),some (.ref aw),some (.int (numW n (wd.take i))),u3]∧Same H H3)
  ⟨_,rfl,s2⟩ (fun i σ H3 _ h=>by obtain ⟨_,_,t3⟩:=h;exact SqT.of (t3 _ _ eaw)) (fun i x σ H3 hx h=>?_) (fun σ H3 h=>?_)⟩
 ·obtain ⟨u3,rfl,t3⟩:=h
  have hil:i < wd.length:=by have:=(List.getElem?_eq_some_iff.mp hx).1;rwa [List.length_map] at this
  have eg:wd[i]?=some wd[i]:=List.getElem?_eq_getElem hil
  generalize wd[i]=l at eg
  have ex:x=V.int l:=by rw [List.getElem?_map,eg] at hx;exact (Option.some.inj hx).symm
  subst ex
  have est:numW n (wd.take (i+1))=numW n (wd.take i)*(n:Int)+l:=by
   rw [List.take_add_one,eg,Option.toList,numW_snoc]
  rw [est]
  exact ⟨_,rfl,_,rfl,_,_,rfl,rfl,Or.inr ⟨by omega,by omega⟩,_,rfl,_,_,rfl,rfl,_,rfl,t3⟩
 ·obtain ⟨u3,rfl,t3⟩:=h
  rw [List.length_map,List.take_length]
  exact ⟨_,rfl,gv hw H3 t3⟩
abbrev nWO:List Str:=["letters","many","number","lightest_first","left","place","letter"]
theorem scWO:FnScope nWO ["letters","many","number"] (defScope sWordOf):=⟨rfl,rfl,rfl,by decide +kernel,rfl,by decide +kernel,by decide +kernel⟩
theorem ok_wordof {Cb:Addr} {bmB:List Value} {B newId initId:String} {tm:Tok} (mC:mg "BadCount"=some (.ref Cb)) (xC:PySem.W.excIn K Cb bmB newId=true) (hB:ExcBaseFacts B newId initId bmB) (m_MOST_LETTERS_TOLD:mg "MOST_LETTERS_TOLD"=some (.int 1000 tm)) (mr:mg "range"=none) (mdm:mg "divmod"=none) (mt:mg "tuple"=none) (F:Fun K "word_of" "word_of" sWordOf f fd):FnOk P w K mg base (CXx P w) 1 f fd ["letters","many","number"] (spWordOf K Cb):=by
 refine F.okx scWO (fun vs H Q E h=>?_) (fun cdv A outer s H vs Q E hr h=>?_)
 ·obtain ⟨n,many,x,rfl,_⟩:=h
  rfl
 obtain ⟨n,many,x,rfl,n0,hn,gv,gb⟩:=h
 refine ⟨_,pss_cons (ps_if (pt_not (pt_chain op_le op_le pe_int (pv 1) (pe_glob (v:=.int 1000) rfl m_MOST_LETTERS_TOLD ⟨_,rfl⟩))) (pss_one (ps_raise mC rfl xC hB pe_str)) pss_nil)
  (pss_cons (ps_set (i:=3) scWO.nd rfl (Or.inl rfl) (pe_lst pa_nil))
  (pss_cons (ps_set (i:=4) scWO.nd rfl (Or.inl rfl) (pv 2))
  (pss_cons (ps_for PassesOwn.leaving rfl (pi_range1 rfl mr (pa_cons (pv 1) pa_nil)) (pg_name (i:=5) scWO.nd rfl (Or.inl rfl))
   (pss_cons (ps_asg (pe_callB call_divmod rfl mdm PyProof.Rows.boot_divmod (pa_cons (pv 4) (pa_cons (pv 0) pa_nil))) (pg_tup rfl (pgs_cons (pg_name (i:=4) scWO.nd rfl (Or.inl rfl)) (pgs_cons (pg_name (i:=6) scWO.nd rfl (Or.inl rfl)) pgs_nil))))
   (pss_one (ps_expr (pe_bm PySem.F.plainAttrs_list PySem.F.slot_list_append PySem.F.type_list_append mt_append (pv 3) (pa_cons (pv 6) pa_nil))))))
  (pss_cons (ps_if (pt_cmp (pc_neI (pv 4) pe_int)) (pss_one (ps_raise mC rfl xC hB pe_str)) pss_nil)
  (pss_one (ps_ret (pe_callTy call_tuple_of rfl mt PyProof.Rows.boot_tuple (pa_cons (pe_revL (pv 3) (pe_un un_neg pe_int)) pa_nil)))))))),?_⟩
 have bad:¬ (0≤many∧many≤1000)→∀ ea:Addr,E (.ref ea) (some Cb) H:=fun z ea=>gb (fun y=>z ⟨y.1,y.2.1⟩) ea H (Same.refl _)
 refine ⟨_,rfl,_,_,rfl,rfl,_,rfl,ite2 (fun c1=>⟨_,_,rfl,rfl,_,rfl,?_⟩) (fun c1=>?_)⟩
 rotate_left
 ·have c1':=of_decide_eq_false (Bool.eq_false_iff.mpr c1)
  refine ⟨_,rfl,ite2 (fun _=>bad (by omega)) (fun z=>absurd rfl z)⟩
 have c1':=of_decide_eq_true c1
 refine ite2 (fun z=>bad (fun y=>by rw [decide_eq_true y.2] at z;cases z)) (fun z=>?_)
 have c2':many≤1000:=by
  by_cases y:many≤1000
  ·exact y
  ·exact absurd (by rw [decide_eq_false y];rfl) z
 obtain ⟨m,rfl⟩:=nat_of c1'
 have hgx:GoodX n m x↔dvn n m x=0:=by
  rw [dvn_zero (by omega)]
  unfold GoodX
  rw [Int.toNat_natCast]
  constructor
  ·exact fun h=>h.2.2
  ·exact fun h=>⟨by omega,c2',h⟩
 refine ⟨by show 0≤sizeLine;decide,fun lm hlm=>?_⟩
 have s1:=same_up (o:=HO.lst []) (Same.refl H) hlm
 refine ⟨_,rfl,_,rfl,(m:Int),rfl,by omega,by omega,for_range (n:=(m:Int).toNat) (fun i σ H3=>∃ (u5 u6:Option V),σ=[some (.int n),some (.int m),some (.int x),some (.ref lm),some (.int (dvn n i x)),u5,u6]∧Same H H3∧H3 lm=some (.lst ((lit n i x).map V.int))) ⟨_,_,rfl,s1,upd_same⟩ (fun i σ H3 hi h=>?_) (fun σ H3 h=>?_)⟩
 ·obtain ⟨u5,u6,rfl,s3,e3⟩:=h
  refine ⟨_,rfl,_,rfl,_,_,rfl,⟨by omega,by omega⟩,fun p hp=>?_⟩
  have s4:=same_up (o:=HO.tup [V.int (dvn n i x / (n:Int)),V.int (dvn n i x % (n:Int))]) (Same.refl H3) hp
  refine ⟨p,_,rfl,SqT.of upd_same,rfl,_,_,rfl,_,_,rfl,rfl,?_⟩
  refine ⟨_,rfl,.inl ⟨rfl,_,SqL.of (s4 _ _ e3)⟩,_,rfl,lm,_,_,rfl,rfl,s4 _ _ e3,small5 (by rw [List.length_map,lit_len];omega),?_⟩
  rw [dvn_snoc,lit_snoc,List.map_append]
  exact ⟨_,_,rfl,same_over (s3.trans s4) hlm,upd_same⟩
 ·obtain ⟨u5,u6,rfl,s3,e3⟩:=h
  rw [Int.toNat_natCast] at *
  refine ⟨_,rfl,_,_,rfl,rfl,_,rfl,ite2 (fun c=>?_) (fun c=>?_)⟩
  ·exact fun ea=>gb (fun y=>by have:=hgx.mp y;simp [this] at c) ea H3 s3
  ·have c':dvn n m x=0:=Classical.byContradiction fun y=>c (by simp [y])
   refine ⟨_,rfl,_,rfl,rfl,lm,_,rfl,SqL.of e3,fun p hp=>?_⟩
   have s4:=same_up (o:=HO.lst ((lit n m x).map V.int).reverse) (Same.refl H3) hp
   refine ⟨p,_,rfl,.inl ⟨SqL.of upd_same,fun l hl=>?_⟩⟩
   refine gv (hgx.mpr c') l _ ((s3.trans s4).trans (same_up (Same.refl _) hl)) ?_
   show upd _ l _ l=some (.tup ((lit n m x).reverse.map V.int))
   rw [←List.map_reverse]
   exact upd_same
abbrev nOF:List Str:=["letters","many","count","place"]
theorem scOF:FnScope nOF ["letters","many"] (defScope sOnFloor):=⟨rfl,rfl,rfl,by decide +kernel,rfl,by decide +kernel,by decide +kernel⟩
theorem ok_onfloor {Ct Cb:Addr} {bmB bmB2:List Value} {B newId initId B2 newId2 initId2:String} {tm:Tok} (mC:mg "BadCount"=some (.ref Cb)) (xC:PySem.W.excIn K Cb bmB newId=true) (hB:ExcBaseFacts B newId initId bmB) (mC2:mg "TooMany"=some (.ref Ct)) (xC2:PySem.W.excIn K Ct bmB2 newId2=true) (hB2:ExcBaseFacts B2 newId2 initId2 bmB2) (m_MOST_WORDS:mg "MOST_WORDS"=some (.int 1024 tm)) (mr:mg "range"=none) (F:Fun K "words_on_floor" "words_on_floor" sOnFloor f fd):FnOk P w K mg base (CXx P w) 1 f fd ["letters","many"] (spOnFloor K Ct Cb):=by
 refine F.okx scOF (fun vs H Q E h=>?_) (fun cdv A outer s H vs Q E hr h=>?_)
 ·obtain ⟨n,many,rfl,_⟩:=h
  rfl
 obtain ⟨n,many,rfl,n2,n5,hm,gb,gx,gv⟩:=h
 refine ⟨_,pss_cons (ps_if (pt_cmpR op_lt (pv 1) pe_int (nomark _)) (pss_one (ps_raise mC rfl xC hB pe_str)) pss_nil)
  (pss_cons (ps_set (i:=2) scOF.nd rfl (Or.inl rfl) pe_int)
  (pss_cons (ps_for PassesOwn.leaving rfl (pi_range1 rfl mr (pa_cons (pv 1) pa_nil)) (pg_name (i:=3) scOF.nd rfl (Or.inl rfl))
   (pss_cons (ps_set (i:=2) scOF.nd rfl (Or.inl rfl) (pe_op op_mul (pv 2) (pv 0)))
   (pss_one (ps_if (pt_cmpR op_gt (pv 2) (pe_glob (v:=.int 1024) rfl m_MOST_WORDS ⟨_,rfl⟩) (nomark _)) (pss_one (ps_raise mC2 rfl xC2 hB2 pe_str)) pss_nil))))
  (pss_one (ps_ret (pv 2))))),?_⟩
 refine ⟨_,rfl,_,_,rfl,rfl,_,rfl,ite2 (fun c=>?_) (fun c=>?_)⟩
 ·exact fun ea=>gb (of_decide_eq_true c) ea H (Same.refl _)
 have c':=of_decide_eq_false (Bool.eq_false_iff.mpr c)
 obtain ⟨m,rfl⟩:=nat_of (x:=many) (by omega)
 rw [Int.toNat_natCast] at gx gv
 refine ⟨_,rfl,(m:Int),rfl,by omega,by omega,for_range (n:=(m:Int).toNat) (fun i σ H3=>∃ (u3:Option V),σ=[some (.int n),some (.int m),some (.int ((n ^ i:Nat):Int)),u3]∧H3=H∧n ^ i≤1024) ⟨_,rfl,rfl,by simp⟩ (fun i σ H3 hi h=>?_) (fun σ H3 h=>?_)⟩
 ·obtain ⟨u3,rfl,rfl,h4⟩:=h
  refine ⟨_,rfl,_,rfl,_,_,rfl,rfl,Or.inr ⟨by omega,by omega⟩,?_⟩
  have ep:((n ^ i:Nat):Int)*(n:Int)=((n ^ (i+1):Nat):Int):=by rw [Nat.pow_succ,Int.natCast_mul]
  refine ⟨_,rfl,_,_,rfl,rfl,_,rfl,ite2 (fun c2=>?_) (fun c2=>?_)⟩
  ·have c2':=of_decide_eq_true c2
   rw [ep] at c2'
   have him:i+1≤m:=by omega
   have:=Nat.pow_le_pow_right (show 1≤n by omega) him
   exact fun ea=>gx (by omega) (by omega) ea _ (Same.refl _)
  ·have c2':=of_decide_eq_false (Bool.eq_false_iff.mpr c2)
   rw [ep] at c2'
   refine ⟨some (V.int (0+(i:Int))),?_,rfl,by omega⟩
   show [some (V.int n),some (V.int m),some (V.int (((n ^ i:Nat):Int)*(n:Int))),some (V.int (0+(i:Int)))]=_
   rw [ep]
 ·obtain ⟨u3,rfl,rfl,h4⟩:=h
  rw [Int.toNat_natCast] at *
  exact ⟨_,rfl,gv (by omega) h4⟩
abbrev nFl:List Str:=["guise","many","letters","count"]
theorem scFl:FnScope nFl ["guise","many"] (defScope sFloor):=⟨rfl,rfl,rfl,by decide +kernel,rfl,by decide +kernel,by decide +kernel⟩
theorem csFl:CompS nFl (defScope sFloor) ["number","guise","letters","many"] [none,some 0,some 2,some 1] (csc [(".0",.local),("number",.local),("number_of",.globalImplicit),("worn",.globalImplicit),("word_of",.globalImplicit),("guise",.free),("letters",.free),("many",.free)]):=⟨rfl,by decide +kernel,by decide +kernel,by decide +kernel,rfl,by decide +kernel,by decide +kernel⟩
theorem ok_floor {Ct Cb Cw aR aO aN aW aV:Addr} {dR dO dN dW dV:FuncData} (mr:mg "range"=none) (F:Fun K "floor" "floor" sFloor f fd)
  (R:FnOk P w K mg base (CXx P w) 2 aR dR ["guise"] (spBreadth K)) (bR:Binds K dR ["guise"] []) (kR:PySem.W.keepIn K (.ref aR)=true) (mR:mg "breadth"=some (.ref aR))
  (O:FnOk P w K mg base (CXx P w) 2 aO dO ["letters","many"] (spOnFloor K Ct Cb)) (bO:Binds K dO ["letters","many"] []) (kO:PySem.W.keepIn K (.ref aO)=true) (mO:mg "words_on_floor"=some (.ref aO))
  (N:FnOk P w K mg base (CXx P w) 2 aN dN ["letters","word"] (spNumOf K Cw)) (bN:Binds K dN ["letters","word"] []) (kN:PySem.W.keepIn K (.ref aN)=true) (mN:mg "number_of"=some (.ref aN))
  (W:FnOk P w K mg base (CXx P w) 2 aW dW ["guise","word"] (spWorn K Cw)) (bW:Binds K dW ["guise","word"] []) (kW:PySem.W.keepIn K (.ref aW)=true) (mW:mg "worn"=some (.ref aW))
  (Vo:FnOk P w K mg base (CXx P w) 2 aV dV ["letters","many","number"] (spWordOf K Cb)) (bV:Binds K dV ["letters","many","number"] []) (kV:PySem.W.keepIn K (.ref aV)=true) (mV:mg "word_of"=some (.ref aV)):FnOk P w K mg base (CXx P w) 3 f fd ["guise","many"] (spFloor K Ct Cb):=by
 refine F.okx scFl (fun vs H Q E h=>?_) (fun cdv A outer s H vs Q E hr h=>?_)
 ·obtain ⟨v,one,n,many,rfl,_⟩:=h
  rfl
 obtain ⟨v,one,n,many,rfl,dv,GM,n2,n5,hm,gb,gx,gv⟩:=h
 refine ⟨_,pss_cons (ps_set (i:=2) scFl.nd rfl (Or.inr rfl) (pe_call R hr rfl mR kR bR .nil passN (pa_cons (pv 0) pa_nil)))
  (pss_cons (ps_set (i:=3) scFl.nd rfl (Or.inl rfl) (pe_call O hr rfl mO kO bO .nil (passX fun _ _ _ z=>z) (pa_cons (pv 2) (pa_cons (pv 1) pa_nil))))
  (pss_one (ps_ret (pe_comp rfl csFl (pi_range1 rfl mr (pa_cons (pv 3) pa_nil)) (fun _ _ _ _ _=>pg_name (i:=0) csFl.nd rfl (Or.inl rfl)) (fun _ _ _ _ _=>pe_call N hr rfl mN kN bN .nil passN (pa_cons (pv 2) (pa_cons (pe_call W hr rfl mW kW bW .nil passN (pa_cons (pv 1) (pa_cons (pe_call Vo hr rfl mV kV bV .nil passN (pa_cons (pv 2) (pa_cons (pv 3) (pa_cons (pv 0) pa_nil)))) pa_nil))) pa_nil))))))),?_⟩
 have h1:=GM.some
 obtain ⟨r0,rt,er⟩:∃ r0 rt,one=r0::rt:=by
  cases one with
  | nil=>simp at h1
  | cons r0 rt=>exact ⟨r0,rt,rfl⟩
 have hl0:=(GM.perm r0 (by rw [er];simp)).len
 refine ⟨_,rfl,v,r0,rowsD rt,rfl,(by rw [er] at dv;exact dv),by omega,fun H1 s1=>?_⟩
 refine ⟨_,rfl,_,rfl,n,many,(by rw [hl0];rfl),n2,n5,hm,fun z ea H2 s2=>gb z ea H2 (s1.trans s2),fun z y ea H2 s2=>gx z y ea H2 (s1.trans s2),fun m0 hf=>?_⟩
 replace gv:=gv m0 hf
 obtain ⟨m,rfl⟩:=nat_of m0
 rw [Int.toNat_natCast] at hf gv
 have hm10:=floor_few n2 hf
 refine ⟨_,rfl,((n ^ m:Nat):Int),rfl,by omega,by omega,fun l hl0'=>comp_range (n:=((n ^ m:Nat):Int).toNat) (fun i ys H3=>i≤n ^ m∧ys=((tabW n one m).take i).map V.int∧Same H1 H3) ⟨Nat.zero_le _,rfl,same_up (Same.refl H1) hl0'⟩ (by rw [Int.toNat_natCast];exact line_le (by omega)) (fun i ys H3 h=>?_) (fun i ys H3 hi h hy=>?_) (fun ys H3 h hy=>?_)⟩
 ·obtain ⟨_,rfl,_⟩:=h
  rw [List.length_map,List.length_take,tabW_len]
  omega
 ·obtain ⟨_,rfl,s3⟩:=h
  have hi':i < n ^ m:=by omega
  have gx:GoodX n m (i:Int):=⟨by omega,by omega,by omega,by rw [Int.toNat_natCast,←Int.natCast_pow];omega⟩
  have lf:=figW_lw (n:=n) (by omega) m (i:Int)
  have ll:=figW_len (n:Int) m (i:Int)
  refine ⟨_,rfl,_,rfl,_,rfl,_,rfl,_,rfl,n,m,(i:Int),(by rw [hl0,Int.zero_add];rfl),by omega,by omega,fun _ t H4 s4 e4=>?_,fun z=>absurd gx z⟩
  rw [Int.toNat_natCast] at e4
  refine ⟨v,.ref t,one,n,_,rfl,dv.mono (s1.trans (s3.trans s4)),Dr.tup e4 (DrL.ints _),GM,by omega,by omega,fun _ t5 H5 s5 e5=>?_,fun z=>absurd lf z⟩
  have lo:=outW_lw GM _ 0 lf (Int.le_refl 0) (by omega)
  refine ⟨n,.ref t5,_,(by rw [hl0];rfl),Dr.tup e5 (DrL.ints _),by omega,by rw [outW_len];omega,fun _ H6 s6=>?_,fun z=>absurd lo z⟩
  have s36:=s4.trans (s5.trans s6)
  refine ⟨s36 _ _ hy,by omega,?_,same_over (s3.trans s36) hl0'⟩
  unfold tabW
  rw [iota_map_take _ _ _ hi',List.map_append]
  rfl
 ·obtain ⟨_,rfl,s3⟩:=h
  rw [Int.toNat_natCast,List.take_of_length_le (by rw [tabW_len];exact Nat.le_refl _)] at hy
  exact gv l H3 (s1.trans s3) (Decidable.byContradiction fun z=>by
   cases e:H l with
   | none=>exact z e
   | some o=>have:=s1 l o e;rw [hl0'] at this;cases this) hy
end
end Gu

set_option Elab.async false
set_option linter.all false
set_option maxRecDepth 100000
set_option maxHeartbeats 4000000
namespace Gu
open PySem L2
section
variable {P:Program} {w:World} {K:PySem.W.Frag} {mg:Str→Option Value} {base:Heap} {f g:Addr} {fd gd:FuncData} {CX:CXT} [NoE CX]
abbrev nRs:List Str:=["guise","word","letters","made","count"]
theorem scRs:FnScope nRs ["guise","word"] (defScope sRounds):=⟨rfl,rfl,rfl,by decide +kernel,rfl,by decide +kernel,by decide +kernel⟩
theorem ok_rounds {Cw Ct Cb aR aCk aO aW:Addr} {dR dCk dO dW:FuncData} (ml:mg "len"=none) (F:Fun K "rounds" "rounds" sRounds f fd)
  (R:FnOk P w K mg base (CXx P w) 2 aR dR ["guise"] (spBreadth K)) (bR:Binds K dR ["guise"] []) (kR:PySem.W.keepIn K (.ref aR)=true) (mR:mg "breadth"=some (.ref aR))
  (Ck:FnOk P w K mg base (CXx P w) 2 aCk dCk ["letters","word"] (spCheckW K Cw)) (bCk:Binds K dCk ["letters","word"] []) (kCk:PySem.W.keepIn K (.ref aCk)=true) (mCk:mg "check_word"=some (.ref aCk))
  (O:FnOk P w K mg base (CXx P w) 2 aO dO ["letters","many"] (spOnFloor K Ct Cb)) (bO:Binds K dO ["letters","many"] []) (kO:PySem.W.keepIn K (.ref aO)=true) (mO:mg "words_on_floor"=some (.ref aO))
  (W:FnOk P w K mg base (CXx P w) 2 aW dW ["guise","word"] (spWorn K Cw)) (bW:Binds K dW ["guise","word"] []) (kW:PySem.W.keepIn K (.ref aW)=true) (mW:mg "worn"=some (.ref aW)):FnOk P w K mg base (CXx P w) 3 f fd ["guise","word"] (spRounds K Cw Ct):=by
 refine F.okx scRs (fun vs H Q E h=>?_) (fun cdv A outer s H vs Q E hr h=>?_)
 ·obtain ⟨v,u,one,n,wd,rfl,_⟩:=h
  rfl
 obtain ⟨v,u,one,n,wd,rfl,dv,dw,GM,n2,n5,h5,gv,gx,gw⟩:=h
 refine ⟨_,pss_cons (ps_set (i:=2) scRs.nd rfl (Or.inl rfl) (pe_call R hr rfl mR kR bR .nil passN (pa_cons (pv 0) pa_nil)))
  (pss_cons (ps_expr (pe_call Ck hr rfl mCk kCk bCk .nil (passX fun _ _ _ z=>z) (pa_cons (pv 2) (pa_cons (pv 1) pa_nil))))
  (pss_cons (ps_expr (pe_call O hr rfl mO kO bO .nil (passX fun _ _ _ z=>z) (pa_cons (pv 2) (pa_cons (pe_callB call_len_seq rfl ml PySem.boot_len (pa_cons (pv 1) pa_nil)) pa_nil))))
  (pss_cons (ps_set (i:=3) scRs.nd rfl (Or.inl rfl) (pe_call W hr rfl mW kW bW .nil passN (pa_cons (pv 0) (pa_cons (pv 1) pa_nil))))
  (pss_cons (ps_set (i:=4) scRs.nd rfl (Or.inl rfl) pe_int)
  (pss_cons (ps_while PassesOwn.leaving (pt_cmpR (op_neT hr.units0) (pv 3) (pv 1) (nomark _))
   (pss_cons (ps_set (i:=3) scRs.nd rfl (Or.inl rfl) (pe_call W hr rfl mW kW bW .nil passN (pa_cons (pv 0) (pa_cons (pv 3) pa_nil))))
   (pss_one (ps_aug (i:=4) scRs.nd rfl (Or.inl rfl) pe_int ip_add))))
  (pss_one (ps_ret (pv 4)))))))),?_⟩
 have h1:=GM.some
 obtain ⟨r0,rt,er⟩:∃ r0 rt,one=r0::rt:=by
  cases one with
  | nil=>simp at h1
  | cons r0 rt=>exact ⟨r0,rt,rfl⟩
 have hl0:=(GM.perm r0 (by rw [er];simp)).len
 obtain ⟨aw,rfl,eaw⟩:=Dr.its_inv dw
 have lw':(wd.map V.int).length=wd.length:=List.length_map _
 refine ⟨_,rfl,v,r0,rowsD rt,rfl,(by rw [er] at dv;exact dv),by omega,fun H1 s1=>?_⟩
 rw [hl0]
 refine ⟨_,rfl,_,rfl,n,.ref aw,wd,rfl,dw.mono s1,by omega,fun hw H2 s2=>?_,fun hw ea H2 s2=>gw hw ea H2 (s1.trans s2)⟩
 have s02:=s1.trans s2
 refine ⟨_,rfl,_,rfl,aw,_,rfl,.inr (SqT.of (s02 _ _ eaw)),n,_,rfl,n2,n5,by omega,fun z=>absurd z (by omega),fun _ hx ea H3 s3=>?_,fun _ hx=>?_⟩
 ·rw [Int.toNat_natCast,lw'] at hx
  exact gx hw hx ea H3 (s02.trans s3)
 rw [Int.toNat_natCast,lw'] at hx
 obtain ⟨r,R,hr2⟩:=round_ex GM (by omega) hw
 have gv:=gv hw hx r R
 obtain ⟨r1,re,rlt⟩:=R
 refine ⟨_,rfl,_,rfl,v,.ref aw,one,n,wd,rfl,dv.mono s02,dw.mono s02,GM,by omega,h5,fun _ t H3 s3 e3=>?_,fun z=>absurd hw z⟩
 refine ⟨fun m σ H4=>∃ (c:Nat) (t:Addr),σ=[some v,some (.ref aw),some (.int n),some (.ref t),some (.int c)]∧Same H H4∧H4 t=some (.tup ((itW one c wd).map V.int))∧1≤c∧c+m=r∧(∀ k,1≤k→k < c→itW one k wd≠wd),
  ⟨r - 1,1,t,rfl,s02.trans s3,e3,Nat.le_refl _,by omega,fun k k1 k2=>absurd k2 (by omega)⟩,?_⟩
 rintro m σ H4 ⟨c,t,rfl,s4,e4,c1,hc,hlt⟩
 refine ⟨_,rfl,_,rfl,t,aw,_,wd,rfl,rfl,e4,s4 _ _ eaw,_,rfl,ite2 (fun z=>?_) (fun z=>?_)⟩
 ·have ne:itW one c wd≠wd:=fun y=>by rw [decide_eq_true y] at z;cases z
  have hcr:c < r:=by
   rcases Nat.lt_or_ge c r with y | y
   ·exact y
   ·have:c=r:=by omega
    rw [this] at ne
    exact absurd re ne
  refine ⟨fun σ' H'=>∃ m',m' < m∧_,fun _ _ w=>w,_,rfl,_,rfl,v,.ref t,one,n,itW one c wd,rfl,dv.mono s4,Dr.tup e4 (DrL.ints _),GM,by omega,by rw [itW_len];exact h5,fun _ t5 H5 s5 e5=>?_,fun y=>absurd (itW_lw GM c wd hw) y⟩
  refine ⟨_,rfl,_,_,rfl,rfl,m - 1,by omega,c+1,t5,rfl,s4.trans s5,e5,by omega,by omega,fun k k1 k2=>?_⟩
  by_cases y:k=c
  ·rw [y];exact ne
  ·exact hlt k k1 (by omega)
 ·have e:itW one c wd=wd:=Classical.byContradiction fun y=>z (by rw [decide_eq_false y];rfl)
  have hcr:c=r:=by
   rcases Nat.lt_or_ge c r with y | y
   ·exact absurd e (rlt c c1 y)
   ·omega
  rw [hcr]
  exact ⟨_,rfl,gv H4 s4⟩
abbrev nWh:List Str:=["guise","many","count"]
theorem scWh:FnScope nWh ["guise","many"] (defScope sWhirls):=⟨rfl,rfl,rfl,by decide +kernel,rfl,by decide +kernel,by decide +kernel⟩
theorem ok_whirls {Cw Ct Cb aR aO aN:Addr} {dR dO dN:FuncData} (F:Fun K "whirls" "whirls" sWhirls f fd)
  (R:FnOk P w K mg base (CXx P w) 3 aR dR ["guise"] (spBreadth K)) (bR:Binds K dR ["guise"] []) (kR:PySem.W.keepIn K (.ref aR)=true) (mR:mg "breadth"=some (.ref aR))
  (O:FnOk P w K mg base (CXx P w) 3 aO dO ["letters","many"] (spOnFloor K Ct Cb)) (bO:Binds K dO ["letters","many"] []) (kO:PySem.W.keepIn K (.ref aO)=true) (mO:mg "words_on_floor"=some (.ref aO))
  (N:FnOk P w K mg base (CXx P w) 3 aN dN ["guise","word"] (spRounds K Cw Ct)) (bN:Binds K dN ["guise","word"] []) (kN:PySem.W.keepIn K (.ref aN)=true) (mN:mg "rounds"=some (.ref aN)):FnOk P w K mg base (CXx P w) 4 f fd ["guise","many"] (spWhirls K Ct Cb):=by
 refine F.okx scWh (fun vs H Q E h=>?_) (fun cdv A outer s H vs Q E hr h=>?_)
 ·obtain ⟨v,one,n,many,rfl,_⟩:=h
  rfl
 obtain ⟨v,one,n,many,rfl,dv,GM,n2,n5,hm,gb,gx,gv⟩:=h
 refine ⟨_,pss_cons (ps_set (i:=2) scWh.nd rfl (Or.inl rfl) (pe_call O hr rfl mO kO bO .nil (passX fun _ _ _ z=>z) (pa_cons (pe_call R hr rfl mR kR bR .nil passN (pa_cons (pv 0) pa_nil)) (pa_cons (pv 1) pa_nil))))
  (pss_one (ps_ret (pe_cmpR op_eq (pe_call N hr rfl mN kN bN .nil passN (pa_cons (pv 0) (pa_cons (pe_op op_repU (pe_tup (pa_cons pe_int pa_nil)) (pv 1)) pa_nil))) (pv 2) (nomark _)))),?_⟩
 have h1:=GM.some
 obtain ⟨r0,rt,er⟩:∃ r0 rt,one=r0::rt:=by
  cases one with
  | nil=>simp at h1
  | cons r0 rt=>exact ⟨r0,rt,rfl⟩
 have hl0:=(GM.perm r0 (by rw [er];simp)).len
 refine ⟨_,rfl,v,r0,rowsD rt,rfl,(by rw [er] at dv;exact dv),by omega,fun H1 s1=>?_⟩
 rw [hl0]
 refine ⟨_,rfl,n,many,rfl,n2,n5,hm,fun z ea H2 s2=>gb z ea H2 (s1.trans s2),fun z y ea H2 s2=>gx z y ea H2 (s1.trans s2),fun m0 hf=>?_⟩
 have gv:=gv m0 hf
 obtain ⟨m,rfl⟩:=nat_of m0
 rw [Int.toNat_natCast] at hf gv ⊢
 have hm10:=floor_few n2 hf
 refine ⟨_,rfl,by show 1≤sizeLine;decide,fun p hp=>?_⟩
 have s2:=same_up (o:=HO.tup [V.int 0]) (Same.refl H1) hp
 refine ⟨_,rfl,p,(m:Int),_,rfl,rfl,upd_same,by omega,by omega,?_,fun p3 H3 s3 e3=>?_⟩
 ·rw [Int.toNat_natCast]
  show 1*m≤sizeLine
  exact line_le (by omega)
 have ez:(List.replicate (m:Int).toNat [V.int 0]).flatten=(List.replicate m (0:Int)).map V.int:=by
  rw [Int.toNat_natCast]
  exact flat1 m 0
 rw [ez] at e3
 have s03:=s1.trans (s2.trans s3)
 have hz:=zeros_lw (n:=n) (by omega) m
 have hzl:(List.replicate m (0:Int)).length=m:=List.length_replicate
 refine ⟨v,.ref p3,one,n,_,rfl,dv.mono s03,Dr.tup e3 (DrL.ints _),GM,n2,n5,by omega,fun _ _ r R H4 s4=>?_,fun _ z=>absurd z (by rw [hzl];omega),fun z=>absurd hz z⟩
 refine ⟨_,rfl,rfl,?_⟩
 have:=gv r R H4 (s03.trans s4)
 have e:decide (V.int (r:Int)=V.int ((n ^ m:Nat):Int))=decide (r=n ^ m):=by
  by_cases y:r=n ^ m
  ·rw [decide_eq_true y,y];exact decide_eq_true rfl
  ·rw [decide_eq_false y]
   exact decide_eq_false fun z=>y (by injection z with z;omega)
 rw [e]
 exact this
end
end Gu

set_option Elab.async false
set_option linter.all false
set_option maxRecDepth 100000
set_option maxHeartbeats 4000000
namespace Gu
open PySem L2
section
variable {P:Program} {w:World} {K:PySem.W.Frag} {mg:Str→Option Value} {base:Heap} {f g:Addr} {fd gd:FuncData} {CX:CXT} [NoE CX]
abbrev nLetAt:List Str:=["endless","place","beginning","ring"]
theorem scLetAt:FnScope nLetAt ["endless","place"] (defScope sLetterAt):=⟨rfl,rfl,rfl,by decide +kernel,rfl,by decide +kernel,by decide +kernel⟩
theorem ok_letterat {Ct:Addr} {bmB:List Value} {B newId initId:String} (mC:mg "BadCount"=some (.ref Ct)) (xC:PySem.W.excIn K Ct bmB newId=true) (hB:ExcBaseFacts B newId initId bmB) (F:Fun K "letter_at" "letter_at" sLetterAt f fd) (ml:mg "len"=none):FnOk P w K mg base (CXx P w) 1 f fd ["endless","place"] (spLetterAt K Ct):=by
 refine F.okx scLetAt (fun vs H Q E h=>?_) (fun cdv A outer s H vs Q E hr h=>?_)
 ·obtain ⟨v,e,i,rfl,_⟩:=h
  rfl
 obtain ⟨v,e,p,rfl,d,hne,q,qx⟩:=h
 obtain ⟨a,b,c,rfl,ea,eb,ec⟩:=rowD_inv d
 refine ⟨_,pss_cons (ps_if (pt_cmpR op_lt (pv 1) pe_int (nomark _)) (pss_one (ps_raise mC rfl xC hB pe_str)) pss_nil)
  (pss_cons (ps_asg (pv 0) (pg_tup rfl (pgs_cons (pg_name (i:=2) scLetAt.nd rfl (Or.inl rfl)) (pgs_cons (pg_name (i:=3) scLetAt.nd rfl (Or.inl rfl)) pgs_nil))))
  (pss_cons (ps_if (pt_cmpR op_lt (pv 1) (pe_callB call_len_seq rfl ml PySem.boot_len (pa_cons (pv 2) pa_nil)) (nomark _)) (pss_one (ps_ret (pe_ix ix_tup (pv 2) (pv 1) (fun _ _=>rfl)))) pss_nil)
  (pss_one (ps_ret (pe_ix ix_tup (pv 3) (pe_op op_mod (pe_op op_sub (pv 1) (pe_callB call_len_seq rfl ml PySem.boot_len (pa_cons (pv 2) pa_nil))) (pe_callB call_len_seq rfl ml PySem.boot_len (pa_cons (pv 3) pa_nil))) (fun _ _=>rfl)))))),?_⟩
 have hl:0 < e.2.length:=List.length_pos_iff.mpr hne
 have lb:(e.1.map V.int).length=e.1.length:=List.length_map _
 have lc:(e.2.map V.int).length=e.2.length:=List.length_map _
 refine ⟨_,rfl,_,_,rfl,rfl,_,rfl,ite2 (fun z=>?_) (fun z=>?_)⟩
 ·exact fun ea=>qx (of_decide_eq_true z) ea H (Same.refl H)
 have z0:=of_decide_eq_false (Bool.eq_false_iff.mpr z)
 obtain ⟨i,rfl⟩:∃ i:Nat,p=(i:Int):=⟨p.toNat,by omega⟩
 replace q:=q (by omega)
 rw [Int.toNat_natCast] at q
 refine ⟨_,rfl,a,_,rfl,SqT.of ea,rfl,_,_,rfl,_,_,rfl,rfl,?_⟩
 refine ⟨_,rfl,_,rfl,b,_,rfl,.inr (SqT.of eb),_,_,rfl,rfl,_,rfl,ite2 (fun z=>?_) (fun z=>?_)⟩
 ·have z':=of_decide_eq_true z
  rw [lb] at z'
  exact ⟨_,rfl,_,rfl,b,_,_,V.int (lat e i),rfl,rfl,SqT.of eb,atI_nat ((at_word hne).1 (by omega)),q⟩
 ·have z':=of_decide_eq_false (Bool.eq_false_iff.mpr z)
  rw [lb] at z'
  have em:((i:Int) - (((e.1.map V.int).length:Nat):Int)) % (((e.2.map V.int).length:Nat):Int)=(((i - e.1.length) % e.2.length:Nat):Int):=by
   rw [lb,lc,Int.natCast_emod]
   congr 1
   omega
  exact ⟨_,rfl,_,rfl,_,rfl,b,_,rfl,.inr (SqT.of eb),_,_,rfl,rfl,_,rfl,c,_,rfl,.inr (SqT.of ec),_,_,rfl,rfl,by rw [lc];omega,c,_,_,V.int (lat e i),rfl,rfl,SqT.of ec,(by rw [em];exact atI_nat ((at_word hne).2 (by omega))),q⟩
abbrev nHO:List Str:=["endless","many"]
theorem scHO:FnScope nHO ["endless","many"] (defScope sHeadOf):=⟨rfl,rfl,rfl,by decide +kernel,rfl,by decide +kernel,by decide +kernel⟩
theorem csHO:CompS nHO (defScope sHeadOf) ["place","endless"] [none,some 0] (csc [(".0",.local),("place",.local),("letter_at",.globalImplicit),("endless",.free)]):=⟨rfl,by decide +kernel,by decide +kernel,by decide +kernel,rfl,by decide +kernel,by decide +kernel⟩
theorem ok_headof {Ct:Addr} {tm:Tok} {bmB:List Value} {B newId initId:String} (mC:mg "BadCount"=some (.ref Ct)) (xC:PySem.W.excIn K Ct bmB newId=true) (hB:ExcBaseFacts B newId initId bmB) (F:Fun K "head_of" "head_of" sHeadOf f fd) (mr:mg "range"=none) (mt:mg "tuple"=none) (m_MOST_HEAD:mg "MOST_HEAD"=some (.int 2000 tm))
  {aLa:Addr} {dLa:FuncData} (La:FnOk P w K mg base (CXx P w) 1 aLa dLa ["endless","place"] (spLetterAt K Ct)) (bLa:Binds K dLa ["endless","place"] []) (kLa:PySem.W.keepIn K (.ref aLa)=true) (mLa:mg "letter_at"=some (.ref aLa)):FnOk P w K mg base (CXx P w) 2 f fd ["endless","many"] (spHeadOf K Ct):=by
 refine F.okx scHO (fun vs H Q E h=>?_) (fun cdv A outer s H vs Q E hr h=>?_)
 ·obtain ⟨v,e,m,rfl,_⟩:=h
  rfl
 obtain ⟨v,e,m,rfl,d,hne,q,qx⟩:=h
 refine ⟨_,pss_cons (ps_if (pt_not (pt_chain op_le op_le pe_int (pv 1) (pe_glob (v:=.int 2000) rfl m_MOST_HEAD ⟨_,rfl⟩))) (pss_one (ps_raise mC rfl xC hB pe_str)) pss_nil)
  (pss_one (ps_ret (pe_callTy call_tuple_of rfl mt PyProof.Rows.boot_tuple (pa_cons (pe_comp rfl csHO (pi_range1 rfl mr (pa_cons (pv 1) pa_nil)) (fun _ _ _ _ _=>pg_name (i:=0) csHO.nd rfl (Or.inl rfl)) (fun _ _ _ _ _=>pe_call La hr rfl mLa kLa bLa .nil passN (pa_cons (pv 1) (pa_cons (pv 0) pa_nil)))) pa_nil)))),?_⟩
 refine ⟨_,rfl,_,_,rfl,rfl,_,rfl,ite2 (fun z=>?_) (fun z=>?_)⟩
 ·have z0:=of_decide_eq_true z
  refine ⟨_,_,rfl,rfl,_,rfl,ite2 (fun z1=>?_) (fun z1=>?_)⟩
  ·have z2:¬ m≤2000:=by simpa using z1
   exact fun ea=>qx (.inr (by omega)) ea H (Same.refl H)
  ·have z2:m≤2000:=by simpa using z1
   refine ⟨_,rfl,m,rfl,by omega,by omega,fun l1 hl1=>comp_range (n:=m.toNat) (CI (lat e) H) (CI.nil hl1) (line_le (by omega)) (fun j ys H h=>h.len) (fun j ys H3 hj h hy=>?_) (fun ys H3 h hy=>?_)⟩
   ·have e0:(0:Int)+(j:Int)=(j:Int):=by omega
    rw [e0]
    exact ⟨_,rfl,_,rfl,_,e,(j:Int),rfl,d.mono h.2,hne,fun _=>⟨hy,h.snoc (Same.refl _) hl1 (by rw [Int.toNat_natCast])⟩,fun z=>absurd z (by omega)⟩
   obtain ⟨rfl,s3⟩:=h
   refine ⟨l1,_,rfl,.inl ⟨SqL.of hy,fun t1 ht1=>q z0 z2 _ _ (same_up s3 ht1) (Dr.tup upd_same (DrL.ints _))⟩⟩
 ·have z0:¬ 0≤m:=by simpa using z
  exact ⟨_,rfl,ite2 (fun _ ea=>qx (.inl (by omega)) ea H (Same.refl H)) (fun z'=>absurd (by first | rfl | (rw [decide_eq_false z0];rfl)) z')⟩
end
end Gu

set_option Elab.async false
set_option linter.all false
set_option maxRecDepth 100000
set_option maxHeartbeats 4000000
namespace Gu
open PySem L2
section
variable {P:Program} {w:World} {K:PySem.W.Frag} {mg:Str→Option Value} {base:Heap} {f g:Addr} {fd gd:FuncData} {CX:CXT} [NoE CX]
abbrev nCmR:List Str:=["guises","many","ways","seen","told","number","camp","member"]
theorem scCmR:FnScope nCmR ["guises","many"] (defScope sCamps):=⟨rfl,rfl,rfl,by decide +kernel,rfl,by decide +kernel,by decide +kernel⟩
theorem csCmR:CompS nCmR (defScope sCamps) ["guise","many"] [none,some 1] (csc [(".0",.local),("guise",.local),("floor",.globalImplicit),("many",.free)]):=⟨rfl,by decide +kernel,by decide +kernel,by decide +kernel,rfl,by decide +kernel,by decide +kernel⟩
theorem ok_cmpR {Ct Cb:Addr} (F:Fun K "camps" "camps" sCamps f fd)
  {aFL:Addr} {dFL:FuncData} (FL:FnOk P w K mg base (CXx P w) 3 aFL dFL ["guise","many"] (spFloor K Ct Cb)) (bFL:Binds K dFL ["guise","many"] []) (kFL:PySem.W.keepIn K (.ref aFL)=true) (mFL:mg "floor"=some (.ref aFL)):FnOk P w K mg base (CXx P w) 4 f fd ["guises","many"] (spCmpR K Ct Cb):=by
 refine F.okx scCmR (fun vs H Q E h=>?_) (fun cdv A outer s H vs Q E hr h=>?_)
 ·obtain ⟨l,v,one,n,many,rfl,_⟩:=h
  rfl
 obtain ⟨l,v,one,n,many,rfl,hl,dv,GM,n2,n5,hm,gb,gx⟩:=h
 refine ⟨_,pss_cons (ps_compX (E0:=E) (i:=2) rfl csCmR (pi_list (pv 0)) rfl rfl rfl passA (fun _ _ _ _ _=>pg_name (i:=0) csCmR.nd rfl (Or.inl rfl)) (fun _ _ _ _ _=>pe_call FL hr rfl mFL kFL bFL .nil passE (pa_cons (pv 0) (pa_cons (pv 1) pa_nil))) scCmR.nd rfl rfl) pss_dead,?_⟩
 refine ⟨_,rfl,l,rfl,⟨_,SqL.of hl⟩,fun l1 hl1=>comp_list (xs:=[v,v]) (fun i ys H4=>i=ys.length∧i=0∧Same H H4) ⟨rfl,rfl,same_up (Same.refl H) hl1⟩ (fun i ys H4 _ h=>SqL.of (h.2.2 _ _ hl)) (by simp [sizeLine]) (fun i ys H4 h=>h.1.symm) (fun i x ys H4 hx h hy=>?_) (fun ys H4 h hy=>absurd h.2.1 (by simp))⟩
 obtain ⟨_,rfl,s4⟩:=h
 have ex:x=v:=(Option.some.inj hx).symm
 subst ex
 refine ⟨_,rfl,_,rfl,x,one,n,many,rfl,dv.mono s4,GM,n2,n5,hm,fun z ea H2 s2=>gb z ea H2 (s4.trans s2),fun z y ea H2 s2=>(gx z).2 ea H2 (s4.trans s2),fun z y=>absurd (gx z).1 (by omega)⟩
abbrev nOdR:List Str:=["guise","most","leaves","told","count"]
theorem scOdR:FnScope nOdR ["guise","most"] (defScope sOrder):=⟨rfl,rfl,rfl,by decide +kernel,rfl,by decide +kernel,by decide +kernel⟩
theorem ok_ordR {Cb:Addr} {bmB:List Value} {B newId initId:String} {tm:Tok} (mC:mg "BadCount"=some (.ref Cb)) (xC:PySem.W.excIn K Cb bmB newId=true) (hB:ExcBaseFacts B newId initId bmB) (m_MOST_TIMES:mg "MOST_TIMES"=some (.int 64 tm)) (F:Fun K "order" "order" sOrder f fd):FnOk P w K mg base (CXx P w) 1 f fd ["guise","most"] (spOrdR Cb):=by
 refine F.okx scOdR (fun vs H Q E h=>?_) (fun cdv A outer s H vs Q E hr h=>?_)
 ·obtain ⟨v,m,rfl,_⟩:=h
  rfl
 obtain ⟨v,m,rfl,hm,gx⟩:=h
 refine ⟨_,pss_cons (ps_if (pt_not (pt_chain op_le op_le pe_int (pv 1) (pe_glob (v:=.int 64) rfl m_MOST_TIMES ⟨_,rfl⟩))) (pss_one (ps_raise mC rfl xC hB pe_str)) pss_nil) pss_dead,?_⟩
 refine ⟨_,rfl,_,_,rfl,rfl,_,rfl,ite2 (fun c1=>⟨_,_,rfl,rfl,_,rfl,?_⟩) (fun c1=>?_)⟩
 ·have c1':=of_decide_eq_true c1
  refine ite2 (fun z ea=>gx ea H (Same.refl _)) (fun z=>absurd (show (!decide (m≤64))=true by simp;omega) z)
 ·refine ⟨_,rfl,ite2 (fun z ea=>gx ea H (Same.refl _)) (fun z=>absurd rfl z)⟩
abbrev nTmR:List Str:=["guise","many","told","count"]
theorem scTmR:FnScope nTmR ["guise","many"] (defScope sTimes):=⟨rfl,rfl,rfl,by decide +kernel,rfl,by decide +kernel,by decide +kernel⟩
theorem ok_timR {Cb:Addr} {bmB:List Value} {B newId initId:String} {tm:Tok} (mC:mg "BadCount"=some (.ref Cb)) (xC:PySem.W.excIn K Cb bmB newId=true) (hB:ExcBaseFacts B newId initId bmB) (m_MOST_TIMES:mg "MOST_TIMES"=some (.int 64 tm)) (F:Fun K "times" "times" sTimes f fd):FnOk P w K mg base (CXx P w) 1 f fd ["guise","many"] (spTimR Cb):=by
 refine F.okx scTmR (fun vs H Q E h=>?_) (fun cdv A outer s H vs Q E hr h=>?_)
 ·obtain ⟨v,m,rfl,_⟩:=h
  rfl
 obtain ⟨v,m,rfl,hm,gx⟩:=h
 refine ⟨_,pss_cons (ps_if (pt_not (pt_chain op_le op_le (pe_un un_neg (pe_glob (v:=.int 64) rfl m_MOST_TIMES ⟨_,rfl⟩)) (pv 1) (pe_glob (v:=.int 64) rfl m_MOST_TIMES ⟨_,rfl⟩))) (pss_one (ps_raise mC rfl xC hB pe_str)) pss_nil) pss_dead,?_⟩
 refine ⟨_,rfl,_,rfl,_,_,rfl,rfl,_,rfl,ite2 (fun c1=>⟨_,_,rfl,rfl,_,rfl,?_⟩) (fun c1=>?_)⟩
 ·have c1':=of_decide_eq_true c1
  refine ite2 (fun z ea=>gx ea H (Same.refl _)) (fun z=>absurd (show (!decide (m≤64))=true by simp;omega) z)
 ·refine ⟨_,rfl,ite2 (fun z ea=>gx ea H (Same.refl _)) (fun z=>absurd rfl z)⟩
abbrev nBeR:List Str:=["guise","word","made","at"]
theorem scBeR:FnScope nBeR ["guise","word"] (defScope sBehind):=⟨rfl,rfl,rfl,by decide +kernel,rfl,by decide +kernel,by decide +kernel⟩
theorem ok_behR {Cw:Addr} {aR:Addr} {dR:FuncData} (F:Fun K "behind" "behind" sBehind f fd)
  (G:FnOk P w K mg base (CXx P w) 1 g gd ["letters","word"] (spCheckW K Cw)) (bG:Binds K gd ["letters","word"] []) (kG:PySem.W.keepIn K (.ref g)=true) (mG:mg "check_word"=some (.ref g))
  (R:FnOk P w K mg base (CXx P w) 1 aR dR ["guise"] (spBreadth K)) (bR:Binds K dR ["guise"] []) (kR:PySem.W.keepIn K (.ref aR)=true) (mR:mg "breadth"=some (.ref aR)):FnOk P w K mg base (CXx P w) 2 f fd ["guise","word"] (spBehR K Cw):=by
 refine F.okx scBeR (fun vs H Q E h=>?_) (fun cdv A outer s H vs Q E hr h=>?_)
 ·obtain ⟨v,u,rows,n,w,rfl,_⟩:=h
  rfl
 obtain ⟨v,u,rows,n,wd,rfl,dv,dw,GM,hn,h5,hw,gx⟩:=h
 refine ⟨_,pss_cons (ps_expr (pe_call G hr rfl mG kG bG .nil (passX fun _ _ _ z=>z) (pa_cons (pe_call R hr rfl mR kR bR .nil passN (pa_cons (pv 0) pa_nil)) (pa_cons (pv 1) pa_nil)))) pss_dead,?_⟩
 have h1:=GM.some
 obtain ⟨r0,rt,er⟩:∃ r0 rt,rows=r0::rt:=by
  cases rows with
  | nil=>simp at h1
  | cons r0 rt=>exact ⟨r0,rt,rfl⟩
 have hl0:=(GM.perm r0 (by rw [er];simp)).len
 exact ⟨_,rfl,v,r0,rowsD rt,rfl,(by rw [er] at dv;exact dv),by omega,fun H1 s1=>⟨_,rfl,n,u,wd,(by rw [hl0];rfl),dw.mono s1,by omega,fun z=>absurd z hw,fun _ ea H2 s2=>gx ea H2 (s1.trans s2)⟩⟩
abbrev nFi31:List Str:=["_law_door","_law_one","_law_bad","_law_far"]
theorem scFi31:FnScope nFi31 ["_law_door","_law_one","_law_bad","_law_far"] (defScope sFirst31):=⟨rfl,rfl,rfl,by decide +kernel,rfl,by decide +kernel,by decide +kernel⟩
theorem step31 {d:Nat} {σ:St} {H:Hp} {D:Ends} {t u:TS} (k:Int) (h1:(d:Int)=k→t D (some (.int d)::σ) H) (h2:(d:Int)≠k→u D (some (.int d)::σ) H):tIfS (tB (tEqI (tVar 0) (tC (V.int k)))) t u D (some (.int d)::σ) H:=by
 exact ⟨_,rfl,_,_,rfl,rfl,_,rfl,ite2 (fun c=>h1 (of_decide_eq_true c)) (fun c=>h2 (fun z=>c (decide_eq_true z)))⟩
theorem ends01 {H:Hp} {p1 p2 p3:Addr} {x y:List Int} (h1:H p1=none) (h2:upd H p1 (.tup (x.map V.int)) p2=none) (h3:upd (upd H p1 (.tup (x.map V.int))) p2 (.tup (y.map V.int)) p3=none):Same H (upd (upd (upd H p1 (.tup (x.map V.int))) p2 (.tup (y.map V.int))) p3 (.tup [.ref p1,.ref p2]))∧Dr K (upd (upd (upd H p1 (.tup (x.map V.int))) p2 (.tup (y.map V.int))) p3 (.tup [.ref p1,.ref p2])) (rowD (x,y)) (.ref p3):=by
 have s1:=same_up (o:=.tup (x.map V.int)) (Same.refl H) h1
 have s2:=same_up (o:=.tup (y.map V.int)) (Same.refl _) h2
 have s3:=same_up (o:=.tup [.ref p1,.ref p2]) (Same.refl _) h3
 refine ⟨(s1.trans s2).trans s3,Dr.tup upd_same (DrL.cons (Dr.tup ((s2.trans s3) _ _ upd_same) (DrL.ints x)) (DrL.cons (Dr.tup (s3 _ _ upd_same) (DrL.ints y)) ?_))⟩
 simp [DrL]
theorem ok_first31 {Cw Cb Ct:Addr} (F:Fun K "_law_first" "_law_first" sFirst31 f fd)
  {aR:Addr} {dR:FuncData} (R:FnOk P w K mg base (CXx P w) 4 aR dR ["guise","word"] (spRounds K Cw Ct)) (bR:Binds K dR ["guise","word"] []) (kR:PySem.W.keepIn K (.ref aR)=true) (mR:mg "rounds"=some (.ref aR))
  {aFl:Addr} {dFl:FuncData} (Fl:FnOk P w K mg base (CXx P w) 4 aFl dFl ["guise","many"] (spFloor K Ct Cb)) (bFl:Binds K dFl ["guise","many"] []) (kFl:PySem.W.keepIn K (.ref aFl)=true) (mFl:mg "floor"=some (.ref aFl))
  {aZ:Addr} {dZ:FuncData} (Z:FnOk P w K mg base (CXx P w) 4 aZ dZ ["guise","many"] (spWhirls K Ct Cb)) (bZ:Binds K dZ ["guise","many"] []) (kZ:PySem.W.keepIn K (.ref aZ)=true) (mZ:mg "whirls"=some (.ref aZ))
  {aCm:Addr} {dCm:FuncData} (Cm:FnOk P w K mg base (CXx P w) 4 aCm dCm ["guises","many"] (spCmpR K Ct Cb)) (bCm:Binds K dCm ["guises","many"] []) (kCm:PySem.W.keepIn K (.ref aCm)=true) (mCm:mg "camps"=some (.ref aCm))
  {aO:Addr} {dO:FuncData} (O:FnOk P w K mg base (CXx P w) 4 aO dO ["guise","most"] (spOrdR Cb)) (bO:Binds K dO ["guise","most"] []) (kO:PySem.W.keepIn K (.ref aO)=true) (mO:mg "order"=some (.ref aO))
  {aT:Addr} {dT:FuncData} (T:FnOk P w K mg base (CXx P w) 4 aT dT ["guise","many"] (spTimR Cb)) (bT:Binds K dT ["guise","many"] []) (kT:PySem.W.keepIn K (.ref aT)=true) (mT:mg "times"=some (.ref aT))
  {aHd:Addr} {dHd:FuncData} (Hd:FnOk P w K mg base (CXx P w) 4 aHd dHd ["endless","many"] (spHeadOf K Cb)) (bHd:Binds K dHd ["endless","many"] []) (kHd:PySem.W.keepIn K (.ref aHd)=true) (mHd:mg "head_of"=some (.ref aHd)):FnOk P w K mg base (CXx P w) 5 f fd ["_law_door","_law_one","_law_bad","_law_far"] (spFirst31 K Cw Cb Ct):=by
 refine F.okx scFi31 (fun vs H Q E h=>?_) (fun cdv A outer s H vs Q E hr h=>?_)
 ·obtain ⟨v,one,n,d,b,far,rfl,_⟩:=h
  rfl
 obtain ⟨v,one,n,d,b,far,rfl,hI,q,qx⟩:=h
 have f1:=hI.f1
 have f2:=hI.f2
 have f3:=hI.f3
 have n2:=hI.n2
 have n5:=hI.n5
 refine ⟨_,pss_one (ps_if (pt_cmp (pc_eqI (pv 0) pe_int)) (pss_one (ps_expr (pe_call R hr rfl mR kR bR .nil (passX fun _ _ _ z=>z) (pa_cons (pv 1) (pa_cons (pe_op op_repU (pe_tup (pa_cons (pv 2) pa_nil)) pe_int) pa_nil))))) (pss_one (ps_if (pt_cmp (pc_eqI (pv 0) pe_int)) (pss_one (ps_expr (pe_call Fl hr rfl mFl kFl bFl .nil (passX fun _ _ _ z=>z) (pa_cons (pv 1) (pa_cons (pv 3) pa_nil))))) (pss_one (ps_if (pt_cmp (pc_eqI (pv 0) pe_int)) (pss_one (ps_expr (pe_call Z hr rfl mZ kZ bZ .nil (passX fun _ _ _ z=>z) (pa_cons (pv 1) (pa_cons (pv 3) pa_nil))))) (pss_one (ps_if (pt_cmp (pc_eqI (pv 0) pe_int)) (pss_one (ps_expr (pe_call Cm hr rfl mCm kCm bCm .nil (passX fun _ _ _ z=>z) (pa_cons (pe_lst (pa_cons (pv 1) (pa_cons (pv 1) pa_nil))) (pa_cons (pv 3) pa_nil))))) (pss_one (ps_if (pt_cmp (pc_eqI (pv 0) pe_int)) (pss_one (ps_expr (pe_call O hr rfl mO kO bO .nil (passX fun _ _ _ z=>z) (pa_cons (pv 1) (pa_cons (pe_op op_mul (pv 3) pe_int) pa_nil))))) (pss_one (ps_if (pt_cmp (pc_eqI (pv 0) pe_int)) (pss_one (ps_expr (pe_call T hr rfl mT kT bT .nil (passX fun _ _ _ z=>z) (pa_cons (pv 1) (pa_cons (pe_op op_mul (pv 3) pe_int) pa_nil))))) (pss_one (ps_if (pt_cmp (pc_eqI (pv 0) pe_int)) (pss_one (ps_expr (pe_call Hd hr rfl mHd kHd bHd .nil (passX fun _ _ _ z=>z) (pa_cons (pe_tup (pa_cons (pe_tup (pa_cons pe_int pa_nil)) (pa_cons (pe_tup (pa_cons pe_int pa_nil)) pa_nil))) (pa_cons (pe_op op_mul (pv 3) pe_int) pa_nil))))) pss_nil))))))))))))),?_⟩
 refine step31 0 (fun z=>?_) fun z0=>?_
 ·obtain rfl:d=0:=by omega
  have x:=(qx (by omega)).1 rfl
  refine ⟨_,rfl,_,rfl,by simp [sizeLine],fun p hp=>⟨p,20,[.int b],rfl,rfl,upd_same,by omega,by omega,by simp [sizeLine],fun p2 H2 s2 e2=>?_⟩⟩
  have s02:=(same_up (o:=.tup [.int b]) (Same.refl H) hp).trans s2
  have ew:(List.replicate (20:Int).toNat [V.int b]).flatten=(List.replicate 20 b).map V.int:=rfl
  rw [ew] at e2
  have nb:¬ LW n (List.replicate 20 b):=fun h=>hI.bd (h b (by simp))
  exact ⟨v,_,one,n,_,rfl,hI.dr.mono s02,Dr.tup e2 (DrL.ints _),hI.gm,n2,n5,by simp,fun z=>absurd z nb,fun z=>absurd z nb,fun _ ea H3 s3=>x ea H3 (s02.trans s3)⟩
 refine step31 1 (fun z=>?_) fun z1=>?_
 ·obtain rfl:d=1:=by omega
  obtain ⟨_,x2,x3⟩:=qx (by omega)
  exact ⟨_,rfl,_,rfl,v,one,n,far,rfl,hI.dr,hI.gm,n2,n5,by omega,fun z=>x2 (by unfold cls31;simp [z]),fun z _=>x3 (by unfold cls31;simp;omega),fun z y=>absurd (hI.big z) (by omega)⟩
 refine step31 2 (fun z=>?_) fun z2=>?_
 ·obtain rfl:d=2:=by omega
  obtain ⟨_,x2,x3⟩:=qx (by omega)
  exact ⟨_,rfl,_,rfl,v,one,n,far,rfl,hI.dr,hI.gm,n2,n5,by omega,fun z=>x2 (by unfold cls31;simp [z]),fun z _=>x3 (by unfold cls31;simp;omega),fun z y=>absurd (hI.big z) (by omega)⟩
 refine step31 3 (fun z=>?_) fun z3=>?_
 ·obtain rfl:d=3:=by omega
  obtain ⟨_,x2,x3⟩:=qx (by omega)
  refine ⟨_,rfl,_,rfl,by simp [sizeLine],fun p hp=>⟨_,rfl,?_⟩⟩
  have s02:=same_up (o:=.lst [v,v]) (Same.refl H) hp
  exact ⟨p,v,one,n,far,rfl,upd_same,hI.dr.mono s02,hI.gm,n2,n5,by omega,fun z ea H3 s3=>x2 (by unfold cls31;simp [z]) ea H3 (s02.trans s3),fun z=>⟨hI.big z,fun ea H3 s3=>x3 (by unfold cls31;simp;omega) ea H3 (s02.trans s3)⟩⟩
 refine step31 4 (fun z=>?_) fun z4=>?_
 ·obtain rfl:d=4:=by omega
  exact ⟨_,rfl,_,rfl,_,_,rfl,rfl,.inr ⟨by omega,by omega⟩,v,_,rfl,by omega,(qx (by omega)).2.1 rfl⟩
 refine step31 5 (fun z=>?_) fun z5=>?_
 ·obtain rfl:d=5:=by omega
  exact ⟨_,rfl,_,rfl,_,_,rfl,rfl,.inr ⟨by omega,by omega⟩,v,_,rfl,by omega,(qx (by omega)).2.1 rfl⟩
 refine step31 6 (fun z=>?_) fun z6=>?_
 ·obtain rfl:d=6:=by omega
  refine ⟨by simp [sizeLine],fun p1 h1=>⟨by simp [sizeLine],fun p2 h2=>⟨by simp [sizeLine],fun p3 h3=>⟨_,rfl,_,_,rfl,rfl,.inr ⟨by omega,by omega⟩,?_⟩⟩⟩⟩
  obtain ⟨s03,dr⟩:=ends01 (K:=K) (x:=[0]) (y:=[1]) h1 h2 h3
  exact ⟨_,([0],[1]),_,rfl,dr,by simp,fun y1 y2=>absurd y1 (by omega),fun _ ea H3 s3=>(qx (by omega)).2.1 rfl ea H3 (s03.trans s3)⟩
 exact q (by omega) H (Same.refl H)
abbrev nSe31:List Str:=["_law_door","_law_one","_law_bad","_law_far"]
theorem scSe31:FnScope nSe31 ["_law_door","_law_one","_law_bad","_law_far"] (defScope sSecond31):=⟨rfl,rfl,rfl,by decide +kernel,rfl,by decide +kernel,by decide +kernel⟩
theorem ok_second31 {Cw Cb Ct:Addr} (ml:mg "len"=none) (F:Fun K "_law_second" "_law_second" sSecond31 f fd)
  {aLa:Addr} {dLa:FuncData} (La:FnOk P w K mg base (CXx P w) 4 aLa dLa ["endless","place"] (spLetterAt K Cb)) (bLa:Binds K dLa ["endless","place"] []) (kLa:PySem.W.keepIn K (.ref aLa)=true) (mLa:mg "letter_at"=some (.ref aLa))
  {aWo:Addr} {dWo:FuncData} (Wo:FnOk P w K mg base (CXx P w) 4 aWo dWo ["letters","many","number"] (spWordOf K Cb)) (bWo:Binds K dWo ["letters","many","number"] []) (kWo:PySem.W.keepIn K (.ref aWo)=true) (mWo:mg "word_of"=some (.ref aWo))
  {aB:Addr} {dB:FuncData} (B:FnOk P w K mg base (CXx P w) 4 aB dB ["guise","word"] (spBehR K Cw)) (bB:Binds K dB ["guise","word"] []) (kB:PySem.W.keepIn K (.ref aB)=true) (mB:mg "behind"=some (.ref aB))
  {aW:Addr} {dW:FuncData} (W:FnOk P w K mg base (CXx P w) 4 aW dW ["guise","word"] (spWorn K Cw)) (bW:Binds K dW ["guise","word"] []) (kW:PySem.W.keepIn K (.ref aW)=true) (mW:mg "worn"=some (.ref aW))
  {aE0:Addr} {dE0:FuncData} (E0:FnOk P w K mg base (CXx P w) 4 aE0 dE0 ["guise","endless"] (spWornEX K Cw)) (bE0:Binds K dE0 ["guise","endless"] []) (kE0:PySem.W.keepIn K (.ref aE0)=true) (mE0:mg "worn_endless"=some (.ref aE0)):FnOk P w K mg base (CXx P w) 5 f fd ["_law_door","_law_one","_law_bad","_law_far"] (spSecond31 K Cw Cb Ct):=by
 refine F.okx scSe31 (fun vs H Q E h=>?_) (fun cdv A outer s H vs Q E hr h=>?_)
 ·obtain ⟨v,one,n,d,b,far,rfl,_⟩:=h
  rfl
 obtain ⟨v,one,n,d,b,far,rfl,hI,d7,d12,q,qx⟩:=h
 have f1:=hI.f1
 have f2:=hI.f2
 have f3:=hI.f3
 have n2:=hI.n2
 have n5:=hI.n5
 refine ⟨_,pss_one (ps_if (pt_cmp (pc_eqI (pv 0) pe_int)) (pss_one (ps_expr (pe_call La hr rfl mLa kLa bLa .nil (passX fun _ _ _ z=>z) (pa_cons (pe_tup (pa_cons (pe_tup (pa_cons pe_int pa_nil)) (pa_cons (pe_tup (pa_cons pe_int pa_nil)) pa_nil))) (pa_cons (pv 3) pa_nil))))) (pss_one (ps_if (pt_cmp (pc_eqI (pv 0) pe_int)) (pss_one (ps_expr (pe_call Wo hr rfl mWo kWo bWo .nil (passX fun _ _ _ z=>z) (pa_cons (pe_callB call_len_seq rfl ml PySem.boot_len (pa_cons (pe_ix ix_tup (pe_ix ix_tup (pv 1) pe_int (fun _ _=>rfl)) pe_int (fun _ _=>rfl)) pa_nil)) (pa_cons (pv 3) (pa_cons (pe_op op_sub pe_int pe_int) pa_nil)))))) (pss_one (ps_if (pt_cmp (pc_eqI (pv 0) pe_int)) (pss_one (ps_expr (pe_call B hr rfl mB kB bB .nil (passX fun _ _ _ z=>z) (pa_cons (pv 1) (pa_cons (pe_tup (pa_cons pe_int (pa_cons (pv 2) pa_nil))) pa_nil))))) (pss_one (ps_if (pt_cmp (pc_eqI (pv 0) pe_int)) (pss_one (ps_expr (pe_call W hr rfl mW kW bW .nil (passX fun _ _ _ z=>z) (pa_cons (pv 1) (pa_cons (pe_tup (pa_cons (pv 2) pa_nil)) pa_nil))))) (pss_one (ps_if (pt_cmp (pc_eqI (pv 0) pe_int)) (pss_one (ps_expr (pe_call E0 hr rfl mE0 kE0 bE0 .nil (passX fun _ _ _ z=>z) (pa_cons (pv 1) (pa_cons (pe_tup (pa_cons (pe_tup pa_nil) (pa_cons (pe_tup (pa_cons (pv 2) pa_nil)) pa_nil))) pa_nil))))) (pss_one (ps_if (pt_cmp (pc_eqI (pv 0) pe_int)) (pss_one (ps_expr (pe_call E0 hr rfl mE0 kE0 bE0 .nil (passX fun _ _ _ z=>z) (pa_cons (pv 1) (pa_cons (pe_tup (pa_cons (pe_tup (pa_cons (pv 2) pa_nil)) (pa_cons (pe_tup pa_nil) pa_nil))) pa_nil))))) pss_nil))))))))))),?_⟩
 have nb:∀ {x:List Int},b∈x→¬ LW n x:=fun m h=>hI.bd (h b m)
 refine step31 7 (fun z=>?_) fun z7=>?_
 ·obtain rfl:d=7:=by omega
  refine ⟨by simp [sizeLine],fun p1 h1=>⟨by simp [sizeLine],fun p2 h2=>⟨by simp [sizeLine],fun p3 h3=>⟨_,rfl,?_⟩⟩⟩⟩
  obtain ⟨s03,dr⟩:=ends01 (K:=K) (x:=[0]) (y:=[1]) h1 h2 h3
  exact ⟨_,([0],[1]),_,rfl,dr,by simp,fun y=>q (by unfold cls31;simp;omega) _ s03,fun y ea H3 s3=>qx.2.1 (by unfold cls31;simp [y]) ea H3 (s03.trans s3)⟩
 refine step31 8 (fun z=>?_) fun z8=>?_
 ·obtain rfl:d=8:=by omega
  have GM:=hI.gm
  have h1:=GM.some
  obtain ⟨r0,rt,er⟩:∃ r0 rt,one=r0::rt:=by
   cases one with
   | nil=>simp at h1
   | cons r0 rt=>exact ⟨r0,rt,rfl⟩
  have hl0:=(GM.perm r0 (by rw [er];simp)).len
  have ha:=hI.dr
  rw [er] at ha
  simp only [rowsD,List.map_cons,Dr,DrL] at ha
  obtain ⟨a,vs,rfl,ea,v,l,rfl,hv,_⟩:=ha
  obtain ⟨t,b1,c,rfl,et,eb,ec⟩:=rowD_inv hv
  refine ⟨_,rfl,a,_,_,.ref t,rfl,rfl,SqT.of ea,atI_nat (j:=0) rfl,t,_,_,.ref b1,rfl,rfl,SqT.of et,atI_nat (j:=0) rfl,b1,_,rfl,.inr (SqT.of eb),_,rfl,_,_,rfl,rfl,?_⟩
  exact ⟨n,far,-1,(by rw [List.length_map,hl0];rfl),by omega,by omega,fun y=>absurd y.2.2.1 (by omega),fun _=>qx.2.1 rfl⟩
 refine step31 9 (fun z=>?_) fun z9=>?_
 ·obtain rfl:d=9:=by omega
  refine ⟨_,rfl,_,rfl,by simp [sizeLine],fun p hp=>?_⟩
  have s02:=same_up (o:=.tup [.int 0,.int b]) (Same.refl H) hp
  exact ⟨_,_,one,n,[0,b],rfl,hI.dr.mono s02,Dr.tup upd_same (DrL.ints [0,b]),hI.gm,by omega,by simp,nb (by simp),fun ea H3 s3=>qx.1 rfl ea H3 (s02.trans s3)⟩
 refine step31 10 (fun z=>?_) fun z10=>?_
 ·obtain rfl:d=10:=by omega
  refine ⟨_,rfl,_,rfl,by simp [sizeLine],fun p hp=>?_⟩
  have s02:=same_up (o:=.tup [.int b]) (Same.refl H) hp
  exact ⟨_,_,one,n,[b],rfl,hI.dr.mono s02,Dr.tup upd_same (DrL.ints [b]),hI.gm,by omega,by simp,fun y=>absurd y (nb (by simp)),fun _ ea H3 s3=>qx.1 rfl ea H3 (s02.trans s3)⟩
 have o8:=hI.o8
 refine step31 11 (fun z=>?_) fun z11=>?_
 ·obtain rfl:d=11:=by omega
  refine ⟨_,rfl,by simp [sizeLine],fun p1 h1=>⟨_,rfl,by simp [sizeLine],fun p2 h2=>⟨by simp [sizeLine],fun p3 h3=>?_⟩⟩⟩
  obtain ⟨s03,dr⟩:=ends01 (K:=K) (x:=[]) (y:=[b]) h1 h2 h3
  exact ⟨_,_,one,([],[b]),n,rfl,hI.dr.mono s03,dr,hI.gm,by omega,by simp,by simp,by simp;omega,fun y=>absurd y.2.2 (nb (by simp)),fun _ ea H3 s3=>qx.1 rfl ea H3 (s03.trans s3)⟩
 refine step31 12 (fun z=>?_) fun z12=>?_
 ·obtain rfl:d=12:=by omega
  refine ⟨_,rfl,_,rfl,by simp [sizeLine],fun p1 h1=>⟨by simp [sizeLine],fun p2 h2=>⟨by simp [sizeLine],fun p3 h3=>?_⟩⟩⟩
  obtain ⟨s03,dr⟩:=ends01 (K:=K) (x:=[b]) (y:=[]) h1 h2 h3
  exact ⟨_,_,one,([b],[]),n,rfl,hI.dr.mono s03,dr,hI.gm,by omega,by simp,by simp,by simp,fun y=>absurd rfl y.1,fun _ ea H3 s3=>qx.1 rfl ea H3 (s03.trans s3)⟩
 omega
end
end Gu

set_option Elab.async false
set_option linter.all false
set_option maxRecDepth 100000
set_option maxHeartbeats 4000000
namespace Gu
open PySem L2
section
variable {P:Program} {w:World} {K:PySem.W.Frag} {mg:Str→Option Value} {base:Heap} {f g:Addr} {fd gd:FuncData} {CX:CXT} [NoE CX]
abbrev nTo31:List Str:=["_law_door","_law_one","_law_bad","_law_far","_law_told_here"]
theorem scTo31:FnScope nTo31 ["_law_door","_law_one","_law_bad","_law_far"] (defScope sTold):=⟨rfl,rfl,rfl,by decide +kernel,rfl,by decide +kernel,by decide +kernel⟩
theorem ok_told31 {Cw Cb Ct:Addr} {bmB bmB2 bmB3:List Value} {newId newId2 newId3:String} (mC:mg "BadWord"=some (.ref Cw)) (xC:PySem.W.excIn K Cw bmB newId=true) (hB:bmB.contains (.type "BaseException")=true) (mC2:mg "BadCount"=some (.ref Cb)) (xC2:PySem.W.excIn K Cb bmB2 newId2=true) (hB2:bmB2.contains (.type "BaseException")=true) (mC3:mg "TooMany"=some (.ref Ct)) (xC3:PySem.W.excIn K Ct bmB3 newId3=true) (hB3:bmB3.contains (.type "BaseException")=true)
  (h21:apartIn K Cb Cw=true) (h31:apartIn K Ct Cw=true) (h32:apartIn K Ct Cb=true) (F:Fun K "_law_told" "_law_told" sTold f fd)
  {aA1:Addr} {dA1:FuncData} (A1:FnOk P w K mg base (CXx P w) 5 aA1 dA1 ["_law_door","_law_one","_law_bad","_law_far"] (spFirst31 K Cw Cb Ct)) (bA1:Binds K dA1 ["_law_door","_law_one","_law_bad","_law_far"] []) (kA1:PySem.W.keepIn K (.ref aA1)=true) (mA1:mg "_law_first"=some (.ref aA1))
  {aA2:Addr} {dA2:FuncData} (A2:FnOk P w K mg base (CXx P w) 5 aA2 dA2 ["_law_door","_law_one","_law_bad","_law_far"] (spSecond31 K Cw Cb Ct)) (bA2:Binds K dA2 ["_law_door","_law_one","_law_bad","_law_far"] []) (kA2:PySem.W.keepIn K (.ref aA2)=true) (mA2:mg "_law_second"=some (.ref aA2)):FnOk P w K mg base (CXx P w) 6 f fd ["_law_door","_law_one","_law_bad","_law_far"] (spTold31 K):=by
 refine F.okc scTo31 (fun vs H Q E h=>?_) (fun cdv A outer s H vs Q E hr h=>?_)
 ·obtain ⟨v,one,n,d,b,far,rfl,_⟩:=h
  rfl
 obtain ⟨v,one,n,d,b,far,rfl,hI,d12,q⟩:=h
 refine ⟨_,pss_cons (ps_set (i:=4) scTo31.nd rfl (Or.inl rfl) pe_str)
  (pss_cons (ps_try3 rfl rfl mC rfl xC hB mC2 rfl xC2 hB2 h21 mC3 rfl xC3 hB3 h31 h32 (fun pn E1 D pass=>(pss_cons (ps_expr (pe_call A1 hr rfl mA1 kA1 bA1 .nil pass (pa_cons (pv 0) (pa_cons (pv 1) (pa_cons (pv 2) (pa_cons (pv 3) pa_nil))))))
   (pss_one (ps_expr (pe_call A2 hr rfl mA2 kA2 bA2 .nil pass (pa_cons (pv 0) (pa_cons (pv 1) (pa_cons (pv 2) (pa_cons (pv 3) pa_nil))))))))) (fun e=>(pss_one (ps_set (i:=4) scTo31.nd rfl (Or.inl rfl) pe_str))) (fun e=>(pss_one (ps_set (i:=4) scTo31.nd rfl (Or.inl rfl) pe_str))) (fun e=>(pss_one (ps_set (i:=4) scTo31.nd rfl (Or.inl rfl) pe_str))))
  (pss_one (ps_ret (pv 4)))),?_⟩
 have set4:∀ {σ:St} {x:V},σ.length=5→(σ.set 4 (some x))[4]?=some (some x):=fun h=>List.getElem?_set_self (by omega)
 have rs:∀ {Q':VK} (H0:Hp),Same H H0→Rs31 Cw Cb Ct (XE3 Cw Cb Ct 5 (tAsg (tC (V.str "bad")) (gName 4)) (tAsg (tC (V.str "count")) (gName 4)) (tAsg (tC (V.str "many")) (gName 4)) { nx:=fun σ H'=>tRet (tVar 4) { nx:=fun x H'=>Q V.non H',rt:=Q } σ H',rt:=Q }) H0 (cls31 d far):=fun H0 s0 =>
  ⟨fun e ea H1 s1=>.inl ⟨rfl,fun σ hσ=>⟨.str "bad",set4 hσ,by have:=q H1 (s0.trans s1);rw [e] at this;exact this⟩⟩,fun e ea H1 s1=>.inr (.inl ⟨rfl,fun σ hσ=>⟨.str "count",set4 hσ,by have:=q H1 (s0.trans s1);rw [e] at this;exact this⟩⟩),fun e ea H1 s1=>.inr (.inr ⟨rfl,fun σ hσ=>⟨.str "many",set4 hσ,by have:=q H1 (s0.trans s1);rw [e] at this;exact this⟩⟩)⟩
 refine ⟨_,rfl,_,rfl,_,rfl,_,rfl,v,one,n,d,b,far,rfl,hI,fun d7 H1 s1=>?_,fun d6=>rs (Q':=Q) H (Same.refl H)⟩
 exact ⟨_,rfl,_,rfl,_,rfl,_,rfl,v,one,n,d,b,far,rfl,hI.mono s1,d7,d12,fun e H2 s2=>⟨_,rfl,by have:=q H2 (s1.trans s2);rw [e] at this;exact this⟩,rs (Q':=Q) H1 s1⟩
def due31 (far:Int):List V:=[.str "bad",txt31 (cls31 1 far),txt31 (cls31 2 far),txt31 (cls31 3 far),.str "count",.str "count",.str "count",txt31 (cls31 7 far),.str "count",.str "bad",.str "bad",.str "bad",.str "bad"]
theorem due31_at (far:Int):∀ d:Nat,d < 13→(due31 far)[d]?=some (txt31 (cls31 d far))
 | 0,_ | 1,_ | 2,_ | 3,_ | 4,_ | 5,_ | 6,_ | 7,_ | 8,_ | 9,_ | 10,_ | 11,_ | 12,_=>rfl
 | d+13,h=>by omega
theorem txt31_scal (k j:Nat):scal (txt31 k) (txt31 j)=true:=by
 have:∀ k,∃ z,txt31 k=.str z:=fun k=>by
  unfold txt31;split<;>exact ⟨_,rfl⟩
 obtain ⟨z,e⟩:=this k
 obtain ⟨y,e'⟩:=this j
 rw [e,e']
 rfl
abbrev nL31:List Str:=["_law_script","_law_letters_here","_law_one","_law_pick","_law_bad","_law_far","_law_due","_law_door"]
theorem scL31:FnScope nL31 ["_law_script"] (defScope sLaw):=⟨rfl,rfl,rfl,by decide +kernel,rfl,by decide +kernel,by decide +kernel⟩
theorem ok_law (mr:mg "range"=none) (mab:mg "abs"=none) (F:Fun K "law" "law" sLaw f fd)
  {aC:Addr} {dC:FuncData} (C:FnOk P w K mg base (CXx P w) 6 aC dC ["_law_script","_law_at"] (spCell K)) (bC:Binds K dC ["_law_script","_law_at"] []) (kC:PySem.W.keepIn K (.ref aC)=true) (mC:mg "_law_cell"=some (.ref aC))
  {aL:Addr} {dL:FuncData} (L:FnOk P w K mg base (CXx P w) 6 aL dL ["_law_script","_law_at"] (spLetters K)) (bL:Binds K dL ["_law_script","_law_at"] []) (kL:PySem.W.keepIn K (.ref aL)=true) (mL:mg "_law_letters"=some (.ref aL))
  {aG:Addr} {dG:FuncData} (G:FnOk P w K mg base (CXx P w) 6 aG dG ["_law_letters_here","_law_cell_here"] (spGuise K)) (bG:Binds K dG ["_law_letters_here","_law_cell_here"] []) (kG:PySem.W.keepIn K (.ref aG)=true) (mG:mg "_law_guise"=some (.ref aG))
  {aT:Addr} {dT:FuncData} (T:FnOk P w K mg base (CXx P w) 6 aT dT ["_law_door","_law_one","_law_bad","_law_far"] (spTold31 K)) (bT:Binds K dT ["_law_door","_law_one","_law_bad","_law_far"] []) (kT:PySem.W.keepIn K (.ref aT)=true) (mT:mg "_law_told"=some (.ref aT)):FnOk P w K mg base (CXx P w) 7 f fd ["_law_script"] (spLaw K):=by
 refine F.okc scL31 (fun vs H Q E h=>?_) (fun cdv A' outer s H vs Q E' hr h=>?_)
 ·obtain ⟨a,ns,rfl,_⟩:=h
  rfl
 obtain ⟨a,ns,rfl,hS,h63,q⟩:=h
 have n2:=letN_ge ns 0
 have n5:=letN_le ns 0
 refine ⟨_,pss_cons (ps_set (i:=1) scL31.nd rfl (Or.inl rfl) (pe_call L hr rfl mL kL bL .nil passN (pa_cons (pv 0) (pa_cons pe_int pa_nil))))
  (pss_cons (ps_set (i:=2) scL31.nd rfl (Or.inl rfl) (pe_call G hr rfl mG kG bG .nil passN (pa_cons (pv 1) (pa_cons (pe_call C hr rfl mC kC bC .nil passN (pa_cons (pv 0) (pa_cons pe_int pa_nil))) pa_nil))))
  (pss_cons (ps_set (i:=3) scL31.nd rfl (Or.inl rfl) (pe_callB call_abs rfl mab PyProof.Rows.boot_abs (pa_cons (pe_call C hr rfl mC kC bC .nil passN (pa_cons (pv 0) (pa_cons pe_int pa_nil))) pa_nil)))
  (pss_cons (ps_set (i:=4) scL31.nd rfl (Or.inl rfl) (pe_ix ix_tup (pe_tup (pa_cons (pv 1) (pa_cons (pe_op op_sub pe_int pe_int) (pa_cons (pe_op op_add (pv 1) (pe_op op_mod (pv 3) (pe_op op_pow pe_int pe_int))) pa_nil)))) (pe_op op_mod (pv 3) pe_int) (fun _ _=>rfl)))
  (pss_cons (ps_for PassesOwn.never rfl (pi_tup (pe_tup (pa_cons (pe_op op_sub (pe_op op_sub pe_int pe_int) (pe_op op_mod (pe_op op_fdiv (pv 3) pe_int) pe_int)) (pa_cons (pe_op op_add pe_int (pe_op op_mod (pe_op op_fdiv (pv 3) pe_int) pe_int)) pa_nil)))) (pg_name (i:=5) scL31.nd rfl (Or.inl rfl))
   (@pss_cons _ _ _ _ _ (@ps_set _ _ 6 _ _ _ _ scL31.nd rfl (Or.inl rfl) (@pe_lst _ _ _ _ (@pa_texts _ _ rfl)) rfl (Or.inl rfl))
   (pss_cons (ps_if (pt_cmpR op_lt (pv 5) pe_int (nomark _)) (pss_cons (ps_asg pe_str (pg_sub (pv 6) pe_int set_list))
    (pss_cons (ps_asg pe_str (pg_sub (pv 6) pe_int set_list))
    (pss_cons (ps_asg pe_str (pg_sub (pv 6) pe_int set_list))
    (pss_one (ps_asg pe_str (pg_sub (pv 6) pe_int set_list)))))) pss_nil)
   (pss_one (ps_for PassesOwn.never rfl (pi_range1 rfl mr (pa_cons pe_int pa_nil)) (pg_name (i:=7) scL31.nd rfl (Or.inl rfl))
    (pss_one (ps_if (pt_cmpR op_ne (pe_call T hr rfl mT kT bT .nil passN (pa_cons (pv 7) (pa_cons (pv 2) (pa_cons (pv 4) (pa_cons (pv 5) pa_nil))))) (pe_ix ix_list (pv 6) (pv 7) (fun _ _=>rfl)) (nomark _)) (pss_one (ps_ret pe_bl)) pss_nil)))))))
  (pss_one (ps_ret pe_bl)))))),?_⟩
 generalize hn:letN ns 0=n at *
 refine seqG fun R1 hR1=>?_
 refine ⟨_,rfl,a,ns,0,rfl,hS,h63,by omega,?_⟩
 rw [hn]
 refine atR (R:=R1) hR1 ?_
 refine seqG fun R2 hR2=>?_
 refine ⟨_,rfl,_,rfl,a,ns,1,rfl,hS,h63,by omega,n,_,rfl,n2,n5,fun v1 H1 r1 s1 G1 l1 d1=>?_⟩
 have GA:=shr_good G1
 have hA:(shr r1).length≤8:=by have:=shr_le G1;omega
 generalize shr r1=RA at *
 refine atR (R:=R2) hR2 ?_
 refine seqG fun R3 hR3=>?_
 refine ⟨_,rfl,a,ns,2,rfl,s1.seq hS,h63,by omega,_,rfl,?_⟩
 obtain ⟨pk,hpk⟩:∃ pk:Nat,(if cell ns 2 < 0 then -(cell ns 2) else cell ns 2)=(pk:Int):=nat_of (by split<;>omega)
 rw [hpk]
 refine atR (R:=R3) hR3 ?_
 refine seqG fun R4 hR4=>?_
 obtain ⟨b,hb,hbd⟩:∃ b:Int,atI [V.int n,V.int (0 - 1),V.int ((n:Int)+(pk:Int) % 10 ^ (30:Int).toNat)] ((pk:Int) % 3)=some (.int b)∧¬ (0≤b∧b < (n:Int)):=by
  have e:((pk:Int) % 3)=((pk % 3:Nat):Int):=by omega
  rw [e]
  have z:pk % 3=0∨pk % 3=1∨pk % 3=2:=by omega
  rcases z with z | z | z<;>rw [z]
  ·exact ⟨n,atI_nat (j:=0) rfl,by omega⟩
  ·exact ⟨0 - 1,atI_nat (j:=1) rfl,by omega⟩
  ·refine ⟨_,atI_nat (j:=2) rfl,?_⟩
   have:0≤(pk:Int) % 10 ^ (30:Int).toNat:=Int.emod_nonneg _ (by decide)
   omega
 refine ⟨_,rfl,_,_,rfl,rfl,_,rfl,_,rfl,_,_,rfl,rfl,⟨by omega,by omega,by decide⟩,_,_,rfl,rfl,(show (0:Int) < 10 ^ (30:Int).toNat by decide),_,_,rfl,rfl,by simp [sizeLine],fun p hp=>⟨_,rfl,_,_,rfl,rfl,by omega,p,_,_,.int b,rfl,rfl,SqT.of upd_same,hb,?_⟩⟩
 have s2:=same_up (o:=.tup [V.int n,V.int (0 - 1),V.int ((n:Int)+(pk:Int) % 10 ^ (30:Int).toNat)]) s1 hp
 replace d1:=d1.mono (same_up (o:=.tup [V.int n,V.int (0 - 1),V.int ((n:Int)+(pk:Int) % 10 ^ (30:Int).toNat)]) (Same.refl _) hp)
 generalize upd H1 p _=H2 at *
 refine atR (R:=R4) hR4 ?_
 refine seqG fun R5 hR5=>?_
 refine ⟨_,_,rfl,rfl,_,rfl,_,_,rfl,rfl,⟨by omega,by omega⟩,_,_,rfl,rfl,by omega,_,_,rfl,rfl,_,rfl,_,_,rfl,rfl,⟨by omega,by omega⟩,_,_,rfl,rfl,by omega,_,_,rfl,rfl,by simp [sizeLine],fun pt hpt=>⟨pt,rfl,⟨_,SqT.of upd_same⟩,?_⟩⟩
 have s3:=same_up (o:=.tup [V.int (0 - 1 - (pk:Int) / 3 % 50),V.int (11+(pk:Int) / 3 % 50)]) s2 hpt
 replace d1:=d1.mono (same_up (o:=.tup [V.int (0 - 1 - (pk:Int) / 3 % 50),V.int (11+(pk:Int) / 3 % 50)]) (Same.refl _) hpt)
 have ept:(upd H2 pt (.tup [V.int (0 - 1 - (pk:Int) / 3 % 50),V.int (11+(pk:Int) / 3 % 50)])) pt=some (.tup [V.int (0 - 1 - (pk:Int) / 3 % 50),V.int (11+(pk:Int) / 3 % 50)]):=upd_same
 generalize upd H2 pt _=H3 at *
 refine for_tup (xs:=[V.int (0 - 1 - (pk:Int) / 3 % 50),V.int (11+(pk:Int) / 3 % 50)]) (fun i σ H4=>∃ (u5 u6 u7:Option V),σ=[some (.ref a),some (.int n),some v1,some (.int pk),some (.int b),u5,u6,u7]∧Same H3 H4) ⟨_,_,_,rfl,Same.refl _⟩ (fun i σ H4 _ h=>by
  obtain ⟨_,_,_,_,s4⟩:=h
  exact SqT.of (s4 _ _ ept)) (fun i x σ H4 hx h=>?_) (fun σ H4 h=>?_)
 rotate_left
 ·obtain ⟨u5,u6,u7,rfl,s4⟩:=h
  refine atR (R:=R5) hR5 ?_
  exact q _
 obtain ⟨u5,u6,u7,rfl,s4⟩:=h
 obtain ⟨fr,rfl,f1,f2,f3⟩:∃ fr:Int,x=.int fr∧-51≤fr∧fr≤60∧(fr < 0∨11≤fr):=by
  match i,hx with
  | 0,hx=>exact ⟨_,(Option.some.inj hx).symm,by omega,by omega,by omega⟩
  | 1,hx=>exact ⟨_,(Option.some.inj hx).symm,by omega,by omega,by omega⟩
  | i+2,hx=>simp at hx
 refine seqG fun R6 hR6=>?_
 refine ⟨by decide,fun l hl=>?_⟩
 refine atR (R:=R6) hR6 ?_
 have hl3:H3 l=none:=by
  cases e:H3 l with
  | none=>rfl
  | some o=>rw [s4 _ _ e] at hl;cases hl
 refine cutQ (fun σ' H'=>σ'=[some (.ref a),some (.int n),some v1,some (.int pk),some (.int b),some (.int fr),some (.ref l),u7]∧Same H3 H'∧H' l=some (.lst (due31 fr))) (fun Ed nx=>?_) (fun σ' H5 h=>?_)
 ·refine ⟨_,rfl,_,_,rfl,rfl,_,rfl,ite2 (fun c=>?_) (fun c=>?_)⟩
  ·have c':=of_decide_eq_true c
   have e1:cls31 1 fr=2:=by unfold cls31;simp [c']
   have e2:cls31 2 fr=2:=by unfold cls31;simp [c']
   have e3:cls31 3 fr=2:=by unfold cls31;simp [c']
   have e7:cls31 7 fr=2:=by unfold cls31;simp [c']
   refine ⟨_,rfl,l,_,1,1,rfl,rfl,upd_same,rfl,_,rfl,l,_,2,2,rfl,rfl,upd_same,rfl,_,rfl,l,_,3,3,rfl,rfl,upd_same,rfl,_,rfl,l,_,7,7,rfl,rfl,upd_same,rfl,nx _ _ ⟨rfl,same_over (same_over (same_over (same_over (same_up s4 hl) hl3) hl3) hl3) hl3,?_⟩⟩
   rw [upd_same]
   unfold due31
   rw [e1,e2,e3,e7]
   rfl
  ·have c':=of_decide_eq_false (Bool.eq_false_iff.mpr c)
   have e1:cls31 1 fr=3:=by unfold cls31;simp [c']
   have e2:cls31 2 fr=3:=by unfold cls31;simp [c']
   have e3:cls31 3 fr=3:=by unfold cls31;simp [c']
   have e7:cls31 7 fr=0:=by unfold cls31;simp [c']
   refine nx _ _ ⟨rfl,same_up s4 hl,?_⟩
   rw [upd_same]
   unfold due31
   rw [e1,e2,e3,e7]
   rfl
 ·obtain ⟨rfl,s5,hl5⟩:=h
  refine ⟨13,rfl,by omega,by omega,for_range (n:=(13:Int).toNat) (fun i σ H6=>∃ (u7:Option V),σ=[some (.ref a),some (.int n),some v1,some (.int pk),some (.int b),some (.int fr),some (.ref l),u7]∧Same H3 H6∧H6 l=some (.lst (due31 fr))) ⟨_,rfl,s5,hl5⟩ (fun i σ H6 hi h=>?_) (fun σ H6 h=>?_)⟩
  ·obtain ⟨u7,rfl,s6,hl6⟩:=h
   have e0:(0:Int)+(i:Int)=(i:Int):=by omega
   rw [e0]
   have hi':i < 13:=hi
   refine ⟨_,rfl,_,rfl,_,rfl,_,rfl,v1,RA,n,i,b,fr,rfl,⟨d1.mono s6,GA,n2,n5,hA,hbd,f1,f2,f3⟩,by omega,fun H7 s7=>?_⟩
   refine ⟨_,rfl,_,rfl,l,_,_,_,rfl,rfl,SqL.of (s7 _ _ hl6),atI_nat (due31_at fr i hi'),txt31_scal _ _,_,rfl,ite2 (fun z=>absurd z (by simp)) (fun _=>⟨_,rfl,s6.trans s7,s7 _ _ hl6⟩)⟩
  ·obtain ⟨u7,rfl,s6,hl6⟩:=h
   exact ⟨_,_,_,rfl,s6⟩
end
end Gu

set_option Elab.async false
set_option linter.all false
set_option maxRecDepth 100000
set_option maxHeartbeats 4000000
namespace Gu
open PySem L2
structure FA (K:PySem.W.Frag) (f:Addr) (x:Str) (st:Stmt):Prop where
 a:PySem.W.nsIn K mainGlobals x=some (some (.ref f))
 l:∃ oc od kV dc pm an cd ct sl,K.lookup f=some ⟨oc,od,.func (PySem.W.fnOf x x (defArgs st) (defBody st) (defScope st) .none kV dc pm an cd ct),sl⟩∧PySem.W.codeIn K cd x=true
 k:PySem.W.keepIn K (.ref f)=true
theorem FA.of {K:PySem.W.Frag} {f:Addr} {x:Str} {st:Stmt} {oc kV dc pm cd ct:Value} {od an:Option Addr} {sl:Array (Option Value)} (a:PySem.W.nsIn K mainGlobals x=some (some (.ref f))) (l:K.lookup f=some ⟨oc,od,.func (PySem.W.fnOf x x (defArgs st) (defBody st) (defScope st) .none kV dc pm an cd ct),sl⟩) (c:PySem.W.codeIn K cd x=true) (k:PySem.W.keepIn K (.ref f)=true):FA K f x st:=⟨a,⟨_,_,_,_,_,_,_,_,_,l,c⟩,k⟩
theorem FA.go {K:PySem.W.Frag} {f:Addr} {x:Str} {st:Stmt} {h:Heap} {mg:Str→Option Value} (A:FA K f x st) (X:K.In h) (G:h.Ns mainGlobals mg):∃ fd,Fun K x x st f fd∧mg x=some (.ref f)∧PySem.W.keepIn K (.ref f)=true:=by
 obtain ⟨a,⟨_,_,_,_,_,_,_,_,_,l,c⟩,k⟩:=A
 exact ⟨_,fun_mk l c k,PySem.W.mg_of X G a,k⟩

abbrev fnY (x:Str) (st:Stmt) (kV dc pm:Value) (an:Option Addr) (cd ct:Value):=PySem.W.fnOf x x (defArgs st) (defBody st) (defScope st) .none kV dc pm an cd ct
section
variable {K:PySem.W.Frag} {x:Str} {st:Stmt} {f:Addr} {fd:FuncData}
theorem bnd1 {a:Str} (F:Fun K x x st f fd) (h:∀ (kV dc pm:Value) (an:Option Addr) (cd ct u:Value),bindArgs (fnY x st kV dc pm an cd ct) ⟨[u],[]⟩=pure [(a,u)]):Binds K fd [a] []:=F.binds fun _ _ _ _ _ _ us hl=>by obtain ⟨_,rfl⟩:=len1 hl;exact h _ _ _ _ _ _ _
theorem bnd2 {a b:Str} (F:Fun K x x st f fd) (h:∀ (kV dc pm:Value) (an:Option Addr) (cd ct u v:Value),bindArgs (fnY x st kV dc pm an cd ct) ⟨[u,v],[]⟩=pure [(a,u),(b,v)]):Binds K fd [a,b] []:=F.binds fun _ _ _ _ _ _ us hl=>by obtain ⟨_,_,rfl⟩:=len2 hl;exact h _ _ _ _ _ _ _ _
theorem bnd3 {a b c:Str} (F:Fun K x x st f fd) (h:∀ (kV dc pm:Value) (an:Option Addr) (cd ct u v w:Value),bindArgs (fnY x st kV dc pm an cd ct) ⟨[u,v,w],[]⟩=pure [(a,u),(b,v),(c,w)]):Binds K fd [a,b,c] []:=F.binds fun _ _ _ _ _ _ us hl=>by obtain ⟨_,_,_,rfl⟩:=len3 hl;exact h _ _ _ _ _ _ _ _ _
theorem bnd4 {a b c d:Str} (F:Fun K x x st f fd) (h:∀ (kV dc pm:Value) (an:Option Addr) (cd ct u v w y:Value),bindArgs (fnY x st kV dc pm an cd ct) ⟨[u,v,w,y],[]⟩=pure [(a,u),(b,v),(c,w),(d,y)]):Binds K fd [a,b,c,d] []:=F.binds fun _ _ _ _ _ _ us hl=>by obtain ⟨_,_,_,_,rfl⟩:=len4 hl;exact h _ _ _ _ _ _ _ _ _ _
end
theorem all_mk {l:PySem.W.OpenLaw} {w:World} {K:PySem.W.Frag} {h:Heap} {mg:Str→Option Value} {fa f1 f2 f3 f4 f5 f6 f7 f8 f9 f10 f11 f12 f13 f14 f15 f16 f17 f18 f19 f20 f21 f22 f23 f24 f25 f26 f27 f28 f29 f30 f31 f32 f33 f34 f35:Addr} (X:K.In h) (G:h.Ns mainGlobals mg) (hfa:mg "law"=some (.ref fa))
  {od35 an35:Option Addr} {sl35:Array (Option Value)} {tk1 tk2 tk3 tk4 tk5:Tok}
  {oc35 kV35 dc35 pm35 cd35 ct35:Value}
  (h1:FA K f1 "breadth" sBreadth)
  (h2:FA K f2 "read_from" sReadF)
  (h3:FA K f3 "check_word" sCheckW)
  (h4:FA K f4 "check_endless" sEndless)
  (h5:FA K f5 "check_ring" sRing)
  (h6:FA K f6 "plain_word" sPlainW)
  (h7:FA K f7 "least_ring" sLeastR)
  (h8:FA K f8 "count_ringed" sRinged)
  (h9:FA K f9 "letter_at" sLetterAt)
  (h10:FA K f10 "head_of" sHeadOf)
  (h11:FA K f11 "worn" sWorn)
  (h12:FA K f12 "worn_endless" sWornE)
  (h13:FA K f13 "strung" sStrung)
  (h14:FA K f14 "number_of" sNumberOf)
  (h15:FA K f15 "word_of" sWordOf)
  (h16:FA K f16 "words_on_floor" sOnFloor)
  (h17:FA K f17 "floor" sFloor)
  (h18:FA K f18 "rounds" sRounds)
  (h19:FA K f19 "whirls" sWhirls)
  (h20:FA K f20 "camps" sCamps)
  (h21:FA K f21 "behind" sBehind)
  (h22:FA K f22 "times" sTimes)
  (h23:FA K f23 "order" sOrder)
  (h24:FA K f24 "_law_cell" sCell)
  (h25:FA K f25 "_law_letters" sLetters)
  (h26:FA K f26 "_law_in_line" sInLine)
  (h27:FA K f27 "_law_shrunk" sShrunk)
  (h28:FA K f28 "_law_numbers" sNumbers)
  (h29:FA K f29 "_law_rearranged" sRear)
  (h30:FA K f30 "_law_rows" sRows)
  (h31:FA K f31 "_law_guise" sGuise)
  (h32:FA K f32 "_law_first" sFirst31)
  (h33:FA K f33 "_law_second" sSecond31)
  (h34:FA K f34 "_law_told" sTold)
  (a35:PySem.W.nsIn K mainGlobals "law"=some (some (.ref f35))) (l35:K.lookup f35=some ⟨oc35,od35,.func (PySem.W.fnOf "law" "law" (defArgs sLaw) (defBody sLaw) (defScope sLaw) .none kV35 dc35 pm35 an35 cd35 ct35),sl35⟩) (c35:PySem.W.codeIn K cd35 "law"=true) (k35:PySem.W.keepIn K (.ref f35)=true)
  (i1:PySem.W.nsIn K mainGlobals "MOST_FORM_ROWS"=some (some (.int 60 tk1)))
  (i2:PySem.W.nsIn K mainGlobals "MOST_HEAD"=some (some (.int 2000 tk2)))
  (i3:PySem.W.nsIn K mainGlobals "MOST_WORDS"=some (some (.int 1024 tk3)))
  (i4:PySem.W.nsIn K mainGlobals "MOST_LETTERS_TOLD"=some (some (.int 1000 tk4)))
  (i5:PySem.W.nsIn K mainGlobals "MOST_TIMES"=some (some (.int 64 tk5)))
  (z1:PySem.W.nsIn K mainGlobals "len"=some none)
  (z2:PySem.W.nsIn K mainGlobals "tuple"=some none)
  (z3:PySem.W.nsIn K mainGlobals "list"=some none)
  (z4:PySem.W.nsIn K mainGlobals "range"=some none)
  (z5:PySem.W.nsIn K mainGlobals "isinstance"=some none)
  (z6:PySem.W.nsIn K mainGlobals "int"=some none)
  (z7:PySem.W.nsIn K mainGlobals "bool"=some none)
  (z8:PySem.W.nsIn K mainGlobals "str"=some none)
  (z9:PySem.W.nsIn K mainGlobals "all"=some none)
  (z10:PySem.W.nsIn K mainGlobals "any"=some none)
  (z11:PySem.W.nsIn K mainGlobals "sorted"=some none)
  (z12:PySem.W.nsIn K mainGlobals "zip"=some none)
  (z13:PySem.W.nsIn K mainGlobals "max"=some none)
  (z14:PySem.W.nsIn K mainGlobals "min"=some none)
  (z15:PySem.W.nsIn K mainGlobals "enumerate"=some none)
  (z16:PySem.W.nsIn K mainGlobals "abs"=some none)
  (z17:PySem.W.nsIn K mainGlobals "divmod"=some none)
  {CtBadWord:Addr} (yBadWord:PySem.W.nsIn K mainGlobals "BadWord"=some (some (.ref CtBadWord))) (xBadWord:PySem.W.excIn K CtBadWord [.type "ValueError",.type "Exception",.type "BaseException",.type "object"] "ValueError.__new__"=true)
  {CtBadCount:Addr} (yBadCount:PySem.W.nsIn K mainGlobals "BadCount"=some (some (.ref CtBadCount))) (xBadCount:PySem.W.excIn K CtBadCount [.type "ValueError",.type "Exception",.type "BaseException",.type "object"] "ValueError.__new__"=true)
  {CtTooMany:Addr} (yTooMany:PySem.W.nsIn K mainGlobals "TooMany"=some (some (.ref CtTooMany))) (xTooMany:PySem.W.excIn K CtTooMany [.type "ValueError",.type "Exception",.type "BaseException",.type "object"] "ValueError.__new__"=true)
  (vBadCountBadWord:apartIn K CtBadCount CtBadWord=true)
  (vTooManyBadWord:apartIn K CtTooMany CtBadWord=true)
  (vTooManyBadCount:apartIn K CtTooMany CtBadCount=true)
  : ∃ fd:FuncData,(∀ (s:Shared) (v:Value),BindsTo s fd ⟨[v],[]⟩ [("_law_script",v)])∧∀ base:Heap,K.In base→base.Ns mainGlobals mg→FnOk l.prog w K mg base (CXx l.prog w) 7 fa fd ["_law_script"] (spLaw K):=by
 have e:=hfa.symm.trans (PySem.W.mg_of X G a35)
 cases e
 obtain ⟨d1,F1,m1,k1⟩:=h1.go X G
 have b1:Binds K d1 ["guise"] []:=bnd1 F1 fun _ _ _ _ _ _ _=>rfl
 obtain ⟨d2,F2,m2,k2⟩:=h2.go X G
 have b2:Binds K d2 ["guise","row","word"] []:=bnd3 F2 fun _ _ _ _ _ _ _ _ _=>rfl
 obtain ⟨d3,F3,m3,k3⟩:=h3.go X G
 have b3:Binds K d3 ["letters","word"] []:=bnd2 F3 fun _ _ _ _ _ _ _ _=>rfl
 obtain ⟨d4,F4,m4,k4⟩:=h4.go X G
 have b4:Binds K d4 ["letters","endless"] []:=bnd2 F4 fun _ _ _ _ _ _ _ _=>rfl
 obtain ⟨d5,F5,m5,k5⟩:=h5.go X G
 have b5:Binds K d5 ["ring"] []:=bnd1 F5 fun _ _ _ _ _ _ _=>rfl
 obtain ⟨d6,F6,m6,k6⟩:=h6.go X G
 have b6:Binds K d6 ["beginning","ring"] []:=bnd2 F6 fun _ _ _ _ _ _ _ _=>rfl
 obtain ⟨d7,F7,m7,k7⟩:=h7.go X G
 have b7:Binds K d7 ["ring"] []:=bnd1 F7 fun _ _ _ _ _ _ _=>rfl
 obtain ⟨d8,F8,m8,k8⟩:=h8.go X G
 have b8:Binds K d8 ["beginning","ring"] []:=bnd2 F8 fun _ _ _ _ _ _ _ _=>rfl
 obtain ⟨d9,F9,m9,k9⟩:=h9.go X G
 have b9:Binds K d9 ["endless","place"] []:=bnd2 F9 fun _ _ _ _ _ _ _ _=>rfl
 obtain ⟨d10,F10,m10,k10⟩:=h10.go X G
 have b10:Binds K d10 ["endless","many"] []:=bnd2 F10 fun _ _ _ _ _ _ _ _=>rfl
 obtain ⟨d11,F11,m11,k11⟩:=h11.go X G
 have b11:Binds K d11 ["guise","word"] []:=bnd2 F11 fun _ _ _ _ _ _ _ _=>rfl
 obtain ⟨d12,F12,m12,k12⟩:=h12.go X G
 have b12:Binds K d12 ["guise","endless"] []:=bnd2 F12 fun _ _ _ _ _ _ _ _=>rfl
 obtain ⟨d13,F13,m13,k13⟩:=h13.go X G
 have b13:Binds K d13 ["laps"] []:=bnd1 F13 fun _ _ _ _ _ _ _=>rfl
 obtain ⟨d14,F14,m14,k14⟩:=h14.go X G
 have b14:Binds K d14 ["letters","word"] []:=bnd2 F14 fun _ _ _ _ _ _ _ _=>rfl
 obtain ⟨d15,F15,m15,k15⟩:=h15.go X G
 have b15:Binds K d15 ["letters","many","number"] []:=bnd3 F15 fun _ _ _ _ _ _ _ _ _=>rfl
 obtain ⟨d16,F16,m16,k16⟩:=h16.go X G
 have b16:Binds K d16 ["letters","many"] []:=bnd2 F16 fun _ _ _ _ _ _ _ _=>rfl
 obtain ⟨d17,F17,m17,k17⟩:=h17.go X G
 have b17:Binds K d17 ["guise","many"] []:=bnd2 F17 fun _ _ _ _ _ _ _ _=>rfl
 obtain ⟨d18,F18,m18,k18⟩:=h18.go X G
 have b18:Binds K d18 ["guise","word"] []:=bnd2 F18 fun _ _ _ _ _ _ _ _=>rfl
 obtain ⟨d19,F19,m19,k19⟩:=h19.go X G
 have b19:Binds K d19 ["guise","many"] []:=bnd2 F19 fun _ _ _ _ _ _ _ _=>rfl
 obtain ⟨d20,F20,m20,k20⟩:=h20.go X G
 have b20:Binds K d20 ["guises","many"] []:=bnd2 F20 fun _ _ _ _ _ _ _ _=>rfl
 obtain ⟨d21,F21,m21,k21⟩:=h21.go X G
 have b21:Binds K d21 ["guise","word"] []:=bnd2 F21 fun _ _ _ _ _ _ _ _=>rfl
 obtain ⟨d22,F22,m22,k22⟩:=h22.go X G
 have b22:Binds K d22 ["guise","many"] []:=bnd2 F22 fun _ _ _ _ _ _ _ _=>rfl
 obtain ⟨d23,F23,m23,k23⟩:=h23.go X G
 have b23:Binds K d23 ["guise","most"] []:=bnd2 F23 fun _ _ _ _ _ _ _ _=>rfl
 obtain ⟨d24,F24,m24,k24⟩:=h24.go X G
 have b24:Binds K d24 ["_law_script","_law_at"] []:=bnd2 F24 fun _ _ _ _ _ _ _ _=>rfl
 obtain ⟨d25,F25,m25,k25⟩:=h25.go X G
 have b25:Binds K d25 ["_law_script","_law_at"] []:=bnd2 F25 fun _ _ _ _ _ _ _ _=>rfl
 obtain ⟨d26,F26,m26,k26⟩:=h26.go X G
 have b26:Binds K d26 ["_law_rows_here","_law_line","_law_marks"] []:=bnd3 F26 fun _ _ _ _ _ _ _ _ _=>rfl
 obtain ⟨d27,F27,m27,k27⟩:=h27.go X G
 have b27:Binds K d27 ["_law_rows_here","_law_start"] []:=bnd2 F27 fun _ _ _ _ _ _ _ _=>rfl
 obtain ⟨d28,F28,m28,k28⟩:=h28.go X G
 have b28:Binds K d28 ["_law_cell_here","_law_many"] []:=bnd2 F28 fun _ _ _ _ _ _ _ _=>rfl
 obtain ⟨d29,F29,m29,k29⟩:=h29.go X G
 have b29:Binds K d29 ["_law_pick","_law_letters_here"] []:=bnd2 F29 fun _ _ _ _ _ _ _ _=>rfl
 obtain ⟨d30,F30,m30,k30⟩:=h30.go X G
 have b30:Binds K d30 ["_law_letters_here","_law_cell_here"] []:=bnd2 F30 fun _ _ _ _ _ _ _ _=>rfl
 obtain ⟨d31,F31,m31,k31⟩:=h31.go X G
 have b31:Binds K d31 ["_law_letters_here","_law_cell_here"] []:=bnd2 F31 fun _ _ _ _ _ _ _ _=>rfl
 obtain ⟨d32,F32,m32,k32⟩:=h32.go X G
 have b32:Binds K d32 ["_law_door","_law_one","_law_bad","_law_far"] []:=bnd4 F32 fun _ _ _ _ _ _ _ _ _ _=>rfl
 obtain ⟨d33,F33,m33,k33⟩:=h33.go X G
 have b33:Binds K d33 ["_law_door","_law_one","_law_bad","_law_far"] []:=bnd4 F33 fun _ _ _ _ _ _ _ _ _ _=>rfl
 obtain ⟨d34,F34,m34,k34⟩:=h34.go X G
 have b34:Binds K d34 ["_law_door","_law_one","_law_bad","_law_far"] []:=bnd4 F34 fun _ _ _ _ _ _ _ _ _ _=>rfl
 have F35:=fun_mk (st:=sLaw) l35 c35 k35
 have m35:=PySem.W.mg_of X G a35
 have mBadWord:=PySem.W.mg_of X G yBadWord
 have mBadCount:=PySem.W.mg_of X G yBadCount
 have mTooMany:=PySem.W.mg_of X G yTooMany
 have j1:=PySem.W.mg_of X G i1
 have j2:=PySem.W.mg_of X G i2
 have j3:=PySem.W.mg_of X G i3
 have j4:=PySem.W.mg_of X G i4
 have j5:=PySem.W.mg_of X G i5
 have n_len:=PySem.W.mg_none_of X G z1
 have n_tuple:=PySem.W.mg_none_of X G z2
 have n_list:=PySem.W.mg_none_of X G z3
 have n_range:=PySem.W.mg_none_of X G z4
 have n_isinstance:=PySem.W.mg_none_of X G z5
 have n_int:=PySem.W.mg_none_of X G z6
 have n_bool:=PySem.W.mg_none_of X G z7
 have n_str:=PySem.W.mg_none_of X G z8
 have n_all:=PySem.W.mg_none_of X G z9
 have n_any:=PySem.W.mg_none_of X G z10
 have n_sorted:=PySem.W.mg_none_of X G z11
 have n_zip:=PySem.W.mg_none_of X G z12
 have n_max:=PySem.W.mg_none_of X G z13
 have n_min:=PySem.W.mg_none_of X G z14
 have n_enumerate:=PySem.W.mg_none_of X G z15
 have n_abs:=PySem.W.mg_none_of X G z16
 have n_divmod:=PySem.W.mg_none_of X G z17
 have B:Blt mg:=⟨n_len,n_tuple,n_list,n_range,n_isinstance,n_int,n_bool,n_str,n_all⟩
 refine ⟨PySem.W.fnOf "law" "law" (defArgs sLaw) (defBody sLaw) (defScope sLaw) .none kV35 dc35 pm35 an35 cd35 ct35,fun s v=>.of_eq rfl,fun base _ _=>?_⟩
 have O3:FnOk l.prog w K mg base (CXx l.prog w) 1 f3 _ ["letters","word"] (spCheckW K CtBadWord):=ok_checkw mBadWord xBadWord PySem.F.excBase_ValueError F3 n_any
 have O1:FnOk l.prog w K mg base (CXx l.prog w) 1 f1 _ ["guise"] (spBreadth K):=ok_breadth F1 B.len
 have O2:FnOk l.prog w K mg base (CXx l.prog w) 1 f2 _ ["guise","row","word"] (spReadF K):=ok_readf F2 B.tup
 have O11:FnOk l.prog w K mg base (CXx l.prog w) 2 f11 _ ["guise","word"] (spWorn K CtBadWord):=ok_worn F11 O3 b3 k3 m3 O1 b1 k1 m1 O2 b2 k2 m2
 have O14:FnOk l.prog w K mg base (CXx l.prog w) 2 f14 _ ["letters","word"] (spNumOf K CtBadWord):=ok_numberof F14 O3 b3 k3 m3
 have O15:FnOk l.prog w K mg base (CXx l.prog w) 1 f15 _ ["letters","many","number"] (spWordOf K CtBadCount):=ok_wordof mBadCount xBadCount PySem.F.excBase_ValueError j4 B.rng n_divmod B.tup F15
 have O16:FnOk l.prog w K mg base (CXx l.prog w) 1 f16 _ ["letters","many"] (spOnFloor K CtTooMany CtBadCount):=ok_onfloor mBadCount xBadCount PySem.F.excBase_ValueError mTooMany xTooMany PySem.F.excBase_ValueError j3 B.rng F16
 have O17:FnOk l.prog w K mg base (CXx l.prog w) 3 f17 _ ["guise","many"] (spFloor K CtTooMany CtBadCount):=ok_floor B.rng F17 (O1.mono (by decide)) b1 k1 m1 (O16.mono (by decide)) b16 k16 m16 O14 b14 k14 m14 O11 b11 k11 m11 (O15.mono (by decide)) b15 k15 m15
 have O18:FnOk l.prog w K mg base (CXx l.prog w) 3 f18 _ ["guise","word"] (spRounds K CtBadWord CtTooMany):=ok_rounds (Cb:=CtBadCount) B.len F18 (O1.mono (by decide)) b1 k1 m1 (O3.mono (by decide)) b3 k3 m3 (O16.mono (by decide)) b16 k16 m16 O11 b11 k11 m11
 have O19:FnOk l.prog w K mg base (CXx l.prog w) 4 f19 _ ["guise","many"] (spWhirls K CtTooMany CtBadCount):=ok_whirls (Cw:=CtBadWord) F19 (O1.mono (by decide)) b1 k1 m1 (O16.mono (by decide)) b16 k16 m16 O18 b18 k18 m18
 have O9:FnOk l.prog w K mg base (CXx l.prog w) 1 f9 _ ["endless","place"] (spLetterAt K CtBadCount):=ok_letterat mBadCount xBadCount PySem.F.excBase_ValueError F9 B.len
 have O10:FnOk l.prog w K mg base (CXx l.prog w) 2 f10 _ ["endless","many"] (spHeadOf K CtBadCount):=ok_headof mBadCount xBadCount PySem.F.excBase_ValueError F10 B.rng B.tup j2 O9 b9 k9 m9
 have O7:FnOk l.prog w K mg base (CXx l.prog w) 1 f7 _ ["ring"] (spLeastRB K):=ok_leastring F7 B.len
 have O8:FnOk l.prog w K mg base (CXx l.prog w) 1 f8 _ ["beginning","ring"] (spRinged K):=ok_ringed F8 B.len
 have O5:FnOk l.prog w K mg base (CXx l.prog w) 1 f5 _ ["ring"] (spRing K CtBadWord):=ok_ring mBadWord xBadWord PySem.F.excBase_ValueError F5 B.len
 have O6:FnOk l.prog w K mg base (CXx l.prog w) 2 f6 _ ["beginning","ring"] (spPlainWB K CtBadWord):=ok_plainw F6 B.len O5 b5 k5 m5 O7 b7 k7 m7 O8 b8 k8 m8
 have O4:FnOk l.prog w K mg base (CXx l.prog w) 2 f4 _ ["letters","endless"] (spCheckEX K CtBadWord):=ok_checkEX F4 O5 b5 k5 m5 O3 b3 k3 m3
 have O13:FnOk l.prog w K mg base (CXx l.prog w) 1 f13 _ ["laps"] (spStrungB K):=ok_strung F13 B.tup
 have O12:FnOk l.prog w K mg base (CXx l.prog w) 3 f12 _ ["guise","endless"] (spWornEX K CtBadWord):=ok_wornEX F12 B.len (O4.mono (by decide)) b4 k4 m4 (O1.mono (by decide)) b1 k1 m1 (O2.mono (by decide)) b2 k2 m2 (O6.mono (by decide)) b6 k6 m6 (O13.mono (by decide)) b13 k13 m13
 have O20:FnOk l.prog w K mg base (CXx l.prog w) 4 f20 _ ["guises","many"] (spCmpR K CtTooMany CtBadCount):=ok_cmpR F20 O17 b17 k17 m17
 have O23:FnOk l.prog w K mg base (CXx l.prog w) 1 f23 _ ["guise","most"] (spOrdR CtBadCount):=ok_ordR mBadCount xBadCount PySem.F.excBase_ValueError j5 F23
 have O22:FnOk l.prog w K mg base (CXx l.prog w) 1 f22 _ ["guise","many"] (spTimR CtBadCount):=ok_timR mBadCount xBadCount PySem.F.excBase_ValueError j5 F22
 have O21:FnOk l.prog w K mg base (CXx l.prog w) 2 f21 _ ["guise","word"] (spBehR K CtBadWord):=ok_behR F21 O3 b3 k3 m3 O1 b1 k1 m1
 have O24:FnOk l.prog w K mg base (CXx l.prog w) 1 f24 _ ["_law_script","_law_at"] (spCell K):=ok_cell F24 B.len
 have O25:FnOk l.prog w K mg base (CXx l.prog w) 2 f25 _ ["_law_script","_law_at"] (spLetters K):=ok_letters F25 O24 b24 k24 m24
 have O28:FnOk l.prog w K mg base (CXx l.prog w) 1 f28 _ ["_law_cell_here","_law_many"] (spNumbers K):=ok_numbers F28 B.len
 have O29:FnOk l.prog w K mg base (CXx l.prog w) 1 f29 _ ["_law_pick","_law_letters_here"] (spRear K):=ok_rear F29 B.len B.tup B.rng B.lst
 have O30:FnOk l.prog w K mg base (CXx l.prog w) 2 f30 _ ["_law_letters_here","_law_cell_here"] (spRows K):=ok_rows F30 B.rng B.tup n_min O28 b28 k28 m28 O29 b29 k29 m29
 have O26:FnOk l.prog w K mg base (CXx l.prog w) 1 f26 _ ["_law_rows_here","_law_line","_law_marks"] (spInLineN K):=ok_inlineN F26 B.len B.tup
 have O27:FnOk l.prog w K mg base (CXx l.prog w) 2 f27 _ ["_law_rows_here","_law_start"] (spShrunkN K):=ok_shrunkN F27 B.len B.tup O26 b26 k26 m26
 have O31:FnOk l.prog w K mg base (CXx l.prog w) 3 f31 _ ["_law_letters_here","_law_cell_here"] (spGuise K):=ok_guise F31 O30 b30 k30 m30 ((O27.mono (by decide)).sub shrunk_sub) b27 k27 m27
 have O32:FnOk l.prog w K mg base (CXx l.prog w) 5 f32 _ ["_law_door","_law_one","_law_bad","_law_far"] (spFirst31 K CtBadWord CtBadCount CtTooMany):=ok_first31 F32 (O18.mono (by decide)) b18 k18 m18 (O17.mono (by decide)) b17 k17 m17 (O19.mono (by decide)) b19 k19 m19 (O20.mono (by decide)) b20 k20 m20 (O23.mono (by decide)) b23 k23 m23 (O22.mono (by decide)) b22 k22 m22 (O10.mono (by decide)) b10 k10 m10
 have O33:FnOk l.prog w K mg base (CXx l.prog w) 5 f33 _ ["_law_door","_law_one","_law_bad","_law_far"] (spSecond31 K CtBadWord CtBadCount CtTooMany):=ok_second31 B.len F33 (O9.mono (by decide)) b9 k9 m9 (O15.mono (by decide)) b15 k15 m15 (O21.mono (by decide)) b21 k21 m21 (O11.mono (by decide)) b11 k11 m11 (O12.mono (by decide)) b12 k12 m12
 have O34:FnOk l.prog w K mg base (CXx l.prog w) 6 f34 _ ["_law_door","_law_one","_law_bad","_law_far"] (spTold31 K):=ok_told31 mBadWord xBadWord PySem.F.excBase_ValueError.hasBase mBadCount xBadCount PySem.F.excBase_ValueError.hasBase mTooMany xTooMany PySem.F.excBase_ValueError.hasBase vBadCountBadWord vTooManyBadWord vTooManyBadCount F34 O32 b32 k32 m32 O33 b33 k33 m33
 exact ok_law B.rng n_abs F35 (O24.mono (by decide)) b24 k24 m24 (O25.mono (by decide)) b25 k25 m25 (O31.mono (by decide)) b31 k31 m31 (O34.mono (by decide)) b34 k34 m34
theorem walk {l:PySem.W.OpenLaw} {q:Program} {loose:List Str} {XP:(Str→Option Value)→Heap→Prop} {YP:World→Heap→Prop} {d:DefRec} {K:Params→PySem.W.Frag} (hn:l.most=some 63) (hdf:d.params.defaults=[])
  (hY:∀ (w:World) (h:Heap),YP w h→(K w.params).In h)
  (F:∀ (w:World) (mg:Str→Option Value) (fa:Addr) (h:Heap),(K w.params).In h→h.Ns mainGlobals mg→mg d.name=some (.ref fa) →
   ∃ fd:FuncData,(∀ (s:Shared) (u:Value),BindsTo s fd ⟨[u],[]⟩ [("_law_script",u)])∧∀ base:Heap,(K w.params).In base→base.Ns mainGlobals mg→FnOk l.prog w (K w.params) mg base (CXx l.prog w) 7 fa fd ["_law_script"] (spLaw (K w.params))) :
  PySem.W.WalkO q loose XP YP l.row.toRowW d [] (fun f vs=>PySem.call f vs) :=
 L2.walk_of (n:=63) (k:=7) (x:="_law_script") (CX:=fun w=>(CXx l.prog w)) (sp:=fun w=>spLaw (K w.params)) hn (by decide) hdf ⟨rfl,by decide,by decide⟩ hY F (fun _ _ a ns hl _ hS=>⟨a,ns,rfl,hS,hl,fun _=>rfl⟩) fun _ _ _ _ _ z=>(by obtain ⟨_,_,_,_,_,_,_,_,_,h⟩:=z;exact h)
end Gu
open PySem PySem.W PyProof.Rows
set_option maxRecDepth 100000 in
set_option maxHeartbeats 0 in
theorem PySem.Challenge.cw_guisery_k31_refusals_of_counts_holds : PySem.Challenge.rw_guisery_k31_refusals_of_counts.Holds := by
 w_on;o_law;refine holds_open (q:=Gu.viewOf Gu.pY) (loose:=[]) (Xt:=fun s=>xlAt (Gu.viewOf Gu.pY) [] s && recOk (RowW.records Gu.rY.toRowW) s) (XP:=XL (Gu.viewOf Gu.pY) []) (Yf:=Hook.obs Gu.HK) (Ya:=Hook.val Gu.HK) (YP:=Hook.says (PySem.W.kHook Gu.KH Gu.KA (fun _=>by kernel_rfl))) (N:=5064) Gu.left (Hook.of Gu.HK) (Hook.keeps Gu.HK) (fun s e=>xl_of s (Bool.and_eq_true_iff.mp e).1) XL.keeps (by rfl) (by rfl) (by rfl) (fun s e=>recFacts_of (Bool.and_eq_true_iff.mp e).2) (by rfl) (by first | assumption | decide +kernel) (by decide +kernel) ⟨rfl,rfl,rfl,rfl,rfl,by decide +kernel⟩ ?hw ?hc;(case hw=>w_witness2)
 k_fill
 refine Gu.walk (l:=PySem.Challenge.rw_guisery_k31_refusals_of_counts) rfl rfl (fun w h Y=>PySem.W.kIn_of Y) ?F
 case F =>
  intro w mg fa h KX G hmg
  refine' Gu.all_mk KX G hmg ?h1 ?h2 ?h3 ?h4 ?h5 ?h6 ?h7 ?h8 ?h9 ?h10 ?h11 ?h12 ?h13 ?h14 ?h15 ?h16 ?h17 ?h18 ?h19 ?h20 ?h21 ?h22 ?h23 ?h24 ?h25 ?h26 ?h27 ?h28 ?h29 ?h30 ?h31 ?h32 ?h33 ?h34 ?a35 ?l35 ?c35 ?k35 ?i1 ?i2 ?i3 ?i4 ?i5 ?z1 ?z2 ?z3 ?z4 ?z5 ?z6 ?z7 ?z8 ?z9 ?z10 ?z11 ?z12 ?z13 ?z14 ?z15 ?z16 ?z17 ?yBadWord ?xBadWord ?yBadCount ?xBadCount ?yTooMany ?xTooMany ?vBadCountBadWord ?vTooManyBadWord ?vTooManyBadCount
  all_goals try (refine' Gu.FA.of ?_ ?_ ?_ ?_<;>try k_is)
  (case a35=>k_is);(case l35=>k_is);(case c35=>k_is);(case k35=>k_is)
  (case i1=>k_is)
  (case i2=>k_is)
  (case i3=>k_is)
  (case i4=>k_is)
  (case i5=>k_is)
  (case z1=>k_is)
  (case z2=>k_is)
  (case z3=>k_is)
  (case z4=>k_is)
  (case z5=>k_is)
  (case z6=>k_is)
  (case z7=>k_is)
  (case z8=>k_is)
  (case z9=>k_is)
  (case z10=>k_is)
  (case z11=>k_is)
  (case z12=>k_is)
  (case z13=>k_is)
  (case z14=>k_is)
  (case z15=>k_is)
  (case z16=>k_is)
  (case z17=>k_is)
  (case yBadWord=>k_is)
  (case xBadWord=>k_exc)
  (case yBadCount=>k_is)
  (case xBadCount=>k_exc)
  (case yTooMany=>k_is)
  (case xTooMany=>k_exc)
  (case vBadCountBadWord=>(first | kernel_rfl | k_is | decide))
  (case vTooManyBadWord=>(first | kernel_rfl | k_is | decide))
  (case vTooManyBadCount=>(first | kernel_rfl | k_is | decide))

