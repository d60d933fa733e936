import PyProof.Rows.All
import Wide.All
import OpenK.AllK
import Wide.FinOn
import Lean
import PyProof.EqAt
import PyProof.EqKinds
import PyProof.TupleCall
import PyProof.ListRange
import PyProof.TupleOfSeq
import PyProof.ConsumeWalk
import PyProof.WalksMore
import PyProof.Draws
import PyProof.EnumMake
import PyProof.ZipIter
import PyProof.Rows.EnumRows
import PyProof.Rows.FactsT2
import PyProof.MeetsSeq3
import PyProof.DictRoadsH
import PyProof.Rows.TupTab
import PyProof.Rows.SortWalk
import PyProof.Rows.SeqCalls
import PyProof.ListMulRoad
import KE.KDictLaws
import OpenK.KRaise
import KE.KLam
import KE.KNestM
import PyProof.IsRules
import KE.KDictList
import PyProof.DictCompW
import PyProof.Rows.SetFrom
import PySem.Challenge.RW_guisery_k26_sections_told
set_option Elab.async false
set_option linter.all false
set_option maxRecDepth 100000
/-! THE HAND LAYER,for ints,bools,texts,own classes,LISTS and tuples (index,slices,in,append,pop ..),calls,loops. Paste it whole ahead of your own text;what your proof does not reach may be deleted. -/
namespace L2
open PySem PySem.Spec PyProof.Rows

abbrev Key:=Sum Int Str
def keyIs:Key→Value→Bool
 | .inl k,v=>Value.isInt k v
 | .inr x,v=>Value.isStrOf x v
def keyH (w:World):Key→Int
 | .inl k=>hashInt k
 | .inr x=>hashStr w x
theorem keyIs_shape:∀ {k:Key} {v:Value},keyIs k v=true→(∃ i t,k=Sum.inl i∧v=Value.int i t)∨(∃ x t,k=Sum.inr x∧v=Value.str x t)
 | .inl i,v,h=>by
  obtain ⟨t,e⟩:=Value.isInt_shape (k:=i) (v:=v) h
  exact .inl ⟨i,t,rfl,e⟩
 | .inr x,v,h=>by
  obtain ⟨t,e⟩:=Value.isStrOf_shape (x:=x) (v:=v) h
  exact .inr ⟨x,t,rfl,e⟩
theorem keyIs_int (i:Int) (t:Tok):keyIs (.inl i) (.int i t)=true:=by simp [keyIs,Value.isInt]
theorem keyIs_str (x:Str) (t:Tok):keyIs (.inr x) (.str x t)=true:=by simp [keyIs,Value.isStrOf]
theorem key_ll (a b:Int):decide ((Sum.inl a:Key)=Sum.inl b)=(a == b):=by
 by_cases e:a=b
 ·subst e;simp
 ·have h:¬ (Sum.inl a:Key)=Sum.inl b:=fun q=>e (Sum.inl.inj q)
  rw [decide_eq_false h]
  exact (beq_eq_false_iff_ne.mpr e).symm
theorem key_rr (a b:Str):decide ((Sum.inr a:Key)=Sum.inr b)=decide (a=b):=by
 by_cases e:a=b
 ·subst e;simp
 ·have h:¬ (Sum.inr a:Key)=Sum.inr b:=fun q=>e (Sum.inr.inj q)
  rw [decide_eq_false h,decide_eq_false e]
theorem key_lr (a:Int) (b:Str):decide ((Sum.inl a:Key)=Sum.inr b)=false:=decide_eq_false (fun q=>nomatch q)
theorem key_rl (a:Str) (b:Int):decide ((Sum.inr a:Key)=Sum.inl b)=false:=decide_eq_false (fun q=>nomatch q)

def mixKind (prog:Program) (w:World):PySem.KeyKind prog w Key where
 is:=keyIs
 hash:=keyH w
 inj:=fun v a b ha hb=>by
  rcases keyIs_shape ha with ⟨i,t,rfl,rfl⟩ | ⟨x,t,rfl,rfl⟩
  ·rcases keyIs_shape hb with ⟨j,u,rfl,e⟩ | ⟨y,u,rfl,e⟩
   ·injection e with e1 _;rw [e1]
   ·exact nomatch e
  ·rcases keyIs_shape hb with ⟨j,u,rfl,e⟩ | ⟨y,u,rfl,e⟩
   ·exact nomatch e
   ·injection e with e1 _;rw [e1]
 byValue:=fun k v h=>by
  rcases keyIs_shape h with ⟨i,t,rfl,rfl⟩ | ⟨x,t,rfl,rfl⟩<;>rfl
 pyHash:=fun hv h=>by
  rcases keyIs_shape hv with ⟨i,t,rfl,rfl⟩ | ⟨x,t,rfl,rfl⟩
  ·exact wpAny_pyHash_int h
  ·exact wpAny_pyHash_str h
 eqBool:=fun hu hv h=>by
  rcases keyIs_shape hu with ⟨i,t,rfl,rfl⟩ | ⟨x,t,rfl,rfl⟩
  ·rcases keyIs_shape hv with ⟨j,u,rfl,rfl⟩ | ⟨y,u,rfl,rfl⟩
   ·rw [key_ll] at h;exact wpAny_eqBool_int h
   ·rw [key_lr] at h;exact SeqAt.EqAt.int_str i t y u _ _ _ _ h
  ·rcases keyIs_shape hv with ⟨j,u,rfl,rfl⟩ | ⟨y,u,rfl,rfl⟩
   ·rw [key_rl] at h;exact SeqAt.EqAt.str_int x t j u _ _ _ _ h
   ·rw [key_rr] at h;exact wpAny_eqBool_str h
 «strs»:=fun k x t v h=>by
  rcases keyIs_shape h with ⟨i,u,rfl,e⟩ | ⟨y,u,rfl,e⟩
  ·exact nomatch e
  ·injection e with e1 _
   subst e1
   cases v<;>rfl

theorem mixKind_int (prog:Program) (w:World) (i:Int) (t:Tok):(mixKind prog w).is (.inl i) (.int i t)=true:=keyIs_int i t
theorem mixKind_str (prog:Program) (w:World) (x:Str) (t:Tok):(mixKind prog w).is (.inr x) (.str x t)=true:=keyIs_str x t
end L2

namespace L2
open PySem PySem.Spec PyProof.Rows

inductive V where
 | non | bl (b:Bool) | int (i:Int) | str (x:Str) | byt (b:Array UInt8) | flt (b:UInt64) | ref (a:Addr) | ty (n:String)
 deriving DecidableEq

def RelV:V→Value→Prop
 | .non,u=>u=Value.none
 | .bl b,u=>u=Value.bool b
 | .int i,u=>∃ t,u=Value.int i t
 | .str x,u=>∃ t,u=Value.str x t
 | .byt b,u=>∃ t,u=Value.bytes b t
 | .flt b,u=>∃ t,u=Value.float b t
 | .ref a,u=>u=Value.ref a
 | .ty n,u=>u=Value.type n

abbrev Vals:List V→List Value→Prop:=Paired RelV
theorem Vals.length {xs:List V} {us:List Value} (r:Vals xs us):xs.length=us.length:=Paired.length r
theorem Vals.get:∀ {xs:List V} {us:List Value} {i:Nat} {x:V},Vals xs us→xs[i]?=some x→∃ u,us[i]?=some u∧RelV x u
 | _,_,_,_,.nil,e=>by simp at e
 | _,_,0,_,.cons r _,e=>by simp at e;subst e;exact ⟨_,rfl,r⟩
 | _,_,i+1,x,.cons _ t,e=>by
  obtain ⟨u,h1,h2⟩:=Vals.get (i:=i) (x:=x) t (by simpa using e)
  exact ⟨u,by simpa using h1,h2⟩
theorem Vals.set {x:V} {u:Value} (r:RelV x u):∀ {xs:List V} {us:List Value} (i:Nat),Vals xs us→Vals (xs.set i x) (us.set i u)
 | _,_,_,.nil=>.nil
 | _,_,0,.cons _ t=>.cons r t
 | _,_,i+1,.cons q t=>.cons q (Vals.set r i t)
theorem Vals.append:∀ {xs ys:List V} {us ws:List Value},Vals xs us→Vals ys ws→Vals (xs++ys) (us++ws)
 | _,_,_,_,.nil,s=>s
 | _,_,_,_,.cons r t,s=>.cons r (Vals.append t s)
theorem Vals.take:∀ {xs:List V} {us:List Value} (n:Nat),Vals xs us→Vals (xs.take n) (us.take n)
 | _,_,0,_=>.nil
 | _,_,_+1,.nil=>.nil
 | _,_,n+1,.cons r t=>.cons r (Vals.take n t)
theorem Vals.drop:∀ {xs:List V} {us:List Value} (n:Nat),Vals xs us→Vals (xs.drop n) (us.drop n)
 | _,_,0,r=>r
 | _,_,_+1,.nil=>.nil
 | _,_,n+1,.cons _ t=>Vals.drop n t
def RelO:Option V→Option Value→Prop
 | some v,some u=>RelV v u
 | none,none=>True
 | _,_=>False
def KV {κ:Type}:List (κ × V)→List (κ × Value)→Prop:=Paired fun (p:κ × V) (q:κ × Value)=>p.1=q.1∧RelV p.2 q.2

def kV:Key→V
 | .inl i=>.int i
 | .inr x=>.str x

inductive HO where
 /-- a list -/
 | lst (xs:List V)
 /-- a tuple (never changes) -/
 | tup (xs:List V)
 /-- a dict whose keys are ints and texts;one whose keys are tuples of ints and texts (the empty one is both) -/
 | dK (kvs:List (Key × V)) | dT (kvs:List (List Key × V))
 /-- a set of ints: its members,its size -/
 | set (S:Int→Bool) (n:Nat)
 /-- an instance of the class at C,its dict at dx,its attributes -/
 | ins (C dx:Addr) (fs:List (Str × V))
 /-- the dict of the instance at x -/
 | own (x:Addr)
 /-- the dict of an exception -/
 | xd (fs:List (Str × V))
 /-- a bound method,f of x -/
 | met (f x:Addr)
 /-- a range object lo,lo+1,.. below hi -/
 | rng (lo hi:Int)
 /-- a thing that is known to the object (the script;a dict while a loop walks it): read,never written while it is so -/
 | frz (o:Obj) (u:HO)
 /-- a code object's table -/
 | tbl (ps:Array Value)
 /-- any other thing,by what is true of its one object (a def of one's own: SetO a S n:=HO.ext fun h=>..) -/
 | ext (φ:Heap→Prop)

abbrev Hp:=Addr→Option HO
def upd (H:Hp) (a:Addr) (o:HO):Hp:=fun b=>if b=a then some o else H b
theorem upd_same {H:Hp} {a:Addr} {o:HO}:upd H a o a=some o:=by unfold upd;rw [if_pos rfl]
theorem upd_ne {H:Hp} {a b:Addr} {o:HO} (h:b≠a):upd H a o b=H b:=by unfold upd;rw [if_neg h]
theorem ne_of {H:Hp} {a b:Addr} {o u:HO} (h:H a=some o) (h':H b=some u) (d:o≠u):a≠b:=by
 intro e;subst e;rw [h] at h';exact d (Option.some.inj h')
theorem ne_of_none {H:Hp} {a b:Addr} {o:HO} (h:H a=some o) (h':H b=none):a≠b:=by
 intro e;subst e;rw [h] at h';cases h'

section
variable (P:Program) (w:World)
def ObjOk (H:Hp) (h:Heap) (a:Addr):HO→Prop
 | .lst xs=>xs.length≤sizeLine∧∃ (its:List Value) (n:Nat),Vals xs its∧h.get? a=some { cls:=.type "list",data:=.seq its.toArray n }
 | .tup xs=>xs.length≤sizeLine∧∃ (its:List Value) (n:Nat),Vals xs its∧h.get? a=some { cls:=.type "tuple",data:=.seq its.toArray n }
 | .dK kvs=>kvs.length≤sizeLine∧(a == sysModules)=false∧∃ vs,KV kvs vs∧h.DictOf (mixKind P w) a vs
 | .dT kvs=>kvs.length≤sizeLine∧(a == sysModules)=false∧∃ xs:List (List Key × Addr × Value),
   Paired (fun (p:List Key × V) (q:List Key × Addr × Value)=>p.1=q.1∧H q.2.1=some (.tup (p.1.map kV))∧RelV p.2 q.2.2) kvs xs ∧
   ∃ o es ep,h.get? a=some o∧o.ExactDict∧o.data=.dict es ep∧es.toList=xs.map (entryOfKey (tupleKind (mixKind P w)))∧(xs.map (·.1)).Nodup
 | .set S n=>h.SetOf (intKind P w) a S n
 | .ins C dx fs=>H dx=some (.own a)∧fs.length≤1000∧dx≠a∧h.get? a=some (PySem.W.instObj C dx) ∧
   ∃ mA,h.Ns1 dx mA∧(∀ f,RelO (fs.lookup f) (mA f))∧PySem.Within mA (fs.map (·.1))
 | .own _=>∃ o,h.get? a=some o
 | .xd fs=>∃ mA,h.Ns1 a mA∧∀ f,RelO (fs.lookup f) (mA f)
 | .rng lo hi=>∃ t u v,h.get? a=some { cls:=.type "range",data:=.fields #[.int lo t,.int hi u,.int 1 v] }
 | .frz o u=>h.get? a=some o∧ObjOk H h a u
 | .tbl ps=>h.get? a=some { cls:=.none,data:=.fields ps }
 | .met f x=>h.get? a=some (PySem.W.methodObj (.ref f) (.ref x))
 | .ext φ=>φ h∧(∃ o,h.get? a=some o)∧∀ h1 h2:Heap,φ h1→(∀ o,h1.get? a=some o→h2.get? a=some o)→φ h2
def HOk (H:Hp) (h:Heap):Prop:=∀ a o,H a=some o→ObjOk P w H h a o
end

section
variable {P:Program} {w:World} {H H':Hp} {h h':Heap} {a:Addr} {o:HO}
theorem ObjOk.lt (x:ObjOk P w H h a o):a < h.objs.size:=by
 cases o with
 | lst xs=>obtain ⟨_,_,_,_,e⟩:=x;exact Heap.lt_size e
 | tup xs=>obtain ⟨_,_,_,_,e⟩:=x;exact Heap.lt_size e
 | dK kvs=>obtain ⟨_,_,_,_,o,_,_,e,_⟩:=x;exact Heap.lt_size e
 | dT kvs=>obtain ⟨_,_,_,_,o,_,_,e,_⟩:=x;exact Heap.lt_size e
 | set S n=>obtain ⟨o,_,_,_,e,_⟩:=x;exact Heap.lt_size e
 | ins C dx fs=>obtain ⟨_,_,_,e,_⟩:=x;exact Heap.lt_size e
 | own y=>obtain ⟨_,e⟩:=x;exact Heap.lt_size e
 | xd fs=>obtain ⟨_,⟨_,_,_,e,_⟩,_⟩:=x;exact Heap.lt_size e
 | rng lo hi=>obtain ⟨_,_,_,e⟩:=x;exact Heap.lt_size e
 | frz ob u=>obtain ⟨e,_⟩:=x;exact Heap.lt_size e
 | tbl ps=>exact Heap.lt_size (show h.get? a=some _ from x)
 | met f y=>exact Heap.lt_size (show h.get? a=some _ from x)
 | ext φ=>obtain ⟨_,⟨_,e⟩,_⟩:=x;exact Heap.lt_size e
theorem Paired.mapP {α β:Type} {F G:α→β→Prop}:∀ {l₁:List α} {l₂:List β},Paired F l₁ l₂→(∀ a b,F a b→G a b)→Paired G l₁ l₂
 | _,_,.nil,_=>.nil
 | _,_,.cons r t,f=>.cons (f _ _ r) (Paired.mapP t f)
theorem ObjOk.stay (x:ObjOk P w H h a o) (k:∀ b u,(b=a∨H b=some (.own a))→h.get? b=some u→h'.get? b=some u)
  (ho:∀ b,H b=some (.own a)→H' b=some (.own a)) (ht:∀ b xs,H b=some (.tup xs)→H' b=some (.tup xs)):ObjOk P w H' h' a o:=by
 induction o with
 | lst xs=>obtain ⟨z,its,n,r,e⟩:=x;exact ⟨z,its,n,r,k _ _ (.inl rfl) e⟩
 | tup xs=>obtain ⟨z,its,n,r,e⟩:=x;exact ⟨z,its,n,r,k _ _ (.inl rfl) e⟩
 | dK kvs=>obtain ⟨z,y,vs,r,ob,es,ep,e,c⟩:=x;exact ⟨z,y,vs,r,ob,es,ep,k _ _ (.inl rfl) e,c⟩
 | dT kvs =>
  obtain ⟨z,y,xs,r,ob,es,ep,e,c⟩:=x
  exact ⟨z,y,xs,Paired.mapP r fun p q z=>⟨z.1,ht _ _ z.2.1,z.2.2⟩,ob,es,ep,k _ _ (.inl rfl) e,c⟩
 | set S n=>obtain ⟨ob,es,ep,t,e,c⟩:=x;exact ⟨ob,es,ep,t,k _ _ (.inl rfl) e,c⟩
 | ins C dx fs =>
  obtain ⟨d,z,ne,e,mA,⟨od,es,ep,e2,c⟩,r⟩:=x
  exact ⟨ho _ d,z,ne,k _ _ (.inl rfl) e,mA,⟨od,es,ep,k _ _ (.inr d) e2,c⟩,r⟩
 | own y=>obtain ⟨ob,e⟩:=x;exact ⟨ob,k _ _ (.inl rfl) e⟩
 | xd fs=>obtain ⟨mA,⟨od,es,ep,e,c⟩,r⟩:=x;exact ⟨mA,⟨od,es,ep,k _ _ (.inl rfl) e,c⟩,r⟩
 | rng lo hi=>obtain ⟨t,u,v,e⟩:=x;exact ⟨t,u,v,k _ _ (.inl rfl) e⟩
 | frz ob u ih=>obtain ⟨e,q⟩:=x;exact ⟨k _ _ (.inl rfl) e,ih q⟩
 | tbl ps =>
  have e:h.get? a=some { cls:=.none,data:=.fields ps }:=x
  show h'.get? a=some { cls:=.none,data:=.fields ps }
  exact k a _ (.inl rfl) e
 | met f y =>
  have e:h.get? a=some (PySem.W.methodObj (.ref f) (.ref y)):=x
  show h'.get? a=some (PySem.W.methodObj (.ref f) (.ref y))
  exact k a _ (.inl rfl) e
 | ext φ=>obtain ⟨p,⟨o,e⟩,st⟩:=x;exact ⟨st _ _ p fun o q=>k _ _ (.inl rfl) q,⟨o,k _ _ (.inl rfl) e⟩,st⟩
theorem HOk.lt (x:HOk P w H h) (e:H a=some o):a < h.objs.size:=(x a o e).lt
theorem HOk.fresh (x:HOk P w H h) (e:h.objs.size≤a):H a=none:=by
 cases q:H a with
 | none=>rfl
 | some u=>exact absurd (Nat.lt_of_lt_of_le (x.lt q) e) (Nat.lt_irrefl _)
theorem HOk.kept (x:HOk P w H h) (k:∀ b u,h.get? b=some u→h'.get? b=some u):HOk P w H h':=fun a o e =>
 (x a o e).stay (fun b u _ q=>k b u q) (fun _ q=>q) fun _ _ q=>q
theorem HOk.laid (x:HOk P w H h) (k:∀ b u,h.get? b=some u→h'.get? b=some u) (hp:h.objs.size≤a) (new:ObjOk P w (upd H a o) h' a o):HOk P w (upd H a o) h':=fun b u e=>by
 have hn:=x.fresh hp
 by_cases hb:b=a
 ·subst hb;rw [upd_same] at e;cases e;exact new
 ·rw [upd_ne hb] at e
  exact (x b u e).stay (fun c v _ q=>k c v q) (fun c q=>by rw [upd_ne (ne_of_none q hn)];exact q) fun c xs q=>by rw [upd_ne (ne_of_none q hn)];exact q
end

def Rd (H:Hp) (a:Addr) (u:HO):Prop:=H a=some u∨∃ o,H a=some (.frz o u)
theorem Rd.ok {P:Program} {w:World} {H:Hp} {h:Heap} {a:Addr} {u:HO} (r:Rd H a u) (x:HOk P w H h):ObjOk P w H h a u:=by
 rcases r with r | ⟨o,r⟩
 ·exact x a u r
 ·obtain ⟨_,q⟩:=x a _ r
  exact q
def Mut:Option HO→Prop
 | some (.lst _)=>True
 | some (.dK _)=>True
 | some (.dT _)=>True
 | some (.set _ _)=>True
 | some (.ins _ _ _)=>True
 | some (.ext _)=>True
 | _=>False
section
variable {P:Program} {w:World} {H:Hp} {h h':Heap} {x e:Addr} {o':HO}
theorem HOk.write (ok:HOk P w H h) (mu:Mut (H x)) (he:e=x∨H e=some (.own x)) (k:∀ b u,b≠e→h.get? b=some u→h'.get? b=some u) (heo:∃ u,h'.get? e=some u)
  (new:ObjOk P w (upd H x o') h' x o'):HOk P w (upd H x o') h':=fun b u q=>by
 have nown:∀ c y,H c=some (.own y)→c≠x:=fun c y r z=>by subst z;rw [r] at mu;exact mu
 have ntup:∀ c xs,H c=some (.tup xs)→c≠x:=fun c xs r z=>by subst z;rw [r] at mu;exact mu
 by_cases hb:b=x
 ·subst hb;rw [upd_same] at q;cases q;exact new
 ·rw [upd_ne hb] at q
  by_cases hbe:b=e
  ·have q':H b=some (.own x):=by
    rcases he with z | z
    ·exact absurd (hbe.trans z) hb
    ·rw [hbe];exact z
   rw [q] at q';cases q'
   obtain ⟨v,hv⟩:=heo
   exact ⟨v,by rw [hbe];exact hv⟩
  ·refine (ok b u q).stay (fun c v hc r=>k c v ?_ r) (fun c r=>by rw [upd_ne (nown c b r)];exact r) fun c xs r=>by rw [upd_ne (ntup c xs r)];exact r
   rcases hc with rfl | hc
   ·exact hbe
   ·rintro rfl
    rcases he with z | z
    ·exact nown c b hc z
    ·rw [hc] at z;cases z;exact hb rfl
end

/-! ### kept unless tracked;of the frames at fs (the callers') the slots may change (an exception that passes writes there);of the records at ex (iterators) nothing is said -/
structure Un (fs ex:List Addr) (H H':Hp) (h h':Heap):Prop where
 keep:∀ b o,h.get? b=some o→H b=none→b∉fs→b∉ex→h'.get? b=some o
 slot:∀ b o,h.get? b=some o→H b=none→b∈fs→b∉ex→∃ sl,h'.get? b=some { o with slots:=sl }
 free:∀ b o,h.get? b=some o→H b=none→b∉ex→H' b=none
 there:∀ b o,h.get? b=some o→b∉ex→∃ o',h'.get? b=some o'
 tups:∀ b xs,H b=some (.tup xs)→H' b=some (.tup xs)
 frzs:∀ b o u,H b=some (.frz o u)→H' b=some (.frz o u)
 tbls:∀ b ps,H b=some (.tbl ps)→∃ more,H' b=some (.tbl (ps++more))
section
variable {fs fs' ex ex':List Addr} {H H1 H2:Hp} {h h1 h2 h':Heap} {a x e:Addr} {o:HO}
theorem Un.any (u:Un fs ex H H1 h h1) {b:Addr} {ob:Obj} (q:h.get? b=some ob) (n:H b=none) (hx:b∉ex):∃ sl,h1.get? b=some { ob with slots:=sl }:=by
 by_cases hb:b∈fs
 ·exact u.slot b ob q n hb hx
 ·exact ⟨ob.slots,u.keep b ob q n hb hx⟩
theorem Un.kept (k:∀ b u,h.get? b=some u→h'.get? b=some u):Un fs ex H H h h' :=
 ⟨fun b ob q _ _ _=>k b ob q,fun b ob q _ _ _=>⟨ob.slots,k b ob q⟩,fun _ _ _ n _=>n,fun b ob q _=>⟨ob,k b ob q⟩,fun _ _ q=>q,fun _ _ _ q=>q,fun _ ps q=>⟨#[],by rw [q];simp⟩⟩
theorem Un.refl:Un fs ex H H h h:=Un.kept fun _ _ q=>q
theorem Un.laid (k:∀ b u,h.get? b=some u→h'.get? b=some u) (hp:h.objs.size≤a) (hn:H a=none):Un fs ex H (upd H a o) h h' where
 keep:=fun b u q _ _ _=>k b u q
 slot:=fun b u q _ _ _=>⟨u.slots,k b u q⟩
 free:=fun b u q n _=>by rw [upd_ne (Nat.ne_of_lt (Nat.lt_of_lt_of_le (Heap.lt_size q) hp))];exact n
 there:=fun b u q _=>⟨u,k b u q⟩
 tups:=fun b xs q=>by rw [upd_ne (ne_of_none q hn)];exact q
 frzs:=fun b u xs q=>by rw [upd_ne (ne_of_none q hn)];exact q
 tbls:=fun b ps q=>⟨#[],by rw [upd_ne (ne_of_none q hn),q];simp⟩
theorem Un.write (mu:Mut (H x)) (he:e=x∨H e=some (.own x)) (k:∀ b u,b≠e→h.get? b=some u→h'.get? b=some u) (heo:∃ u,h'.get? e=some u):Un fs ex H (upd H x o) h h':=by
 have hx:∀ b,H b=none→b≠x:=fun b n z=>by subst z;rw [n] at mu;exact mu
 have hb:∀ b,H b=none→b≠e:=fun b n z=>by
  subst z
  rcases he with r | r
  ·exact hx b n r
  ·rw [n] at r;cases r
 have hm:∀ b u,H b=some u→¬ Mut (some u)→b≠x:=fun b u q nm z=>by subst z;rw [q] at mu;exact nm mu
 refine ⟨fun b u q n _ _=>k b u (hb b n) q,fun b u q n _ _=>⟨u.slots,k b u (hb b n) q⟩,fun b u q n _=>by rw [upd_ne (hx b n)];exact n,fun b u q _=>?_,
  fun b xs q=>by rw [upd_ne (hm b _ q fun z=>z)];exact q,fun b u xs q=>by rw [upd_ne (hm b _ q fun z=>z)];exact q,fun b ps q=>⟨#[],by rw [upd_ne (hm b _ q fun z=>z),q];simp⟩⟩
 by_cases hbe:b=e
 ·subst hbe;exact heo
 ·exact ⟨u,k b u hbe q⟩
end

/-! ### the heap without what is tracked -/
def trk (h:Heap) (H:Hp):List Addr:=(List.range h.objs.size).filter fun a=>(H a).isSome
def hidT (h:Heap) (H:Hp):Heap:=PySem.W.hideAll h (trk h H)
theorem hidT_size (h:Heap) (H:Hp):(hidT h H).objs.size=h.objs.size:=PySem.W.hideAll_size _ _
theorem hidT_get {h:Heap} {H:Hp} {b:Addr} {o:Obj} (e:h.get? b=some o) (n:H b=none):(hidT h H).get? b=some o :=
 PySem.W.hideAll_get _ e fun hm=>by
  have q:(H b).isSome=true:=(List.mem_filter.mp hm).2
  rw [n] at q;simp at q
theorem of_hidT {h:Heap} {H:Hp} {b:Addr} {o:Obj} (e:(hidT h H).get? b=some o):h.get? b=some o∧H b=none:=by
 have e':h.get? b=some o:=PySem.W.of_hideAll (trk h H) e
 refine ⟨e',?_⟩
 cases q:H b with
 | none=>rfl
 | some x =>
  have hm:b∈trk h H:=List.mem_filter.mpr ⟨List.mem_range.mpr (Heap.lt_size e'),by simp [q]⟩
  have z:(hidT h H).get? b=none:=PySem.W.hideAll_none (trk h H) hm
  rw [z] at e;cases e

/-! ### OpenK's ledger,filled with every new object but one -/
def allNews (g h:Heap) (L:Addr):List (Addr × Obj):=(List.range h.objs.size).filterMap fun a=>if a=L∨(g.get? a).isSome=true then none else (h.get? a).map fun o=>(a,o)
def rest (g h:Heap) (L d:Addr):List (Addr × Obj):=(allNews g h L).filter fun p=>decide (p.1≠d)
end L2

namespace L2
open PySem PySem.Spec PyProof.Rows

structure Mod (K:PySem.W.Frag) (mg:Str→Option Value) (base:Heap):Prop where
 kin:K.In base
 glob:base.Ns mainGlobals mg
 blt:∃ mb,base.Ns builtinsNs mb∧∀ x:Str,x≠"__name__"→mb x=bootBuiltins x
 nolimit:base.NoLimit

/-- the context: a def's body (or a comprehension's block) running. base: fixed through the whole law;s₀,H₀: the entry;outer: the frames whose slots others may change (a def's callers);stack: all frames that run;
   ex: iterators that were made ahead of the entry and are walked here (a comprehension's);fn: the names whose cells were made at the entry (a def: all;a comprehension's block: its own);calm: not within an except suite;pn: pins that every state bears;xe: what is wanted of an exception that leaves the code -/
structure Cx where
 prog:Program
 w:World
 K:PySem.W.Frag
 mg:Str→Option Value
 base:Heap
 A:Around
 N:List Str
 s₀:Shared
 H₀:Hp
 env:Env
 outer:List Env
 stack:List Env
 ex:List Addr
 fn:Str→Bool
 calm:Bool
 pn:List (Addr × Obj)
 xe:Value→Shared→Prop
def frs (l:List Env):List Addr:=l.filterMap (·.frame)
abbrev Cx.fs (X:Cx):List Addr:=frs X.outer

def Vis (sc:Scope) (x:Str):Prop:=sc.names.lookup x=some .local∨sc.names.lookup x=some .cell∨sc.names.lookup x=some .free
def Loc (sc:Scope) (x:Str):Prop:=sc.names.lookup x=some .local∨sc.names.lookup x=some .cell
def Look (env:Env) (h:Heap) (m:Str→Option Value) (x:Str) (u:Value):Prop :=
 (env.kindOf x=some .local∧m x=some u)∨((env.kindOf x=some .cell∨env.kindOf x=some .free)∧∃ c,env.cells.lookup x=some c∧h.IsCell c (some u))

structure Cx.Ok (X:Cx):Prop where
 mod:Mod X.K X.mg X.base
 kind:X.env.scope.kind=.function
 glob:X.env.globals=mainGlobals
 blt:X.env.builtins=builtinsNs
 above:X.s₀.heap.objs.size≤X.env.locals
 inj:∀ x y c,X.env.cells.lookup x=some c→X.env.cells.lookup y=some c→x=y
 has:∀ x,(X.env.kindOf x=some .cell∨X.env.kindOf x=some .free)→∃ c,X.env.cells.lookup x=some c
 cab:∀ x c,X.fn x=true→X.env.cells.lookup x=some c→X.s₀.heap.objs.size≤c
 hd:X.calm=true→X.A.handled=none
 frames:X.A.frames=some X.stack
 stk:X.stack=X.outer∨(X.stack=X.env::X.outer∧X.env.frame=some X.env.locals)
 exf:∀ b∈X.ex,b≠X.env.locals∧∀ x c,X.env.cells.lookup x=some c→c≠b
 bs:∀ b o,X.base.get? b=some o→X.s₀.heap.get? b=some o∧X.H₀ b=none
 bsz:X.base.objs.size≤X.s₀.heap.objs.size
 noex:∀ b o,X.base.get? b=some o→b∉X.ex
 exfs:∀ b∈X.ex,b∉X.fs
 funs:X.s₀.heap.FunFrames X.base X.outer
 frf:∀ b∈X.fs,X.H₀ b=none

structure Inv (X:Cx) (pins:List (Addr × Obj)) (σ:List (Option V)) (H:Hp) (s:Shared):Prop where
 ok:X.Ok
 os:s.os=X.s₀.os
 bare:AllBare s.gens
 base:Un X.fs X.ex X.H₀ H X.s₀.heap s.heap
 loc:∃ m,s.heap.Ns X.env.locals m∧∀ (i:Nat) (x:Str) (v:V),X.N[i]?=some x→σ[i]?=some (some v)→Vis X.env.scope x→∃ u,RelV v u∧Look X.env s.heap m x u
 cell:∀ x c,X.env.cells.lookup x=some c→∃ v,s.heap.IsCell c v
 free:H X.env.locals=none
 freeC:∀ x c,X.env.cells.lookup x=some c→H c=none
 pin:∀ p∈X.pn++pins,s.heap.get? p.1=some p.2∧H p.1=none∧p.1≠X.env.locals∧p.1∉X.fs∧∀ v,p.2.data≠.cell v
 hok:HOk X.prog X.w H s.heap
 len:σ.length=X.N.length

section
variable {X:Cx} {pins:List (Addr × Obj)} {σ:List (Option V)} {H H':Hp} {s:Shared} {h':Heap}

theorem Cx.Ok.nofr (ok:X.Ok) {b:Addr} {o:Obj} (e:X.base.get? b=some o):b∉X.fs:=fun hb=>by
 have:=(ok.funs.mem hb).1
 rw [e] at this;cases this
theorem Inv.bs (I:Inv X pins σ H s):∀ b o,X.base.get? b=some o→s.heap.get? b=some o∧H b=none:=fun b o e =>
 ⟨I.base.keep b o (I.ok.bs b o e).1 (I.ok.bs b o e).2 (I.ok.nofr e) (I.ok.noex b o e),I.base.free b o (I.ok.bs b o e).1 (I.ok.bs b o e).2 (I.ok.noex b o e)⟩
theorem Inv.bk (I:Inv X pins σ H s):∀ b o,X.base.get? b=some o→s.heap.get? b=some o:=fun b o e=>(I.bs b o e).1
theorem Inv.mod (I:Inv X pins σ H s):Mod X.K X.mg X.base:=I.ok.mod
theorem Inv.kIn (I:Inv X pins σ H s):X.K.In s.heap:=I.ok.mod.kin.keeps I.bk
theorem Inv.lt (I:Inv X pins σ H s):X.env.locals < s.heap.objs.size:=let ⟨_,hn,_⟩:=I.loc;hn.lt
theorem Inv.sz (I:Inv X pins σ H s):X.s₀.heap.objs.size≤s.heap.objs.size:=Nat.le_trans I.ok.above (Nat.le_of_lt I.lt)
theorem Inv.nofs (I:Inv X pins σ H s) {a:Addr} (h:s.heap.objs.size≤a):a∉X.fs:=fun hb=>by
 obtain ⟨_,o,ho,_⟩:=I.ok.funs.mem hb
 exact absurd (Nat.lt_of_lt_of_le (Heap.lt_size ho) (Nat.le_trans I.sz h)) (Nat.lt_irrefl _)
theorem Inv.cne (I:Inv X pins σ H s):∀ x c,X.env.cells.lookup x=some c→c≠X.env.locals:=fun x c e z=>by
 obtain ⟨v,o,ho,hd⟩:=I.cell x c e
 obtain ⟨m,⟨o',es,ep,ho',hd',_⟩,_⟩:=I.loc
 rw [z,ho'] at ho;cases ho;rw [hd'] at hd;cases hd
theorem Inv.funs (I:Inv X pins σ H s):s.heap.FunFrames X.base X.outer:=by
 have all:∀ (l:List Env),(∀ b∈frs l,b∈X.fs)→X.s₀.heap.FunFrames X.base l→s.heap.FunFrames X.base l:=by
  intro l
  induction l with
  | nil=>intro _ _;trivial
  | cons env r ih =>
   intro hs hl
   obtain ⟨hk,⟨L,o,hf,hn,ho,hd⟩,hr⟩:=hl
   have hL:L∈X.fs:=hs L (by unfold frs;rw [List.filterMap_cons,hf];exact List.mem_cons_self)
   obtain ⟨sl,e⟩:=I.base.slot L o ho (I.ok.frf L hL) hL fun z=>I.ok.exfs L z hL
   exact ⟨hk,⟨L,_,hf,hn,e,hd⟩,ih (fun b hb=>hs b (by unfold frs;rw [List.filterMap_cons,hf];exact List.mem_cons_of_mem _ hb)) hr⟩
 exact all X.outer (fun _ hb=>hb) I.ok.funs

theorem Inv.stack (I:Inv X pins σ H s):s.heap.FunFrames X.base X.stack:=by
 rcases I.ok.stk with e | ⟨e,hf⟩
 ·rw [e];exact I.funs
 ·rw [e]
  obtain ⟨m,hn,_⟩:=I.loc
  refine .cons (by rw [I.ok.kind];decide) hf hn ?_ I.funs
  exact Heap.get?_none_of_le (Nat.le_trans I.ok.bsz I.ok.above)
theorem Inv.stkSub (I:Inv X pins σ H s):∀ b∈frs X.stack,b∈X.env.locals::X.fs:=fun b hb=>by
 rcases I.ok.stk with e | ⟨e,hf⟩
 ·rw [e] at hb;exact List.mem_cons_of_mem _ hb
 ·rw [e] at hb
  unfold frs at hb
  rw [List.filterMap_cons,hf] at hb
  exact hb
theorem Inv.stkFree (I:Inv X pins σ H s):∀ b∈frs X.stack,H b=none:=fun b hb=>by
 rcases List.mem_cons.mp (I.stkSub b hb) with e | hb
 ·rw [e];exact I.free
 ·obtain ⟨_,o,ho,_⟩:=I.ok.funs.mem hb
  exact I.base.free b o ho (I.ok.frf b hb) fun z=>I.ok.exfs b z hb

theorem Inv.step {g':Array GenState} {t':Nat} {d':Drawn} {ch:List Addr} (I:Inv X pins σ H s)
  (hch:∀ b∈ch,(b∈X.ex∨X.s₀.heap.objs.size≤b)∧b≠X.env.locals∧(∀ x c,X.env.cells.lookup x=some c→c≠b)∧∀ p∈X.pn++pins,p.1≠b)
  (keep:∀ b o,b≠X.env.locals→b∉X.fs→b∉ch→s.heap.get? b=some o→H b=none→h'.get? b=some o)
  (slot:∀ b o,b≠X.env.locals→b∈X.fs→b∉ch→s.heap.get? b=some o→H b=none→∃ sl,h'.get? b=some { o with slots:=sl }) (free:∀ b o,b∉ch→s.heap.get? b=some o→H b=none→H' b=none)
  (there:∀ b o,b∉ch→s.heap.get? b=some o→∃ o',h'.get? b=some o')
  (tups:∀ b xs,H b=some (.tup xs)→H' b=some (.tup xs)) (frzs:∀ b o u,H b=some (.frz o u)→H' b=some (.frz o u)) (tbls:∀ b ps,H b=some (.tbl ps)→∃ more,H' b=some (.tbl (ps++more)))
  (ns:∀ m,s.heap.Ns X.env.locals m→h'.Ns X.env.locals m) (hok:HOk X.prog X.w H' h') (hg:AllBare g') :
  Inv X pins σ H' { s with heap:=h',gens:=g',drawn:=d',toks:=t' }:=by
 have neL:∀ b o,X.s₀.heap.get? b=some o→b≠X.env.locals:=fun b o e=>Nat.ne_of_lt (Nat.lt_of_lt_of_le (Heap.lt_size e) I.ok.above)
 have neC:∀ b o,X.s₀.heap.get? b=some o→b∉X.ex→b∉ch:=fun b o e hx hb=>by
  rcases (hch b hb).1 with z | z
  ·exact hx z
  ·exact absurd (Nat.lt_of_lt_of_le (Heap.lt_size e) z) (Nat.lt_irrefl _)
 have cellK:∀ x c,X.env.cells.lookup x=some c→∀ v,s.heap.IsCell c v→h'.IsCell c v:=fun x c e v ⟨o,ho,hd⟩=>by
  have nch:c∉ch:=fun z=>(hch c z).2.2.1 x c e rfl
  by_cases hc:c∈X.fs
  ·obtain ⟨sl,q⟩:=slot c o (I.cne x c e) hc nch ho (I.freeC x c e)
   exact ⟨_,q,hd⟩
  ·exact ⟨o,keep c o (I.cne x c e) hc nch ho (I.freeC x c e),hd⟩
 refine ⟨I.ok,I.os,hg,⟨fun b o e n hb hx=>?_,fun b o e n hb hx=>?_,fun b o e n hx=>?_,fun b o e hx=>?_,fun b xs e=>tups b xs (I.base.tups b xs e),fun b o xs e=>frzs b o xs (I.base.frzs b o xs e),fun b ps e=>?_⟩,?_,fun x c e=>?_,?_,fun x c e=>?_,fun p hp=>?_,hok,I.len⟩
 ·exact keep b o (neL b o e) hb (neC b o e hx) (I.base.keep b o e n hb hx) (I.base.free b o e n hx)
 ·obtain ⟨sl,e1⟩:=I.base.slot b o e n hb hx
  obtain ⟨sl',e2⟩:=slot b _ (neL b o e) hb (neC b o e hx) e1 (I.base.free b o e n hx)
  exact ⟨sl',e2⟩
 ·obtain ⟨o',e1⟩:=I.base.there b o e hx
  exact free b o' (neC b o e hx) e1 (I.base.free b o e n hx)
 ·obtain ⟨o',e1⟩:=I.base.there b o e hx
  exact there b o' (neC b o e hx) e1
 ·obtain ⟨m1,e1⟩:=I.base.tbls b ps e
  obtain ⟨m2,e2⟩:=tbls b _ e1
  exact ⟨m1++m2,by rw [e2,Array.append_assoc]⟩
 ·obtain ⟨m,hn,hl⟩:=I.loc
  refine ⟨m,ns m hn,fun i x v e1 e2 e3=>?_⟩
  obtain ⟨u,r,l⟩:=hl i x v e1 e2 e3
  refine ⟨u,r,?_⟩
  rcases l with l | ⟨k,c,e,z⟩
  ·exact .inl l
  ·exact .inr ⟨k,c,e,cellK x c e _ z⟩
 ·obtain ⟨v,z⟩:=I.cell x c e
  exact ⟨v,cellK x c e v z⟩
 ·obtain ⟨m,⟨o,_,_,ho,_⟩,_⟩:=I.loc
  exact free _ o (fun z=>(hch _ z).2.1 rfl) ho I.free
 ·obtain ⟨v,o,ho,hd⟩:=I.cell x c e
  exact free c o (fun z=>(hch c z).2.2.1 x c e rfl) ho (I.freeC x c e)
 ·obtain ⟨e,n,ne,nf,d⟩:=I.pin p hp
  have nch:p.1∉ch:=fun z=>(hch p.1 z).2.2.2 p hp rfl
  exact ⟨keep p.1 p.2 ne nf nch e n,free p.1 p.2 nch e n,ne,nf,d⟩
theorem Inv.un {t':Nat} (I:Inv X pins σ H s) (u:Un X.fs [] H H' s.heap h') (hok:HOk X.prog X.w H' h'):Inv X pins σ H' { s with heap:=h',toks:=t' }:=by
 obtain ⟨m,⟨o,es,ep,ho,r⟩,_⟩:=id I.loc
 obtain ⟨sl,hL⟩:=u.any ho I.free (by simp)
 exact I.step (g':=s.gens) (d':=s.drawn) (ch:=[]) (fun _ z=>nomatch z) (fun b o _ hb _ e n=>u.keep b o e n hb (by simp)) (fun b o _ hb _ e n=>u.slot b o e n hb (by simp)) (fun b o _ e n=>u.free b o e n (by simp)) (fun b o _ e=>u.there b o e (by simp)) u.tups u.frzs u.tbls (fun m' hm=>by
  obtain ⟨o',es',ep',ho',r'⟩:=hm
  rw [ho] at ho';cases ho'
  exact ⟨_,es',ep',hL,r'⟩) hok I.bare
theorem Inv.call {g':Array GenState} {t':Nat} {d':Drawn} {ch:List Addr} (I:Inv X pins σ H s) (u:Un (frs X.stack) ch H H' s.heap h') (hok:HOk X.prog X.w H' h') (hg:AllBare g')
  (hch:∀ b∈ch,(b∈X.ex∨X.s₀.heap.objs.size≤b)∧b≠X.env.locals∧(∀ x c,X.env.cells.lookup x=some c→c≠b)∧∀ p∈X.pn++pins,p.1≠b) :
  Inv X pins σ H' { s with heap:=h',gens:=g',drawn:=d',toks:=t' }:=by
 obtain ⟨m,⟨o,es,ep,ho,r⟩,_⟩:=id I.loc
 obtain ⟨sl,hL⟩:=u.any ho I.free fun z=>(hch _ z).2.1 rfl
 exact I.step (ch:=ch) hch (fun b o hL hb hc e n=>u.keep b o e n (fun z=>(List.mem_cons.mp (I.stkSub b z)).elim hL hb) hc) (fun b o _ _ hc e n=>u.any e n hc) (fun b o hc e n=>u.free b o e n hc) (fun b o hc e=>u.there b o e hc) u.tups u.frzs u.tbls (fun m' hm=>by
  obtain ⟨o',es',ep',ho',r'⟩:=hm
  rw [ho] at ho';cases ho'
  exact ⟨_,es',ep',hL,r'⟩) hok hg
theorem Inv.turned {t':Nat} {it:Addr} (I:Inv X pins σ H s) (k:∀ b o,b≠it→s.heap.get? b=some o→h'.get? b=some o) (hn:H it=none) (hL:it≠X.env.locals)
  (h1:it∈X.ex∨X.s₀.heap.objs.size≤it) (h2:∀ x c,X.env.cells.lookup x=some c→c≠it) (h3:∀ p∈X.pn++pins,p.1≠it):Inv X pins σ H { s with heap:=h',toks:=t' }:=by
 have nit:∀ b u,H b=some u→b≠it:=fun b u e z=>by rw [z,hn] at e;cases e
 refine I.step (g':=s.gens) (d':=s.drawn) (ch:=[it]) (fun b hb=>?_) (fun b o _ _ hc e _=>k b o (fun z=>hc (by simp [z])) e) (fun b o _ _ hc e _=>⟨o.slots,k b o (fun z=>hc (by simp [z])) e⟩) (fun _ _ _ _ n=>n)
  (fun b o hc e=>⟨o,k b o (fun z=>hc (by simp [z])) e⟩) (fun _ _ e=>e) (fun _ _ _ e=>e) (fun b ps e=>⟨#[],by rw [e];simp⟩) (fun m hm=>?_) (fun b u e=>?_) I.bare
 ·have e:b=it:=by simpa using hb
  subst e
  exact ⟨h1,hL,h2,h3⟩
 ·obtain ⟨o,es,ep,ho,r⟩:=hm
  exact ⟨o,es,ep,k _ o (Ne.symm hL) ho,r⟩
 ·refine (I.hok b u e).stay (fun c v hc q=>k c v ?_ q) (fun _ q=>q) fun _ _ q=>q
  rcases hc with z | z
  ·rw [z];exact nit b u e
  ·exact nit c _ z
theorem Inv.tok (I:Inv X pins σ H s) (t:Nat):Inv X pins σ H { s with toks:=t }:=I.un (h':=s.heap) (t':=t) Un.refl I.hok
theorem Inv.kept {t':Nat} (I:Inv X pins σ H s) (k:∀ b u,s.heap.get? b=some u→h'.get? b=some u):Inv X pins σ H { s with heap:=h',toks:=t' }:=I.un (Un.kept k) (I.hok.kept k)
theorem Inv.laid {a:Addr} {o:HO} {t':Nat} (I:Inv X pins σ H s) (k:∀ b u,s.heap.get? b=some u→h'.get? b=some u) (hp:s.heap.objs.size≤a) (new:ObjOk X.prog X.w (upd H a o) h' a o) :
  Inv X pins σ (upd H a o) { s with heap:=h',toks:=t' }:=I.un (Un.laid k hp (I.hok.fresh hp)) (I.hok.laid k hp new)
theorem Inv.write {x e:Addr} {o:HO} {t':Nat} (I:Inv X pins σ H s) (mu:Mut (H x)) (he:e=x∨H e=some (.own x)) (k:∀ b u,b≠e→s.heap.get? b=some u→h'.get? b=some u) (heo:∃ u,h'.get? e=some u)
  (new:ObjOk X.prog X.w (upd H x o) h' x o):Inv X pins σ (upd H x o) { s with heap:=h',toks:=t' }:=I.un (Un.write mu he k heo) (I.hok.write mu he k heo new)
theorem Inv.pins_of {pins':List (Addr × Obj)} (I:Inv X pins σ H s) (h:∀ p∈pins',s.heap.get? p.1=some p.2∧H p.1=none∧p.1≠X.env.locals∧p.1∉X.fs∧∀ v,p.2.data≠.cell v):Inv X pins' σ H s :=
 ⟨I.ok,I.os,I.bare,I.base,I.loc,I.cell,I.free,I.freeC,fun p hp=>(List.mem_append.mp hp).elim (fun z=>I.pin p (List.mem_append_left _ z)) (h p),I.hok,I.len⟩

theorem nodup_ix {N:List Str} (hN:N.Nodup) {i j:Nat} {x:Str} (a:N[i]?=some x) (b:N[j]?=some x):i=j:=by
 obtain ⟨h1,e1⟩:=List.getElem?_eq_some_iff.mp a
 obtain ⟨h2,e2⟩:=List.getElem?_eq_some_iff.mp b
 exact (List.getElem_inj hN).mp (e1.trans e2.symm)

theorem store_ok2 {M:Model} {A:Around} {E:Value→Shared→Prop} {i:Nat} {x:Str} {v:V} {u:Value} {Q:Unit→Shared→Prop} (I:Inv X pins σ H s) (hN:X.N.Nodup) (hi:X.N[i]?=some x) (hx:Loc X.env.scope x) (r:RelV v u)
  (h:∀ s',Inv X pins (σ.set i (some v)) H s'→(∃ a,Heap.SameBut a s.heap s'.heap∧(a=X.env.locals∨X.env.cells.lookup x=some a))→Q () s') (hf:X.fn x=true∨X.env.scope.names.lookup x=some .local:=by first | exact .inl rfl | exact .inr rfl | assumption):wpAny M A (storeName X.env x u) Q E s:=by
 obtain ⟨m,hn,hl⟩:=id I.loc
 have hcls:(X.env.scope.kind == .class || (X.env.scope.kind == .module && X.env.locals != X.env.globals))=false:=by rw [I.ok.kind];rfl
 have hiσ:i < σ.length:=by rw [I.len];exact (List.getElem?_eq_some_iff.mp hi).1
 have cne:=I.cne
 have tracked:∀ {a:Addr} {h':Heap},(∃ o,s.heap.get? a=some o∧H a=none)→Heap.SameBut a s.heap h'→HOk X.prog X.w H h':=fun {a h'} ha hs b ob e=>by
  obtain ⟨_,_,hfree⟩:=ha
  refine (I.hok b ob e).stay (fun c w' hc q=>(hs.2 c ?_).trans q) (fun _ q=>q) fun _ _ q=>q
  rintro rfl
  rcases hc with rfl | hc
  ·rw [hfree] at e;cases e
  ·rw [hfree] at hc;cases hc
 rcases hx with hk | hk
 ·refine wpAny_storeName_local hk hn (fun h' hn' hs=>?_) hcls
  obtain ⟨oL,_,_,hoL,_⟩:=id hn
  refine h _ ⟨I.ok,I.os,I.bare,⟨fun b o e n hb hx=>?_,fun b o e n hb hx=>?_,I.base.free,fun b o e hx=>?_,I.base.tups,I.base.frzs,I.base.tbls⟩,⟨_,hn',fun j y v' e1 e2 e3=>?_⟩,fun y c e=>?_,I.free,I.freeC,fun p hp=>?_,tracked ⟨oL,hoL,I.free⟩ hs,by simpa using I.len⟩ ⟨_,hs,.inl rfl⟩
  ·exact (hs.2 b (Nat.ne_of_lt (Nat.lt_of_lt_of_le (Heap.lt_size e) I.ok.above))).trans (I.base.keep b o e n hb hx)
  ·obtain ⟨sl,e1⟩:=I.base.slot b o e n hb hx
   exact ⟨sl,(hs.2 b (Nat.ne_of_lt (Nat.lt_of_lt_of_le (Heap.lt_size e) I.ok.above))).trans e1⟩
  ·obtain ⟨o',e1⟩:=I.base.there b o e hx
   exact ⟨o',(hs.2 b (Nat.ne_of_lt (Nat.lt_of_lt_of_le (Heap.lt_size e) I.ok.above))).trans e1⟩
  ·by_cases hj:j=i
   ·subst hj
    rw [hi] at e1;cases e1
    rw [List.getElem?_set_self hiσ] at e2
    cases e2
    exact ⟨u,r,.inl ⟨hk,by simp⟩⟩
   ·rw [List.getElem?_set_ne (Ne.symm hj)] at e2
    obtain ⟨u',r',q⟩:=hl j y v' e1 e2 e3
    refine ⟨u',r',?_⟩
    rcases q with ⟨k,e⟩ | ⟨k,c,e,z⟩
    ·refine .inl ⟨k,?_⟩
     have:y≠x:=fun e=>hj (nodup_ix hN e1 (e ▸ hi))
     simp [this,e]
    ·exact .inr ⟨k,c,e,z.sameBut hs (cne y c e)⟩
  ·obtain ⟨w',z⟩:=I.cell y c e
   exact ⟨w',z.sameBut hs (cne y c e)⟩
  ·obtain ⟨e,n,ne,nf,d⟩:=I.pin p hp
   exact ⟨(hs.2 p.1 ne).trans e,n,ne,nf,d⟩
 ·have hfn:X.fn x=true:=by
   rcases hf with z | z
   ·exact z
   ·rw [z] at hk;cases hk
  obtain ⟨c,hc⟩:=I.ok.has x (.inl hk)
  obtain ⟨w',z⟩:=I.cell x c hc
  refine wpAny_storeName_cell I.ok.kind hk hc z (fun h' hc' hs=>?_)
  obtain ⟨oc,hoc,hocd⟩:=id z
  refine h { s with heap:=h' } ⟨I.ok,I.os,I.bare,⟨fun b o e n hb hx=>?_,fun b o e n hb hx=>?_,I.base.free,fun b o e hx=>?_,I.base.tups,I.base.frzs,I.base.tbls⟩,⟨m,hn.sameBut hs (Ne.symm (cne x c hc)),fun j y v' e1 e2 e3=>?_⟩,fun y c' e=>?_,I.free,I.freeC,fun p hp=>?_,tracked ⟨oc,hoc,I.freeC x c hc⟩ hs,by simpa using I.len⟩ ⟨c,hs,.inr hc⟩
  ·exact (hs.2 b (Nat.ne_of_lt (Nat.lt_of_lt_of_le (Heap.lt_size e) (I.ok.cab x c hfn hc)))).trans (I.base.keep b o e n hb hx)
  ·obtain ⟨sl,e1⟩:=I.base.slot b o e n hb hx
   exact ⟨sl,(hs.2 b (Nat.ne_of_lt (Nat.lt_of_lt_of_le (Heap.lt_size e) (I.ok.cab x c hfn hc)))).trans e1⟩
  ·obtain ⟨o',e1⟩:=I.base.there b o e hx
   exact ⟨o',(hs.2 b (Nat.ne_of_lt (Nat.lt_of_lt_of_le (Heap.lt_size e) (I.ok.cab x c hfn hc)))).trans e1⟩
  ·by_cases hj:j=i
   ·subst hj
    rw [hi] at e1;cases e1
    rw [List.getElem?_set_self hiσ] at e2
    cases e2
    exact ⟨u,r,.inr ⟨.inl hk,c,hc,hc'⟩⟩
   ·rw [List.getElem?_set_ne (Ne.symm hj)] at e2
    obtain ⟨u',r',q⟩:=hl j y v' e1 e2 e3
    refine ⟨u',r',?_⟩
    rcases q with q | ⟨k,c',e,z'⟩
    ·exact .inl q
    ·refine .inr ⟨k,c',e,z'.sameBut hs ?_⟩
     rintro rfl
     exact hj (nodup_ix hN e1 (I.ok.inj _ _ _ e hc ▸ hi))
  ·by_cases hcc:c'=c
   ·subst hcc;exact ⟨_,hc'⟩
   ·obtain ⟨w2,z2⟩:=I.cell y c' e
    exact ⟨w2,z2.sameBut hs hcc⟩
  ·obtain ⟨e,n,ne,nf,d⟩:=I.pin p hp
   refine ⟨(hs.2 p.1 ?_).trans e,n,ne,nf,d⟩
   intro q
   rw [q,hoc] at e
   have q':oc=p.2:=Option.some.inj e
   exact d w' (by rw [←q'];exact hocd)
theorem store_ok {M:Model} {A:Around} {E:Value→Shared→Prop} {i:Nat} {x:Str} {v:V} {u:Value} {Q:Unit→Shared→Prop} (I:Inv X pins σ H s) (hN:X.N.Nodup) (hi:X.N[i]?=some x) (hx:Loc X.env.scope x) (r:RelV v u)
  (h:∀ s',Inv X pins (σ.set i (some v)) H s'→Q () s') (hf:X.fn x=true∨X.env.scope.names.lookup x=some .local:=by first | exact .inl rfl | exact .inr rfl | assumption):wpAny M A (storeName X.env x u) Q E s :=
 store_ok2 I hN hi hx r (fun s' I' _=>h s' I') hf
theorem Inv.call' {s':Shared} {ch:List Addr} (I:Inv X pins σ H s) (ho:s'.os=s.os) (u:Un (frs X.stack) ch H H' s.heap s'.heap) (hok:HOk X.prog X.w H' s'.heap) (hg:AllBare s'.gens)
  (hch:∀ b∈ch,(b∈X.ex∨X.s₀.heap.objs.size≤b)∧b≠X.env.locals∧(∀ x c,X.env.cells.lookup x=some c→c≠b)∧∀ p∈X.pn++pins,p.1≠b):Inv X pins σ H' s':=by
 obtain ⟨h',g',d',t',o'⟩:=s'
 have e:o'=s.os:=ho
 subst e
 exact I.call (g':=g') (t':=t') (d':=d') u hok hg hch
end

/-! ### the judgements -/
abbrev XK:=Value→Option Addr→Hp→Prop
abbrev St:=List (Option V)
abbrev VK:=V→Hp→Prop
abbrev TE:=St→Hp→VK→Prop
abbrev TT:=St→Hp→(Bool→Hp→Prop)→Prop
abbrev TA:=St→Hp→(List V→Hp→Prop)→Prop
structure Ends where
 nx:St→Hp→Prop
 rt:VK
 bk:St→Hp→Prop:=fun _ _=>False
 ct:St→Hp→Prop:=fun _ _=>False
abbrev TS:=Ends→St→Hp→Prop

def EP (X:Cx) (pins:List (Addr × Obj)) (σ:St) (Q:VK) (u:Value) (s':Shared):Prop:=∃ v H',Inv X pins σ H' s'∧RelV v u∧Q v H'
def TP (X:Cx) (pins:List (Addr × Obj)) (σ:St) (Q:Bool→Hp→Prop) (b:Bool) (s':Shared):Prop:=∃ H',Inv X pins σ H' s'∧Q b H'
def AP (X:Cx) (pins:List (Addr × Obj)) (σ:St) (Q:List V→Hp→Prop) (us:List Value) (s':Shared):Prop:=∃ vs H',Inv X pins σ H' s'∧Vals vs us∧Q vs H'
def SP (X:Cx) (pins:List (Addr × Obj)) (D:Ends) (f:Flow) (s':Shared):Prop :=
 match f with
 | .next=>∃ σ' H',Inv X pins σ' H' s'∧D.nx σ' H'
 | .brk=>∃ σ' H',Inv X pins σ' H' s'∧D.bk σ' H'
 | .cont=>∃ σ' H',Inv X pins σ' H' s'∧D.ct σ' H'
 | .ret u=>∃ v σ' H',Inv X pins σ' H' s'∧RelV v u∧D.rt v H'

def PE (X:Cx) (e:Expr) (t:TE):Prop :=
 ∀ (pins:List (Addr × Obj)) (s:Shared) (σ:St) (H:Hp) (Q:VK),Inv X pins σ H s→t σ H Q→wpAny (model X.prog X.w) X.A (eval e X.env) (EP X pins σ Q) X.xe s
def PT (X:Cx) (e:Expr) (t:TT):Prop :=
 ∀ (pins:List (Addr × Obj)) (s:Shared) (σ:St) (H:Hp) (Q:Bool→Hp→Prop),Inv X pins σ H s→t σ H Q→wpAny (model X.prog X.w) X.A (isTrue e X.env (eval e X.env)) (TP X pins σ Q) X.xe s
def PW (X:Cx) (e:Expr) (t:TT):Prop :=
 ∀ (whole:Sem Value) (pins:List (Addr × Obj)) (s:Shared) (σ:St) (H:Hp) (Q:Bool→Hp→Prop),Inv X pins σ H s→t σ H Q→wpAny (model X.prog X.w) X.A (isTrue e X.env whole) (TP X pins σ Q) X.xe s
theorem PW.pt {X:Cx} {e:Expr} {t:TT} (h:PW X e t):PT X e t:=h _
def PA (X:Cx) (es:List Expr) (t:TA):Prop :=
 ∀ (pos:Pos) (pins:List (Addr × Obj)) (s:Shared) (σ:St) (H:Hp) (Q:List V→Hp→Prop),Inv X pins σ H s→t σ H Q→wpAny (model X.prog X.w) X.A (spliced (backTo pos (starEach es X.env))) (AP X pins σ Q) X.xe s
def PS (X:Cx) (st:Stmt) (t:TS):Prop :=
 ∀ (pins:List (Addr × Obj)) (s:Shared) (σ:St) (H:Hp) (D:Ends),Inv X pins σ H s→t D σ H→wpAny (model X.prog X.w) X.A (exec st X.env) (SP X pins D) X.xe s
def PSs (X:Cx) (st:List Stmt) (t:TS):Prop :=
 ∀ (pins:List (Addr × Obj)) (s:Shared) (σ:St) (H:Hp) (D:Ends),Inv X pins σ H s→t D σ H→wpAny (model X.prog X.w) X.A (execs st X.env) (SP X pins D) X.xe s
theorem thn {α:Type} {t:Sem α} {Q Q':α→Shared→Prop} {M:Model} {A:Around} {E:Value→Shared→Prop} {s:Shared} (h:wpAny M A t Q E s) (hQ:∀ a s,Q a s→Q' a s):wpAny M A t Q' E s:=wpAny_mono h hQ fun _ _ x=>x
end L2

namespace L2
open PySem PySem.Spec PyProof.Rows
section
variable {X:Cx}

theorem bin {a b:Expr} {ta tb:TE} (ha:PE X a ta) (hb:PE X b tb) {pins:List (Addr × Obj)} {s:Shared} {σ:St} {H:Hp} {R:V→V→Hp→Prop} (I:Inv X pins σ H s) (h:ta σ H fun x H1=>tb σ H1 fun y H2=>R x y H2)
  {α:Type} {Q:α→Shared→Prop} {f:Value→Value→Sem α}
  (hf:∀ v u s2 x y H2,Inv X pins σ H2 s2→RelV x v→RelV y u→R x y H2→wpAny (model X.prog X.w) X.A (f v u) Q X.xe s2) :
  wpAny (model X.prog X.w) X.A (eval a X.env) (fun v s₁=>wpAny (model X.prog X.w) X.A (eval b X.env) (fun u s₂=>wpAny (model X.prog X.w) X.A (f v u) Q X.xe s₂) X.xe s₁) X.xe s:=by
 refine thn (ha pins s σ H _ I h) fun v s1 ⟨x,H1,I1,r1,q1⟩=>?_
 refine thn (hb pins s1 σ H1 _ I1 q1) fun u s2 ⟨y,H2,I2,r2,q2⟩=>?_
 exact hf v u s2 x y H2 I2 r1 r2 q2

/-! ### names and constants -/
def tVar (i:Nat):TE:=fun σ H Q=>∃ v,σ[i]?=some (some v)∧Q v H
def tC (v:V):TE:=fun _ H Q=>Q v H
theorem pe_var {i:Nat} {x:Str} {pos:Pos} (hN:X.N[i]?=some x) (hv:Vis X.env.scope x) (hd:(x == ("__debug__":Str))=false:=by decide) (hcd:(x == ("__classdict__":Str))=false:=by decide):PE X (.Name x pos) (tVar i):=by
 intro pins s σ H Q I h
 obtain ⟨v,e,h⟩:=h
 obtain ⟨m,hn,hl⟩:=I.loc
 obtain ⟨u,r,l⟩:=hl i x v hN e hv
 have fin:EP X pins σ Q u s:=⟨v,H,I,r,h⟩
 rcases l with ⟨hk,hm⟩ | ⟨hk,c,hc,hcell⟩
 ·exact wpAny_Name (wpAny_loadName_local I.ok.kind hk hn hm fin) hd
 ·rcases hk with hk | hk
  ·exact wpAny_Name (wpAny_loadName_cell I.ok.kind hk hc hcell fin) hd
  ·exact wpAny_Name (wpAny_loadName_free I.ok.kind hk hc hcell fin hcd) hd
theorem pe_int {i j pos}:PE X (.Constant (.int i) j pos) (tC (.int i)):=fun _ _ _ H _ I h=>wpAny_Constant_int ⟨.int i,H,I.tok _,⟨_,rfl⟩,h⟩
theorem pe_bl {b j pos}:PE X (.Constant (.bool b) j pos) (tC (.bl b)):=fun _ _ _ H _ I h=>Constant_bool ⟨.bl b,H,I,rfl,h⟩
theorem pe_non {j pos}:PE X (.Constant .none j pos) (tC .non):=fun _ _ _ H _ I h=>Constant_none ⟨.non,H,I,rfl,h⟩
theorem pe_str {x j pos}:PE X (.Constant (.str x) j pos) (tC (.str x)):=fun _ _ _ H _ I h=>Calls.Constant_str ⟨.str x,H,I.tok _,⟨_,rfl⟩,h⟩

def Gl (X:Cx) (x:Str):Prop:=X.env.kindOf x=some .globalImplicit
theorem ld_glob {E:Value→Shared→Prop} {pins:List (Addr × Obj)} {s:Shared} {σ:St} {H:Hp} {x:Str} {u:Value} {pos:Pos} {Q:Value→Shared→Prop} (I:Inv X pins σ H s) (hg:Gl X x) (hm:X.mg x=some u) (h:Q u s)
  (hd:(x == ("__debug__":Str))=false:=by decide):wpAny (model X.prog X.w) X.A (eval (.Name x pos) X.env) Q E s :=
 Calls.Name_function_global I.ok.kind hg (Calls.loadGlobal_global (by rw [I.ok.glob];exact I.mod.glob.keeps I.bk) hm h) hd
theorem ld_blt {E:Value→Shared→Prop} {pins:List (Addr × Obj)} {s:Shared} {σ:St} {H:Hp} {x:Str} {u:Value} {pos:Pos} {Q:Value→Shared→Prop} (I:Inv X pins σ H s) (hg:Gl X x) (hm:X.mg x=none) (hv:bootBuiltins x=some u) (h:Q u s)
  (hn:x≠"__name__":=by decide) (hd:(x == ("__debug__":Str))=false:=by decide):wpAny (model X.prog X.w) X.A (eval (.Name x pos) X.env) Q E s:=by
 obtain ⟨mb,h1,h2⟩:=I.mod.blt
 exact Calls.Name_function_global I.ok.kind hg (Calls.loadGlobal_builtin (by rw [I.ok.glob];exact I.mod.glob.keeps I.bk) hm (by rw [I.ok.blt];exact h1.keeps I.bk) ((h2 x hn).trans hv) h) hd
theorem pe_glob {x:Str} {v:V} {u:Value} {pos:Pos} (hg:Gl X x) (hm:X.mg x=some u) (r:RelV v u) (hd:(x == ("__debug__":Str))=false:=by decide):PE X (.Name x pos) (tC v) :=
 fun _ _ _ H _ I h=>ld_glob I hg hm ⟨v,H,I,r,h⟩ hd
theorem pe_bltn {x:Str} {v:V} {u:Value} {pos:Pos} (hg:Gl X x) (hm:X.mg x=none) (hv:bootBuiltins x=some u) (r:RelV v u) (hn:x≠"__name__":=by decide) (hd:(x == ("__debug__":Str))=false:=by decide):PE X (.Name x pos) (tC v) :=
 fun _ _ _ H _ I h=>ld_blt I hg hm hv ⟨v,H,I,r,h⟩ hn hd

/-! ### arithmetic -/
def t2I (ta tb:TE) (k:Int→Int→Hp→Prop):St→Hp→Prop:=fun σ H=>ta σ H fun x H1=>tb σ H1 fun y H2=>∃ i j,x=.int i∧y=.int j∧k i j H2
variable {a b:Expr} {ta tb:TE} {pos:Pos}
/-! ### comparisons -/
def PC (X:Cx) (op:CmpOp) (a b:Expr) (t:TE):Prop :=
 ∀ (pins:List (Addr × Obj)) (s:Shared) (σ:St) (H:Hp) (Q:VK),Inv X pins σ H s→t σ H Q →
  wpAny (model X.prog X.w) X.A (eval a X.env) (fun v s₁=>wpAny (model X.prog X.w) X.A (eval b X.env) (fun u s₂=>wpAny (model X.prog X.w) X.A (compareOp op v u) (EP X pins σ Q) X.xe s₂) X.xe s₁) X.xe s
theorem nobehind (b:Expr) {op:CmpOp} (h:op≠.In) (h2:op≠.NotIn):behindInMarks op b=false:=by
 have e1:(op == CmpOp.In)=false:=by cases op<;>first | rfl | exact absurd rfl h
 have e2:(op == CmpOp.NotIn)=false:=by cases op<;>first | rfl | exact absurd rfl h2
 cases b<;>simp [behindInMarks,e1,e2]
def tCmp (p:Int→Int→Bool) (ta tb:TE):TE:=fun σ H Q=>t2I ta tb (fun i j H2=>Q (.bl (p i j)) H2) σ H
abbrev tEqI:TE→TE→TE:=tCmp fun i j=>decide (i=j)
abbrev tNeI:TE→TE→TE:=tCmp fun i j=>!decide (i=j)
theorem pc_int {op:CmpOp} {p:Int→Int→Bool} (ha:PE X a ta) (hb:PE X b tb)
  (rule:∀ (i j:Int) (t u:Tok) (Q:Value→Shared→Prop) (s:Shared),Q (.bool (p i j)) s→wpAny (model X.prog X.w) X.A (compareOp op (.int i t) (.int j u)) Q X.xe s):PC X op a b (tCmp p ta tb):=by
 intro pins s σ H Q I h
 refine bin ha hb I h fun v u s2 x y H2 I2 rx ry q=>?_
 obtain ⟨i,j,rfl,rfl,q⟩:=q
 obtain ⟨t,rfl⟩:=rx
 obtain ⟨t',rfl⟩:=ry
 exact rule i j t t' _ s2 ⟨.bl _,H2,I2,rfl,q⟩
theorem pc_eqI (ha:PE X a ta) (hb:PE X b tb):PC X .Eq a b (tEqI ta tb):=pc_int ha hb fun _ _ _ _ _ _ h=>eq_int (by rw [Bool.beq_eq_decide_eq];exact h)
theorem pc_neI (ha:PE X a ta) (hb:PE X b tb):PC X .NotEq a b (tNeI ta tb):=pc_int ha hb fun _ _ _ _ _ _ h=>ne_int (by rw [bne,Bool.beq_eq_decide_eq];exact h)
def tB (t:TE):TT:=fun σ H Q=>t σ H fun x H1=>∃ c,x=.bl c∧Q c H1
theorem pe_cmp {op:CmpOp} {t:TE} (h:PC X op a b t) (h1:behindInMarks op b=false:=by first | exact nobehind _ (by decide) (by decide) | rfl):PE X (.Compare a [op] [b] pos) t:=fun pins s σ H Q I hw=>wpAny_Compare1 (h pins s σ H Q I hw) h1
theorem pt_cmp {op:CmpOp} {t:TE} (h:PC X op a b t) (h1:behindInMarks op b=false:=by first | exact nobehind _ (by decide) (by decide) | rfl):PT X (.Compare a [op] [b] pos) (tB t):=by
 intro pins s σ H Q I hw
 refine wpAny_isTrue_Compare1 (thn (h pins s σ H _ I hw) fun v s1 h1=>thn h1 fun u s2 h2=>thn h2 fun c s3 ⟨x,H1,I1,r1,q1⟩=>?_) h1
 obtain ⟨d,rfl,q⟩:=q1
 cases r1
 exact wpAny_truthy_bool ⟨H1,I1,q⟩
theorem pt_val {e:Expr} {t:TE} (h:PE X e t) (he:∀ whole,isTrue e X.env whole=(do let v ←whole;standAt e.pos;holding [v] (truthy v)):=by intro _;rfl):PT X e (tB t):=by
 intro pins s σ H Q I hw
 refine isTrue_plain (thn (h pins s σ H _ I hw) fun v s1 ⟨x,H1,I1,r1,q1⟩=>?_) (he _)
 obtain ⟨d,rfl,q⟩:=q1
 cases r1
 exact wpAny_truthy_bool ⟨H1,I1,q⟩

/-! ### and,or,not -/
variable {tA tB':TT} {rest:List Expr}
def tAnd (t u:TT):TT:=fun σ H Q=>t σ H fun c H1=>if c=true then u σ H1 Q else Q false H1
def tOr (t u:TT):TT:=fun σ H Q=>t σ H fun c H1=>if c=true then Q true H1 else u σ H1 Q
def tNot (t:TT):TT:=fun σ H Q=>t σ H fun c H1=>Q (!c) H1
theorem pw_and1 (ha:PT X a tA):PW X (.BoolOp .And [a] pos) tA:=by
 intro wh pins s σ H Q I h
 refine isTrue_and (thn (ha pins s σ H Q I h) fun c s1 e=>?_)
 cases c with
 | true=>exact isTrue_and_nil e
 | false=>exact e
theorem pw_or1 (ha:PT X a tA):PW X (.BoolOp .Or [a] pos) tA:=by
 intro wh pins s σ H Q I h
 refine isTrue_or (thn (ha pins s σ H Q I h) fun c s1 e=>?_)
 cases c with
 | false=>exact isTrue_or_nil e
 | true=>exact e
theorem pw_and (ha:PT X a tA) (hb:PW X (.BoolOp .And (b::rest) pos) tB'):PW X (.BoolOp .And (a::b::rest) pos) (tAnd tA tB'):=by
 intro wh pins s σ H Q I h
 refine isTrue_and (thn (ha pins s σ H _ I h) fun c s1 ⟨H1,I1,q1⟩=>?_)
 cases c with
 | true=>exact hb wh pins s1 σ H1 Q I1 q1
 | false=>exact ⟨H1,I1,q1⟩
theorem pw_or (ha:PT X a tA) (hb:PW X (.BoolOp .Or (b::rest) pos) tB'):PW X (.BoolOp .Or (a::b::rest) pos) (tOr tA tB'):=by
 intro wh pins s σ H Q I h
 refine isTrue_or (thn (ha pins s σ H _ I h) fun c s1 ⟨H1,I1,q1⟩=>?_)
 cases c with
 | true=>exact ⟨H1,I1,q1⟩
 | false=>exact hb wh pins s1 σ H1 Q I1 q1
theorem pt_not (ha:PT X a tA):PT X (.UnaryOp .Not a pos) (tNot tA):=by
 intro pins s σ H Q I h
 exact isTrue_not (ha pins s σ H (fun c H1=>Q (!c) H1) I h)
def tAndV (ta tb:TE):TE:=fun σ H Q=>ta σ H fun x H1=>∃ c,x=.bl c∧if c=true then tb σ H1 Q else Q (.bl false) H1
def tNotV (ta:TE):TE:=fun σ H Q=>ta σ H fun x H1=>∃ c,x=.bl c∧Q (.bl (!c)) H1
theorem pe_one {op} {t:TE} (h:PE X a t):PE X (.BoolOp op [a] pos) t:=fun pins s σ H Q I hw=>BoolOp_one (h pins s σ H Q I hw)
theorem pe_and (ha:PE X a ta) (hb:PE X (.BoolOp .And (b::rest) pos) tb):PE X (.BoolOp .And (a::b::rest) pos) (tAndV ta tb):=by
 intro pins s σ H Q I h
 refine BoolOp_and (thn (ha pins s σ H _ I h) fun v s1 ⟨x,H1,I1,r1,q1⟩=>?_)
 obtain ⟨c,rfl,q1⟩:=q1
 cases r1
 refine wpAny_truthy_bool ?_
 cases c with
 | true=>exact hb pins s1 σ H1 Q I1 q1
 | false=>exact ⟨.bl false,H1,I1,rfl,q1⟩
theorem pe_not (ha:PE X a ta):PE X (.UnaryOp .Not a pos) (tNotV ta):=by
 intro pins s σ H Q I h
 refine UnaryOp_ (thn (ha pins s σ H _ I h) fun v s1 ⟨x,H1,I1,r1,q1⟩=>?_)
 obtain ⟨c,rfl,q1⟩:=q1
 cases r1
 exact not_of (wpAny_truthy_bool ⟨.bl (!c),H1,I1,rfl,q1⟩)
def tIf (t:TT) (ta tb:TE):TE:=fun σ H Q=>t σ H fun c H1=>if c=true then ta σ H1 Q else tb σ H1 Q
theorem pe_ifExp {c:Expr} (hc:PT X c tA) (ha:PE X a ta) (hb:PE X b tb):PE X (.IfExp c a b pos) (tIf tA ta tb):=by
 intro pins s σ H Q I h
 refine wpAny_IfExp (thn (hc pins s σ H _ I h) fun d s1 ⟨H1,I1,q1⟩=>?_)
 cases d with
 | true=>exact ha pins s1 σ H1 Q I1 q1
 | false=>exact hb pins s1 σ H1 Q I1 q1
end
end L2

namespace L2
open PySem PySem.Spec PyProof.Rows

/-! ### a list,a tuple that is read: tracked,frozen,or an object of the module -/
def SqL (K:PySem.W.Frag) (H:Hp) (a:Addr) (xs:List V):Prop :=
 Rd H a (.lst xs) ∨
  ∃ (o:Obj) (its:Array Value) (n:Nat),K.lookup a=some o∧o.cls=.type "list"∧o.dict=none∧o.data=.seq its n∧its.size≤sizeLine∧Vals xs its.toList
def SqT (K:PySem.W.Frag) (H:Hp) (a:Addr) (xs:List V):Prop :=
 Rd H a (.tup xs) ∨
  ∃ (o:Obj) (its:Array Value) (n:Nat),K.lookup a=some o∧o.cls=.type "tuple"∧o.data=.seq its n∧its.size≤sizeLine∧Vals xs its.toList
def absV:Value→Option V
 | .none=>some .non
 | .bool b=>some (.bl b)
 | .int i _=>some (.int i)
 | .str x _=>some (.str x)
 | .bytes b _=>some (.byt b)
 | .float b _=>some (.flt b)
 | .ref a=>some (.ref a)
 | .type n=>some (.ty n)
 | _=>none
theorem RelV.abs {x:V} {u:Value} (r:RelV x u):absV u=some x:=by
 cases x with
 | non=>cases r;rfl
 | bl _=>cases r;rfl
 | int _=>obtain ⟨t,rfl⟩:=r;rfl
 | str _=>obtain ⟨t,rfl⟩:=r;rfl
 | byt _=>obtain ⟨t,rfl⟩:=r;rfl
 | flt _=>obtain ⟨t,rfl⟩:=r;rfl
 | ref _=>cases r;rfl
 | ty _=>cases r;rfl
theorem RelV.inj {x y:V} {u:Value} (r:RelV x u) (q:RelV y u):x=y:=Option.some.inj (r.abs.symm.trans q.abs)
theorem Vals.inj:∀ {xs ys:List V} {us:List Value},Vals xs us→Vals ys us→xs=ys
 | _,_,_,.nil,.nil=>rfl
 | _,_,_,.cons r t,.cons r' t'=>by rw [r.inj r',Vals.inj t t']
section
variable {X:Cx} {pins:List (Addr × Obj)} {σ:St} {H:Hp} {s:Shared} {a:Addr} {xs ys:List V}
theorem SqL.of {K:PySem.W.Frag} (h:H a=some (.lst xs)):SqL K H a xs:=.inl (.inl h)
theorem SqT.of {K:PySem.W.Frag} (h:H a=some (.tup xs)):SqT K H a xs:=.inl (.inl h)
theorem Inv.list (I:Inv X pins σ H s) (h:SqL X.K H a xs):∃ its:List Value,Vals xs its∧PlainL s.heap a its.toArray∧xs.length≤sizeLine:=by
 rcases h with h | ⟨o,its,n,hk,hc,hd,hs,hz,r⟩
 ·obtain ⟨z,its,n,r,e⟩:=h.ok I.hok
  exact ⟨its,r,⟨_,n,e,rfl,rfl,rfl⟩,z⟩
 ·refine ⟨its.toList,r,⟨o,n,I.kIn a o hk,hc,hd,by simpa using hs⟩,?_⟩
  have e:=r.length
  simp only [Array.length_toList] at e
  omega
theorem Inv.tuple (I:Inv X pins σ H s) (h:SqT X.K H a xs):∃ its:List Value,Vals xs its∧IsTup s.heap a its.toArray∧xs.length≤sizeLine:=by
 rcases h with h | ⟨o,its,n,hk,hc,hs,hz,r⟩
 ·obtain ⟨z,its,n,r,e⟩:=h.ok I.hok
  exact ⟨its,r,⟨_,e,rfl,n,rfl⟩,z⟩
 ·refine ⟨its.toList,r,⟨o,I.kIn a o hk,hc,n,by simpa using hs⟩,?_⟩
  have e:=r.length
  simp only [Array.length_toList] at e
  omega
theorem Inv.list_inj (I:Inv X pins σ H s) (h:SqL X.K H a xs) (h':SqL X.K H a ys):xs=ys:=by
 obtain ⟨its,r,⟨o,n,e,_,_,d⟩,_⟩:=I.list h
 obtain ⟨its',r',⟨o',n',e',_,_,d'⟩,_⟩:=I.list h'
 rw [e] at e';cases e'
 rw [d] at d'
 injection d' with d1 _
 have:its=its':=by simpa using congrArg Array.toList d1
 subst this
 exact r.inj r'
theorem Inv.tuple_inj (I:Inv X pins σ H s) (h:SqT X.K H a xs) (h':SqT X.K H a ys):xs=ys:=by
 obtain ⟨its,r,⟨o,e,_,n,d⟩,_⟩:=I.tuple h
 obtain ⟨its',r',⟨o',e',_,n',d'⟩,_⟩:=I.tuple h'
 rw [e] at e';cases e'
 rw [d] at d'
 injection d' with d1 _
 have:its=its':=by simpa using congrArg Array.toList d1
 subst this
 exact r.inj r'
end

/-! ### another wish about exceptions -/
abbrev Cx.wish (X:Cx) (E:Value→Shared→Prop):Cx:={ X with xe:=E }
abbrev Cx.nox (X:Cx):Cx:=X.wish fun _ _=>False
theorem Cx.Ok.wish {X:Cx} (ok:X.Ok) (E:Value→Shared→Prop):(X.wish E).Ok :=
 ⟨ok.mod,ok.kind,ok.glob,ok.blt,ok.above,ok.inj,ok.has,ok.cab,ok.hd,ok.frames,ok.stk,ok.exf,ok.bs,ok.bsz,ok.noex,ok.exfs,ok.funs,ok.frf⟩
theorem Cx.Ok.unwish {X:Cx} {E:Value→Shared→Prop} (ok:(X.wish E).Ok):X.Ok :=
 ⟨ok.mod,ok.kind,ok.glob,ok.blt,ok.above,ok.inj,ok.has,ok.cab,ok.hd,ok.frames,ok.stk,ok.exf,ok.bs,ok.bsz,ok.noex,ok.exfs,ok.funs,ok.frf⟩
section
variable {X:Cx} {pins:List (Addr × Obj)} {σ:St} {H:Hp} {s:Shared} {E:Value→Shared→Prop}
theorem Inv.wish (I:Inv X pins σ H s) (E:Value→Shared→Prop):Inv (X.wish E) pins σ H s:=⟨I.ok.wish E,I.os,I.bare,I.base,I.loc,I.cell,I.free,I.freeC,I.pin,I.hok,I.len⟩
theorem Inv.unwish (I:Inv (X.wish E) pins σ H s):Inv X pins σ H s:=⟨I.ok.unwish,I.os,I.bare,I.base,I.loc,I.cell,I.free,I.freeC,I.pin,I.hok,I.len⟩
theorem SP.unwish {D:Ends} {f:Flow} {s':Shared} (h:SP (X.wish E) pins D f s'):SP X pins D f s':=by
 cases f with
 | next=>obtain ⟨σ',H',I,q⟩:=h;exact ⟨σ',H',I.unwish,q⟩
 | brk=>obtain ⟨σ',H',I,q⟩:=h;exact ⟨σ',H',I.unwish,q⟩
 | cont=>obtain ⟨σ',H',I,q⟩:=h;exact ⟨σ',H',I.unwish,q⟩
 | ret u=>obtain ⟨v,σ',H',I,r,q⟩:=h;exact ⟨v,σ',H',I.unwish,r,q⟩
theorem PSs.nox {st:List Stmt} {t:TS} (h:PSs X.nox st t):PSs X st t:=fun pins s σ H D I hw =>
 wpAny_mono (h pins s σ H D (I.wish _) hw) (fun _ _ q=>q.unwish) fun _ _ z=>False.elim z
end

/-! ### blocks and small statements -/
section
variable {X:Cx} {st:Stmt} {rest:List Stmt} {t u:TS} {e:Expr} {te:TE} {pos:Pos}
def tNext:TS:=fun D σ H=>D.nx σ H
def tSeq (t u:TS):TS:=fun D σ H=>t { D with nx:=u D } σ H
theorem pss_nil:PSs X [] tNext:=fun _ _ σ H _ I h=>wpAny_execs_nil ⟨σ,H,I,h⟩
theorem pss_cons (h1:PS X st t) (h2:PSs X rest u):PSs X (st::rest) (tSeq t u):=by
 intro pins s σ H D I h
 refine wpAny_execs_cons (thn (h1 pins s σ H { D with nx:=u D } I h) fun f s1 q=>?_)
 cases f with
 | next =>
  obtain ⟨σ',H',I',q⟩:=q
  exact h2 pins s1 σ' H' D I' q
 | ret v=>exact q
 | brk=>exact q
 | cont=>exact q
theorem pss_one (h1:PS X st t):PSs X [st] t:=by
 intro pins s σ H D I h
 refine wpAny_execs_cons (thn (h1 pins s σ H D I h) fun f s1 q=>?_)
 cases f with
 | next=>exact wpAny_execs_nil q
 | ret v=>exact q
 | brk=>exact q
 | cont=>exact q
theorem Inv.quiet {pins:List (Addr × Obj)} {σ:St} {H:Hp} {s:Shared} (I:Inv X pins σ H s):interactive X.env=false:=by simp [interactive,I.ok.kind]
def tDrop (te:TE):TS:=fun D σ H=>te σ H fun _ H1=>D.nx σ H1
theorem ps_expr (he:PE X e te) (hs:swapsWith e none pos.line X.env=pure false:=by rfl):PS X (.Expr e pos) (tDrop te):=by
 intro pins s σ H D I h
 exact wpAny_Expr_any (thn (he pins s σ H _ I h) fun v s1 ⟨x,H1,I1,r1,q1⟩=>⟨σ,H1,I1,q1⟩) I.quiet hs
def tRet (te:TE):TS:=fun D σ H=>te σ H D.rt
theorem ps_ret (he:PE X e te):PS X (.Return (some e) pos) (tRet te):=by
 intro pins s σ H D I h
 exact wpAny_Return_some (thn (he pins s σ H _ I h) fun v s1 ⟨x,H1,I1,r1,q1⟩=>⟨x,σ,H1,I1,r1,q1⟩)
def tIfS (c:TT) (t u:TS):TS:=fun D σ H=>c σ H fun b H1=>if b=true then t D σ H1 else u D σ H1
theorem ps_if {c:Expr} {a b:List Stmt} {tc:TT} (hc:PT X c tc) (ha:PSs X a t) (hb:PSs X b u):PS X (.If c a b pos) (tIfS tc t u):=by
 intro pins s σ H D I h
 refine wpAny_If (thn (hc pins s σ H _ I h) fun d s1 ⟨H1,I1,q1⟩=>?_)
 cases d with
 | true=>exact ha pins s1 σ H1 D I1 q1
 | false=>exact hb pins s1 σ H1 D I1 q1
end

/-! ### targets -/
abbrev TG:=V→St→Hp→(St→Hp→Prop)→Prop
abbrev TGs:=List V→St→Hp→(St→Hp→Prop)→Prop
def PG (X:Cx) (target:Expr) (t:TG):Prop :=
 ∀ (pins:List (Addr × Obj)) (s:Shared) (σ:St) (H:Hp) (v:V) (u:Value) (Q:St→Hp→Prop),Inv X pins σ H s→RelV v u→t v σ H Q →
  wpAny (model X.prog X.w) X.A (assign target X.env u) (fun _ s'=>∃ σ' H',Inv X pins σ' H' s'∧Q σ' H') X.xe s
def PGs (X:Cx) (ts:List Expr) (t:TGs):Prop :=
 ∀ (pins:List (Addr × Obj)) (s:Shared) (σ:St) (H:Hp) (vs:List V) (us:List Value) (Q:St→Hp→Prop),Inv X pins σ H s→Vals vs us→t vs σ H Q →
  wpAny (model X.prog X.w) X.A (assignInOrder ((assignEach ts X.env).map (·.2)) us) (fun _ s'=>∃ σ' H',Inv X pins σ' H' s'∧Q σ' H') X.xe s
abbrev TSet:=V→V→V→Hp→(Hp→Prop)→Prop
def PSet (X:Cx) (t:TSet):Prop :=
 ∀ (pins:List (Addr × Obj)) (s:Shared) (σ:St) (H:Hp) (o i v:V) (ov iv u:Value) (Q:Hp→Prop),Inv X pins σ H s→RelV o ov→RelV i iv→RelV v u→t o i v H Q →
  wpAny (model X.prog X.w) X.A (setItem ov iv u) (fun _ s'=>∃ H',Inv X pins σ H' s'∧Q H') X.xe s
abbrev TIp:=V→V→Hp→VK→Prop
def PIp (X:Cx) (op:Operator) (t:TIp):Prop :=
 ∀ (pins:List (Addr × Obj)) (s:Shared) (σ:St) (H:Hp) (x y:V) (v u:Value) (Q:VK),Inv X pins σ H s→RelV x v→RelV y u→t x y H Q →
  wpAny (model X.prog X.w) X.A (inplaceOp op v u) (EP X pins σ Q) X.xe s
section
variable {X:Cx} {pos:Pos}
def gName (i:Nat):TG:=fun v σ H Q=>Q (σ.set i (some v)) H
theorem pg_name {i:Nat} {x:Str} (hN:X.N.Nodup) (hi:X.N[i]?=some x) (hx:Loc X.env.scope x) (hf:X.fn x=true∨X.env.scope.names.lookup x=some .local:=by first | exact .inl rfl | exact .inr rfl | assumption):PG X (.Name x pos) (gName i):=by
 intro pins s σ H v u Q I r h
 exact wpAny_assign_Name (store_ok I hN hi hx r (fun s' I'=>⟨_,H,I',h⟩) hf)
def gNil:TGs:=fun vs σ H Q=>vs=[]∧Q σ H
def gCons (t:TG) (u:TGs):TGs:=fun vs σ H Q=>∃ v r,vs=v::r∧t v σ H fun σ' H'=>u r σ' H' Q
theorem pgs_nil:PGs X [] gNil:=by
 intro pins s σ H vs us Q I r h
 obtain ⟨e,h⟩:=h
 subst e
 cases r
 exact assignInOrder_nil ⟨σ,H,I,h⟩
theorem pgs_cons {e:Expr} {es:List Expr} {t:TG} {u:TGs} (h1:PG X e t) (h2:PGs X es u)
  (hs:(assignEach (e::es) X.env).map (·.2)=assign e X.env::(assignEach es X.env).map (·.2):=by rfl):PGs X (e::es) (gCons t u):=by
 intro pins s σ H vs us Q I r h
 obtain ⟨v,vr,e1,h⟩:=h
 subst e1
 cases r with
 | cons r rr =>
  rw [hs]
  refine assignInOrder_cons (thn (h1 pins s σ H _ _ _ I r h) fun _ s1 ⟨σ1,H1,I1,q1⟩=>?_)
  exact h2 pins s1 σ1 H1 _ _ Q I1 rr q1
def gTup (K:PySem.W.Frag) (n:Nat) (t:TGs):TG:=fun v σ H Q=>∃ a xs,v=.ref a∧SqT K H a xs∧xs.length=n∧t xs σ H Q
theorem pg_tup {es:List Expr} {k:Nat} {t:TGs} {n:Nat} (hc:X.calm=true) (h:PGs X es t)
  (hn:(assignEach es X.env).length=n:=by rfl) (hst:(assignEach es X.env).findIdx? (·.1)=none:=by rfl):PG X (.Tuple es k pos) (gTup X.K n t):=by
 intro pins s σ H v u Q I r hw
 obtain ⟨a,xs,e1,hq,hl,hw⟩:=hw
 subst e1
 cases r
 obtain ⟨its,rv,ht,hz⟩:=I.tuple hq
 refine assign_Tuple_tuple (I.ok.hd hc) ht (by simp [hn,←hl,rv.length]) hst fun h' hx=>?_
 have I1:Inv X pins σ H { s with heap:=h' }:=I.kept (t':=s.toks) fun b o e=>hx b o (Nat.ne_of_lt (Heap.lt_size e)) e
 exact h pins _ σ H xs _ Q I1 (by simpa using rv) hw
def gSub (to ti:TE) (t:TSet):TG:=fun v σ H Q=>to σ H fun o H1=>ti σ H1 fun i H2=>t o i v H2 fun H3=>Q σ H3
theorem pg_sub {o i:Expr} {to ti:TE} {t:TSet} (ho:PE X o to) (hi:PE X i ti) (hs:PSet X t)
  (ha:∀ v,assign (.Subscript o i pos) X.env v=(do
   let ov ←holding [v] (eval o X.env)
   let iv ←holding [v,ov] (eval i X.env)
   standAt pos
   holding [v,ov,iv] (setItem ov iv v)
   release [v,ov,iv] []):=by intro _;rfl):PG X (.Subscript o i pos) (gSub to ti t):=by
 intro pins s σ H v u Q I r h
 rw [ha]
 refine wpAny_bind (wpAny_holding (thn (ho pins s σ H _ I h) fun ov s1 ⟨x,H1,I1,r1,q1⟩=>?_))
 refine wpAny_bind (wpAny_holding (thn (hi pins s1 σ H1 _ I1 q1) fun iv s2 ⟨y,H2,I2,r2,q2⟩=>?_))
 refine wpAny_bind (wpAny_standAt (wpAny_bind (wpAny_holding (thn (hs pins s2 σ H2 x y v ov iv u _ I2 r1 r2 r q2) fun _ s3 ⟨H3,I3,q3⟩=>?_))))
 exact wpAny_release ⟨σ,H3,I3,q3⟩
def tAsg (te:TE) (g:TG):TS:=fun D σ H=>te σ H fun x H1=>g x σ H1 D.nx
theorem ps_asg {tg e:Expr} {te:TE} {g:TG} (he:PE X e te) (hg:PG X tg g) (hs:swapsWithSole [tg] e pos.line X.env=pure false:=by rfl) (hw:swappedStores [tg] e X.env=pure none:=by rfl)
  (h1:(assignEach [tg] X.env).map (·.2)=[assign tg X.env]:=by rfl):PS X (.Assign [tg] e pos) (tAsg te g):=by
 intro pins s σ H D I h
 refine wpAny_Assign_stores (thn (he pins s σ H _ I h) fun v s1 ⟨x,H1,I1,r1,q1⟩=>?_) hs hw
 rw [h1]
 exact thn (hg pins s1 σ H1 x v _ I1 r1 q1) fun _ s2 q=>q
theorem ps_set {i:Nat} {x:Str} {e:Expr} {te:TE} {pos':Pos} (hN:X.N.Nodup) (hi:X.N[i]?=some x) (hx:Loc X.env.scope x) (he:PE X e te) (hs:swapsWith e (some (.Name x pos')) pos.line X.env=pure false:=by rfl) (hf:X.fn x=true∨X.env.scope.names.lookup x=some .local:=by first | exact .inl rfl | exact .inr rfl | assumption) :
  PS X (.Assign [.Name x pos'] e pos) (tAsg te (gName i)):=by
 intro pins s σ H D I h
 refine wpAny_Assign_Name (thn (he pins s σ H _ I h) fun v s1 ⟨y,H1,I1,r1,q1⟩=>?_) hs
 exact store_ok I1 hN hi hx r1 (fun s2 I2=>⟨_,H1,I2,q1⟩) hf
def tAug (i:Nat) (te:TE) (ti:TIp):TS:=fun D σ H=>∃ x,σ[i]?=some (some x)∧te σ H fun y H1=>ti x y H1 fun z H2=>D.nx (σ.set i (some z)) H2
theorem ps_aug {i:Nat} {x:Str} {e:Expr} {te:TE} {op:Operator} {ti:TIp} {pos':Pos} (hN:X.N.Nodup) (hi:X.N[i]?=some x) (hx:Loc X.env.scope x) (he:PE X e te) (ho:PIp X op ti) (hf:X.fn x=true∨X.env.scope.names.lookup x=some .local:=by first | exact .inl rfl | exact .inr rfl | assumption) :
  PS X (.AugAssign (.Name x pos') op e pos) (tAug i te ti):=by
 intro pins s σ H D I h
 obtain ⟨v,e1,h⟩:=h
 obtain ⟨m,hn,hl⟩:=I.loc
 have vis:Vis X.env.scope x:=by rcases hx with k | k;exact .inl k;exact .inr (.inl k)
 obtain ⟨u,r,l⟩:=hl i x v hi e1 vis
 refine wpAny_AugAssign_Name ?_
 have go:wpAny (model X.prog X.w) X.A (eval e X.env) (fun w s₂=>wpAny (model X.prog X.w) X.A (inplaceOp op u w) (fun r s₃=>wpAny (model X.prog X.w) X.A (storeName X.env x r) (fun _=>SP X pins D .next) X.xe s₃) X.xe s₂) X.xe s:=by
  refine thn (he pins s σ H _ I h) fun w s1 ⟨y,H1,I1,r1,q1⟩=>?_
  refine thn (ho pins s1 σ H1 v y u w _ I1 r r1 q1) fun z s2 ⟨zv,H2,I2,r2,q2⟩=>?_
  exact store_ok I2 hN hi hx r2 (fun s3 I3=>⟨_,H2,I3,q2⟩) hf
 rcases l with ⟨hk,hm⟩ | ⟨hk,c,hc,hcell⟩
 ·exact wpAny_loadName_local I.ok.kind hk hn hm go
 ·rcases hk with hk | hk
  ·exact wpAny_loadName_cell I.ok.kind hk hc hcell go
  ·rcases hx with k | k
   ·have:X.env.scope.names.lookup x=some .free:=hk
    rw [k] at this;cases this
   ·have:X.env.scope.names.lookup x=some .free:=hk
    rw [k] at this;cases this
def ipI (f:Int→Int→Int):TIp:=fun x y H Q=>∃ i j,x=.int i∧y=.int j∧Q (.int (f i j)) H
theorem ip_add:PIp X .Add (ipI fun i j=>i+j):=by
 intro pins s σ H x y v u Q I r1 r2 h
 obtain ⟨i,j,e1,e2,q⟩:=h
 subst e1;subst e2
 obtain ⟨t,rfl⟩:=r1
 obtain ⟨t',rfl⟩:=r2
 exact iadd_int ⟨.int _,H,I.tok _,⟨_,rfl⟩,q⟩
end

/-! ### while -/
section
variable {X:Cx} {pos:Pos}
def tWhile (c:TT) (tb:TS):TS:=fun D σ H=>∃ W:Nat→St→Hp→Prop,(∃ m,W m σ H)∧∀ m σ H,W m σ H →
 c σ H fun b H1=>if b=true then ∃ N:St→Hp→Prop,(∀ σ' H',N σ' H'→∃ m',m' < m∧W m' σ' H')∧tb { D with nx:=N,ct:=N,bk:=D.nx } σ H1 else D.nx σ H1
theorem ps_while {c:Expr} {body:List Stmt} {tc:TT} {tb:TS} (hp:PassesOwn (model X.prog X.w) X.A X.env X.xe) (hc:PT X c tc) (hb:PSs X body tb):PS X (.While c body [] pos) (tWhile tc tb):=by
 intro pins s σ H D I h
 obtain ⟨W,⟨m0,w0⟩,turn⟩:=h
 refine wpAny_While (codeAny_whileLoop (fun n s'=>∃ σ' H',Inv X pins σ' H' s'∧W n σ' H') ?_ m0 ⟨σ,H,I,w0⟩)
 rintro n s1 ⟨σ1,H1,I1,w1⟩
 refine wpAny_passesOwn hp (thn (hc pins s1 σ1 H1 _ I1 (turn n σ1 H1 w1)) fun b s2 ⟨H2,I2,q2⟩=>?_)
 cases b with
 | true =>
  obtain ⟨N,hN,q2⟩:=q2
  rw [if_pos rfl]
  refine wpAny_passesOwn hp (thn (hb pins s2 σ1 H2 _ I2 q2) fun f s3 q3=>?_)
  cases f with
  | next =>
   obtain ⟨σ3,H3,I3,n3⟩:=q3
   obtain ⟨m',hm,w3⟩:=hN σ3 H3 n3
   exact ⟨m',hm,σ3,H3,I3,w3⟩
  | cont =>
   obtain ⟨σ3,H3,I3,n3⟩:=q3
   obtain ⟨m',hm,w3⟩:=hN σ3 H3 n3
   exact ⟨m',hm,σ3,H3,I3,w3⟩
  | brk=>exact q3
  | ret v=>exact q3
 | false =>
  rw [if_neg Bool.false_ne_true]
  exact wpAny_execs_nil ⟨σ1,H2,I2,q2⟩
end

/-! ### what a loop or a comprehension walks -/
structure It where
 go:Nat→Hp→Prop
 yld:Nat→Hp→V→Hp→Prop
 stop:Nat→Hp→Prop
def FpOk (X:Cx) (pins:List (Addr × Obj)) (H:Hp) (b:Addr):Prop :=
 H b=none∧b≠X.env.locals∧b∉X.fs∧(b∈X.ex∨X.s₀.heap.objs.size≤b)∧(∀ x c,X.env.cells.lookup x=some c→c≠b)∧∀ p∈X.pn++pins,p.1≠b
theorem Inv.fpOk {X:Cx} {pins:List (Addr × Obj)} {σ:St} {H H':Hp} {s:Shared} {b:Addr} (I:Inv X pins σ H s) (hb:s.heap.objs.size≤b) (hn:H' b=none):FpOk X pins H' b:=by
 refine ⟨hn,Nat.ne_of_gt (Nat.lt_of_lt_of_le I.lt hb),I.nofs hb,.inr (Nat.le_trans I.sz hb),fun x c e z=>?_,fun p hp z=>?_⟩
 ·obtain ⟨v,q⟩:=I.cell x c e
  exact absurd (Nat.lt_of_lt_of_le q.lt (by rw [z];exact hb)) (Nat.lt_irrefl _)
 ·exact absurd (Nat.lt_of_lt_of_le (Heap.lt_size (I.pin p hp).1) (by rw [z];exact hb)) (Nat.lt_irrefl _)
structure Turn (P:Program) (w:World) (K:PySem.W.Frag) (tg:Expr) (J:It) (fp:List Addr) (it:Addr) (tn:Nat→Heap→Prop):Prop where
 mem:it∈fp
 obj:∀ i h,tn i h→∀ b∈fp,∃ o,h.get? b=some o∧∀ v,o.data≠.cell v
 keep:∀ i h h',tn i h→(∀ b∈fp,∀ o,h.get? b=some o→h'.get? b=some o)→tn i h'
 item:∀ (X:Cx),X.prog=P→X.w=w→X.K=K→X.calm=true→∀ (i:Nat) (pins:List (Addr × Obj)) (s:Shared) (σ:St) (H:Hp) (E:Value→Shared→Prop),Inv X pins σ H s→(∀ b∈fp,FpOk X pins H b)→tn i s.heap→J.go i H →
  wpAny (model P w) X.A (pyNext (.ref it)) (fun r s1=>∃ u,r=some u ∧
   wpAny (model P w) X.A (letOwnedTupleGo tg (.ref it) u) (fun _ s2=>∃ x H',Inv X pins σ H' s2∧RelV x u∧J.yld i H x H'∧tn (i+1) s2.heap∧∀ b∈fp,H' b=none) E s1) E s
 done:∀ (X:Cx),X.prog=P→X.w=w→X.K=K→X.calm=true→∀ (i:Nat) (pins:List (Addr × Obj)) (s:Shared) (σ:St) (H:Hp) (E:Value→Shared→Prop),Inv X pins σ H s→(∀ b∈fp,FpOk X pins H b)→tn i s.heap→J.stop i H →
  wpAny (model P w) X.A (pyNext (.ref it)) (fun r s1=>r=none∧Inv X pins σ H s1) E s
 self:∀ (A:Around) (i:Nat) (s:Shared) (Q:Value→Shared→Prop) (E:Value→Shared→Prop),tn i s.heap→Q (.ref it) s→wpAny (model P w) A (pyIter (.ref it)) Q E s
abbrev TI:=St→Hp→(It→Hp→Prop)→Prop
def PIE (X:Cx) (pins:List (Addr × Obj)) (σ:St) (tg:Expr) (R:It→Hp→Prop) (itv:Value) (s2:Shared):Prop :=
 ∃ (it:Addr) (fp:List Addr) (tn:Nat→Heap→Prop) (J:It) (H':Hp),itv=.ref it∧Inv X pins σ H' s2∧Turn X.prog X.w X.K tg J fp it tn∧tn 0 s2.heap∧(∀ b∈fp,FpOk X pins H' b)∧R J H'
def PI (X:Cx) (tg iter:Expr) (wi:TI):Prop :=
 ∀ (pins:List (Addr × Obj)) (s:Shared) (σ:St) (H:Hp) (R:It→Hp→Prop),Inv X pins σ H s→wi σ H R →
  wpAny (model X.prog X.w) X.A (eval iter X.env) (fun v s1=>wpAny (model X.prog X.w) X.A (pyIter v) (PIE X pins σ tg R) X.xe s1) X.xe s

theorem go_of {M:Model} {A:Around} {E:Value→Shared→Prop} {s:Shared} {tg:Expr} {it:Addr} {u:Value} {o:Obj} {n:String} {vs:Array Value} {Q:Unit→Shared→Prop} (ho:s.heap.get? it=some o) (hc:o.cls=.type n) (hd:o.data=.fields vs)
  (hn:["enumerate","zip","dict_itemiterator","dict_reverseitemiterator","odict_iterator","itertools.zip_longest","itertools.pairwise"].contains n=false) (hQ:Q () s):wpAny M A (letOwnedTupleGo tg (.ref it) u) Q E s:=by
 unfold letOwnedTupleGo
 cases tg<;>first
  | exact wpAny_pure hQ
  | (cases u<;>first
    | exact wpAny_pure hQ
    | (refine wpAny_bind (wpAny_load ho ?_)
       rw [hc,hd]
       show wpAny M A (if (["enumerate","zip","dict_itemiterator","dict_reverseitemiterator","odict_iterator","itertools.zip_longest","itertools.pairwise"].contains n && vs[0]? == some (rawInt _))=true then _ else _) Q E s
       rw [if_neg (by intro h;rw [hn,Bool.false_and] at h;cases h)]
       exact wpAny_pure hQ))

def Itl (K:PySem.W.Frag) (a:Addr):It :=
 ⟨fun i H=>∃ xs x,SqL K H a xs∧xs[i]?=some x,fun i H x H'=>H'=H∧∀ xs,SqL K H a xs→xs[i]?=some x,fun i H=>∃ xs,SqL K H a xs∧xs.length≤i⟩
def Itt (K:PySem.W.Frag) (a:Addr):It :=
 ⟨fun i H=>∃ xs x,SqT K H a xs∧xs[i]?=some x,fun i H x H'=>H'=H∧∀ xs,SqT K H a xs→xs[i]?=some x,fun i H=>∃ xs,SqT K H a xs∧xs.length≤i⟩
def Itr (lo:Int) (n:Nat):It:=⟨fun i _=>i < n,fun i H x H'=>H'=H∧x=.int (lo+i),fun i _=>n≤i⟩
theorem turn_list {P:Program} {w:World} {K:PySem.W.Frag} {tg:Expr} (a it:Addr):Turn P w K tg (Itl K a) [it] it (fun i h=>h.IsListIter it a i) where
 mem:=by simp
 obj:=fun i h st b hb=>by
  have e:b=it:=by simpa using hb
  subst e
  obtain ⟨o,e,c,d⟩:=st
  exact ⟨o,e,fun v z=>by rw [d] at z;cases z⟩
 keep:=fun i h h' st k=>st.at fun o e=>k it (by simp) o e
 item:=by
  intro X hP hw hK hc i pins s σ H E I hf st hg
  subst hP hw hK
  obtain ⟨xs,x,hq,hx⟩:=hg
  obtain ⟨its,rv,p,hz⟩:=I.list hq
  obtain ⟨u,hu,ru⟩:=rv.get hx
  obtain ⟨f0,f1,f2,f3,f4,f5⟩:=hf it (by simp)
  refine wpAny_pyNext_list_item st p.isList (x:=u) (by simpa using hu) fun h' st' sb=>?_
  have I1:Inv X pins σ H { s with heap:=h' }:=I.turned (t':=s.toks) (fun b o hb e=>(sb.2 b hb).trans e) f0 f1 f3 f4 f5
  obtain ⟨o,e,c,d⟩:=id st'
  exact ⟨u,rfl,go_of (s:={ s with heap:=h' }) e c d (by decide) ⟨x,H,I1,ru,⟨rfl,fun ys hy=>by rw [I.list_inj hy hq];exact hx⟩,st',fun b hb=>(hf b hb).1⟩⟩
 done:=by
  intro X hP hw hK hc i pins s σ H E I hf st hg
  subst hP hw hK
  obtain ⟨xs,hq,hx⟩:=hg
  obtain ⟨its,rv,p,hz⟩:=I.list hq
  obtain ⟨f0,f1,f2,f3,f4,f5⟩:=hf it (by simp)
  have hl:=rv.length
  exact wpAny_pyNext_list_end (I.ok.hd hc) st p.isList (by simp;omega) fun h' eb=>⟨rfl,I.turned (t':=s.toks) (fun b o hb e=>eb b o hb e) f0 f1 f3 f4 f5⟩
 self:=fun _ _ _ _ _ st h=>wpAny_pyIter_listiter st h
theorem turn_tuple {P:Program} {w:World} {K:PySem.W.Frag} {tg:Expr} (a it:Addr):Turn P w K tg (Itt K a) [it] it (fun i h=>h.IsTupleIter it a i) where
 mem:=by simp
 obj:=fun i h st b hb=>by
  have e:b=it:=by simpa using hb
  subst e
  obtain ⟨o,e,c,d⟩:=st
  exact ⟨o,e,fun v z=>by rw [d] at z;cases z⟩
 keep:=fun i h h' st k=>st.at fun o e=>k it (by simp) o e
 item:=by
  intro X hP hw hK hc i pins s σ H E I hf st hg
  subst hP hw hK
  obtain ⟨xs,x,hq,hx⟩:=hg
  obtain ⟨its,rv,p,hz⟩:=I.tuple hq
  obtain ⟨u,hu,ru⟩:=rv.get hx
  obtain ⟨f0,f1,f2,f3,f4,f5⟩:=hf it (by simp)
  refine wpAny_pyNext_tuple_item st (show s.heap.IsTuple a its.toArray from p) (x:=u) (by simpa using hu) fun h' st' sb=>?_
  have I1:Inv X pins σ H { s with heap:=h' }:=I.turned (t':=s.toks) (fun b o hb e=>(sb.2 b hb).trans e) f0 f1 f3 f4 f5
  obtain ⟨o,e,c,d⟩:=id st'
  exact ⟨u,rfl,go_of (s:={ s with heap:=h' }) e c d (by decide) ⟨x,H,I1,ru,⟨rfl,fun ys hy=>by rw [I.tuple_inj hy hq];exact hx⟩,st',fun b hb=>(hf b hb).1⟩⟩
 done:=by
  intro X hP hw hK hc i pins s σ H E I hf st hg
  subst hP hw hK
  obtain ⟨xs,hq,hx⟩:=hg
  obtain ⟨its,rv,p,hz⟩:=I.tuple hq
  obtain ⟨f0,f1,f2,f3,f4,f5⟩:=hf it (by simp)
  have hl:=rv.length
  exact wpAny_pyNext_tuple_end (I.ok.hd hc) st (show s.heap.IsTuple a its.toArray from p) (by simp;omega) fun h' eb=>⟨rfl,I.turned (t':=s.toks) (fun b o hb e=>eb b o hb e) f0 f1 f3 f4 f5⟩
 self:=fun _ _ _ _ _ st h=>wpAny_pyIter_tupleiter st h
theorem turn_range {P:Program} {w:World} {K:PySem.W.Frag} {tg:Expr} (it:Addr) (lo:Int) (n:Nat):Turn P w K tg (Itr lo n) [it] it (fun i h=>IsRangeIter h it (lo+(i:Nat)*1) ((n:Int) - (i:Nat)) 1) where
 mem:=by simp
 obj:=fun i h st b hb=>by
  have e:b=it:=by simpa using hb
  subst e
  exact ⟨_,st,fun v z=>by
   have z':Data.fields _=Data.cell v:=z
   cases z'⟩
 keep:=fun i h h' st k=>k it (by simp) _ st
 item:=by
  intro X hP hw hK hc i pins s σ H E I hf st hg
  subst hP hw hK
  obtain ⟨f0,f1,f2,f3,f4,f5⟩:=hf it (by simp)
  have W:=Walks.range (prog:=X.prog) (w:=X.w) (I.ok.hd hc) it lo 1 n
  refine W.item i s _ _ hg st fun v h' tk hv st' kk=>?_
  obtain ⟨t,rfl⟩:=hv
  have I1:Inv X pins σ H { s with heap:=h',toks:=tk }:=I.turned (fun b o hb e=>kk b o (by simpa using hb) e) f0 f1 f3 f4 f5
  refine ⟨_,rfl,go_of (s:={ s with heap:=h',toks:=tk }) (n:="range_iterator") st' rfl rfl (by decide) ⟨.int (lo+i),H,I1,⟨t,?_⟩,⟨rfl,rfl⟩,st',fun b hb=>(hf b hb).1⟩⟩
  rw [Int.mul_one]
 done:=by
  intro X hP hw hK hc i pins s σ H E I hf st hg
  subst hP hw hK
  obtain ⟨f0,f1,f2,f3,f4,f5⟩:=hf it (by simp)
  exact wpAny_pyNext_range_end (I.ok.hd hc) st (by have:n≤i:=hg;omega) fun h' eb=>⟨rfl,I.turned (t':=s.toks) (fun b o hb e=>eb b o hb e) f0 f1 f3 f4 f5⟩
 self:=fun _ _ _ _ _ st h=>wpAny_pyIter_rangeiter st h
end L2

namespace L2
open PySem PySem.Spec PyProof.Rows
section
variable {X:Cx} {tg:Expr}
def iList (K:PySem.W.Frag) (tl:TE):TI:=fun σ H R=>tl σ H fun x H1=>∃ a,x=.ref a∧(∃ xs,SqL K H1 a xs)∧R (Itl K a) H1
def iTup (K:PySem.W.Frag) (tl:TE):TI:=fun σ H R=>tl σ H fun x H1=>∃ a,x=.ref a∧(∃ xs,SqT K H1 a xs)∧R (Itt K a) H1
theorem pi_list {l:Expr} {tl:TE} (hl:PE X l tl):PI X tg l (iList X.K tl):=by
 intro pins s σ H R I h
 refine thn (hl pins s σ H _ I h) fun v s1 ⟨x,H1,I1,r1,q1⟩=>?_
 obtain ⟨a,e,⟨xs,hq⟩,q⟩:=q1
 subst e
 cases r1
 obtain ⟨its,rv,p,hz⟩:=I1.list hq
 refine wpAny_pyIter_list p.isList ?_
 refine ⟨s1.heap.objs.size,[s1.heap.objs.size],_,_,H1,rfl,I1.kept (t':=s1.toks) fun b o e=>Heap.get?_push_of_some _ e,turn_list a _,⟨_,Heap.get?_push_size _ rfl,rfl,rfl⟩,fun b hb=>?_,q⟩
 have e:b=s1.heap.objs.size:=by simpa using hb
 subst e
 exact I1.fpOk (Nat.le_refl _) (I1.hok.fresh (Nat.le_refl _))
theorem pi_tup {l:Expr} {tl:TE} (hl:PE X l tl):PI X tg l (iTup X.K tl):=by
 intro pins s σ H R I h
 refine thn (hl pins s σ H _ I h) fun v s1 ⟨x,H1,I1,r1,q1⟩=>?_
 obtain ⟨a,e,⟨xs,hq⟩,q⟩:=q1
 subst e
 cases r1
 obtain ⟨its,rv,p,hz⟩:=I1.tuple hq
 refine wpAny_pyIter_tuple (show s1.heap.IsTuple a its.toArray from p) ?_
 refine ⟨s1.heap.objs.size,[s1.heap.objs.size],_,_,H1,rfl,I1.kept (t':=s1.toks) fun b o e=>Heap.get?_push_of_some _ e,turn_tuple a _,⟨_,Heap.get?_push_size _ rfl,rfl,rfl⟩,fun b hb=>?_,q⟩
 have e:b=s1.heap.objs.size:=by simpa using hb
 subst e
 exact I1.fpOk (Nat.le_refl _) (I1.hok.fresh (Nat.le_refl _))
theorem range_it {pins:List (Addr × Obj)} {σ:St} {H:Hp} {s:Shared} {R:It→Hp→Prop} {E:Value→Shared→Prop} {lo hi:Int} {t u v:Tok} {tk:Nat} (I:Inv X pins σ H s) (h1:-(2 ^ 62)≤lo) (h2:lo < 2 ^ 62) (h3:-(2 ^ 62)≤hi) (h4:hi < 2 ^ 62)
  (q:R (Itr lo (hi - lo).toNat) H):wpAny (model X.prog X.w) X.A (pyIter (.ref s.heap.objs.size)) (PIE X pins σ tg R) E { s with heap:=s.heap.push { cls:=.type "range",data:=.fields #[.int lo t,.int hi u,.int 1 v] },toks:=tk }:=by
 refine wpAny_pyIter_range (IsRange.new ..) (small_one h1 h2 h3 h4) ?_
 have I1:Inv X pins σ H { s with heap:=s.heap.push { cls:=.type "range",data:=.fields #[.int lo t,.int hi u,.int 1 v] },toks:=tk }:=I.kept fun b o e=>Heap.get?_push_of_some _ e
 refine ⟨(s.heap.push { cls:=.type "range",data:=.fields #[.int lo t,.int hi u,.int 1 v] }).objs.size,[(s.heap.push { cls:=.type "range",data:=.fields #[.int lo t,.int hi u,.int 1 v] }).objs.size],_,_,H,rfl,
  I1.kept (t':=tk) fun b o e=>Heap.get?_push_of_some _ e,turn_range _ lo (hi - lo).toNat,?_,fun b hb=>?_,q⟩
 ·have e1:lo+((0:Nat):Int)*1=lo:=by simp
  have e2:(((hi - lo).toNat:Nat):Int) - ((0:Nat):Int)=Builtin.Range.rangeSize lo hi 1:=by rw [rangeSize_one];split<;>omega
  show IsRangeIter _ _ (lo+((0:Nat):Int)*1) ((((hi - lo).toNat:Nat):Int) - ((0:Nat):Int)) 1
  rw [e1,e2]
  exact Heap.get?_push_size _ rfl
 ·have e:b=(s.heap.push { cls:=.type "range",data:=.fields #[.int lo t,.int hi u,.int 1 v] }).objs.size:=by simpa using hb
  subst e
  exact I1.fpOk (Nat.le_refl _) (I1.hok.fresh (Nat.le_refl _))
def iRng1 (ta:TA):TI:=fun σ H R=>ta σ H fun vs H1=>∃ j:Int,vs=[.int j]∧-(2 ^ 62)≤j∧j < 2 ^ 62∧R (Itr 0 j.toNat) H1
theorem pi_range1 {a:Expr} {ta:TA} {p pos:Pos} (hg:Gl X "range") (hm:X.mg "range"=none) (ha:PA X [a] ta) (hs:starEach [a] X.env=[(false,eval a X.env)]:=by rfl):PI X tg (.Call (.Name "range" p) [a] [] pos) (iRng1 ta):=by
 intro pins s σ H R I h
 refine Call_ (ld_blt I hg hm boot_range (PyProof.Rows.callWith_type1 (thn (ha pos pins s σ H _ I h) fun us s1 ⟨vs,H1,I1,r1,q1⟩=>?_) hs rfl))
 obtain ⟨j,e,q1,q2,q⟩:=q1
 subst e
 cases r1 with
 | cons r rr =>
  cases rr
  obtain ⟨t,rfl⟩:=r
  exact call_range_1 (range_it I1 (by omega) (by omega) q1 q2 (by simpa using q))
/-! ### for -/
def tFor (wi:TI) (g:TG) (tb:TS):TS:=fun D σ H=>wi σ H fun J H1=>∃ W:Nat→Nat→St→Hp→Prop,(∃ m,W 0 m σ H1)∧∀ i m σ H,W i m σ H →
 (J.stop i H∧D.nx σ H)∨(J.go i H∧∃ N:St→Hp→Prop,(∀ σ' H',N σ' H'→∃ m',m' < m∧W (i+1) m' σ' H')∧∀ x H',J.yld i H x H'→g x σ H' fun σ2 H2=>tb { D with nx:=N,ct:=N,bk:=D.nx } σ2 H2)
def pinsAt (fp:List Addr) (h:Heap):List (Addr × Obj):=fp.filterMap fun b=>(h.get? b).map fun o=>(b,o)
theorem mem_pinsAt {fp:List Addr} {h:Heap} {b:Addr} {o:Obj} (hb:b∈fp) (e:h.get? b=some o):(b,o)∈pinsAt fp h:=List.mem_filterMap.mpr ⟨b,hb,by rw [e];rfl⟩
theorem of_pinsAt {fp:List Addr} {h:Heap} {p:Addr × Obj} (hp:p∈pinsAt fp h):p.1∈fp∧h.get? p.1=some p.2:=by
 obtain ⟨b,hb,e⟩:=List.mem_filterMap.mp hp
 cases q:h.get? b with
 | none=>rw [q] at e;cases e
 | some o =>
  rw [q] at e
  have e':(b,o)=p:=Option.some.inj e
  subst e'
  exact ⟨hb,q⟩
theorem Inv.pinned {pins:List (Addr × Obj)} {σ:St} {H:Hp} {s:Shared} {fp:List Addr} (I:Inv X pins σ H s) (hf:∀ b∈fp,FpOk X pins H b) (ho:∀ b∈fp,∃ o,s.heap.get? b=some o∧∀ v,o.data≠.cell v):Inv X (pins++pinsAt fp s.heap) σ H s :=
 I.pins_of fun p hp=>(List.mem_append.mp hp).elim (fun z=>I.pin p (List.mem_append_right _ z)) fun z=>by
  obtain ⟨hb,e⟩:=of_pinsAt z
  obtain ⟨f0,f1,f2,_⟩:=hf p.1 hb
  obtain ⟨o,e',d⟩:=ho p.1 hb
  rw [e] at e';cases e'
  exact ⟨e,f0,f1,f2,d⟩
theorem Inv.unpinned {pins pl:List (Addr × Obj)} {σ:St} {H:Hp} {s:Shared} (I:Inv X (pins++pl) σ H s):Inv X pins σ H s:=I.pins_of fun p hp=>I.pin p (List.mem_append_right _ (List.mem_append_left _ hp))
theorem ps_for {iter:Expr} {body:List Stmt} {wi:TI} {g:TG} {tb:TS} {pos:Pos} (hp:PassesOwn (model X.prog X.w) X.A X.env X.xe) (hc:X.calm=true) (hi:PI X tg iter wi) (hg:PG X tg g) (hb:PSs X body tb)
  (hs:∀ x,foldedSetIterable iter X.env x=pure x:=by intro _;rfl):PS X (.For tg iter body [] pos) (tFor wi g tb):=by
 intro pins s σ H D I h
 refine wpAny_For (thn (hi pins s σ H _ I h) fun v s1 h1=>thn h1 fun itv s2 h2=>?_) hs
 obtain ⟨it,fp,tn,J,H2,e,I2,T,st2,f2,W,⟨m0,w0⟩,turn⟩:=h2
 subst e
 -- what stays true of the iterator's objects through the loop
 have stat:∀ {H':Hp},(∀ b∈fp,H' b=none)→∀ b∈fp,FpOk X pins H' b:=fun hn b hb=>⟨hn b hb,(f2 b hb).2⟩
 refine codeAny_forLoop_any (fun n s'=>∃ i σ' H',Inv X pins σ' H' s'∧tn i s'.heap∧(∀ b∈fp,H' b=none)∧W i n σ' H') ?_ m0 ⟨0,σ,H2,I2,st2,fun b hb=>(f2 b hb).1,w0⟩
 rintro n s3 ⟨i,σ3,H3,I3,st3,fr3,w3⟩
 rcases turn i n σ3 H3 w3 with ⟨stop,qn⟩ | ⟨go,N,hN,step⟩
 ·refine wpAny_passesOwn hp (thn (T.done X rfl rfl rfl hc i pins s3 σ3 H3 X.xe I3 (stat fr3) st3 stop) fun r s4 ⟨hr,I4⟩=>?_)
  subst hr
  exact wpAny_execs_nil ⟨σ3,H3,I4,qn⟩
 ·refine wpAny_passesOwn hp (thn (T.item X rfl rfl rfl hc i pins s3 σ3 H3 X.xe I3 (stat fr3) st3 go) fun r s4 ⟨u,hr,h4⟩=>?_)
  subst hr
  refine wpAny_passesOwn hp (thn h4 fun _ s5 ⟨x,H5,I5,r5,y5,st5,fr5⟩=>?_)
  have I5':=I5.pinned (stat fr5) (T.obj _ _ st5)
  refine wpAny_passesOwn hp (thn (hg _ s5 σ3 H5 x u _ I5' r5 (step x H5 y5)) fun _ s6 ⟨σ6,H6,I6,q6⟩=>?_)
  refine wpAny_passesOwn hp (thn (hb _ s6 σ6 H6 _ I6 q6) fun f s7 q7=>?_)
  have again:∀ {σ7:St} {H7:Hp},Inv X (pins++pinsAt fp s5.heap) σ7 H7 s7→N σ7 H7→∃ m,m < n∧∃ i σ' H',Inv X pins σ' H' s7∧tn i s7.heap∧(∀ b∈fp,H' b=none)∧W i m σ' H':=fun {σ7 H7} I7 n7=>by
   obtain ⟨m',hm,w7⟩:=hN σ7 H7 n7
   refine ⟨m',hm,i+1,σ7,H7,I7.unpinned,T.keep _ _ _ st5 fun b hb o e=>(I7.pin (b,o) (List.mem_append_right _ (List.mem_append_right _ (mem_pinsAt hb e)))).1,fun b hb=>?_,w7⟩
   obtain ⟨o,e,d⟩:=T.obj _ _ st5 b hb
   exact (I7.pin (b,o) (List.mem_append_right _ (List.mem_append_right _ (mem_pinsAt hb e)))).2.1
  cases f with
  | next=>obtain ⟨σ7,H7,I7,n7⟩:=q7;exact again I7 n7
  | cont=>obtain ⟨σ7,H7,I7,n7⟩:=q7;exact again I7 n7
  | brk=>obtain ⟨σ7,H7,I7,q7⟩:=q7;exact ⟨σ7,H7,I7.unpinned,q7⟩
  | ret v=>obtain ⟨x7,σ7,H7,I7,r7,q7⟩:=q7;exact ⟨x7,σ7,H7,I7.unpinned,r7,q7⟩
end

/-! ### the forms one uses -/
theorem for_list {K:PySem.W.Frag} {a:Addr} {xs:List V} {g:TG} {tb:TS} {D:Ends} {σ:St} {H:Hp} (Pv:Nat→St→Hp→Prop) (h0:Pv 0 σ H) (hl:∀ i σ H,i≤xs.length→Pv i σ H→SqL K H a xs)
  (hs:∀ i x σ H,xs[i]?=some x→Pv i σ H→g x σ H fun σ2 H2=>tb { D with nx:=Pv (i+1),ct:=Pv (i+1),bk:=D.nx } σ2 H2) (hd:∀ σ H,Pv xs.length σ H→D.nx σ H) :
  ∃ W:Nat→Nat→St→Hp→Prop,(∃ m,W 0 m σ H)∧∀ i m σ H,W i m σ H →
   ((Itl K a).stop i H∧D.nx σ H)∨((Itl K a).go i H∧∃ N:St→Hp→Prop,(∀ σ' H',N σ' H'→∃ m',m' < m∧W (i+1) m' σ' H')∧∀ x H',(Itl K a).yld i H x H'→g x σ H' fun σ2 H2=>tb { D with nx:=N,ct:=N,bk:=D.nx } σ2 H2):=by
 refine ⟨fun i m σ H=>m=xs.length - i∧i≤xs.length∧Pv i σ H,⟨xs.length,by simp,Nat.zero_le _,h0⟩,?_⟩
 rintro i m σ H ⟨rfl,hi,p⟩
 have q:=hl i σ H hi p
 by_cases hlt:i < xs.length
 ·refine .inr ⟨⟨xs,xs[i],q,by simp [hlt]⟩,Pv (i+1),fun σ' H' p'=>⟨xs.length - (i+1),by omega,rfl,hlt,p'⟩,fun x H' y=>?_⟩
  obtain ⟨e,y⟩:=y
  subst e
  exact hs i x σ _ (y xs q) p
 ·have e:i=xs.length:=by omega
  subst e
  exact .inl ⟨⟨xs,q,Nat.le_refl _⟩,hd σ H p⟩
theorem for_tup {K:PySem.W.Frag} {a:Addr} {xs:List V} {g:TG} {tb:TS} {D:Ends} {σ:St} {H:Hp} (Pv:Nat→St→Hp→Prop) (h0:Pv 0 σ H) (hl:∀ i σ H,i≤xs.length→Pv i σ H→SqT K H a xs)
  (hs:∀ i x σ H,xs[i]?=some x→Pv i σ H→g x σ H fun σ2 H2=>tb { D with nx:=Pv (i+1),ct:=Pv (i+1),bk:=D.nx } σ2 H2) (hd:∀ σ H,Pv xs.length σ H→D.nx σ H) :
  ∃ W:Nat→Nat→St→Hp→Prop,(∃ m,W 0 m σ H)∧∀ i m σ H,W i m σ H →
   ((Itt K a).stop i H∧D.nx σ H)∨((Itt K a).go i H∧∃ N:St→Hp→Prop,(∀ σ' H',N σ' H'→∃ m',m' < m∧W (i+1) m' σ' H')∧∀ x H',(Itt K a).yld i H x H'→g x σ H' fun σ2 H2=>tb { D with nx:=N,ct:=N,bk:=D.nx } σ2 H2):=by
 refine ⟨fun i m σ H=>m=xs.length - i∧i≤xs.length∧Pv i σ H,⟨xs.length,by simp,Nat.zero_le _,h0⟩,?_⟩
 rintro i m σ H ⟨rfl,hi,p⟩
 have q:=hl i σ H hi p
 by_cases hlt:i < xs.length
 ·refine .inr ⟨⟨xs,xs[i],q,by simp [hlt]⟩,Pv (i+1),fun σ' H' p'=>⟨xs.length - (i+1),by omega,rfl,hlt,p'⟩,fun x H' y=>?_⟩
  obtain ⟨e,y⟩:=y
  subst e
  exact hs i x σ _ (y xs q) p
 ·have e:i=xs.length:=by omega
  subst e
  exact .inl ⟨⟨xs,q,Nat.le_refl _⟩,hd σ H p⟩
theorem for_range {lo:Int} {n:Nat} {g:TG} {tb:TS} {D:Ends} {σ:St} {H:Hp} (Pv:Nat→St→Hp→Prop) (h0:Pv 0 σ H)
  (hs:∀ i σ H,i < n→Pv i σ H→g (.int (lo+i)) σ H fun σ2 H2=>tb { D with nx:=Pv (i+1),ct:=Pv (i+1),bk:=D.nx } σ2 H2) (hd:∀ σ H,Pv n σ H→D.nx σ H) :
  ∃ W:Nat→Nat→St→Hp→Prop,(∃ m,W 0 m σ H)∧∀ i m σ H,W i m σ H →
   ((Itr lo n).stop i H∧D.nx σ H)∨((Itr lo n).go i H∧∃ N:St→Hp→Prop,(∀ σ' H',N σ' H'→∃ m',m' < m∧W (i+1) m' σ' H')∧∀ x H',(Itr lo n).yld i H x H'→g x σ H' fun σ2 H2=>tb { D with nx:=N,ct:=N,bk:=D.nx } σ2 H2):=by
 refine ⟨fun i m σ H=>m=n - i∧i≤n∧Pv i σ H,⟨n,by simp,Nat.zero_le _,h0⟩,?_⟩
 rintro i m σ H ⟨rfl,hi,p⟩
 by_cases hlt:i < n
 ·refine .inr ⟨hlt,Pv (i+1),fun σ' H' p'=>⟨n - (i+1),by omega,rfl,hlt,p'⟩,fun x H' y=>?_⟩
  obtain ⟨e,y⟩:=y
  subst e y
  exact hs i σ _ hlt p
 ·have e:i=n:=by omega
  subst e
  exact .inl ⟨Nat.le_refl _,hd σ H p⟩
end L2

namespace L2
open PySem PySem.Spec PyProof.Rows

abbrev R2:=V→V→Hp→VK→Prop
def OpR (X:Cx) (f:Value→Value→Sem Value) (r:R2):Prop :=
 ∀ (pins:List (Addr × Obj)) (s:Shared) (σ:St) (H:Hp) (x y:V) (v u:Value) (Q:VK),Inv X pins σ H s→RelV x v→RelV y u→r x y H Q →
  wpAny (model X.prog X.w) X.A (f v u) (EP X pins σ Q) X.xe s
def CallR (X:Cx) (f:Value) (r:List V→Hp→VK→Prop):Prop :=
 ∀ (pins:List (Addr × Obj)) (s:Shared) (σ:St) (H:Hp) (xs:List V) (us:List Value) (Q:VK),Inv X pins σ H s→Vals xs us→r xs H Q →
  wpAny (model X.prog X.w) X.A (call f us) (EP X pins σ Q) X.xe s
def tOp (r:R2) (ta tb:TE):TE:=fun σ H Q=>ta σ H fun x H1=>tb σ H1 fun y H2=>r x y H2 Q
def rI (C:Int→Int→Prop) (g:Int→Int→V):R2:=fun x y H Q=>∃ i j,x=.int i∧y=.int j∧C i j∧Q (g i j) H
def rI0 (g:Int→Int→V):R2:=fun x y H Q=>∃ i j,x=.int i∧y=.int j∧Q (g i j) H
section
variable {X:Cx} {a b c:Expr} {ta tb tc:TE} {pos:Pos}

theorem binT (ha:PE X a ta) (hb:PE X b tb) {pins:List (Addr × Obj)} {s:Shared} {σ:St} {H:Hp} {R:V→V→Hp→Prop} (I:Inv X pins σ H s)
  (h:ta σ H fun x H1=>tb σ H1 fun y H2=>R x y H2) {Q:Value→Shared→Prop} {f:Value→Value→Sem Value}
  (hf:∀ v u s2 x y H2,Inv X pins σ H2 s2→RelV x v→RelV y u→R x y H2→wpAny (model X.prog X.w) X.A (f v u) Q X.xe s2) :
  wpAny (model X.prog X.w) X.A (eval a X.env) (fun v s₁=>wpAny (model X.prog X.w) X.A (eval b X.env) (fun u s₂=>wpAny (model X.prog X.w) X.A (f v u) Q X.xe s₂) X.xe s₁) X.xe s:=by
 refine thn (ha pins s σ H _ I h) fun v s1 ⟨x,H1,I1,r1,q1⟩=>?_
 refine thn (hb pins s1 σ H1 _ I1 q1) fun u s2 ⟨y,H2,I2,r2,q2⟩=>?_
 exact hf v u s2 x y H2 I2 r1 r2 q2

theorem pe_op {op:Operator} {r:R2} (ho:OpR X (binaryOp op) r) (ha:PE X a ta) (hb:PE X b tb):PE X (.BinOp a op b pos) (tOp r ta tb):=by
 intro pins s σ H Q I h
 exact wpAny_BinOp (binT ha hb I h fun v u s2 x y H2 I2 rx ry q=>ho pins s2 σ H2 x y v u Q I2 rx ry q)
/-! ### ints -/
theorem opI {f:Value→Value→Sem Value} {C:Int→Int→Prop} {g:Int→Int→Int}
  (rule:∀ (i j:Int) (t u:Tok) (s:Shared) (Q:Value→Shared→Prop) (E:Value→Shared→Prop),C i j→Q (.int (g i j) s.toks) { s with toks:=s.toks+1 }→wpAny (model X.prog X.w) X.A (f (.int i t) (.int j u)) Q E s) :
  OpR X f (rI C fun i j=>.int (g i j)):=by
 intro pins s σ H x y v u Q I rx ry h
 obtain ⟨i,j,rfl,rfl,hc,q⟩:=h
 obtain ⟨t,rfl⟩:=rx
 obtain ⟨t',rfl⟩:=ry
 exact rule i j t t' s _ _ hc ⟨.int (g i j),H,I.tok _,⟨_,rfl⟩,q⟩
theorem opI0 {f:Value→Value→Sem Value} {g:Int→Int→Int}
  (rule:∀ (i j:Int) (t u:Tok) (s:Shared) (Q:Value→Shared→Prop) (E:Value→Shared→Prop),Q (.int (g i j) s.toks) { s with toks:=s.toks+1 }→wpAny (model X.prog X.w) X.A (f (.int i t) (.int j u)) Q E s) :
  OpR X f (rI0 fun i j=>.int (g i j)):=by
 intro pins s σ H x y v u Q I rx ry h
 obtain ⟨i,j,rfl,rfl,q⟩:=h
 obtain ⟨t,rfl⟩:=rx
 obtain ⟨t',rfl⟩:=ry
 exact rule i j t t' s _ _ ⟨.int (g i j),H,I.tok _,⟨_,rfl⟩,q⟩
theorem opB0 {f:Value→Value→Sem Value} {g:Int→Int→Bool}
  (rule:∀ (i j:Int) (t u:Tok) (s:Shared) (Q:Value→Shared→Prop) (E:Value→Shared→Prop),Q (.bool (g i j)) s→wpAny (model X.prog X.w) X.A (f (.int i t) (.int j u)) Q E s) :
  OpR X f (rI0 fun i j=>.bl (g i j)):=by
 intro pins s σ H x y v u Q I rx ry h
 obtain ⟨i,j,rfl,rfl,q⟩:=h
 obtain ⟨t,rfl⟩:=rx
 obtain ⟨t',rfl⟩:=ry
 exact rule i j t t' s _ _ ⟨.bl (g i j),H,I,rfl,q⟩

def CDiv (i j:Int):Prop:=0 < j∧j < 1073741824
def CPow (i j:Int):Prop:=0≤j∧j≤1000000∧i.natAbs < 2 ^ 64
def CMul (i j:Int):Prop:=(-(2 ^ 64) < i∧i < 2 ^ 64)∨(-(2 ^ 64) < j∧j < 2 ^ 64)
theorem CMul.ok {i j:Int} (h:CMul i j):IntMulOk i j:=by
 rcases h with ⟨h1,h2⟩ | ⟨h1,h2⟩
 ·exact .of_left (intBits_le_64 h1 h2)
 ·exact .of_right (intBits_le_64 h1 h2)
theorem op_add:OpR X (binaryOp .Add) (rI0 fun i j=>.int (i+j)):=opI0 fun _ _ _ _ _ _ _ q=>add_int q
theorem op_sub:OpR X (binaryOp .Sub) (rI0 fun i j=>.int (i - j)):=opI0 fun _ _ _ _ _ _ _ q=>sub_int q
theorem op_mul:OpR X (binaryOp .Mult) (rI CMul fun i j=>.int (i*j)):=opI fun _ _ _ _ _ _ _ hc q=>mul_int q hc.ok
theorem op_fdiv:OpR X (binaryOp .FloorDiv) (rI CDiv fun i j=>.int (i / j)):=opI fun i j _ _ _ _ _ hc q=>by
 have h1:(0:Int) < j:=hc.1
 have h2:j < 1073741824:=hc.2
 exact floordiv_int (by omega) (by rw [Int.fdiv_eq_ediv_of_nonneg i (by omega)];exact q) (.inl (PyProof.noPylong_small (by omega)))
theorem op_mod:OpR X (binaryOp .Mod) (rI (fun _ j=>0 < j) fun i j=>.int (i % j)):=opI fun i j _ _ _ _ _ hc q=>by
 have h1:(0:Int) < j:=hc
 exact mod_int' (by omega) (by rw [Int.fmod_eq_emod_of_nonneg i (by omega)];exact q)
theorem op_pow:OpR X (binaryOp .Pow) (rI CPow fun i j=>.int (i ^ j.toNat)):=opI fun _ _ _ _ _ _ _ hc q=>pow_int_small hc.1 hc.2.1 hc.2.2 q
/-! ### bools among ints: n += (a < b) -/
end

/-! ### comparisons -/
def scal:V→V→Bool
 | .non,.non=>true | .non,.int _=>true | .int _,.non=>true | .non,.bl _=>true | .bl _,.non=>true | .non,.str _=>true | .str _,.non=>true
 | .int _,.int _=>true | .bl _,.bl _=>true | .str _,.str _=>true | .byt _,.byt _=>true
 | .int _,.str _=>true | .str _,.int _=>true | .bl _,.str _=>true | .str _,.bl _=>true
 | _,_=>false
def rEq:R2:=fun x y H Q=>scal x y=true∧Q (.bl (decide (x=y))) H
def rNe:R2:=fun x y H Q=>scal x y=true∧Q (.bl (!decide (x=y))) H

theorem dec_int {i j:Int}:decide (V.int i=V.int j)=(i == j):=by
 rw [Bool.eq_iff_iff]
 simp
theorem dec_bl {i j:Bool}:decide (V.bl i=V.bl j)=(i == j):=by
 rw [Bool.eq_iff_iff]
 simp
theorem dec_str {i j:Str}:decide (V.str i=V.str j)=(i == j):=by
 rw [Bool.eq_iff_iff]
 simp
theorem dec_byt {i j:Array UInt8}:decide (V.byt i=V.byt j)=(i.toList == j.toList):=by
 rw [Bool.eq_iff_iff]
 cases i
 cases j
 simp

section
variable {X:Cx} {a b c:Expr} {ta tb tc:TE} {pos:Pos}
theorem fin_bl {pins:List (Addr × Obj)} {σ:St} {H:Hp} {s:Shared} {Q:VK} {k k':Bool} (I:Inv X pins σ H s) (q:Q (.bl k) H) (e:k=k'):EP X pins σ Q (.bool k') s:=by
 subst e
 exact ⟨.bl k,H,I,rfl,q⟩
theorem op_eq:OpR X (compareOp .Eq) rEq:=by
 intro pins s σ H x y v u Q I rx ry h
 obtain ⟨hs,q⟩:=h
 cases x with
 | non =>
  cases rx
  cases y with
  | non=>cases ry;exact PySem.EqNone.eq_none_none (fin_bl I q (by simp))
  | bl j=>cases ry;exact PySem.EqNone.eq_none_bool (fin_bl I q (by simp))
  | int j=>obtain ⟨t',rfl⟩:=ry;exact PySem.EqNone.eq_none_int (fin_bl I q (by simp))
  | str j=>obtain ⟨t',rfl⟩:=ry;exact PySem.EqNone.eq_none_str (fin_bl I q (by simp))
  | _=>exact absurd (show false=true from hs) Bool.false_ne_true
 | bl i =>
  cases rx
  cases y with
  | non=>cases ry;exact PySem.EqNone.eq_bool_none (fin_bl I q (by simp))
  | bl j=>cases ry;exact eq_bool (fin_bl I q dec_bl)
  | str j=>obtain ⟨t',rfl⟩:=ry;exact PySem.EqMixed.eq_bool_str (fin_bl I q (by simp))
  | _=>exact absurd (show false=true from hs) Bool.false_ne_true
 | int i =>
  obtain ⟨t,rfl⟩:=rx
  cases y with
  | non=>cases ry;exact PySem.EqNone.eq_int_none (fin_bl I q (by simp))
  | int j=>obtain ⟨t',rfl⟩:=ry;exact eq_int (fin_bl I q dec_int)
  | str j=>obtain ⟨t',rfl⟩:=ry;exact PySem.EqMixed.eq_int_str (fin_bl I q (by simp))
  | _=>exact absurd (show false=true from hs) Bool.false_ne_true
 | str i =>
  obtain ⟨t,rfl⟩:=rx
  cases y with
  | non=>cases ry;exact PySem.EqNone.eq_str_none (fin_bl I q (by simp))
  | bl j=>cases ry;exact PySem.EqMixed.eq_str_bool (fin_bl I q (by simp))
  | int j=>obtain ⟨t',rfl⟩:=ry;exact PySem.EqMixed.eq_str_int (fin_bl I q (by simp))
  | str j=>obtain ⟨t',rfl⟩:=ry;exact eq_str (fin_bl I q dec_str)
  | _=>exact absurd (show false=true from hs) Bool.false_ne_true
 | byt i =>
  obtain ⟨t,rfl⟩:=rx
  cases y with
  | byt j=>obtain ⟨t',rfl⟩:=ry;exact PySem.W.eq_bytes (fin_bl I q dec_byt)
  | _=>exact absurd (show false=true from hs) Bool.false_ne_true
 | _=>cases y<;>exact absurd (show false=true from hs) Bool.false_ne_true
theorem op_ne:OpR X (compareOp .NotEq) rNe:=by
 intro pins s σ H x y v u Q I rx ry h
 obtain ⟨hs,q⟩:=h
 cases x with
 | non =>
  cases rx
  cases y with
  | non=>cases ry;exact PySem.EqNone.ne_none_none (fin_bl I q (by simp))
  | bl j=>cases ry;exact PySem.EqNone.ne_none_bool (fin_bl I q (by simp))
  | int j=>obtain ⟨t',rfl⟩:=ry;exact PySem.EqNone.ne_none_int (fin_bl I q (by simp))
  | str j=>obtain ⟨t',rfl⟩:=ry;exact PySem.EqNone.ne_none_str (fin_bl I q (by simp))
  | _=>exact absurd (show false=true from hs) Bool.false_ne_true
 | bl i =>
  cases rx
  cases y with
  | non=>cases ry;exact PySem.EqNone.ne_bool_none (fin_bl I q (by simp))
  | bl j=>cases ry;exact ne_bool (fin_bl I q (congrArg not dec_bl))
  | str j=>obtain ⟨t',rfl⟩:=ry;exact PySem.EqMixed.ne_bool_str (fin_bl I q (by simp))
  | _=>exact absurd (show false=true from hs) Bool.false_ne_true
 | int i =>
  obtain ⟨t,rfl⟩:=rx
  cases y with
  | non=>cases ry;exact PySem.EqNone.ne_int_none (fin_bl I q (by simp))
  | int j=>obtain ⟨t',rfl⟩:=ry;exact ne_int (fin_bl I q (congrArg not dec_int))
  | str j=>obtain ⟨t',rfl⟩:=ry;exact PySem.EqMixed.ne_int_str (fin_bl I q (by simp))
  | _=>exact absurd (show false=true from hs) Bool.false_ne_true
 | str i =>
  obtain ⟨t,rfl⟩:=rx
  cases y with
  | non=>cases ry;exact PySem.EqNone.ne_str_none (fin_bl I q (by simp))
  | bl j=>cases ry;exact PySem.EqMixed.ne_str_bool (fin_bl I q (by simp))
  | int j=>obtain ⟨t',rfl⟩:=ry;exact PySem.EqMixed.ne_str_int (fin_bl I q (by simp))
  | str j=>obtain ⟨t',rfl⟩:=ry;exact ne_str (fin_bl I q (congrArg not dec_str))
  | _=>exact absurd (show false=true from hs) Bool.false_ne_true
 | byt i =>
  obtain ⟨t,rfl⟩:=rx
  cases y with
  | byt j=>obtain ⟨t',rfl⟩:=ry;exact PySem.W.ne_bytes (fin_bl I q (congrArg not dec_byt))
  | _=>exact absurd (show false=true from hs) Bool.false_ne_true
 | _=>cases y<;>exact absurd (show false=true from hs) Bool.false_ne_true

theorem op_lt:OpR X (compareOp .Lt) (rI0 fun i j=>.bl (decide (i < j))):=opB0 fun _ _ _ _ _ _ _ q=>lt_int q
theorem op_le:OpR X (compareOp .LtE) (rI0 fun i j=>.bl (decide (i≤j))):=opB0 fun _ _ _ _ _ _ _ q=>le_int q
theorem op_gt:OpR X (compareOp .Gt) (rI0 fun i j=>.bl (decide (j < i))):=opB0 fun _ _ _ _ _ _ _ q=>gt_int q
theorem op_isN:OpR X (compareOp .Is) (fun x y H Q=>y=.non∧Q (.bl (decide (x=.non))) H):=by
 intro pins s σ H x y v u Q I rx ry h
 obtain ⟨rfl,q⟩:=h
 cases ry
 refine is_none_gen (fin_bl I q ?_)
 cases x<;>first
  | (cases rx;rfl)
  | (obtain ⟨t,rfl⟩:=rx;rfl)
theorem nomark (b:Expr) {op:CmpOp} (h:op≠.In:=by decide) (h2:op≠.NotIn:=by decide):behindInMarks op b=false:=by
 have e1:(op == CmpOp.In)=false:=by cases op<;>first | rfl | exact absurd rfl h
 have e2:(op == CmpOp.NotIn)=false:=by cases op<;>first | rfl | exact absurd rfl h2
 cases b<;>simp [behindInMarks,e1,e2]
theorem pe_cmpR {op:CmpOp} {r:R2} (ho:OpR X (compareOp op) r) (ha:PE X a ta) (hb:PE X b tb) (hm:behindInMarks op b=false):PE X (.Compare a [op] [b] pos) (tOp r ta tb):=by
 intro pins s σ H Q I h
 exact wpAny_Compare1 (binT ha hb I h fun v u s2 x y H2 I2 rx ry q=>ho pins s2 σ H2 x y v u Q I2 rx ry q) hm
def tTest (t:TE):TT:=fun σ H Q=>t σ H fun x H'=>∃ k,x=.bl k∧Q k H'
theorem pt_cmpR {op:CmpOp} {r:R2} (ho:OpR X (compareOp op) r) (ha:PE X a ta) (hb:PE X b tb) (hm:behindInMarks op b=false):PT X (.Compare a [op] [b] pos) (tTest (tOp r ta tb)):=by
 intro pins s σ H Q I h
 refine wpAny_isTrue_Compare1 (thn (ha pins s σ H _ I h) fun v s1 ⟨x,H1,I1,r1,q1⟩=>thn (hb pins s1 σ H1 _ I1 q1) fun u s2 ⟨y,H2,I2,r2,q2⟩ =>
  thn (ho pins s2 σ H2 x y v u _ I2 r1 r2 q2) fun c s3 ⟨z,H3,I3,r3,k,e,q3⟩=>?_) hm
 subst e
 cases r3
 exact wpAny_truthy_bool ⟨H3,I3,q3⟩
def tChain (r r':R2) (ta tb tc:TE):TE:=fun σ H Q=>ta σ H fun x H1=>tb σ H1 fun y H2=>r x y H2 fun z H3=>∃ k,z=.bl k ∧
 (if k=true then tc σ H3 fun w' H4=>r' y w' H4 Q else Q (.bl false) H3)
theorem pt_chain {op op':CmpOp} {r r':R2} (ho:OpR X (compareOp op) r) (ho':OpR X (compareOp op') r') (ha:PE X a ta) (hb:PE X b tb) (hc:PE X c tc)
  (hm:lastMarks [op,op'] [b,c]=false:=by with_unfolding_all rfl):PT X (.Compare a [op,op'] [b,c] pos) (tTest (tChain r r' ta tb tc)):=by
 intro pins s σ H Q I h
 refine isTrue_chain (thn (ha pins s σ H _ I h) fun v s1 ⟨x,H1,I1,r1,q1⟩=>test_link (thn (hb pins s1 σ H1 _ I1 q1) fun u s2 ⟨y,H2,I2,r2,q2⟩ =>
  thn (ho pins s2 σ H2 x y v u _ I2 r1 r2 q2) fun d s3 ⟨z,H3,I3,r3,k,e,q3⟩=>?_)) hm
 subst e
 cases r3
 refine wpAny_truthy_bool ?_
 cases k with
 | false =>
  obtain ⟨k',e',q'⟩:=q3
  cases e'
  exact ite_ff ⟨H3,I3,q'⟩
 | true =>
  refine ite_tt (test_last (thn (hc pins s3 σ H3 _ I3 q3) fun w' s4 ⟨z',H4,I4,r4,q4⟩=>thn (ho' pins s4 σ H4 y z' u w' _ I4 r2 r4 q4) fun d' s5 ⟨z2,H5,I5,r5,k2,e2,q5⟩=>?_))
  subst e2
  cases r5
  exact wpAny_truthy_bool ⟨H5,I5,q5⟩

/-! ### truth -/
theorem line63:(sizeLine:Nat) < 2 ^ 63:=by rw [sizeLine_eq];decide
/-! ### strs and bytes -/
/-! ### scalar builtins,by CallR -/
theorem vals1 {x:V} {us:List Value} (r:Vals [x] us):∃ u,us=[u]∧RelV x u:=by
 cases r with
 | cons r1 r2=>cases r2;exact ⟨_,rfl,r1⟩
theorem vals2 {x y:V} {us:List Value} (r:Vals [x,y] us):∃ u w',us=[u,w']∧RelV x u∧RelV y w':=by
 cases r with
 | cons r1 r2 =>
  cases r2 with
  | cons r3 r4=>cases r4;exact ⟨_,_,rfl,r1,r3⟩
theorem call_min2 (hc:X.calm=true):CallR X (.builtin "min") (fun xs H Q=>∃ i j,xs=[.int i,.int j]∧Q (.int (if j < i then j else i)) H):=by
 intro pins s σ H xs us Q I r h
 obtain ⟨i,j,rfl,q⟩:=h
 obtain ⟨u,w',rfl,⟨t,rfl⟩,⟨t',rfl⟩⟩:=vals2 r
 refine min_two_ints (I.ok.hd hc) fun h' tk k=>⟨_,H,I.kept k,?_,q⟩
 by_cases hj:j < i
 ·rw [if_pos hj,if_pos hj];exact ⟨_,rfl⟩
 ·rw [if_neg hj,if_neg hj];exact ⟨_,rfl⟩
end
end L2

namespace L2
open PySem PySem.Spec PyProof.Rows

/-! ### an instance,its attributes a map -/
structure ObjM (h:Heap) (x dx C:Addr) (mA:Str→Option Value):Prop where
 obj:h.get? x=some (PySem.W.instObj C dx)
 ns:h.Ns1 dx mA
 ne:dx≠x

theorem lookIn_ns {h:Heap} {dx:Addr} {mA:Str→Option Value} (n:h.Ns1 dx mA):∃ od,h.get? dx=some od∧∀ name,PySem.W.lookIn name od=some (mA name):=by
 obtain ⟨o,es,ep,ho,hd,hk,_,hm⟩:=n
 refine ⟨o,ho,fun name=>?_⟩
 have e:=hm name
 unfold nsFind findBy at e
 rw [←Array.find?_toList] at e
 unfold PySem.W.lookIn
 rw [hd]
 dsimp only
 split
 ·rename_i y q
  rw [q] at e
  exact congrArg some e
 ·rename_i q
  rw [q] at e
  have a:es.toList.any (·.refKey)=false:=by
   rw [List.any_eq_false]
   intro y hy
   obtain ⟨z,t,hkey⟩:=hk y (Array.mem_toList_iff.mp hy)
   simp [DictEntry.refKey,hkey]
  have a':¬ es.toList.any (·.refKey)=true:=by rw [a];exact Bool.false_ne_true
  rw [if_neg a']
  exact congrArg some e

theorem ObjM.look {h:Heap} {x dx C:Addr} {mA:Str→Option Value} (I:ObjM h x dx C mA):∃ od,PySem.W.InstAt h x (PySem.W.instObj C dx) C (some od)∧∀ name,PySem.W.lookIn name od=some (mA name) :=
 let ⟨od,ho,hl⟩:=lookIn_ns I.ns
 ⟨od,⟨I.obj,rfl,rfl,ho⟩,hl⟩

section
variable {prog:Program} {w:World} {A:Around} {E:Value→Shared→Prop} {s:Shared} {K:PySem.W.Frag} {x dx C f:Addr} {mA:Str→Option Value} {name:Str} {v:Value}

end

/-! ### the attributes as a list of pairs -/
theorem RelO.some_of {v:V} {o:Option Value} (r:RelO (some v) o):∃ u,o=some u∧RelV v u:=by
 cases o with
 | none=>exact (show False from r).elim
 | some u=>exact ⟨u,rfl,r⟩
section
variable {P:Program} {w:World} {H H':Hp} {h h':Heap} {a C dx:Addr} {fs fs':List (Str × V)}
theorem ins_get (hok:HOk P w H h) (e:H a=some (.ins C dx fs)):∃ mA,ObjM h a dx C mA∧(∀ f,RelO (fs.lookup f) (mA f))∧PySem.Within mA (fs.map (·.1))∧fs.length≤1000∧H dx=some (.own a):=by
 obtain ⟨d,z,ne,ob,mA,n,r,q⟩:=(show ObjOk P w H h a (.ins C dx fs) from hok a _ e)
 exact ⟨mA,⟨ob,n,ne⟩,r,q,z,d⟩
end

/-! ### what of the text a class must have -/
structure Cls (K:PySem.W.Frag) (C:Addr):Prop where
 pg:PySem.W.plainGet K C Str.empty=true
 hd:PySem.W.hasDictIn K C=true
 po:PySem.W.plainOver K C=true
 sa:PySem.W.findIn K (.ref C) "__setattr__"=some (some (.builtin "object.__setattr__"))
theorem Cls.get {K:PySem.W.Frag} {C:Addr} (c:Cls K C) (f:Str):PySem.W.plainGet K C f=true:=c.pg
section
variable {X:Cx} {pins:List (Addr × Obj)} {σ:St} {H:Hp} {s:Shared} {a C dx:Addr} {fs:List (Str × V)} {f:Str} {v:V} {A:Around} {E:Value→Shared→Prop}

end

/-! ### readings and rules -/
section
variable {X:Cx} {o e value:Expr} {f:Str} {pos pos' tpos:Pos} {ta tv:TE}
end

/-! ### isinstance -/
section
variable {X:Cx} {pins:List (Addr × Obj)} {σ:St} {H:Hp} {s:Shared} {A:Around} {E:Value→Shared→Prop} {Q:Value→Shared→Prop} {c:Value} {b:Bool}
inductive TyOf (K:PySem.W.Frag) (H:Hp):V→Value→Prop where
 | non:TyOf K H .non (.type "NoneType")
 | bl (x:Bool):TyOf K H (.bl x) (.type "bool")
 | int (i:Int):TyOf K H (.int i) (.type "int")
 | str (x:Str):TyOf K H (.str x) (.type "str")
 | flt (x:UInt64):TyOf K H (.flt x) (.type "float")
 | lst {a:Addr} {xs:List V} (e:H a=some (.lst xs)):TyOf K H (.ref a) (.type "list")
 | frz {a:Addr} {o:Obj} {xs:List V} (e:H a=some (.frz o (.lst xs))):TyOf K H (.ref a) (.type "list")
 | tup {a:Addr} {xs:List V} (e:H a=some (.tup xs)):TyOf K H (.ref a) (.type "tuple")
 | dK {a:Addr} {kvs:List (Key × V)} (e:H a=some (.dK kvs)):TyOf K H (.ref a) (.type "dict")
 | dT {a:Addr} {kvs:List (List Key × V)} (e:H a=some (.dT kvs)):TyOf K H (.ref a) (.type "dict")
 | ins {a C dx:Addr} {fs:List (Str × V)} (e:H a=some (.ins C dx fs)) (cl:Cls K C) (ha:PySem.W.findIn K (.ref C) "__class__"=some (some (.builtin "object.__class__")))
   (hn:PySem.W.specialIn K (.builtin "object.__class__") "__get__"=some (some (.builtin "getset_descriptor.__get__"))) (htk:PySem.W.takesIn K (.builtin "object.__class__")=some true)
   (hm:PySem.W.mroIn K C (.type "object")=some true):TyOf K H (.ref a) (.ref C)
theorem isinst_ok {x:V} {u t:Value} (I:Inv X pins σ H s) (rx:RelV x u) (ty:TyOf X.K H x t) (e:PySem.W.kitOne X.K t c=some b) (h:∀ tk,Q (.bool b) { s with toks:=tk }) :
  wpAny (model X.prog X.w) A (call (.builtin "isinstance") [u,c]) Q E s:=by
 cases ty with
 | non=>cases (show u=Value.none from rx);exact PySem.W.kia_one PySem.W.kitx_none I.kIn True.intro e (fun z=>nomatch z) h
 | bl y=>cases (show u=Value.bool y from rx);exact PySem.W.kia_one PySem.W.kitx_bool I.kIn True.intro e (fun z=>nomatch z) h
 | int i=>obtain ⟨t,q⟩:=(show ∃ t,u=Value.int i t from rx);cases q;exact PySem.W.kia_one PySem.W.kitx_int I.kIn True.intro e (fun z=>nomatch z) h
 | str y=>obtain ⟨t,q⟩:=(show ∃ t,u=Value.str y t from rx);cases q;exact PySem.W.kia_one PySem.W.kitx_str I.kIn True.intro e (fun z=>nomatch z) h
 | flt y=>obtain ⟨t,q⟩:=(show ∃ t,u=Value.float y t from rx);cases q;exact PySem.W.kia_one PySem.W.kitx_float I.kIn True.intro e (fun z=>nomatch z) h
 | @lst a xs ea =>
  cases (show u=Value.ref a from rx)
  obtain ⟨_,_,n,_,h1⟩:=(show ObjOk X.prog X.w H s.heap a (.lst xs) from I.hok a _ ea)
  exact PySem.W.kia_one PySem.W.kitx_list I.kIn ⟨_,h1,rfl⟩ e (fun z=>nomatch z) h
 | @frz a ob xs ea =>
  cases (show u=Value.ref a from rx)
  obtain ⟨_,_,_,n,_,h1⟩:=(show ObjOk X.prog X.w H s.heap a (.frz ob (.lst xs)) from I.hok a _ ea)
  exact PySem.W.kia_one PySem.W.kitx_list I.kIn ⟨_,h1,rfl⟩ e (fun z=>nomatch z) h
 | @tup a xs ea =>
  cases (show u=Value.ref a from rx)
  obtain ⟨_,_,n,_,h1⟩:=(show ObjOk X.prog X.w H s.heap a (.tup xs) from I.hok a _ ea)
  exact PySem.W.kia_one PySem.W.kitx_tuple I.kIn ⟨_,h1,rfl⟩ e (fun z=>nomatch z) h
 | @dK a kvs ea =>
  cases (show u=Value.ref a from rx)
  obtain ⟨_,_,vs,_,p⟩:=(show ObjOk X.prog X.w H s.heap a (.dK kvs) from I.hok a _ ea)
  obtain ⟨o,es,ep,h1,h2,_⟩:=p
  exact PySem.W.kia_one PySem.W.kitx_dict I.kIn ⟨o,h1,h2.1⟩ e (fun z=>nomatch z) h
 | @dT a kvs ea =>
  cases (show u=Value.ref a from rx)
  obtain ⟨_,_,xs,_,o,es,ep,h1,h2,_⟩:=(show ObjOk X.prog X.w H s.heap a (.dT kvs) from I.hok a _ ea)
  exact PySem.W.kia_one PySem.W.kitx_dict I.kIn ⟨o,h1,h2.1⟩ e (fun z=>nomatch z) h
 | @ins a C dx fs ea cl ha hn htk hm =>
  cases (show u=Value.ref a from rx)
  obtain ⟨mA,O,_⟩:=ins_get I.hok ea
  obtain ⟨od,J,_⟩:=O.look
  exact PySem.W.kia_one (PySem.W.kitx_own (cl.get _) cl.hd ha hn htk hm) I.kIn J e (fun z=>nomatch z) h
end
end L2

namespace L2
open PySem PySem.Spec PyProof.Rows

/-! ### room -/
structure Room (k:Nat) (A:Around):Prop where
 hd:A.handled=none
 dp:A.depth+3*k+5 < recursionLimit
 un:A.units+16*k+200 < cLine
theorem Room.mono {j k:Nat} {A:Around} (r:Room k A) (h:j≤k):Room j A:=⟨r.hd,by have:=r.dp;omega,by have:=r.un;omega⟩
theorem Room.deeper {k:Nat} {A:Around} (r:Room (k+1) A) (env:Env):Room k (A.deeper env) :=
 ⟨r.hd,by have:=r.dp;show A.depth+1+3*k+5 < _;omega,by have:=r.un;show A.units+3+16*k+200 < _;omega⟩
theorem Room.depth {k:Nat} {A:Around} (r:Room k A):A.depth < recursionLimit:=by have:=r.dp;omega
theorem Room.units {k:Nat} {A:Around} (r:Room k A):A.units+64 < cLine:=by have:=r.un;omega
/-! ### argument lists and displays -/
def tNil:TA:=fun _ H Q=>Q [] H
def tCons (ta:TE) (tr:TA):TA:=fun σ H Q=>ta σ H fun x H1=>tr σ H1 fun xs H2=>Q (x::xs) H2
section
variable {X:Cx} {e:Expr} {es:List Expr} {te:TE} {t:TA} {pos:Pos}
theorem pa_nil:PA X [] tNil:=fun _ _ _ _ H Q I h=>Calls.spliced_nil ⟨[],H,I,.nil,h⟩
theorem pa_cons (ha:PE X e te) (hr:PA X es t) (hs:starEach (e::es) X.env=(false,eval e X.env)::starEach es X.env:=by rfl):PA X (e::es) (tCons te t):=by
 intro pos pins s σ H Q I h
 rw [hs]
 show wpAny _ _ (spliced ((false,eval e X.env)::backTo pos (starEach es X.env))) _ _ s
 refine Calls.spliced_cons (thn (ha pins s σ H _ I h) fun u s1 ⟨x,H1,I1,r1,q1⟩=>?_)
 exact thn (hr pos pins s1 σ H1 _ I1 q1) fun us s2 ⟨xs,H2,I2,r2,q2⟩=>⟨x::xs,H2,I2,.cons r1 r2,q2⟩

def tTup (t:TA):TE:=fun σ H Q=>t σ H fun xs H1=>xs.length≤sizeLine∧∀ p,H1 p=none→Q (.ref p) (upd H1 p (.tup xs))
def tLst (t:TA):TE:=fun σ H Q=>t σ H fun xs H1=>xs.length≤sizeLine∧∀ p,H1 p=none→Q (.ref p) (upd H1 p (.lst xs))
theorem pe_tup {x1} (h:PA X es t):PE X (.Tuple es x1 pos) (tTup t):=by
 intro pins s σ H Q I hq
 refine wpAny_Tuple_spliced (thn (h pos pins s σ H _ I hq) fun us s1 ⟨xs,H1,I1,r,z,q⟩=>⟨by rw [←r.length];exact z,?_⟩)
 have hf:H1 s1.heap.objs.size=none:=I1.hok.fresh (Nat.le_refl _)
 refine ⟨.ref s1.heap.objs.size,upd H1 s1.heap.objs.size (.tup xs),I1.laid (t':=s1.toks) (fun b u e=>Heap.get?_push_of_some _ e) (Nat.le_refl _) ?_,rfl,q _ hf⟩
 exact ⟨z,us,0,r,Heap.get?_push_size _ rfl⟩
theorem pe_lst (h:PA X es t):PE X (.List es pos) (tLst t):=by
 intro pins s σ H Q I hq
 refine wpAny_List_spliced (thn (h pos pins s σ H _ I hq) fun us s1 ⟨xs,H1,I1,r,z,q⟩=>⟨by rw [←r.length];exact z,?_⟩)
 have hf:H1 s1.heap.objs.size=none:=I1.hok.fresh (Nat.le_refl _)
 refine ⟨.ref s1.heap.objs.size,upd H1 s1.heap.objs.size (.lst xs),I1.laid (t':=s1.toks) (fun b u e=>Heap.get?_push_of_some _ e) (Nat.le_refl _) ?_,rfl,q _ hf⟩
 exact ⟨z,us,0,r,Heap.get?_push_size _ rfl⟩
end

/-! ### what a def promises -/
abbrev Sp:=List V→Hp→VK→XK→Prop
abbrev CXT:=List Env→Hp→Shared→XK→Value→Shared→Prop

structure Env0 (P:Program) (w:World) (K:PySem.W.Frag) (mg:Str→Option Value) (base:Heap) (A:Around) (outer:List Env) (s:Shared) (H:Hp):Prop where
 frames:A.frames=some outer
 mod:Mod K mg base
 bs:∀ b o,base.get? b=some o→s.heap.get? b=some o∧H b=none
 bsz:base.objs.size≤s.heap.objs.size
 funs:s.heap.FunFrames base outer
 frf:∀ b∈frs outer,H b=none
 hok:HOk P w H s.heap
 bare:AllBare s.gens
def CE (outer:List Env) (P:Program) (w:World) (H:Hp) (s:Shared) (Q:VK) (u:Value) (s':Shared):Prop :=
 ∃ v H',s'.os=s.os∧AllBare s'.gens∧Un (frs outer) [] H H' s.heap s'.heap∧HOk P w H' s'.heap∧RelV v u∧Q v H'
def CR (CX:CXT) (outer:List Env) (P:Program) (w:World) (H:Hp) (s:Shared) (Q:VK) (E:XK) (r:Result) (s':Shared):Prop :=
 match r with
 | .ok (.ret u)=>CE outer P w H s Q u s'
 | .ok _=>False
 | .error e=>CX outer H s E e s'
structure FnOk (P:Program) (w:World) (K:PySem.W.Frag) (mg:Str→Option Value) (base:Heap) (CX:CXT) (k:Nat) (f:Addr) (fd:FuncData) (ps:List Str) (sp:Sp):Prop where
 len:∀ vs H Q E,sp vs H Q E→vs.length=ps.length
 run:∀ (A:Around) (outer:List Env) (s:Shared) (H:Hp) (args:Args) (us:List Value) (vs:List V) (Q:VK) (E:XK),Room k A→Env0 P w K mg base A outer s H→BindsTo s fd args (ps.zip us)→Vals vs us→sp vs H Q E →
  codeAny (model P w) A (.call (.ref f) args) (CR CX outer P w H s Q E) s
theorem FnOk.mono {P:Program} {w:World} {K:PySem.W.Frag} {mg:Str→Option Value} {base:Heap} {CX:CXT} {j k:Nat} {f:Addr} {fd:FuncData} {ps:List Str} {sp:Sp} (F:FnOk P w K mg base CX j f fd ps sp) (h:j≤k) :
  FnOk P w K mg base CX k f fd ps sp:=⟨F.len,fun A outer s H args us vs Q E hr=>F.run A outer s H args us vs Q E (hr.mono h)⟩
section
variable {X:Cx} {pins:List (Addr × Obj)} {σ:St} {H:Hp} {s s':Shared}
theorem Inv.env0 (I:Inv X pins σ H s):Env0 X.prog X.w X.K X.mg X.base X.A X.stack s H :=
 ⟨I.ok.frames,I.ok.mod,I.bs,Nat.le_trans I.ok.bsz I.sz,I.stack,I.stkFree,I.hok,I.bare⟩
theorem Inv.after {Q:VK} {u:Value} (I:Inv X pins σ H s) (h:CE X.stack X.prog X.w H s Q u s'):EP X pins σ Q u s':=by
 obtain ⟨v,H',os,bare,un,hok,r,q⟩:=h
 obtain ⟨hh,g,d,t,os'⟩:=s'
 obtain rfl:os'=s.os:=os
 exact ⟨v,H',I.call (h':=hh) (g':=g) (d':=d) (t':=t) (ch:=[]) un hok bare (fun b z=>absurd z (by simp)),r,q⟩
end

/-! ### calls -/
def tCall (sp:Sp) (dvs:List V) (E:XK) (t:TA):TE:=fun σ H Q=>t σ H fun vs H1=>sp (vs++dvs) H1 Q E
def Binds (K:PySem.W.Frag) (fd:FuncData) (ps:List Str) (ds:List Value):Prop :=
 ∀ (s:Shared) (us:List Value),K.In s.heap→(us++ds).length=ps.length→BindsTo s fd ⟨us,[]⟩ (ps.zip (us++ds))
theorem Binds.all {K:PySem.W.Frag} {fd:FuncData} {ps:List Str} (h:∀ us:List Value,us.length=ps.length→bindArgs fd ⟨us,[]⟩=pure (ps.zip us)):Binds K fd ps []:=fun s us _ hl=>by
 rw [List.append_nil] at hl ⊢
 exact .of_eq (h us hl)

def Passes (CX:CXT) (X:Cx) (E:XK):Prop:=∀ (pins:List (Addr × Obj)) (σ:St) (H:Hp) (s:Shared) (e:Value) (s':Shared),Inv X pins σ H s→CX X.stack H s E e s'→X.xe e s'

section
variable {X:Cx} {CX:CXT} {k:Nat} {f C:Addr} {fd:FuncData} {ps:List Str} {sp:Sp} {dvs:List V} {ds:List Value} {E:XK} {x m:Str} {p pos apos:Pos} {e o:Expr} {es:List Expr} {ta:TE} {t:TA}

theorem run_fn {pins:List (Addr × Obj)} {σ:St} {H:Hp} {s:Shared} {Q:VK} {us:List Value} {vs:List V} (F:FnOk X.prog X.w X.K X.mg X.base CX k f fd ps sp) (hr:Room k X.A) (hb:Binds X.K fd ps ds) (hd:Vals dvs ds) (hx:Passes CX X E)
  (I:Inv X pins σ H s) (r:Vals vs us) (h:sp (vs++dvs) H Q E):wpAny (model X.prog X.w) X.A (call (.ref f) us) (EP X pins σ Q) X.xe s:=by
 have r2:Vals (vs++dvs) (us++ds):=r.append hd
 have hl:(us++ds).length=ps.length:=by rw [←r2.length];exact F.len _ _ _ _ h
 refine wpAny_call (codeAny_mono (F.run X.A X.stack s H ⟨us,[]⟩ (us++ds) (vs++dvs) Q E hr I.env0 (hb s us I.kIn hl) r2 h) fun r s' hq=>?_)
 cases r with
 | error e=>exact hx pins σ H s e s' I hq
 | ok fl =>
  cases fl with
  | ret u=>exact I.after hq
  | next=>exact False.elim hq
  | brk=>exact False.elim hq
  | cont=>exact False.elim hq

theorem pe_call (F:FnOk X.prog X.w X.K X.mg X.base CX k f fd ps sp) (hr:Room k X.A) (hg:Gl X x) (hm:X.mg x=some (.ref f)) (hk:PySem.W.keepIn X.K (.ref f)=true) (hb:Binds X.K fd ps ds) (hd:Vals dvs ds) (hx:Passes CX X E)
  (ha:PA X (e::es) t) (hdb:(x == ("__debug__":Str))=false:=by decide) (he:starEach (e::es) X.env=(false,eval e X.env)::starEach es X.env:=by rfl) (hpl:(backTo pos (starEach es X.env)).any (·.1)=false:=by rfl) :
  PE X (.Call (.Name x p) (e::es) [] pos) (tCall sp dvs E t):=by
 intro pins s σ H Q I h
 refine wpAny_Call_Name_kw (ld_glob I hg hm ?_ hdb)
 refine PySem.W.callWith_K (h₀:=X.base) I.ok.mod.kin hk (thn (ha pos pins s σ H _ I h) fun us s1 ⟨vs,H1,I1,r,q⟩=>⟨I1.kIn,?_⟩) he hpl
 exact run_fn F hr hb hd hx I1 r q
end

/-! ### keywords -/
section
variable {X:Cx} {CX:CXT} {k:Nat} {f C:Addr} {fd:FuncData} {ps ks:List Str} {sp:Sp} {E:XK} {x m:Str} {p pos apos kpos:Pos} {e o:Expr} {es:List Expr} {kws:List Keyword} {te ta:TE} {t tk:TA} {nm:Option Str}
variable {g:List Value→List Value→List Value} {gV:List V→List V→List V}
end

/-! ### a def's body keeps its promise -/
structure FnScope (N P:List Str) (sc:Scope):Prop where
 kind:sc.kind=.function
 co:sc.isCoroutine=false
 gen:sc.isGenerator=false
 nd:N.Nodup
 pre:N.take P.length=P
 par:∀ x∈P,sc.names.lookup x=some .local∨sc.names.lookup x=some .cell
 nofree:∀ y∈sc.names,y.2≠.free

theorem bindL_out {kindOf:Str→Option NameKind} {x:Str}:∀ {binds:List (Str × Value)} {m:Str→Option Value},(∀ v,(x,v)∉binds)→bindL kindOf binds m x=m x
 | [],_,_=>rfl
 | (n,v)::r,m,h=>by
  unfold bindL
  rw [bindL_out fun w hw=>h w (List.mem_cons_of_mem _ hw)]
  split
  ·have:x≠n:=by rintro rfl;exact h v List.mem_cons_self
   simp [this]
  ·rfl
theorem bindC_out {kindOf:Str→Option NameKind} {x:Str}:∀ {binds:List (Str × Value)} {m:Str→Option Value},(∀ v,(x,v)∉binds)→bindC kindOf binds m x=m x
 | [],_,_=>rfl
 | (n,v)::r,m,h=>by
  unfold bindC
  rw [bindC_out fun w hw=>h w (List.mem_cons_of_mem _ hw)]
  split
  ·rfl
  ·have:x≠n:=by rintro rfl;exact h v List.mem_cons_self
   simp [this]
theorem bindL_get {kindOf:Str→Option NameKind} {x:Str} {v:Value}:∀ {P:List Str} {vs:List Value} {i:Nat} {m:Str→Option Value},P.Nodup→P[i]?=some x→vs[i]?=some v→kindOf x=some .local →
  bindL kindOf (P.zip vs) m x=some v
 | [],_,_,_,_,h,_,_=>by simp at h
 | _::_,[],_,_,_,_,h,_=>by simp at h
 | p::P,w::vs,0,m,nd,h1,h2,hk=>by
  simp at h1 h2;subst h1;subst h2
  show bindL kindOf ((p,w)::P.zip vs) m p=_
  unfold bindL
  rw [bindL_out fun v hv=>(List.nodup_cons.mp nd).1 (List.of_mem_zip hv).1,if_pos hk]
  simp
 | p::P,w::vs,i+1,m,nd,h1,h2,hk=>by
  show bindL kindOf ((p,w)::P.zip vs) m x=_
  unfold bindL
  exact bindL_get (i:=i) (List.nodup_cons.mp nd).2 (by simpa using h1) (by simpa using h2) hk
theorem bindC_get {kindOf:Str→Option NameKind} {x:Str} {v:Value}:∀ {P:List Str} {vs:List Value} {i:Nat} {m:Str→Option Value},P.Nodup→P[i]?=some x→vs[i]?=some v→kindOf x≠some .local →
  bindC kindOf (P.zip vs) m x=some v
 | [],_,_,_,_,h,_,_=>by simp at h
 | _::_,[],_,_,_,_,h,_=>by simp at h
 | p::P,w::vs,0,m,nd,h1,h2,hk=>by
  simp at h1 h2;subst h1;subst h2
  show bindC kindOf ((p,w)::P.zip vs) m p=_
  unfold bindC
  rw [bindC_out fun v hv=>(List.nodup_cons.mp nd).1 (List.of_mem_zip hv).1,if_neg hk]
  simp
 | p::P,w::vs,i+1,m,nd,h1,h2,hk=>by
  show bindC kindOf ((p,w)::P.zip vs) m x=_
  unfold bindC
  exact bindC_get (i:=i) (List.nodup_cons.mp nd).2 (by simpa using h1) (by simpa using h2) hk

def start (N:List Str) (vs:List V):St:=vs.map some++List.replicate (N.length - vs.length) none

def cxOf (CX:CXT) (P:Program) (w:World) (K:PySem.W.Frag) (mg:Str→Option Value) (base:Heap) (N:List Str) (qual:Str) (scope:Scope) (f:Addr) (cd:Value) (A:Around) (outer:List Env) (s:Shared) (H:Hp) (E:XK):Cx where
 prog:=P
 w:=w
 K:=K
 mg:=mg
 base:=base
 A:=A.deeper (envOfC qual scope s.heap.objs.size f cd)
 N:=N
 s₀:=s
 H₀:=H
 env:=envOfC qual scope s.heap.objs.size f cd
 outer:=outer
 stack:=envOfC qual scope s.heap.objs.size f cd::outer
 ex:=[]
 calm:=true
 fn:=fun _=>true
 pn:=[]
 xe:=fun e s'=>wpAny (model P w) (A.deeper (envOfC qual scope s.heap.objs.size f cd)) (leaving (envOfC qual scope s.heap.objs.size f cd) e) (fun _ s''=>CX outer H s E e s'') (fun e' s''=>CX outer H s E e' s'') s'

theorem cell_has {sc:Scope} {n:Nat} {x:Str} (h:sc.names.lookup x=some .cell):∃ c,(cellsFrom n sc.names []).lookup x=some c:=by
 have q:=PySem.W.cellsFrom_some sc.names n [] (.inl h)
 exact Option.isSome_iff_exists.mp q

theorem inv_start {CX:CXT} {P:Program} {w:World} {K:PySem.W.Frag} {mg:Str→Option Value} {base:Heap} {N ps:List Str} {qual:Str} {scope:Scope} {f:Addr} {cd:Value} {A:Around} {outer:List Env} {s s1:Shared} {H:Hp} {E:XK} {us:List Value} {vs:List V}
  (S:FnScope N ps scope) (hd:A.handled=none) (e0:Env0 P w K mg base A outer s H) (hl:vs.length=ps.length) (r:Vals vs us)
  (x:InCallC s s.heap.objs.size (bindL (envOfC qual scope s.heap.objs.size f cd).kindOf (ps.zip us) fun _=>none) (cellsFrom (s.heap.objs.size+1) scope.names []) (bindC (envOfC qual scope s.heap.objs.size f cd).kindOf (ps.zip us) fun _=>none) s1) :
  Inv (cxOf CX P w K mg base N qual scope f cd A outer s H E) [] (start N vs) H s1:=by
 have hpl:ps.length≤N.length:=by have:=congrArg List.length S.pre;rw [List.length_take] at this;omega
 obtain ⟨h1,tk,rfl,hk⟩:=x.done
 have noA:∀ b:Addr,b∉(cxOf CX P w K mg base N qual scope f cd A outer s H E).ex:=fun b z=>absurd (show b∈([]:List Addr) from z) (by simp)
 refine ⟨⟨e0.mod,S.kind,rfl,rfl,Nat.le_refl _,fun y z c h1 h2=>?_,fun y hy=>?_,fun y c _ h=>?_,fun _=>hd,Around.frames_deeper e0.frames,.inr ⟨rfl,rfl⟩,fun b z=>absurd z (noA b),e0.bs,e0.bsz,fun b _ _=>noA b,fun b z=>absurd z (noA b),e0.funs,e0.frf⟩,
  rfl,e0.bare,Un.kept hk,⟨_,x.toInCall.ns,fun i y v h1 h2 h3=>?_⟩,fun y c h=>⟨_,x.cell y c h⟩,e0.hok.fresh (Nat.le_refl _),fun y c h=>?_,fun p hp=>absurd (show p∈([]:List (Addr × Obj)) from hp) (by simp),e0.hok.kept hk,?_⟩
 ·exact name_of_addr x.apart (PySem.mem_of_lookup h1) (PySem.mem_of_lookup h2)
 ·have hy:scope.names.lookup y=some .cell∨scope.names.lookup y=some .free:=hy
  rcases hy with hy | hy
  ·exact cell_has hy
  ·exact absurd rfl (S.nofree _ (PySem.mem_of_lookup hy))
 ·exact Nat.le_of_lt (x.above y c (PySem.mem_of_lookup h))
 ·have hi:i < vs.length:=by
   unfold start at h2
   by_cases hi:i < vs.length
   ·exact hi
   ·rw [List.getElem?_append_right (by simpa using hi)] at h2
    rw [List.getElem?_replicate] at h2
    split at h2<;>cases h2
  have ha:vs[i]?=some v:=by
   unfold start at h2
   rw [List.getElem?_append_left (by simpa using hi),List.getElem?_map] at h2
   cases e:vs[i]? with
   | none=>rw [e] at h2;cases h2
   | some a=>rw [e] at h2;cases h2;rfl
  obtain ⟨u,hu,rv⟩:=r.get ha
  have hp:ps[i]?=some y:=by
   rw [←S.pre,List.getElem?_take_of_lt (by omega)];exact h1
  have ndP:ps.Nodup:=by rw [←S.pre];exact S.nd.sublist (List.take_sublist _ _)
  refine ⟨u,rv,?_⟩
  rcases S.par y (List.mem_of_getElem? hp) with k | k
  ·exact .inl ⟨k,bindL_get ndP hp hu k⟩
  ·obtain ⟨c,e⟩:=cell_has (n:=s.heap.objs.size+1) k
   refine .inr ⟨.inl k,c,e,?_⟩
   have q:=x.cell y c e
   rw [bindC_get ndP hp hu (by show scope.names.lookup y≠_;rw [k];decide)] at q
   exact q
 ·exact e0.hok.fresh (Nat.le_of_lt (x.above y c (PySem.mem_of_lookup h)))
 ·unfold start
  show _=N.length
  rw [List.length_append,List.length_map,List.length_replicate]
  omega

theorem fn_of {CX:CXT} {P:Program} {w:World} {K:PySem.W.Frag} {mg:Str→Option Value} {base:Heap} {k:Nat} {f:Addr} {name qual:Str} {params:Arguments} {body:List Stmt} {scope:Scope} {dV kV doc pm cdv ct oc:Value} {an od:Option Addr}
  {osl:Array (Option Value)} {N ps:List Str} {sp:Sp} (lk:K.lookup f=some ⟨oc,od,.func (PySem.W.fnOf name qual params body scope dV kV doc pm an cdv ct),osl⟩) (hcd:PySem.W.codeIn K cdv qual=true) (S:FnScope N ps scope)
  (len:∀ vs H Q E,sp vs H Q E→vs.length=ps.length)
  (hbody:∀ (A:Around) (outer:List Env) (s:Shared) (H:Hp) (vs:List V) (Q:VK) (E:XK),Room k (A.deeper (envOfC qual scope s.heap.objs.size f cdv))→sp vs H Q E →
   ∃ t,PSs (cxOf CX P w K mg base N qual scope f cdv A outer s H E) body t∧t { nx:=fun _ H'=>Q .non H',rt:=Q } (start N vs) H) :
  FnOk P w K mg base CX (k+1) f (PySem.W.fnOf name qual params body scope dV kV doc pm an cdv ct) ps sp:=by
 refine ⟨len,fun A outer s H args us vs Q E hr e0 hb r hsp=>?_⟩
 have hl:=len _ _ _ _ hsp
 have KX:K.In s.heap:=e0.mod.kin.keeps fun b o e=>(e0.bs b o e).1
 have lim:s.heap.NoLimit:=e0.mod.nolimit.keeps fun b o e=>(e0.bs b o e).1
 have hkind:∀ y∈ps.zip us,scope.names.lookup y.1=some .local∨(scope.names.lookup y.1=some .cell∧((cellsFrom (s.heap.objs.size+1) scope.names []).lookup y.1).isSome=true):=fun ⟨n,v⟩ hy=>by
  rcases S.par n (List.of_mem_zip hy).1 with q | q
  ·exact .inl q
  ·exact .inr ⟨q,PySem.W.cellsFrom_some _ _ _ (.inl q)⟩
 refine codeAny_call_function hr.depth (KX _ _ lk) rfl S.co S.gen rfl (PySem.W.codeRec_of KX hcd) (hb _ _ _ _ ?_)
 refine wpAny_newFunctionEnv_cells S.kind hkind fun env he s1 x=>?_
 subst he
 refine ⟨lim.keeps x.toInCall.keep,codeAny_func ?_⟩
 obtain ⟨t,ht,hq⟩:=hbody A outer s H vs Q E (hr.deeper _) hsp
 have I:Inv (cxOf CX P w K mg base N qual scope f cdv A outer s H E) [] (start N vs) H s1:=inv_start S hr.hd e0 hl r x
 refine wpAny_mono (ht [] s1 (start N vs) H _ I hq) (fun fl s' hs=>?_) fun e s' hs=>hs
 have fin:∀ {σ':St} {H':Hp} {v:V} {u:Value},Inv (cxOf CX P w K mg base N qual scope f cdv A outer s H E) [] σ' H' s'→RelV v u→Q v H'→CE outer P w H s Q u s' :=
  fun {σ' H' v u} J rv q=>⟨v,H',J.os,J.bare,J.base,J.hok,rv,q⟩
 cases fl with
 | ret u =>
  obtain ⟨v,σ',H',J,rv,q⟩:=hs
  exact fin J rv q
 | next =>
  obtain ⟨σ',H',J,q⟩:=hs
  exact fin (v:=V.non) (u:=Value.none) J rfl q
 | brk =>
  obtain ⟨_,_,_,q⟩:=hs
  exact False.elim q
 | cont =>
  obtain ⟨_,_,_,q⟩:=hs
  exact False.elim q
end L2

namespace L2
open PySem PySem.Spec PyProof.Rows
section
variable {X:Cx} {x:Str} {p pos:Pos} {e:Expr} {es:List Expr} {t:TA} {id T:String} {r:List V→Hp→VK→Prop}

def tCB (r:List V→Hp→VK→Prop) (t:TA):TE:=fun σ H Q=>t σ H fun vs H1=>r vs H1 Q
theorem pe_callB (hc:CallR X (.builtin id) r) (hg:Gl X x) (hm:X.mg x=none) (hv:bootBuiltins x=some (.builtin id)) (ha:PA X (e::es) t) (hn:x≠"__name__":=by decide) (hdb:(x == ("__debug__":Str))=false:=by decide)
  (he:starEach (e::es) X.env=(false,eval e X.env)::starEach es X.env:=by rfl) (hpl:(backTo pos (starEach es X.env)).any (·.1)=false:=by rfl):PE X (.Call (.Name x p) (e::es) [] pos) (tCB r t):=by
 intro pins s σ H Q I h
 refine wpAny_Call_Name_kw (ld_blt I hg hm hv ?_ hn hdb)
 exact PyProof.Rows.callWith_builtin1 (thn (ha pos pins s σ H _ I h) fun us s1 ⟨vs,H1,I1,r1,q1⟩=>hc pins s1 σ H1 vs us Q I1 r1 q1) he hpl
theorem pe_callTy (hc:CallR X (.type T) r) (hg:Gl X x) (hm:X.mg x=none) (hv:bootBuiltins x=some (.type T)) (ha:PA X (e::es) t) (hn:x≠"__name__":=by decide) (hdb:(x == ("__debug__":Str))=false:=by decide)
  (he:starEach (e::es) X.env=(false,eval e X.env)::starEach es X.env:=by rfl) (hpl:(backTo pos (starEach es X.env)).any (·.1)=false:=by rfl):PE X (.Call (.Name x p) (e::es) [] pos) (tCB r t):=by
 intro pins s σ H Q I h
 refine wpAny_Call_Name_kw (ld_blt I hg hm hv ?_ hn hdb)
 exact PyProof.Rows.callWith_type1 (thn (ha pos pins s σ H _ I h) fun us s1 ⟨vs,H1,I1,r1,q1⟩=>hc pins s1 σ H1 vs us Q I1 r1 q1) he hpl
end
end L2

namespace HT
open PySem PyProof.Rows

section
open PySem.SeqAt
open PySem.AutoSeq1 (wpAny_loadPart')
open PySem.MeetsSeq PySem.MeetsSeq2 PySem.MeetsSeq3

end

section
variable {prog:Program} {w:World} {A:Around} {E:Value→Shared→Prop} {s:Shared}

/-! ### t[a:b],not the whole -/
def sIx (n d:Nat):Option Int→Nat
 | none=>d
 | some v=>if v < 0 then (v+(n:Int)).toNat else min v.toNat n
theorem sIx_nat (n d k:Nat):sIx n d (some (k:Int))=min k n:=by
 show (if (k:Int) < 0 then ((k:Int)+(n:Int)).toNat else min (k:Int).toNat n)=min k n
 rw [if_neg (by omega),Int.toNat_natCast]
end
end HT

namespace L2
open PySem PySem.Spec PyProof.Rows

/-! ### the parts of a slice -/
abbrev TO:=St→Hp→(Option Int→Hp→Prop)→Prop
def PO (X:Cx) (e:Option Expr) (t:TO):Prop :=
 ∀ (pins:List (Addr × Obj)) (s:Shared) (σ:St) (H:Hp) (Q:Option Int→Hp→Prop),Inv X pins σ H s→t σ H Q →
  wpAny (model X.prog X.w) X.A (evalPart e X.env) (fun u s'=>∃ o H',Inv X pins σ H' s'∧IsPart u o∧Q o H') X.xe s
def tPart (t:TE):TO:=fun σ H Q=>t σ H fun x H1=>∃ i,x=.int i∧Q (some i) H1

section
variable {X:Cx} {e:Expr} {te:TE} {lo hi:Option Expr} {tl th:TO} {pos p2:Pos}

theorem po_some (h:PE X e te):PO X (some e) (tPart te):=by
 intro pins s σ H Q I hw
 rw [evalPart_some]
 refine thn (h pins s σ H _ I hw) fun u s1 ⟨x,H1,I1,r1,q1⟩=>?_
 obtain ⟨i,rfl,q⟩:=q1
 obtain ⟨t,rfl⟩:=r1
 exact ⟨some i,H1,I1,.int i t,q⟩

def SlR (X:Cx) (r:V→Option Int→Option Int→Hp→VK→Prop):Prop :=
 ∀ (pins:List (Addr × Obj)) (s:Shared) (σ:St) (H:Hp) (x:V) (v vl vu:Value) (lo hi:Option Int) (sl:Addr) (Q:VK),Inv X pins σ H s→RelV x v→s.heap.IsSliceOf sl vl vu .none→IsPart vl lo→IsPart vu hi→r x lo hi H Q →
  ∃ T id,typeLookup (.type T) "__getitem__"=pure (some (.builtin id))∧s.TypeIs v T∧wpAny (model X.prog X.w) X.A (getItem v (.ref sl)) (EP X pins σ Q) X.xe s
def tSl (r:V→Option Int→Option Int→Hp→VK→Prop) (te:TE) (tl th:TO):TE:=fun σ H Q=>te σ H fun x H1=>tl σ H1 fun l H2=>th σ H2 fun u H3=>r x l u H3 Q
theorem pe_slice {r:V→Option Int→Option Int→Hp→VK→Prop} (hr:SlR X r) (he:PE X e te) (hl:PO X lo tl) (hu:PO X hi th):PE X (.Subscript e (.Slice lo hi none p2) pos) (tSl r te tl th):=by
 intro pins s σ H Q I h
 refine Subscript_ (thn (he pins s σ H _ I h) fun v s1 ⟨x,H1,I1,r1,q1⟩=>?_)
 refine wpAny_Slice (thn (hl pins s1 σ H1 _ I1 q1) fun vl s2 ⟨l,H2,I2,pl,q2⟩=>thn (hu pins s2 σ H2 _ I2 q2) fun vu s3 ⟨u,H3,I3,pu,q3⟩=>?_)
 rw [evalPart_none]
 refine wpAny_pure ?_
 have I4:Inv X pins σ H3 { s3 with heap:=s3.heap.push { cls:=.type "slice",data:=.fields #[vl,vu,.none] } }:=I3.kept (t':=s3.toks) fun b ob q=>Heap.get?_push_of_some _ q
 obtain ⟨T,id,hT,ht,hg⟩:=hr pins { s3 with heap:=s3.heap.push { cls:=.type "slice",data:=.fields #[vl,vu,.none] } } σ H3 x v vl vu l u s3.heap.objs.size Q I4 r1 (Heap.IsSliceOf.new ..) pl pu q3
 show wpAny (model X.prog X.w) X.A (subscriptTail e (.Slice lo hi none p2) v (.ref s3.heap.objs.size)) (EP X pins σ Q) X.xe { s3 with heap:=s3.heap.push { cls:=.type "slice",data:=.fields #[vl,vu,.none] } }
 exact tail_any (ops:=[.ref s3.heap.objs.size,v]) ht hT hg (by with_unfolding_all rfl)

def cutV (xs:List V) (lo hi:Option Int):List V:=(xs.drop (HT.sIx xs.length 0 lo)).take (HT.sIx xs.length xs.length hi - HT.sIx xs.length 0 lo)
theorem cutV_length (xs:List V) (lo hi:Option Int):(cutV xs lo hi).length≤xs.length:=by
 unfold cutV
 rw [List.length_take,List.length_drop]
 omega
/-! ### t < u,t+u -/
end
end L2

namespace L2
open PySem PySem.Spec PyProof.Rows

/-! ### places -/
def ixN (n:Nat) (i:Int):Option Nat:=if 0≤i then (if i < n then some i.toNat else none) else if -(n:Int)≤i then some (i+n).toNat else none
def atI {α:Type} (xs:List α) (i:Int):Option α:=(ixN xs.length i).bind fun j=>xs[j]?
theorem ixN_seq {n:Nat} {i:Int} {j:Nat} (h:ixN n i=some j):seqIndex? i n=some j∧j < n∧-(n:Int)≤i∧i < n:=by
 unfold ixN at h
 by_cases h0:0≤i
 ·rw [if_pos h0] at h
  by_cases h1:i < n
  ·rw [if_pos h1] at h
   have e:i.toNat=j:=Option.some.inj h
   exact ⟨by rw [seqIndex_of h0 h1,e],by omega,by omega,h1⟩
  ·rw [if_neg h1] at h;cases h
 ·rw [if_neg h0] at h
  by_cases h1:-(n:Int)≤i
  ·rw [if_pos h1] at h
   have e:(i+n).toNat=j:=Option.some.inj h
   exact ⟨by rw [seqIndex_neg (by omega) h1,e],by omega,h1,by omega⟩
  ·rw [if_neg h1] at h;cases h
theorem atI_get {α:Type} {xs:List α} {i:Int} {v:α} (h:atI xs i=some v):∃ j,seqIndex? i xs.length=some j∧xs[j]?=some v∧j < xs.length∧-(xs.length:Int)≤i∧i < xs.length:=by
 unfold atI at h
 cases e:ixN xs.length i with
 | none=>rw [e] at h;cases h
 | some j =>
  rw [e] at h
  obtain ⟨h1,h2,h3,h4⟩:=ixN_seq e
  exact ⟨j,h1,h,h2,h3,h4⟩
theorem atI_nat {α:Type} {xs:List α} {j:Nat} {v:α} (h:xs[j]?=some v):atI xs (j:Int)=some v:=by
 have hj:j < xs.length:=(List.getElem?_eq_some_iff.mp h).1
 have e:ixN xs.length (j:Int)=some j:=by
  unfold ixN
  rw [if_pos (by omega),if_pos (by omega)];simp
 unfold atI;rw [e];exact h
/-! ### what may be subscripted -/
def PlainIx (b:Expr):Prop:=∀ o i,subscripted b false o i=operate [o,i] (getItem o i)
def IxR (X:Cx) (r:R2):Prop :=
 ∀ (value slice:Expr) (pins:List (Addr × Obj)) (s:Shared) (σ:St) (H:Hp) (x y:V) (v u:Value) (Q:VK),Inv X pins σ H s→RelV x v→RelV y u→r x y H Q →
  subscripted slice false v u=operate [v,u] (getItem v u)→wpAny (model X.prog X.w) X.A (subscriptTail value slice v u) (EP X pins σ Q) X.xe s
def MtR (X:Cx) (id:String) (r:V→List V→Hp→VK→Prop):Prop :=
 ∀ (pins:List (Addr × Obj)) (s:Shared) (σ:St) (H:Hp) (x:V) (xs:List V) (v:Value) (us:List Value) (Q:VK),Inv X pins σ H s→RelV x v→Vals xs us→r x xs H Q →
  wpAny (model X.prog X.w) X.A (call (.builtin id) (v::us)) (EP X pins σ Q) X.xe s
section
variable {X:Cx} {a b:Expr} {ta tb:TE} {pos:Pos}
theorem IxR.or {r r':R2} (h:IxR X r) (h':IxR X r'):IxR X (fun x y H Q=>r x y H Q∨r' x y H Q):=by
 intro value slice pins s σ H x y v u Q I rx ry q hs
 rcases q with q | q
 ·exact h value slice pins s σ H x y v u Q I rx ry q hs
 ·exact h' value slice pins s σ H x y v u Q I rx ry q hs
theorem pe_ix {r:R2} (hr:IxR X r) (ha:PE X a ta) (hb:PE X b tb) (hs:PlainIx b):PE X (.Subscript a b pos) (tOp r ta tb):=by
 intro pins s σ H Q I h
 exact Subscript_ (binT ha hb I h fun v u s2 x y H2 I2 rx ry q=>hr a b pins s2 σ H2 x y v u Q I2 rx ry q (hs _ _))

def rIxL (K:PySem.W.Frag):R2:=fun x y H Q=>∃ p xs i v,x=.ref p∧y=.int i∧SqL K H p xs∧atI xs i=some v∧Q v H
def rIxT (K:PySem.W.Frag):R2:=fun x y H Q=>∃ p xs i v,x=.ref p∧y=.int i∧SqT K H p xs∧atI xs i=some v∧Q v H
theorem ix_list:IxR X (rIxL X.K):=by
 intro value slice pins s σ H x y v u Q I rx ry h hs
 obtain ⟨p,xs,i,z,rfl,rfl,hq,he,q⟩:=h
 cases rx
 obtain ⟨t,rfl⟩:=ry
 obtain ⟨its,r,pl,hz⟩:=I.list hq
 obtain ⟨j,h1,h2,h3,h4,h5⟩:=atI_get he
 obtain ⟨w,ew,rw'⟩:=r.get h2
 have hl:=r.length
 have hn:=line63
 have fin:EP X pins σ Q w s:=⟨z,H,I,rw',q⟩
 by_cases h0:0≤i
 ·have hj:i.toNat=j:=by
   rw [seqIndex_of h0 h5] at h1
   exact Option.some.inj h1
  exact item_listR pl.isList h0 (by omega) (by rw [hj];simpa using ew) fin hs
 ·have hj:(i+(its.toArray.size:Int)).toNat=j:=by
   rw [seqIndex_neg (by omega) h4] at h1
   rw [List.size_toArray,←hl]
   exact Option.some.inj h1
  exact subscriptTail_builtinR (x:=w) pl.isList.typeIs slot_list_getitem.lookup
   (wpAny_getItem_list_neg (Q:=fun r s'=>r=w∧EP X pins σ Q r s') pl.isList (by omega) (by rw [List.size_toArray]<;>omega) (by omega) (by rw [hj];simpa using ew) ⟨rfl,fin⟩) hs
theorem ix_tup:IxR X (rIxT X.K):=by
 intro value slice pins s σ H x y v u Q I rx ry h hs
 obtain ⟨p,xs,i,z,rfl,rfl,hq,he,q⟩:=h
 cases rx
 obtain ⟨t,rfl⟩:=ry
 obtain ⟨its,r,pl,hz⟩:=I.tuple hq
 obtain ⟨j,h1,h2,h3,h4,h5⟩:=atI_get he
 obtain ⟨w,ew,rw'⟩:=r.get h2
 have hl:=r.length
 have hn:=line63
 have fin:EP X pins σ Q w s:=⟨z,H,I,rw',q⟩
 exact subscriptTail_builtinR (x:=w) pl.typeIs slot_tuple_getitem.lookup
  (getItem_tuple (j:=j) (Q:=fun r s'=>r=w∧EP X pins σ Q r s') pl (by omega) (by omega) (by rw [List.size_toArray,←hl];exact h1) (by simpa using ew) ⟨rfl,fin⟩) hs
/-! ### xs[i]=v,any sign -/
theorem mapSeq_set (its:List Value) (n j:Nat) (u:Value):Obj.mapSeq (·.setIfInBounds j u) { cls:=.type "list",data:=.seq its.toArray n }={ cls:=.type "list",data:=.seq (its.set j u).toArray n }:=by
 simp [Obj.mapSeq]
theorem Inv.lst {pins:List (Addr × Obj)} {σ:St} {H:Hp} {s:Shared} {p:Addr} {xs:List V} (I:Inv X pins σ H s) (h:H p=some (.lst xs)) :
  ∃ (its:List Value) (n:Nat),Vals xs its∧s.heap.get? p=some { cls:=.type "list",data:=.seq its.toArray n }∧xs.length≤sizeLine:=by
 obtain ⟨z,its,n,r,e⟩:=I.hok p _ h
 exact ⟨its,n,r,e,z⟩
theorem Inv.lstUpd {pins:List (Addr × Obj)} {σ:St} {H:Hp} {s:Shared} {p:Addr} {xs ys:List V} {its its':List Value} {n n':Nat} {f:Obj→Obj} (I:Inv X pins σ H s) (h:H p=some (.lst xs))
  (ho:s.heap.get? p=some { cls:=.type "list",data:=.seq its.toArray n }) (hf:f { cls:=.type "list",data:=.seq its.toArray n }={ cls:=.type "list",data:=.seq its'.toArray n' }) (r:Vals ys its') (hz:ys.length≤sizeLine) (t:Nat) :
  Inv X pins σ (upd H p (.lst ys)) { s with heap:=s.heap.update p f,toks:=t }:=by
 have e:(s.heap.update p f).get? p=some { cls:=.type "list",data:=.seq its'.toArray n' }:=by
  rw [Heap.get?_update_self f ho (by rw [hf]<;>rfl),hf]
 refine I.write (x:=p) (e:=p) (by rw [h];trivial) (.inl rfl) (fun b u hb q=>(Heap.get?_update_other _ _ (Ne.symm hb)).trans q) ⟨_,e⟩ ?_
 exact ⟨hz,its',n',r,e⟩
def rSetL:V→V→V→Hp→(Hp→Prop)→Prop:=fun o i v H Q=>∃ p xs k j,o=.ref p∧i=.int k∧H p=some (.lst xs)∧ixN xs.length k=some j∧Q (upd H p (.lst (xs.set j v)))
theorem set_list:PSet X rSetL:=by
 intro pins s σ H o i v ov iv u Q I ro ri rv h
 obtain ⟨p,xs,k,j,rfl,rfl,hp,hj,q⟩:=h
 cases ro
 obtain ⟨t,rfl⟩:=ri
 obtain ⟨its,n,r,ho,hz⟩:=I.lst hp
 obtain ⟨h1,h2,h3,h4⟩:=ixN_seq hj
 have hl:=r.length
 have hn:=line63
 have I':Inv X pins σ (upd H p (.lst (xs.set j v))) { s with heap:=s.heap.update p (Obj.mapSeq (·.setIfInBounds j u)) } :=
  I.lstUpd hp ho (mapSeq_set its n j u) (r.set rv j) (by rw [List.length_set];exact hz) s.toks
 by_cases h0:0≤k
 ·have hk:k.toNat=j:=by
   rw [seqIndex_of h0 h4] at h1
   exact Option.some.inj h1
  exact PySem.W.ki_setAt ho h0 (by omega) (by rw [List.size_toArray,←hl];exact h4) (by rw [hk];exact ⟨_,I',q⟩)
 ·have hk:(k+(its.toArray.size:Int)).toNat=j:=by
   rw [seqIndex_neg (by omega) h3] at h1
   rw [List.size_toArray,←hl]
   exact Option.some.inj h1
  exact PySem.W.ki_setBack ho (by omega) (by rw [List.size_toArray,←hl];exact h3) (by omega) (by rw [hk];exact ⟨_,I',q⟩)

/-! ### slices -/
theorem slice_bounds (lo hi:Option Int) (n:Nat):(sliceBounds lo hi none n).1=((HT.sIx n 0 lo:Nat):Int)∧(sliceBounds lo hi none n).2.1=((HT.sIx n n hi:Nat):Int)∧(sliceBounds lo hi none n).2.2=1:=by
 refine ⟨?_,?_,rfl⟩
 ·cases lo with
  | none=>simp [sliceBounds,HT.sIx]
  | some i =>
   simp only [sliceBounds,HT.sIx,Option.getD_none,show (1:Int) > 0 by decide,if_true]
   by_cases h:i < 0
   ·simp only [h,if_true]<;>omega
   ·simp only [h,if_false]<;>omega
 ·cases hi with
  | none=>simp [sliceBounds,HT.sIx]
  | some i =>
   simp only [sliceBounds,HT.sIx,Option.getD_none,show (1:Int) > 0 by decide,if_true]
   by_cases h:i < 0
   ·simp only [h,if_true]<;>omega
   ·simp only [h,if_false]<;>omega
theorem slicePick_cut (its:List Value) (lo hi:Option Int):slicePick its.toArray lo hi none=((its.drop (HT.sIx its.length 0 lo)).take (HT.sIx its.length its.length hi - HT.sIx its.length 0 lo)).toArray:=by
 obtain ⟨h1,h2,h3⟩:=slice_bounds lo hi its.toArray.size
 unfold slicePick
 rw [h1,h2,h3]
 simp only [sliceRange_one,pick_run,List.size_toArray]<;>rfl
def rSlL (K:PySem.W.Frag):V→Option Int→Option Int→Hp→VK→Prop:=fun x lo hi H Q=>∃ a xs,x=.ref a∧SqL K H a xs∧∀ p,H p=none→Q (.ref p) (upd H p (.lst (cutV xs lo hi)))
theorem sl_list:SlR X (rSlL X.K):=by
 intro pins s σ H x v vl vu lo hi sl Q I rx hs pl pu h
 obtain ⟨a,xs,rfl,hx,q⟩:=h
 cases rx
 obtain ⟨its,r,ht,hz⟩:=I.list hx
 have hlen:=r.length
 refine ⟨"list",_,slot_list_getitem.lookup,ht.isList.typeIs,?_⟩
 refine wpAny_getItem_list_slice ht.isList hs pl pu .none (by simp) ?_ (by rw [List.size_toArray]<;>omega)
 rw [slicePick_cut,←hlen]
 refine ⟨.ref s.heap.objs.size,_,I.laid (t':=s.toks) (o:=.lst (cutV xs lo hi)) (fun b ob q=>Heap.get?_push_of_some _ q) (Nat.le_refl _) ?_,rfl,q _ (I.hok.fresh (Nat.le_refl _))⟩
 exact ⟨Nat.le_trans (cutV_length xs lo hi) hz,_,0,(r.drop (HT.sIx xs.length 0 lo)).take (HT.sIx xs.length xs.length hi - HT.sIx xs.length 0 lo),Heap.get?_push_size _ rfl⟩

/-! ### in,not in: flat items -/
def flatV:V→Bool
 | .non=>true
 | .bl _=>true
 | .int _=>true
 | .str _=>true
 | _=>false
def eqV:V→V→Bool
 | .non,.non=>true
 | .bl a,.bl b=>a == b
 | .bl a,.int b=>(if a then 1 else 0) == b
 | .int a,.bl b=>a == (if b then 1 else 0)
 | .int a,.int b=>a == b
 | .str a,.str b=>a == b
 | _,_=>false
theorem eqAt_V {A:Around} {s:Shared} {y x:V} {u v:Value} (ry:RelV y u) (rx:RelV x v) (fy:flatV y=true) (fx:flatV x=true):SeqAt.EqAt A s u v (eqV y x):=by
 cases y with
 | non =>
  cases ry
  cases x with
  | non=>cases rx;exact SeqAt.EqAt.same _
  | bl b=>cases rx;exact SeqAt.EqAt.none_bool b
  | int b=>obtain ⟨t,rfl⟩:=rx;exact SeqAt.EqAt.none_int b t
  | str b=>obtain ⟨t,rfl⟩:=rx;exact SeqAt.EqAt.none_str b t
  | _=>exact absurd (show false=true from fx) Bool.false_ne_true
 | bl a =>
  cases ry
  cases x with
  | non=>cases rx;exact SeqAt.EqAt.bool_none a
  | bl b=>cases rx;exact SeqAt.EqAt.bool_bool a b
  | int b=>obtain ⟨t,rfl⟩:=rx;exact SeqAt.EqAt.bool_int a b t
  | str b=>obtain ⟨t,rfl⟩:=rx;exact SeqAt.EqAt.bool_str a b t
  | _=>exact absurd (show false=true from fx) Bool.false_ne_true
 | int a =>
  obtain ⟨t',rfl⟩:=ry
  cases x with
  | non=>cases rx;exact SeqAt.EqAt.int_none a t'
  | bl b=>cases rx;exact SeqAt.EqAt.int_bool a t' b
  | int b=>obtain ⟨t,rfl⟩:=rx;exact SeqAt.EqAt.int_int a t' b t
  | str b=>obtain ⟨t,rfl⟩:=rx;exact SeqAt.EqAt.int_str a t' b t
  | _=>exact absurd (show false=true from fx) Bool.false_ne_true
 | str a =>
  obtain ⟨t',rfl⟩:=ry
  cases x with
  | non=>cases rx;exact SeqAt.EqAt.str_none a t'
  | bl b=>cases rx;exact SeqAt.EqAt.str_bool a t' b
  | int b=>obtain ⟨t,rfl⟩:=rx;exact SeqAt.EqAt.str_int a t' b t
  | str b=>obtain ⟨t,rfl⟩:=rx;exact SeqAt.EqAt.str_str a t' b t
  | _=>exact absurd (show false=true from fx) Bool.false_ne_true
 | _=>exact absurd (show false=true from fy) Bool.false_ne_true
def eqU (x:V) (u:Value):Bool:=match u with
 | .none=>eqV .non x
 | .bool b=>eqV (.bl b) x
 | .int i _=>eqV (.int i) x
 | .str z _=>eqV (.str z) x
 | _=>false
theorem eqU_of {x y:V} {u:Value} (r:RelV y u) (f:flatV y=true):eqU x u=eqV y x:=by
 cases y with
 | non=>cases r;rfl
 | bl b=>cases r;rfl
 | int i=>obtain ⟨t,rfl⟩:=r;rfl
 | str z=>obtain ⟨t,rfl⟩:=r;rfl
 | _=>exact absurd (show false=true from f) Bool.false_ne_true
theorem any_eqU {x:V}:∀ {xs:List V} {us:List Value},Vals xs us→xs.all flatV=true→us.any (eqU x)=xs.any fun y=>eqV y x
 | _,_,.nil,_=>rfl
 | y::xs,u::us,.cons r t,f=>by
  rw [List.all_cons,Bool.and_eq_true] at f
  rw [List.any_cons,List.any_cons,eqU_of r f.1,any_eqU t f.2]
theorem mem_eqAt {A:Around} {s:Shared} {x:V} {v:Value} (rx:RelV x v) (fx:flatV x=true):∀ {xs:List V} {us:List Value},Vals xs us→xs.all flatV=true→∀ u∈us,SeqAt.EqAt A s u v (eqU x u)
 | _,_,.nil,_=>fun u hu=>by cases hu
 | y::xs,u::us,.cons r t,f=>fun u' hu=>by
  rw [List.all_cons,Bool.and_eq_true] at f
  rcases List.mem_cons.mp hu with rfl | hu
  ·rw [eqU_of r f.1];exact eqAt_V r rx f.1 fx
  ·exact mem_eqAt rx fx t f.2 u' hu
def inV (x:V) (xs:List V):Bool:=xs.any fun y=>eqV y x
def rIn (K:PySem.W.Frag) (neg:Bool):R2:=fun x y H Q=>∃ p xs,y=.ref p∧(SqL K H p xs∨SqT K H p xs)∧flatV x=true∧xs.all flatV=true∧Q (.bl (if neg then !inV x xs else inV x xs)) H
theorem op_in_seq:OpR X (compareOp .In) (rIn X.K false):=by
 intro pins s σ H x y v u Q I rx ry h
 obtain ⟨p,xs,rfl,hq,fx,fs,q⟩:=h
 cases ry
 rcases hq with hq | hq
 ·obtain ⟨its,r,pl,hz⟩:=I.list hq
  refine SeqAt.in_listAt (eqU x) pl.isList (fun w hw=>mem_eqAt rx fx r fs w (by simpa using hw)) ⟨.bl _,H,I,rfl,?_⟩
  rw [show its.toArray.any (eqU x)=its.any (eqU x) by simp,any_eqU r fs]
  exact q
 ·obtain ⟨its,r,pl,hz⟩:=I.tuple hq
  refine SeqAt.in_tupleAt (eqU x) pl (fun w hw=>mem_eqAt rx fx r fs w (by simpa using hw)) ⟨.bl _,H,I,rfl,?_⟩
  rw [show its.toArray.any (eqU x)=its.any (eqU x) by simp,any_eqU r fs]
  exact q
theorem op_notIn_seq:OpR X (compareOp .NotIn) (rIn X.K true):=by
 intro pins s σ H x y v u Q I rx ry h
 obtain ⟨p,xs,rfl,hq,fx,fs,q⟩:=h
 cases ry
 rcases hq with hq | hq
 ·obtain ⟨its,r,pl,hz⟩:=I.list hq
  refine SeqAt.notIn_listAt (eqU x) pl.isList (fun w hw=>mem_eqAt rx fx r fs w (by simpa using hw)) ⟨.bl _,H,I,rfl,?_⟩
  rw [show its.toArray.any (eqU x)=its.any (eqU x) by simp,any_eqU r fs]
  exact q
 ·obtain ⟨its,r,pl,hz⟩:=I.tuple hq
  refine SeqAt.notIn_tupleAt (eqU x) pl (fun w hw=>mem_eqAt rx fx r fs w (by simpa using hw)) ⟨.bl _,H,I,rfl,?_⟩
  rw [show its.toArray.any (eqU x)=its.any (eqU x) by simp,any_eqU r fs]
  exact q
/-! ### len,list(x),tuple(x) of any list or tuple that is read -/
theorem call_len_seq:CallR X (.builtin "len") (fun xs H Q=>∃ p ys,xs=[.ref p]∧(SqL X.K H p ys∨SqT X.K H p ys)∧Q (.int ys.length) H):=by
 intro pins s σ H xs us Q I r h
 obtain ⟨p,ys,rfl,hq,q⟩:=h
 obtain ⟨u,rfl,rx⟩:=vals1 r
 cases rx
 have hn:=line63
 rcases hq with hq | hq
 ·obtain ⟨its,r',pl,hz⟩:=I.list hq
  have hlen:=r'.length
  exact Calls.call_len_list pl.isList (by simp only [List.size_toArray]<;>omega) ⟨.int ys.length,H,I.tok _,⟨s.toks+1,by rw [List.size_toArray,hlen]⟩,q⟩
 ·obtain ⟨its,r',pl,hz⟩:=I.tuple hq
  have hlen:=r'.length
  exact len_tuple pl (by simp only [List.size_toArray]<;>omega) ⟨.int ys.length,H,I.tok _,⟨s.toks+1,by rw [List.size_toArray,hlen]⟩,q⟩
theorem call_list_of:CallR X (.type "list") (fun xs H Q=>∃ p ys,xs=[.ref p]∧(SqL X.K H p ys∨SqT X.K H p ys)∧∀ l,H l=none→Q (.ref l) (upd H l (.lst ys))):=by
 intro pins s σ H xs us Q I r h
 obtain ⟨p,ys,rfl,hq,q⟩:=h
 obtain ⟨u,rfl,rx⟩:=vals1 r
 cases rx
 have fin:∀ (its:List Value),Vals ys its→ys.length≤sizeLine→∀ (h':Heap) (c':Nat),(∀ b o',s.heap.get? b=some o'→h'.get? b=some o') →
   h'.get? s.heap.objs.size=some { cls:=.type "list",dict:=none,data:=.seq its.toArray c',slots:=#[] }→EP X pins σ Q (.ref s.heap.objs.size) { s with heap:=h' }:=fun its r' hz h' c' kp e =>
  ⟨.ref s.heap.objs.size,_,I.laid (t':=s.toks) kp (Nat.le_refl _) (show ObjOk X.prog X.w _ h' _ (.lst ys) from ⟨hz,its,c',r',e⟩),rfl,q _ (I.hok.fresh (Nat.le_refl _))⟩
 rcases hq with hq | hq
 ·obtain ⟨its,r',pl,hz⟩:=I.list hq
  have hlen:=r'.length
  obtain ⟨o,ho,hc,n,hd⟩:=pl.isList
  exact call_list_seq p (.inl rfl) ho hc hd (fun h' c' kp e=>fin its r' hz h' c' kp e) (by simp only [List.size_toArray]<;>omega)
 ·obtain ⟨its,r',pl,hz⟩:=I.tuple hq
  have hlen:=r'.length
  obtain ⟨o,ho,hc,n,hd⟩:=pl
  exact call_list_seq p (.inr rfl) ho hc hd (fun h' c' kp e=>fin its r' hz h' c' kp e) (by simp only [List.size_toArray]<;>omega)
theorem call_tuple_of:CallR X (.type "tuple") (fun xs H Q=>∃ p ys,xs=[.ref p]∧((SqL X.K H p ys∧∀ l,H l=none→Q (.ref l) (upd H l (.tup ys)))∨(SqT X.K H p ys∧Q (.ref p) H))):=by
 intro pins s σ H xs us Q I r h
 obtain ⟨p,ys,rfl,h⟩:=h
 obtain ⟨u,rfl,rx⟩:=vals1 r
 cases rx
 rcases h with ⟨hq,q⟩ | ⟨hq,q⟩
 ·obtain ⟨its,r',pl,hz⟩:=I.list hq
  have hlen:=r'.length
  refine call_tuple_list pl.isList (fun h' kp=>?_) (by simp only [List.size_toArray]<;>omega)
  have I1:Inv X pins σ H { s with heap:=h' }:=I.kept (t':=s.toks) kp
  have I2:Inv X pins σ (upd H h'.objs.size (.tup ys)) { s with heap:=h'.push { cls:=.type "tuple",data:=.seq its.toArray } } :=
   I1.laid (t':=s.toks) (fun b o e=>Heap.get?_push_of_some _ e) (Nat.le_refl _) (show ObjOk X.prog X.w _ _ _ (.tup ys) from ⟨hz,its,0,r',Heap.get?_push_size _ rfl⟩)
  exact ⟨.ref h'.objs.size,_,I2,rfl,q _ (I1.hok.fresh (Nat.le_refl _))⟩
 ·obtain ⟨its,r',pl,hz⟩:=I.tuple hq
  exact call_tuple_same pl ⟨.ref p,H,I,rfl,q⟩

/-! ### the call of a builtin's method: o.m(..) -/
def tyV (K:PySem.W.Frag) (T:String) (x:V) (H:Hp):Prop:=match x with
 | .str _=>T="str"
 | .int _=>T="int"
 | .ref p=>(T="list"∧∃ xs,SqL K H p xs)∨(T="tuple"∧((∃ o,K.lookup p=some o∧o.cls=.type "tuple"∧o.dict=none)∨∃ xs,H p=some (.tup xs))) ∨
   (T="dict"∧((∃ kvs,H p=some (.dK kvs))∨∃ kvs,H p=some (.dT kvs)))∨(T="set"∧∃ S n,H p=some (.set S n))
 | _=>False
theorem tyV_is {pins:List (Addr × Obj)} {σ:St} {H:Hp} {s:Shared} {T:String} {x:V} {v:Value} (I:Inv X pins σ H s) (r:RelV x v) (ty:tyV X.K T x H) :
  s.TypeIs v T∧∀ a,v=.ref a→∃ ob,s.heap.get? a=some ob∧ob.dict=none:=by
 cases x with
 | str z =>
  obtain ⟨t,rfl⟩:=r
  cases (show T="str" from ty)
  exact ⟨typeIs_str s z t,fun _ e=>nomatch e⟩
 | int i =>
  obtain ⟨t,rfl⟩:=r
  cases (show T="int" from ty)
  exact ⟨typeIs_int s i t,fun _ e=>nomatch e⟩
 | ref p =>
  cases r
  rcases ty with ⟨rfl,xs,hq⟩ | ⟨rfl,⟨o,hk,hc,hd⟩ | ⟨xs,hq⟩⟩ | ⟨rfl,hk⟩ | ⟨rfl,S,n,hk⟩
  ·obtain ⟨its,_,pl,_⟩:=I.list hq
   refine ⟨pl.isList.typeIs,fun a e=>?_⟩
   cases e
   obtain ⟨o,n,e,c,hd,_⟩:=pl
   exact ⟨o,e,hd⟩
  ·refine ⟨⟨o,I.kIn p o hk,hc⟩,fun a e=>?_⟩
   cases e
   exact ⟨o,I.kIn _ o hk,hd⟩
  ·obtain ⟨_,its,n,_,h1⟩:=(show ObjOk X.prog X.w H s.heap p (.tup xs) from I.hok p _ hq)
   refine ⟨⟨_,h1,rfl⟩,fun a e=>?_⟩
   cases e
   exact ⟨_,h1,rfl⟩
  ·have z:∃ o,s.heap.get? p=some o∧o.ExactDict:=by
    rcases hk with ⟨kvs,hk⟩ | ⟨kvs,hk⟩
    ·obtain ⟨_,_,_,_,o,_,_,e,ex,_⟩:=I.hok p _ hk
     exact ⟨o,e,ex⟩
    ·obtain ⟨_,_,_,_,o,_,_,e,ex,_⟩:=I.hok p _ hk
     exact ⟨o,e,ex⟩
   obtain ⟨o,e,ex⟩:=z
   refine ⟨⟨o,e,ex.1⟩,fun a e2=>?_⟩
   cases e2
   exact ⟨o,e,ex.2.1⟩
  ·obtain ⟨o,_,_,_,e,ex,_⟩:=I.hok p _ hk
   refine ⟨⟨o,e,ex.1⟩,fun a e2=>?_⟩
   cases e2
   exact ⟨o,e,ex.2.1⟩
 | _=>exact False.elim ty
def tBM0 (K:PySem.W.Frag) (T:String) (r:V→List V→Hp→VK→Prop) (to:TE):TE:=fun σ H Q=>to σ H fun x H1=>tyV K T x H1∧r x [] H1 Q
def tBM (K:PySem.W.Frag) (T:String) (r:V→List V→Hp→VK→Prop) (to:TE) (t:TA):TE:=fun σ H Q=>to σ H fun x H1=>tyV K T x H1∧t σ H1 fun xs H2=>r x xs H2 Q
variable {o e:Expr} {es:List Expr} {to:TE} {t:TA} {name:Str} {apos cpos:Pos} {T id:String} {r:V→List V→Hp→VK→Prop}
theorem pe_bm0 (pa:PlainAttrs T) (slot:Slot T name id) (hty:typeOf (.builtin id)=pure (.type "method_descriptor")) (hm:MtR X id r) (ho:PE X o to)
  (hbase:attributeBase o name X.env (eval o X.env)=eval o X.env:=by rfl) (hline:(apos.endLine == cpos.line)=true:=by rfl):PE X (.Call (.Attribute o name apos) [] [] cpos) (tBM0 X.K T r to):=by
 intro pins s σ H Q I h
 refine wpAny_Call_method0_late hbase hline (thn (ho pins s σ H _ I h) fun v s1 ⟨x,H1,I1,r1,ty,q1⟩=>?_)
 obtain ⟨h1,h2⟩:=tyV_is I1 r1 ty
 exact ⟨T,id,pa,slot,hty,h1,h2,Calls.callWith_builtin rfl (PySem.evalArgs_none (hm pins s1 σ H1 x [] v [] Q I1 r1 .nil q1))⟩
theorem pe_bm (pa:PlainAttrs T) (slot:Slot T name id) (hty:typeOf (.builtin id)=pure (.type "method_descriptor")) (hm:MtR X id r) (ho:PE X o to) (ha:PA X (e::es) t)
  (hbase:attributeBase o name X.env (eval o X.env)=eval o X.env:=by rfl)
  (hfew:((backTo cpos (starEach (e::es) X.env)).all (fun x=>!x.1) && (backToKw cpos (keywordEach [] X.env)).all (fun x=>x.1.isSome)
   && decide ((e::es).length+([]:List Keyword).length+(if ([]:List Keyword).isEmpty then 0 else 1) < 30))=true:=by rfl)
  (hline:(apos.endLine == cpos.line)=true:=by rfl) (hs:starEach (e::es) X.env=(false,eval e X.env)::starEach es X.env:=by rfl) (hplain:(backTo cpos (starEach es X.env)).any (·.1)=false:=by rfl) :
  PE X (.Call (.Attribute o name apos) (e::es) [] cpos) (tBM X.K T r to t):=by
 intro pins s σ H Q I h
 refine wpAny_Call_method_late hbase hfew hline rfl (thn (ho pins s σ H _ I h) fun v s1 ⟨x,H1,I1,r1,ty,q1⟩=>?_)
 obtain ⟨h1,h2⟩:=tyV_is I1 r1 ty
 refine ⟨T,id,pa,slot,hty,h1,h2,?_⟩
 have hA:=ha cpos pins s1 σ H1 _ I1 q1
 rw [hs] at hA ⊢
 refine Calls.callWith_builtin (by show (false || (backTo cpos (starEach es X.env)).any (·.1))=false;rw [hplain]<;>rfl) (Calls.evalArgs_plain ?_)
 exact thn hA fun us s2 ⟨vs,H2,I2,r2,q2⟩=>hm pins s2 σ H2 x vs v us Q I2 r1 r2 q2
end
end L2

namespace L2
open PySem PySem.Spec PyProof.Rows

def MtM (X:Cx) (id:String) (r:V→List V→Hp→VK→Prop):Prop :=
 ∀ (pins:List (Addr × Obj)) (s:Shared) (σ:St) (H:Hp) (x:V) (xs:List V) (v:Value) (us:List Value) (Q:VK),Inv X pins σ H s→RelV x v→Vals xs us→r x xs H Q →
  wpAny (model X.prog X.w) X.A (call (.builtin id) (v::us)) (EP X pins σ Q) X.xe s

/-! ### lists of values -/
theorem Vals.one:∀ {x:V} {us:List Value},Vals [x] us→∃ u,us=[u]∧RelV x u
 | _,_,.cons r .nil=>⟨_,rfl,r⟩
theorem Vals.zero:∀ {us:List Value},Vals [] us→us=[]
 | _,.nil=>rfl
theorem Vals.dropLast {xs:List V} {us:List Value} (h:Vals xs us):Vals xs.dropLast us.dropLast:=by
 induction h with
 | nil=>exact .nil
 | cons r t ih =>
  cases t with
  | nil=>exact .nil
  | cons q t'=>exact .cons r ih
theorem Vals.eraseIdx:∀ {xs:List V} {us:List Value} (i:Nat),Vals xs us→Vals (xs.eraseIdx i) (us.eraseIdx i)
 | _,_,_,.nil=>.nil
 | _,_,0,.cons _ t=>t
 | _,_,i+1,.cons r t=>.cons r (Vals.eraseIdx i t)
theorem Vals.rep {xs:List V} {us:List Value} (h:Vals xs us):∀ k:Nat,Vals (List.replicate k xs).flatten (List.replicate k us).flatten
 | 0=>.nil
 | k+1=>by
  rw [List.replicate_succ,List.replicate_succ,List.flatten_cons,List.flatten_cons]
  exact Vals.append h (Vals.rep h k)
theorem erase_last {α:Type} (l:List α):l.eraseIdx (l.length - 1)=l.dropLast:=by
 induction l with
 | nil=>rfl
 | cons a r ih =>
  cases r with
  | nil=>rfl
  | cons b r =>
   have e:(a::b::r).length - 1=((b::r).length - 1)+1:=by
    have h1:(a::b::r).length=r.length+2:=rfl
    have h2:(b::r).length=r.length+1:=rfl
    omega
   rw [e,List.eraseIdx_cons_succ,ih]
   all_goals rfl
theorem len_erase {α:Type}:∀ (l:List α) (i:Nat),(l.eraseIdx i).length≤l.length
 | [],_=>Nat.le_refl _
 | _::_,0=>Nat.le_succ _
 | _::r,i+1=>Nat.succ_le_succ (len_erase r i)
theorem foldl_rep (its:List Value):∀ (k:Nat) (acc:List Value),
  List.foldl (fun x1 x2=>x1++x2) acc.toArray (List.replicate k its.toArray)=(acc++(List.replicate k its).flatten).toArray
 | 0,acc=>by simp
 | k+1,acc=>by
  have e:acc.toArray++its.toArray=(acc++its).toArray:=by simp
  have e2:(acc++its)++(List.replicate k its).flatten=acc++(List.replicate (k+1) its).flatten:=by
   rw [List.replicate_succ,List.flatten_cons,List.append_assoc]
  rw [←e2,←foldl_rep its k (acc++its),←e,List.replicate_succ,List.foldl_cons]

section
variable {X:Cx} {pins:List (Addr × Obj)} {σ:St} {H:Hp} {s:Shared} {l b:Addr} {xs ys zs:List V}

/-! ### the two steps: a tracked list is rewritten,a new list is laid -/
theorem Inv.lset {its its':List Value} {n:Nat} {f:Array Value→Array Value} {t':Nat} (I:Inv X pins σ H s) (hH:H l=some (.lst xs))
  (e:s.heap.get? l=some { cls:=.type "list",data:=.seq its.toArray n }) (hf:f its.toArray=its'.toArray) (hv:Vals ys its') (hz:ys.length≤sizeLine) :
  Inv X pins σ (upd H l (.lst ys)) { s with heap:=s.heap.update l (Obj.mapSeq f),toks:=t' }:=by
 have q:=PySem.IsL.update e f
 rw [hf] at q
 refine I.write (x:=l) (e:=l) (by rw [hH];exact trivial) (.inl rfl) (fun b' u hb hu=>(Heap.get?_update_other s.heap (Obj.mapSeq f) (Ne.symm hb)).trans hu) ⟨_,q⟩ ?_
 exact ⟨hz,its',_,hv,q⟩
theorem Inv.lnew {its:List Value} {t':Nat} (I:Inv X pins σ H s) (hv:Vals ys its) (hz:ys.length≤sizeLine) :
  Inv X pins σ (upd H s.heap.objs.size (.lst ys)) { s with heap:=s.heap.push { cls:=.type "list",data:=.seq its.toArray },toks:=t' } :=
 I.laid (fun _ _ q=>Heap.get?_push_of_some _ q) (Nat.le_refl _) ⟨hz,its,0,hv,Heap.get?_push_size _ rfl⟩
theorem Inv.fresh (I:Inv X pins σ H s):H s.heap.objs.size=none:=I.hok.fresh (Nat.le_refl _)
theorem Inv.lstM (I:Inv X pins σ H s) (hH:H l=some (.lst xs)):xs.length≤sizeLine∧∃ (its:List Value) (n:Nat),Vals xs its∧xs.length=its.length∧s.heap.get? l=some { cls:=.type "list",data:=.seq its.toArray n }:=by
 obtain ⟨z,its,n,r,e⟩:=I.hok l _ hH
 exact ⟨z,its,n,r,r.length,e⟩

theorem notLongL {n:Nat} (h:n≤sizeLine):Builtin.List.listTooLong n=false:=by
 unfold Builtin.List.listTooLong
 exact decide_eq_false (by omega)
end

section
variable {X:Cx}

/-! ### methods -/
def rAppend:V→List V→Hp→VK→Prop:=fun x vs H Q=>∃ l xs y,x=.ref l∧vs=[y]∧H l=some (.lst xs)∧xs.length < sizeLine∧Q .non (upd H l (.lst (xs++[y])))
theorem mt_append:MtM X "list.append" rAppend:=by
 intro pins s σ H x vs v us Q I rx rv h
 obtain ⟨l,xs,y,rfl,rfl,hH,hz,q⟩:=h
 cases rx
 obtain ⟨u,rfl,ru⟩:=rv.one
 obtain ⟨z,its,n,r,hl,e⟩:=I.lstM hH
 refine call_meets F.slot_list_append ⟨_,e,rfl⟩ F.entry_list_append (F.args_list_append_2 _ _) (PySem.list_append l its.toArray n u (by rw [List.size_toArray];omega)) ⟨e,?_⟩
 refine ⟨.non,_,I.lset (its':=its++[u]) hH e (by simp) (r.append (.cons ru .nil)) ?_,rfl,q⟩
 rw [List.length_append,List.length_singleton]
 omega

def rPop:V→List V→Hp→VK→Prop:=fun x vs H Q=>∃ l xs y,x=.ref l∧vs=[]∧H l=some (.lst xs)∧xs[xs.length - 1]?=some y∧Q y (upd H l (.lst xs.dropLast))
theorem mt_pop:MtM X "list.pop" rPop:=by
 intro pins s σ H x vs v us Q I rx rv h
 obtain ⟨l,xs,y,rfl,rfl,hH,hy,q⟩:=h
 cases rx
 have hus:=rv.zero
 subst hus
 obtain ⟨z,its,n,r,hl,e⟩:=I.lstM hH
 obtain ⟨u,hu,ru⟩:=r.get hy
 have hy':its.toArray[its.toArray.size - 1]?=some u:=by
  show its.toArray[its.length - 1]?=some u
  rw [←Array.getElem?_toList,←hl]
  exact hu
 refine call_meets F.slot_list_pop ⟨_,e,rfl⟩ F.entry_list_pop (F.args_list_pop_1 _) (MeetsSeq.list_pop_last l its.toArray n u hy' (by rw [List.size_toArray];omega)) ⟨e,?_⟩
 refine ⟨y,_,I.lset (its':=its.dropLast) hH e ?_ r.dropLast ?_,ru,q⟩
 ·show its.toArray.eraseIdxIfInBounds (its.toArray.size - 1)=its.dropLast.toArray
  rw [List.size_toArray,List.eraseIdxIfInBounds_toArray,erase_last]
 ·rw [List.length_dropLast]
  omega

def rPopAt:V→List V→Hp→VK→Prop:=fun x vs H Q=>∃ l xs i k y,x=.ref l∧vs=[.int i]∧H l=some (.lst xs)∧-(2 ^ 63)≤i∧i < 2 ^ 63∧seqIndex? i xs.length=some k∧xs[k]?=some y∧Q y (upd H l (.lst (xs.eraseIdx k)))
theorem mt_popAt:MtM X "list.pop" rPopAt:=by
 intro pins s σ H x vs v us Q I rx rv h
 obtain ⟨l,xs,i,k,y,rfl,rfl,hH,h1,h2,hk,hy,q⟩:=h
 cases rx
 obtain ⟨u,rfl,ru⟩:=rv.one
 obtain ⟨t,rfl⟩:=ru
 obtain ⟨z,its,n,r,hl,e⟩:=I.lstM hH
 obtain ⟨w,hw,rw'⟩:=r.get hy
 refine call_meets F.slot_list_pop ⟨_,e,rfl⟩ F.entry_list_pop (F.args_list_pop_2 _ _)
  (MeetsSeq.list_pop_at l its.toArray n i t k w (fitsIndex_both h1 h2) (by rw [List.size_toArray,←hl];exact hk) (by rw [←Array.getElem?_toList];exact hw) (by rw [List.size_toArray];omega)) ⟨e,?_⟩
 refine ⟨y,_,I.lset (its':=its.eraseIdx k) hH e ?_ (r.eraseIdx k) ?_,rw',q⟩
 ·show its.toArray.eraseIdxIfInBounds k=(its.eraseIdx k).toArray
  rw [List.eraseIdxIfInBounds_toArray]
 ·have:=len_erase xs k
  omega

/-! ### list+list,list += list,list*int -/
def rRep:R2:=fun x y H Q=>∃ l k xs,x=.ref l∧y=.int k∧H l=some (.lst xs)∧-(2 ^ 63)≤k∧k < 2 ^ 63∧xs.length*k.toNat≤sizeLine ∧
 ∀ p,H p=none→Q (.ref p) (upd H p (.lst (List.replicate k.toNat xs).flatten))
theorem len_rep {α:Type} (xs:List α) (k:Nat):(List.replicate k xs).flatten.length=k*xs.length:=by
 induction k with
 | zero=>simp
 | succ k ih=>rw [List.replicate_succ,List.flatten_cons,List.length_append,ih,Nat.succ_mul,Nat.add_comm]
theorem op_rep:OpR X (binaryOp .Mult) rRep:=by
 intro pins s σ H x y v u Q I rx ry h
 obtain ⟨l,k,xs,rfl,rfl,hH,h1,h2,hz,q⟩:=h
 cases rx
 obtain ⟨t,rfl⟩:=ry
 obtain ⟨z,its,n,r,hl,e⟩:=I.lstM hH
 have hlen:its.toArray.size*k.toNat≤sizeLine:=by rw [List.size_toArray,←hl];exact hz
 have hcap:¬ its.toArray.size*k.toNat > (2 ^ 63 - 1) / 8:=by
  have:(sizeLine:Nat)≤(2 ^ 63 - 1) / 8:=by decide
  omega
 have hfit:¬ (!Builtin.List.listFitsIndex k)=true:=by
  rw [fitsIndex_both h1 h2]
  exact Bool.false_ne_true
 have hlong:¬ Builtin.List.listTooLong (its.toArray.size*k.toNat)=true:=by
  rw [notLongL hlen]
  exact Bool.false_ne_true
 have hnew:List.foldl (fun x1 x2=>x1++x2) #[] (List.replicate (if its.toArray.isEmpty=true then 0 else k.toNat) its.toArray)=(List.replicate k.toNat its).flatten.toArray:=by
  have f0:∀ m:Nat,List.foldl (fun x1 x2=>x1++x2) #[] (List.replicate m its.toArray)=(List.replicate m its).flatten.toArray:=fun m=>by
   have:=foldl_rep its m []
   rw [List.nil_append] at this
   exact this
  rw [f0]
  cases its with
  | nil=>simp
  | cons a r'=>rw [if_neg (by simp)]
 refine wpAny_binaryOp_repeat_ref (T:="list") (U:="int") (by decide) ⟨_,e,rfl⟩ (fun s'=>typeIs_int s' k t) noFill_list_mul F.fills_int_mul F.slot_int_rmul repeat_list F.slot_int_index.lookup
  (call_meets F.slot_int_rmul (typeIs_int s k t) F.entry_int_rmul (F.args_int_rmul_2 _ _) (int___rmul___int_list k t l its.toArray n)
   ⟨e,rfl,⟨_,e,rfl⟩,call_meets F.slot_list_mul ⟨_,e,rfl⟩ F.entry_list_mul (F.args_list_mul_2 _ _) (AutoListH.list___mul___list_int_3 l its.toArray n k t hfit hcap hlong) ⟨e,?_⟩⟩)
 rw [hnew]
 exact ⟨.ref _,_,I.lnew (t':=s.toks) (r.rep k.toNat) (by rw [len_rep,Nat.mul_comm];exact hz),rfl,q _ I.fresh⟩

/-! ### del xs[i] -/
end

/-! ### xs[a:b]=ys -/
section
variable {prog:Program} {w:World} {A:Around} {E:Value→Shared→Prop} {s:Shared}
end

section
variable {X:Cx}
end
end L2

namespace L2
open PySem PySem.Spec PyProof.Rows

/-! ### lists of pairs as tables -/
section
variable {κ:Type} [DecidableEq κ]
def valV (kvs:List (κ × V)) (k:κ):Option V:=(kvs.find? fun kv=>decide (kv.1=k)).map (·.2)
def putK (kvs:List (κ × V)) (k:κ) (v:V):List (κ × V) :=
 if (kvs.any fun kv=>decide (kv.1=k))=true then kvs.map (fun kv=>if kv.1=k then (kv.1,v) else kv) else kvs++[(k,v)]
theorem valV_pos {p:κ × V} {r:List (κ × V)} {k:κ} (e:p.1=k):valV (p::r) k=some p.2:=by simp [valV,List.find?_cons,e]
theorem valV_neg {p:κ × V} {r:List (κ × V)} {k:κ} (e:¬ p.1=k):valV (p::r) k=valV r k:=by simp [valV,List.find?_cons,e]
theorem valV_any (k:κ):∀ kvs:List (κ × V),(kvs.any fun kv=>decide (kv.1=k))=(valV kvs k).isSome
 | []=>rfl
 | p::r=>by
  rw [List.any_cons]
  by_cases e:p.1=k
  ·simp only [valV_pos e,decide_eq_true e,Bool.true_or,Option.isSome_some]
  ·rw [valV_neg e,decide_eq_false e,Bool.false_or];exact valV_any k r
theorem length_putK (kvs:List (κ × V)) (k:κ) (v:V):(putK kvs k v).length≤kvs.length+1:=by
 unfold putK
 split
 ·rw [List.length_map];omega
 ·rw [List.length_append,List.length_cons,List.length_nil];omega
theorem putK_new {kvs:List (κ × V)} {k:κ} (v:V) (h:valV kvs k=none):putK kvs k v=kvs++[(k,v)]:=by
 unfold putK
 rw [valV_any,h]
 exact if_neg (by decide)

theorem RelO.isSome_eq {o:Option V} {u:Option Value} (r:RelO o u):o.isSome=u.isSome:=by
 cases o with
 | none=>cases u with
  | none=>rfl
  | some _=>exact (show False from r).elim
 | some _=>cases u with
  | none=>exact (show False from r).elim
  | some _=>rfl
theorem RelO.getD {o:Option V} {u:Option Value} {d:V} {d':Value} (r:RelO o u) (rd:RelV d d'):RelV (o.getD d) (u.getD d'):=by
 cases o with
 | none=>cases u with
  | none=>exact rd
  | some _=>exact (show False from r).elim
 | some _=>cases u with
  | none=>exact (show False from r).elim
  | some _=>exact r

theorem KV.val {kvs:List (κ × V)} {vs:List (κ × Value)} (r:KV kvs vs) (k:κ):RelO (valV kvs k) (valueAt vs k):=by
 unfold KV at r
 induction r with
 | nil=>exact True.intro
 | @cons p q ps qs h t ih =>
  obtain ⟨h1,h2⟩:=h
  by_cases e:p.1=k
  ·have e':q.1=k:=h1.symm.trans e
   have b:valueAt (q::qs) k=some q.2:=by simp [valueAt,List.find?_cons,e']
   rw [valV_pos e,b];exact h2
  ·have e':¬ q.1=k:=fun z=>e (h1.trans z)
   have b:valueAt (q::qs) k=valueAt qs k:=by simp [valueAt,List.find?_cons,e']
   rw [valV_neg e,b];exact ih
theorem KV.any {kvs:List (κ × V)} {vs:List (κ × Value)} (r:KV kvs vs) (k:κ):(kvs.any fun kv=>decide (kv.1=k))=vs.any fun kv=>decide (kv.1=k):=by
 unfold KV at r
 induction r with
 | nil=>rfl
 | cons h t ih=>rw [List.any_cons,List.any_cons,ih,h.1]
theorem KV.repl {kvs:List (κ × V)} {vs:List (κ × Value)} (r:KV kvs vs) (k:κ) {y:V} {u:Value} (ry:RelV y u) :
  KV (kvs.map fun kv=>if kv.1=k then (kv.1,y) else kv) (vs.map fun kv=>if kv.1=k then (kv.1,u) else kv):=by
 unfold KV at r ⊢
 induction r with
 | nil=>exact .nil
 | @cons p q ps qs h t ih =>
  rw [List.map_cons,List.map_cons]
  refine .cons ?_ ih
  obtain ⟨h1,h2⟩:=h
  by_cases e:p.1=k
  ·rw [if_pos e,if_pos (h1.symm.trans e)];exact ⟨h1,ry⟩
  ·rw [if_neg e,if_neg (fun z=>e (h1.trans z))];exact ⟨h1,h2⟩
theorem KV.put {kvs:List (κ × V)} {vs:List (κ × Value)} (r:KV kvs vs) (k:κ) {y:V} {u:Value} (ry:RelV y u):KV (putK kvs k y) (stored vs k u):=by
 unfold putK stored
 rw [r.any k]
 by_cases e:(vs.any fun kv=>decide (kv.1=k))=true
 ·rw [if_pos e,if_pos e];exact r.repl k ry
 ·rw [if_neg e,if_neg e];exact Paired.snoc r ⟨rfl,ry⟩
theorem KV.length {kvs:List (κ × V)} {vs:List (κ × Value)} (r:KV kvs vs):kvs.length=vs.length:=Paired.length r
end


/-! ### a tracked dict,its keys ints and texts or tuples of these -/
theorem kV_is {P:Program} {w:World} {k:Key} {u:Value} (r:RelV (kV k) u):(mixKind P w).is k u=true:=by
 cases k with
 | inl i=>obtain ⟨t,e⟩:=(show ∃ t,u=Value.int i t from r);subst e;exact mixKind_int P w i t
 | inr x=>obtain ⟨t,e⟩:=(show ∃ t,u=Value.str x t from r);subst e;exact mixKind_str P w x t
theorem items_are {P:Program} {w:World}:∀ {ks:List Key} {us:List Value},Vals (ks.map kV) us→ItemsAre (mixKind P w) ks us
 | [],_,r=>by rw [List.map_nil] at r;cases r;exact .nil
 | k::ks,_,r=>by
  rw [List.map_cons] at r
  cases r with
  | cons h t=>exact .cons (kV_is h) (items_are t)

abbrev KT (H:Hp):List (List Key × V)→List (List Key × Addr × Value)→Prop:=Paired fun p q=>p.1=q.1∧H q.2.1=some (.tup (p.1.map kV))∧RelV p.2 q.2.2
theorem KT.val {H:Hp} {kvs:List (List Key × V)} {xs:List (List Key × Addr × Value)} (r:KT H kvs xs) (k:List Key):RelO (valV kvs k) ((atKey xs k).map (·.2)):=by
 induction r with
 | nil=>exact True.intro
 | @cons p q ps qs h t ih =>
  obtain ⟨h1,_,h2⟩:=h
  by_cases e:p.1=k
  ·have e':q.1=k:=h1.symm.trans e
   have b:atKey (q::qs) k=some q.2:=by simp [atKey,List.find?_cons,e']
   rw [valV_pos e,b];exact h2
  ·have e':¬ q.1=k:=fun z=>e (h1.trans z)
   have b:atKey (q::qs) k=atKey qs k:=by simp [atKey,List.find?_cons,e']
   rw [valV_neg e,b];exact ih
theorem KT.repl {H:Hp} {kvs:List (List Key × V)} {xs:List (List Key × Addr × Value)} (r:KT H kvs xs) (k:List Key) {y:V} {u:Value} (ry:RelV y u) :
  KT H (kvs.map fun kv=>if kv.1=k then (kv.1,y) else kv) (xs.map (putAt k u)):=by
 induction r with
 | nil=>exact .nil
 | @cons p q ps qs h t ih =>
  rw [List.map_cons,List.map_cons]
  refine .cons ?_ ih
  obtain ⟨h1,h2,h3⟩:=h
  unfold putAt
  by_cases e:p.1=k
  ·rw [if_pos e,if_pos (h1.symm.trans e)];exact ⟨h1,h2,ry⟩
  ·rw [if_neg e,if_neg (fun z=>e (h1.trans z))];exact ⟨h1,h2,h3⟩
theorem KT.put {H:Hp} {kvs:List (List Key × V)} {xs:List (List Key × Addr × Value)} (r:KT H kvs xs) (k:List Key) {b:Addr} {y:V} {u:Value} (hb:H b=some (.tup (k.map kV))) (ry:RelV y u) :
  KT H (putK kvs k y) (storedH xs k b u):=by
 have e:(kvs.any fun kv=>decide (kv.1=k))=(atKey xs k).isSome:=by
  rw [valV_any,(r.val k).isSome_eq,Option.isSome_map]
 unfold putK storedH
 rw [e]
 by_cases q:(atKey xs k).isSome=true
 ·rw [if_pos q,if_pos q];exact r.repl k ry
 ·rw [if_neg q,if_neg q];exact Paired.snoc r ⟨rfl,hb,ry⟩
theorem KT.keeps {H H':Hp} {kvs:List (List Key × V)} {xs:List (List Key × Addr × Value)} (r:KT H kvs xs) (ht:∀ b ys,H b=some (.tup ys)→H' b=some (.tup ys)):KT H' kvs xs :=
 Paired.mapP r fun _ _ z=>⟨z.1,ht _ _ z.2.1,z.2.2⟩

section
variable {P:Program} {w:World} {H:Hp} {h:Heap} {a:Addr}
theorem rd_of {u:HO} (ok:HOk P w H h) (e:Rd H a u):ObjOk P w H h a u:=e.ok ok
theorem dk_rd {kvs:List (Key × V)} (ok:HOk P w H h) (e:Rd H a (.dK kvs)):kvs.length≤sizeLine∧(a == sysModules)=false∧∃ vs,KV kvs vs∧h.DictOf (mixKind P w) a vs :=
 show ObjOk P w H h a (.dK kvs) from rd_of ok e
theorem dk_of {kvs:List (Key × V)} (ok:HOk P w H h) (e:H a=some (.dK kvs)):kvs.length≤sizeLine∧(a == sysModules)=false∧∃ vs,KV kvs vs∧h.DictOf (mixKind P w) a vs:=dk_rd ok (.inl e)
theorem key_of {ks:List Key} (ok:HOk P w H h) (e:H a=some (.tup (ks.map kV))):(tupleKind (mixKind P w)).is h ks a:=by
 obtain ⟨_,its,n,r,h1⟩:=(show ObjOk P w H h a (.tup (ks.map kV)) from ok a _ e)
 exact ⟨_,its.toArray,n,h1,rfl,rfl,by simpa using items_are r⟩
theorem dt_rd {kvs:List (List Key × V)} (ok:HOk P w H h) (e:Rd H a (.dT kvs)):kvs.length≤sizeLine∧(a == sysModules)=false ∧
  ∃ xs,KT H kvs xs∧h.DictOfH (tupleKind (mixKind P w)) a xs:=by
 obtain ⟨z,y,xs,r,o,es,ep,h1,h2,h3,h4,h5⟩:=(show ObjOk P w H h a (.dT kvs) from rd_of ok e)
 refine ⟨z,y,xs,r,o,es,ep,h1,h2,h3,h4,fun x hx=>?_,h5⟩
 have all:∀ {l:List (List Key × V)} {m:List (List Key × Addr × Value)},KT H l m→∀ x∈m,(tupleKind (mixKind P w)).is h x.1 x.2.1:=by
  intro l m q
  induction q with
  | nil=>intro x hx;exact nomatch hx
  | @cons p q ps qs hq t ih =>
   intro x hx
   rcases List.mem_cons.mp hx with e | hx
   ·subst e
    exact key_of ok (by rw [←hq.1];exact hq.2.1)
   ·exact ih x hx
 exact all r x hx
theorem dt_of {kvs:List (List Key × V)} (ok:HOk P w H h) (e:H a=some (.dT kvs)):kvs.length≤sizeLine∧(a == sysModules)=false ∧
  ∃ xs,KT H kvs xs∧h.DictOfH (tupleKind (mixKind P w)) a xs:=dt_rd ok (.inl e)
end

def DGet (H:Hp) (a:Addr) (y:V) (r:Option V):Prop :=
 (∃ kvs k,Rd H a (.dK kvs)∧y=kV k∧r=valV kvs k)∨∃ kvs k b,Rd H a (.dT kvs)∧y=.ref b∧H b=some (.tup (k.map kV))∧r=valV kvs k
def DPut (H:Hp) (a:Addr) (y v:V) (H':Hp):Prop :=
 (∃ kvs k,H a=some (.dK kvs)∧y=kV k∧kvs.length < sizeLine∧H'=upd H a (.dK (putK kvs k v))) ∨
 ∃ kvs k b,H a=some (.dT kvs)∧y=.ref b∧H b=some (.tup (k.map kV))∧kvs.length < sizeLine∧H'=upd H a (.dT (putK kvs k v))
theorem DGet.k {H:Hp} {a:Addr} {kvs:List (Key × V)} {k:Key} (e:H a=some (.dK kvs)):DGet H a (kV k) (valV kvs k):=.inl ⟨kvs,k,.inl e,rfl,rfl⟩
theorem DPut.k {H:Hp} {a:Addr} {kvs:List (Key × V)} {k:Key} {v:V} (e:H a=some (.dK kvs)) (hl:kvs.length < sizeLine):DPut H a (kV k) v (upd H a (.dK (putK kvs k v))):=.inl ⟨kvs,k,e,rfl,hl,rfl⟩
section
variable {X:Cx} {pins:List (Addr × Obj)} {σ:St} {H:Hp} {s:Shared} {a:Addr} {y v:V} {u r:Value} {o:Option V} {A:Around} {E:Value→Shared→Prop}

theorem Inv.big (I:Inv X pins σ H s):sysModules < s.heap.objs.size:=by
 have h:mainGlobals < s.heap.objs.size:=(I.mod.glob.keeps I.bk).lt
 exact Nat.lt_trans (by decide) h

theorem d_getItem {Q:Value→Shared→Prop} (hu:A.units+1 < cLine) (I:Inv X pins σ H s) (g:DGet H a y (some v)) (ry:RelV y u) (h:∀ w' s',Inv X pins σ H s'→RelV v w'→Q w' s') :
  wpAny (model X.prog X.w) A (getItem (.ref a) u) Q E s:=by
 rcases g with ⟨kvs,k,e,ey,l⟩ | ⟨kvs,k,b,e,ey,eb,l⟩
 ·subst ey
  obtain ⟨z,hd,vs,rel,dd⟩:=dk_rd I.hok e
  obtain ⟨w',hw,rw'⟩:=RelO.some_of (v:=v) (o:=valueAt vs k) (by rw [l];exact rel.val k)
  exact wpAny_getItem_of (kV_is ry) dd.mapOf hw (h w' _ (I.tok _) rw')
 ·subst ey
  cases (show u=Value.ref b from ry)
  obtain ⟨z,hd,xs,rel,dd⟩:=dt_rd I.hok e
  obtain ⟨w',hw,rw'⟩:=RelO.some_of (v:=v) (o:=(atKey xs k).map (·.2)) (by rw [l];exact rel.val k)
  obtain ⟨p,hp,hp2⟩:=Option.map_eq_some_iff.mp hw
  refine wpAny_getItem_heap (tupleKind_room_in1 hu) (key_of I.hok eb) dd hp ?_
  rw [hp2]
  exact h w' _ (I.tok _) rw'
theorem d_in {Q:Value→Shared→Prop} (hu:A.units+1 < cLine) (I:Inv X pins σ H s) (g:DGet H a y o) (ry:RelV y u) (h:∀ s',Inv X pins σ H s'→Q (.bool o.isSome) s') :
  wpAny (model X.prog X.w) A (compareOp .In u (.ref a)) Q E s:=by
 rcases g with ⟨kvs,k,e,ey,l⟩ | ⟨kvs,k,b,e,ey,eb,l⟩
 ·subst ey
  obtain ⟨z,hd,vs,rel,dd⟩:=dk_rd I.hok e
  refine wpAny_in_of (kV_is ry) hd dd.mapOf ?_
  rw [←(rel.val k).isSome_eq,←l]
  exact h _ (I.tok _)
 ·subst ey
  cases (show u=Value.ref b from ry)
  obtain ⟨z,hd,xs,rel,dd⟩:=dt_rd I.hok e
  refine wpAny_in_heap (tupleKind_room_in1 hu) (key_of I.hok eb) hd dd ?_
  have q:=(rel.val k).isSome_eq
  rw [Option.isSome_map] at q
  rw [←q,←l]
  exact h _ (I.tok _)
theorem d_notIn {Q:Value→Shared→Prop} (hu:A.units+1 < cLine) (I:Inv X pins σ H s) (g:DGet H a y o) (ry:RelV y u) (h:∀ s',Inv X pins σ H s'→Q (.bool (!o.isSome)) s') :
  wpAny (model X.prog X.w) A (compareOp .NotIn u (.ref a)) Q E s:=by
 rcases g with ⟨kvs,k,e,ey,l⟩ | ⟨kvs,k,b,e,ey,eb,l⟩
 ·subst ey
  obtain ⟨z,hd,vs,rel,dd⟩:=dk_rd I.hok e
  refine wpAny_notIn_of (kV_is ry) hd dd.mapOf ?_
  rw [←(rel.val k).isSome_eq,←l]
  exact h _ (I.tok _)
 ·subst ey
  cases (show u=Value.ref b from ry)
  obtain ⟨z,hd,xs,rel,dd⟩:=dt_rd I.hok e
  refine wpAny_notIn_heap (tupleKind_room_in1 hu) (key_of I.hok eb) hd dd ?_
  have q:=(rel.val k).isSome_eq
  rw [Option.isSome_map] at q
  rw [←q,←l]
  exact h _ (I.tok _)
theorem d_write {h':Heap} {t':Nat} {ob:HO} (I:Inv X pins σ H s) (mu:Mut (H a)) (hs:Heap.SameBut a s.heap h') (he:∃ q,h'.get? a=some q) (new:ObjOk X.prog X.w (upd H a ob) h' a ob) :
  Inv X pins σ (upd H a ob) { s with heap:=h',toks:=t' } :=
 I.write (x:=a) (e:=a) mu (.inl rfl) (fun b q hb z=>(hs.2 b hb).trans z) he new
theorem dk_new {P:Program} {w:World} {H':Hp} {h':Heap} {kvs:List (Key × V)} {vs:List (Key × Value)} (z:kvs.length≤sizeLine) (hd:(a == sysModules)=false) (rel:KV kvs vs) (dd:h'.DictOf (mixKind P w) a vs) :
  ObjOk P w H' h' a (.dK kvs):=⟨z,hd,vs,rel,dd⟩
theorem d_setItem {H':Hp} {Q:Unit→Shared→Prop} (hu:A.units+1 < cLine) (I:Inv X pins σ H s) (g:DPut H a y v H') (ry:RelV y u) (rv:RelV v r) (h:∀ s',Inv X pins σ H' s'→Q () s') :
  wpAny (model X.prog X.w) A (setItem (.ref a) u r) Q E s:=by
 rcases g with ⟨kvs,k,e,ey,l,eH⟩ | ⟨kvs,k,b,e,ey,eb,l,eH⟩
 ·subst ey eH
  obtain ⟨z,hd,vs,rel,dd⟩:=dk_of I.hok e
  have hz:vs.length≤sizeLine:=by rw [←rel.length];exact z
  have hl:(putK kvs k v).length≤sizeLine:=by have:=length_putK kvs k v;omega
  refine wpAny_setItem_pairs (hsz:=hz) (kV_is ry) dd fun h' dd' hs=>h _ ?_
  have he:∃ q,h'.get? a=some q:=let ⟨q,_,_,hq,_⟩:=dd';⟨q,hq⟩
  exact d_write I (by rw [e];exact True.intro) hs he (dk_new hl hd (rel.put k rv) dd')
 ·subst ey eH
  cases (show u=Value.ref b from ry)
  obtain ⟨z,hd,xs,rel,dd⟩:=dt_of I.hok e
  have hz:xs.length≤sizeLine:=by rw [←Paired.length rel];exact z
  have hl:(putK kvs k v).length≤sizeLine:=by have:=length_putK kvs k v;omega
  refine wpAny_setItem_heap (hsz:=hz) (tupleKind_room_in1 hu) (key_of I.hok eb) dd fun h' dd' hs=>h _ ?_
  obtain ⟨q,es,ep,hq,h2,h3,h4,_,h5⟩:=dd'
  refine d_write I (by rw [e];exact True.intro) hs ⟨q,hq⟩ ⟨hl,hd,_,(rel.put k eb rv).keeps fun c ys ec=>?_,q,es,ep,hq,h2,h3,h4,h5⟩
  rw [upd_ne (ne_of ec e (fun z=>nomatch z))]
  exact ec
end

section
variable {X:Cx} {pins:List (Addr × Obj)} {σ:St} {H:Hp} {s:Shared} {a:Addr} {kvs:List (Key × V)} {k:Key} {u:Value} {A:Around} {E:Value→Shared→Prop}
end


/-! ### readings and rules -/
def NoSl (i:Expr):Prop:=∀ ov iv,subscripted i false ov iv=operate [ov,iv] (getItem ov iv)
theorem subD_of {prog:Program} {w:World} {A:Around} {E:Value→Shared→Prop} {s:Shared} {env:Env} {value slice:Expr} {pos:Pos} {T id:String} {Q:Value→Shared→Prop}
  (hl:typeLookup (.type T) "__getitem__"=pure (some (.builtin id))) (hs:NoSl slice)
  (h:wpAny (model prog w) A (eval value env) (fun o s₁=>wpAny (model prog w) A (eval slice env) (fun i s₂=>s₂.TypeIs o T∧wpAny (model prog w) A (getItem o i) Q E s₂) E s₁) E s) :
  wpAny (model prog w) A (eval (.Subscript value slice pos) env) Q E s:=by
 refine Subscript_ (wpAny_mono h (fun o s₁ h₁=>wpAny_mono h₁ (fun i s₂ h₂=>?_) fun _ _ x=>x) fun _ _ x=>x)
 obtain ⟨hT,h₂⟩:=h₂
 unfold subscriptTail
 refine wpAny_bind ?_
 rw [getitemInPython_of_ne hT.not_modules]
 refine wpAny_bind (wpAny_specialOf hT hl ?_)
 have fin:wpAny (model prog w) A (subscripted slice false o i) (fun r s₃=>wpAny (model prog w) A (letTemporaryGo value o r >>= fun _=>pure r) Q E s₃) E s₂:=by
  rw [hs o i]
  exact wpAny_operating (wpAny_mono h₂ (fun r s₃ h₃=>wpAny_bind (wpAny_letTemporaryGo (wpAny_pure h₃))) fun _ _ x=>x)
 first
  | exact wpAny_pure (wpAny_bind fin)
  | exact wpAny_bind (wpAny_pure (wpAny_bind fin))
  | exact wpAny_bind fin

theorem dict_typeIs {X:Cx} {pins:List (Addr × Obj)} {σ:St} {H:Hp} {s:Shared} {a:Addr} {y:V} {o:Option V} (I:Inv X pins σ H s) (g:DGet H a y o):s.TypeIs (.ref a) "dict":=by
 rcases g with ⟨kvs,k,e,_,_⟩ | ⟨kvs,k,b,e,_,_,_⟩
 ·obtain ⟨_,_,vs,_,dd⟩:=dk_rd I.hok e
  exact dd.typeIs
 ·obtain ⟨_,_,xs,_,dd⟩:=dt_rd I.hok e
  exact dd.typeIs
def tDGet (td ty:TE):TE:=fun σ H Q=>td σ H fun x H1=>ty σ H1 fun y H2=>∃ a v,x=.ref a∧DGet H2 a y (some v)∧Q v H2
def tDIn (ty td:TE):TE:=fun σ H Q=>ty σ H fun y H1=>td σ H1 fun x H2=>∃ a o,x=.ref a∧DGet H2 a y o∧Q (.bl o.isSome) H2
def tDNotIn (ty td:TE):TE:=fun σ H Q=>ty σ H fun y H1=>td σ H1 fun x H2=>∃ a o,x=.ref a∧DGet H2 a y o∧Q (.bl (!o.isSome)) H2
def sDPut (td ty tv:TE):TS:=fun D σ H=>tv σ H fun v H1=>td σ H1 fun x H2=>ty σ H2 fun y H3=>∃ a H4,x=.ref a∧DPut H3 a y v H4∧D.nx σ H4
section
variable {X:Cx} {o i e value:Expr} {pos pos' tpos:Pos} {td ty tv:TE}
theorem pe_dget (hu:X.A.units+1 < cLine) (ho:PE X o td) (hi:PE X i ty) (hs:NoSl i):PE X (.Subscript o i pos) (tDGet td ty):=by
 intro pins s σ H Q I h
 refine subD_of PySem.F.slot_dict_getitem.lookup hs (thn (ho pins s σ H _ I h) fun u s1 ⟨x,H1,I1,rx,q1⟩=>thn (hi pins s1 σ H1 _ I1 q1) fun iv s2 ⟨y,H2,I2,ry,a,v,ex,g,q2⟩=>?_)
 subst ex
 obtain rfl:u=Value.ref a:=rx
 exact ⟨dict_typeIs I2 g,d_getItem hu I2 g ry fun w' s3 I3 rw'=>⟨v,H2,I3,rw',q2⟩⟩
theorem pc_din (hu:X.A.units+1 < cLine) (hi:PE X i ty) (ho:PE X o td):PC X .In i o (tDIn ty td):=by
 intro pins s σ H Q I h
 refine thn (hi pins s σ H _ I h) fun iv s1 ⟨y,H1,I1,ry,q1⟩=>thn (ho pins s1 σ H1 _ I1 q1) fun u s2 ⟨x,H2,I2,rx,a,ov,ex,g,q2⟩=>?_
 subst ex
 obtain rfl:u=Value.ref a:=rx
 exact d_in hu I2 g ry fun s3 I3=>⟨.bl ov.isSome,H2,I3,rfl,q2⟩
theorem pc_dnotin (hu:X.A.units+1 < cLine) (hi:PE X i ty) (ho:PE X o td):PC X .NotIn i o (tDNotIn ty td):=by
 intro pins s σ H Q I h
 refine thn (hi pins s σ H _ I h) fun iv s1 ⟨y,H1,I1,ry,q1⟩=>thn (ho pins s1 σ H1 _ I1 q1) fun u s2 ⟨x,H2,I2,rx,a,ov,ex,g,q2⟩=>?_
 subst ex
 obtain rfl:u=Value.ref a:=rx
 exact d_notIn hu I2 g ry fun s3 I3=>⟨.bl (!ov.isSome),H2,I3,rfl,q2⟩
theorem ps_dput (hu:X.A.units+1 < cLine) (ho:PE X o td) (hi:PE X i ty) (hv:PE X value tv) (hs:swapsWith value (some (.Subscript o i pos')) pos.line X.env=pure false) :
  PS X (.Assign [.Subscript o i pos'] value pos) (sDPut td ty tv):=by
 intro pins s σ H D I h
 refine wpAny_Assign_Subscript (thn (hv pins s σ H _ I h) fun r s1 ⟨v,H1,I1,rv,q1⟩=>thn (ho pins s1 σ H1 _ I1 q1) fun u s2 ⟨x,H2,I2,rx,q2⟩=>thn (hi pins s2 σ H2 _ I2 q2) fun iv s3 ⟨y,H3,I3,ry,a,H4,ex,g,q3⟩=>?_) hs
 subst ex
 obtain rfl:u=Value.ref a:=rx
 exact d_setItem hu I3 g ry rv fun s4 I4=>⟨σ,H4,I4,q3⟩
end


/-! ### displays -/
theorem dk_empty {P:Program} {w:World} {H:Hp} (h:Heap) (hb:sysModules < h.objs.size):ObjOk P w H (h.push { cls:=.type "dict",data:=.dict #[] }) h.objs.size (.dK []) :=
 ⟨Nat.zero_le _,beq_eq_false_iff_ne.mpr (Ne.symm (Nat.ne_of_lt hb)),[],.nil,Heap.DictOf.new h⟩
def tDNewK:TE:=fun _ H Q=>∀ p,H p=none→Q (.ref p) (upd H p (.dK []))
section
variable {X:Cx} {pos:Pos}
theorem pe_dnewK:PE X (.Dict [] [] pos) tDNewK:=fun pins s σ H Q I h =>
 wpAny_Dict_empty ⟨.ref s.heap.objs.size,_,I.laid (a:=s.heap.objs.size) (o:=.dK []) (t':=s.toks) (fun _ _ q=>Heap.get?_push_of_some _ q) (Nat.le_refl _) (dk_empty s.heap I.big),rfl,h _ (I.hok.fresh (Nat.le_refl _))⟩
end

def tPairs:List (TE × TE)→St→Hp→(List (V × V)→Hp→Prop)→Prop
 | [],_,H,Q=>Q [] H
 | (tk,tv)::r,σ,H,Q=>tk σ H fun x H1=>tv σ H1 fun y H2=>tPairs r σ H2 fun ps H3=>Q ((x,y)::ps) H3
abbrev VV:List (V × V)→List (Value × Value)→Prop:=Paired fun p q=>RelV p.1 q.1∧RelV p.2 q.2
def PPs (X:Cx) (pos:Pos) (keys:List (Option Expr)) (values:List Expr) (trs:List (TE × TE)):Prop :=
 ∀ (pins:List (Addr × Obj)) (s:Shared) (σ:St) (H:Hp) (Q:List (V × V)→Hp→Prop),Inv X pins σ H s→tPairs trs σ H Q →
  wpAny (model X.prog X.w) X.A (evalPairs (pairTrees keys values X.env pos)) (fun vs s'=>∃ ps H',Inv X pins σ H' s'∧VV ps vs∧Q ps H') X.xe s
theorem pps_nil {X:Cx} {pos:Pos}:PPs X pos [] [] []:=fun pins s σ H Q I h=>pairTrees_nil_walk ⟨[],H,I,.nil,h⟩
theorem pps_cons {X:Cx} {pos:Pos} {k v:Expr} {ks:List (Option Expr)} {vs:List Expr} {tk tv:TE} {trs:List (TE × TE)} (hk:PE X k tk) (hv:PE X v tv) (hr:PPs X pos ks vs trs) :
  PPs X pos (some k::ks) (v::vs) ((tk,tv)::trs):=fun pins s σ H Q I h =>
 pairTrees_cons_walk (thn (hk pins s σ H _ I h) fun u s1 ⟨x,H1,I1,rx,q1⟩=>thn (hv pins s1 σ H1 _ I1 q1) fun w2 s2 ⟨y,H2,I2,ry,q2⟩ =>
  thn (hr pins s2 σ H2 _ I2 q2) fun ws s3 ⟨ps,H3,I3,rel,q3⟩=>⟨(x,y)::ps,H3,I3,.cons ⟨rx,ry⟩ rel,q3⟩)

def mergeK (kvs more:List (Key × V)):List (Key × V):=more.foldl (fun acc kv=>putK acc kv.1 kv.2) kvs
theorem KV.merge:∀ {more:List (Key × V)} {rs:List (Key × Value)} {kvs:List (Key × V)} {vs:List (Key × Value)},KV more rs→KV kvs vs→KV (mergeK kvs more) (merged vs rs):=by
 intro more rs kvs vs r
 unfold KV at r
 induction r generalizing kvs vs with
 | nil=>intro q;exact q
 | @cons p q ps qs h t ih =>
  intro r0
  have e:KV (putK kvs p.1 p.2) (stored vs q.1 q.2):=by
   have:=r0.put p.1 h.2
   rw [←h.1];exact this
  exact ih e
theorem length_mergeK:∀ (more kvs:List (Key × V)),(mergeK kvs more).length≤kvs.length+more.length
 | [],kvs=>by show kvs.length≤kvs.length+0;omega
 | p::r,kvs=>by
  have h1:=length_mergeK r (putK kvs p.1 p.2)
  have h2:=length_putK kvs p.1 p.2
  show (mergeK (putK kvs p.1 p.2) r).length≤_
  rw [List.length_cons];omega
theorem carries_of {P:Program} {w:World}:∀ {kvs:List (Key × V)} {ws:List (Value × Value)},VV (kvs.map fun kv=>(kV kv.1,kv.2)) ws→∃ rs,Carries (mixKind P w) ws rs∧KV kvs rs
 | [],_,r=>by rw [List.map_nil] at r;cases r;exact ⟨[],True.intro,.nil⟩
 | p::kvs,_,r=>by
  rw [List.map_cons] at r
  cases r with
  | @cons a b as bs h t =>
   obtain ⟨rs,c,q⟩:=carries_of (P:=P) (w:=w) t
   obtain ⟨b1,b2⟩:=b
   exact ⟨(p.1,b2)::rs,⟨kV_is h.1,rfl,c⟩,.cons ⟨rfl,h.2⟩ q⟩
def tDisp (trs:List (TE × TE)):TE:=fun σ H Q=>∀ p,H p=none→tPairs trs σ (upd H p (.dK [])) fun ps H2=>H2 p=some (.dK [])∧∃ kvs:List (Key × V),ps=kvs.map (fun kv=>(kV kv.1,kv.2))∧kvs.length≤15∧Q (.ref p) (upd H2 p (.dK (mergeK [] kvs)))
theorem pe_disp {X:Cx} {pos:Pos} {keys:List (Option Expr)} {values:List Expr} {trs:List (TE × TE)} (h:PPs X pos keys values trs) (hall:keys.all (·.isSome)=true) (hl:keys.length=values.length) (h0:keys≠[])
  (h15:keys.length≤15):PE X (.Dict keys values pos) (tDisp trs):=by
 intro pins s σ H Q I q
 have hn:=I.hok.fresh (Nat.le_refl s.heap.objs.size)
 have I1:=I.laid (a:=s.heap.objs.size) (o:=.dK []) (h':=s.heap.push { cls:=.type "dict",data:=.dict #[] }) (t':=s.toks) (fun _ _ q=>Heap.get?_push_of_some _ q) (Nat.le_refl _) (dk_empty s.heap I.big)
 refine wpAny_Dict_walk (knd:=mixKind X.prog X.w) hall hl h0 h15 (thn (h pins _ σ _ _ I1 (q _ hn)) fun ws s2 ⟨ps,H2,I2,rel,e,kvs,ep,lk,q2⟩=>?_)
 subst ep
 obtain ⟨rs,c,rk⟩:=carries_of (P:=X.prog) (w:=X.w) rel
 obtain ⟨z,hd,vs0,r0,dd⟩:=dk_of I2.hok e
 cases r0
 refine ⟨rs,c,dd,fun h' dd' hs=>⟨.ref s.heap.objs.size,_,?_,rfl,q2⟩⟩
 have hz:(mergeK [] kvs).length≤sizeLine:=by
  have h1:=length_mergeK kvs []
  rw [List.length_nil] at h1
  rw [sizeLine_eq];omega
 have he:∃ q,h'.get? s.heap.objs.size=some q:=let ⟨q,_,_,hq,_⟩:=dd';⟨q,hq⟩
 exact d_write I2 (by rw [e];exact True.intro) hs he (dk_new hz hd (rk.merge .nil) dd')


/-! ### methods -/
structure M2 (X:Cx) (o:Expr) (m:Str) (apos:Pos) (e f:Expr) (cpos:Pos):Prop where
 base:attributeBase o m X.env (eval o X.env)=eval o X.env
 few:((backTo cpos (starEach [e,f] X.env)).all (fun x=>!x.1) && (backToKw cpos (keywordEach [] X.env)).all (fun x=>x.1.isSome)
  && decide (([e,f]:List Expr).length+([]:List Keyword).length+(if ([]:List Keyword).isEmpty then 0 else 1) < 30))=true
 line:(apos.endLine == cpos.line)=true
 trees:backTo cpos (starEach [e,f] X.env)=[(false,eval e X.env),(false,eval f X.env)]

section
variable {X:Cx} {pins:List (Addr × Obj)} {σ:St} {H:Hp} {s:Shared} {a:Addr} {y d:V} {u r:Value} {o:Option V} {A:Around} {E:Value→Shared→Prop}
end

section
variable {X:Cx} {o e f:Expr} {apos cpos:Pos} {td ty tx:TE}
end

/-! ### dict(d): a copy -/
section
variable {X:Cx} {pins:List (Addr × Obj)} {σ:St} {H:Hp} {s:Shared} {a:Addr} {kvs:List (Key × V)} {A:Around} {E:Value→Shared→Prop}
end


section
variable {X:Cx} {pins:List (Addr × Obj)} {σ:St} {H:Hp} {s:Shared} {a:Addr} {y:V} {u:Value} {A:Around} {E:Value→Shared→Prop}
end
end L2

namespace Att
open PySem PySem.W PySem.Calls PyProof.Rows

/-! ### the script -/
theorem ints_of_wellAll {P:Params} {h:Heap}:∀ (ns:List Int) (vs:List Value),WellAll P h vs (ns.map WData.int)→IntsAre vs ns:=by
 intro ns
 induction ns with
 | nil =>
  intro vs w
  rw [List.map_nil] at w
  cases w
  exact .nil
 | cons n ns ih =>
  intro vs w
  rw [List.map_cons] at w
  cases w with
  | cons a b =>
   cases a
   exact .cons _ _ (ih _ b)

theorem script_of {l:OpenLaw} {n:Nat} (hn:l.most=some n) {P:Params} {h:Heap} {args:List WData} {vals:List Value}
  (hpre:l.row.toRowW.claim.pre args=true) (hwl:WellAll P h vals args) :
  ∃ a vs ns,vals=[Value.ref a]∧args=[WData.list (ns.map WData.int)]∧h.get? a=some { cls:=.type "list",data:=.seq vs.toArray }∧IntsAre vs ns∧ns.length≤n:=by
 have hsh:WShape.hasAll [] args [.list .int]=true:=(pre_splitW hpre).1
 have hc:l.pre.holds [] { args:=args }=true:=(pre_splitW hpre).2
 obtain ⟨d,r,rfl,h1,h2⟩:=hasAllW_cons hsh
 obtain rfl:=hasAllW_nil h2
 obtain ⟨xs,rfl,h3⟩:=hasW_list h1
 obtain ⟨ns,rfl⟩:=items_int h3
 have hlen:ns.length≤n:=by
  unfold OpenLaw.pre at hc
  have h4:(WTm.not (.lt (.lit (.int (n:Int))) (.len (.arg 0)))).holds [] { args:=[.list (ns.map .int)] }=true:=by
   have h4:=(holds_andW hc).1
   rw [hn] at h4
   exact h4
  have h5:=condW_of h4 (w_not (w_lt w_lit (w_len_list (w_arg rfl))))
  rw [List.length_map] at h5
  refine Nat.le_of_not_lt fun q=>?_
  have q':(n:Int) < ((ns.length:Nat):Int):=by omega
  first
   | (rw [decide_eq_true q'] at h5;exact absurd h5 (by decide))
   | (simp at h5;omega)
 cases hwl with
 | cons w1 w2 =>
  cases w2
  cases w1 with
  | list ho hall=>exact ⟨_,_,ns,rfl,rfl,ho,ints_of_wellAll ns _ hall,hlen⟩

theorem post_true (l:OpenLaw) (args:List WData):l.row.toRowW.claim.post args (.bool true) args=true :=
 postW_of (r:=l.row.toRowW) (X:=(true == true))
  (show WShape.has [] (.bool true) .bool=true by first | rfl | decide | simp [WShape.has,WShape.arms,WShape.armsAll])
  (show (WTm.eq .res (.lit (.bool true))).value [] { args:=args,res:=some (.bool true),after:=args }=some (.bool (true == true)) from w_eq_bool (w_res rfl) w_lit) rfl

/-! ### the attachment: holds_open's last premise (the goal 'hc' behind k_head) from a wpAny of the law's body -/
theorem attach_call {l:OpenLaw} {n:Nat} {q:Program} {loose:List Str} {XP:(Str→Option Value)→Heap→Prop} {YP:World→Heap→Prop} {d:DefRec}
  (hn:l.most=some n) (hdf:d.params.defaults=[])
  (call:∀ (w:World) (s₀ s₁:Shared) (mg mb:Str→Option Value) (fa:Addr) (o:Obj) (pm cd doc:Value) (a:Addr) (vs:List Value) (ns:List Int),
   Ground q loose [] XP w s₀ mg mb s₁.heap→YP w s₁.heap →
   s₁.heap.get? fa=some o→o.data=.func (docDef d.name d.params d.body d.scope pm cd doc)→s₁.heap.CodeRec cd d.name→mg d.name=some (.ref fa) →
   s₁.heap.get? a=some { cls:=.type "list",data:=.seq vs.toArray }→IntsAre vs ns→ns.length≤n→s₁.gens=#[] →
   codeAny (model l.prog w) callerA (.call (.ref fa) ⟨[.ref a],[]⟩) (fun r s'=>r=.ok (.ret (.bool true))∧OldK s₁.heap s'.heap∧s'.os=s₁.os∧AllBare s'.gens) s₁) :
  WalkO q loose XP YP l.row.toRowW d [] (fun f vs=>PySem.call f vs):=by
 intro w s₀ s₁ mg mb G Y fa o pm cd doc dV kV ho hd hcd hD hmg hg args vals as hpre hlay hrd hwl hlo
 obtain rfl:dV=.none:=Dflts.none hD hdf
 obtain rfl:kV=.none:=Dflts.noKw hD
 obtain ⟨a,vs,ns,rfl,rfl,hobj,hints,hlen⟩:=script_of hn hpre hwl
 refine enter_call (codeAny_mono (call w s₀ s₁ mg mb fa o pm cd doc a vs ns G Y ho (fd_plain hd) hcd hmg hobj hints hlen hg) fun r s' hq=>?_)
 obtain ⟨rfl,h2,h3,h4⟩:=hq
 exact ⟨.inl ⟨.bool true,.bool true,[],rfl,fun _=>rfl,.bool true,post_true l _,fun _=>⟨List.Pairwise.nil,fun _ hm=>(nomatch hm)⟩⟩,h2,h3,h4⟩

/-! ### rules over ANY heap (no ledger) from facts about the written part K: the library's own take a ledger (News) for what they write -/
section
variable {prog:Program} {w:World} {A:Around} {E:Value→Shared→Prop} {s:Shared} {K:Frag}

/-! the whole heap as the ledger: makes every rule that writes through a ledger a rule over any heap -/
def ledger (h:Heap) (L d:Addr):List (Addr × Obj):=(List.range h.objs.size).filterMap fun a=>if a=L∨a=d then none else (h.get? a).map fun o=>(a,o)
end
end Att

namespace L2
open PySem PySem.Spec PyProof.Rows

theorem vals_ints:∀ {vs:List Value} {ns:List Int},IntsAre vs ns→Vals (ns.map V.int) vs
 | _,_,.nil=>.nil
 | _,_,.cons n t h=>.cons ⟨t,rfl⟩ (vals_ints h)

end L2

namespace L2
open PySem PySem.Spec PyProof.Rows

end L2


/-! SHORT WORDS over the layer: a def of the text,its body,what a loop and a test want. -/
namespace L2
open PySem PySem.Spec PyProof.Rows

/-! ### the text by places -/
def defArgs (s:Stmt):Arguments:=match s with
 | .FunctionDef _ a _ _ _ _ _ _ _ _=>a
 | _=>{ posonlyargs:=[],args:=[],vararg:=none,kwonlyargs:=[],kw_defaults:=[],kwarg:=none,defaults:=[] }
def defBody (s:Stmt):List Stmt:=match s with
 | .FunctionDef _ _ b _ _ _ _ _ _ _=>b
 | _=>[]
def defScope (s:Stmt):Scope:=match s with
 | .FunctionDef _ _ _ _ _ _ sc _ _ _=>sc
 | _=>{ kind:=.function,names:=[],isGenerator:=false,isCoroutine:=false }

/-! ### no exception leaves a def -/
abbrev E0:XK:=fun _ _ _=>False
/-! ### a def (or method) of the text as it stands behind the top -/
structure Fun (K:PySem.W.Frag) (x qual:Str) (st:Stmt) (f:Addr) (fd:FuncData):Prop where
 ex:∃ (oc:Value) (od:Option Addr) (kV doc pm:Value) (an:Option Addr) (cdv ct:Value) (osl:Array (Option Value)),
  fd=PySem.W.fnOf x qual (defArgs st) (defBody st) (defScope st) .none kV doc pm an cdv ct∧K.lookup f=some ⟨oc,od,.func fd,osl⟩∧PySem.W.codeIn K cdv qual=true
 kp:PySem.W.keepIn K (.ref f)=true
section
variable {P:Program} {w:World} {K:PySem.W.Frag} {mg:Str→Option Value} {base:Heap}
theorem Fun.binds {x qual:Str} {st:Stmt} {f:Addr} {fd:FuncData} {ps:List Str} (F:Fun K x qual st f fd)
  (h:∀ (kV doc pm:Value) (an:Option Addr) (cdv ct:Value) (us:List Value),us.length=ps.length→bindArgs (PySem.W.fnOf x qual (defArgs st) (defBody st) (defScope st) .none kV doc pm an cdv ct) ⟨us,[]⟩=pure (ps.zip us)):Binds K fd ps []:=by
 obtain ⟨oc,od,kV,doc,pm,an,cdv,ct,osl,rfl,lk,hcd⟩:=F.ex
 exact .all (h kV doc pm an cdv ct)
theorem fun_mk {x qual:Str} {st:Stmt} {f:Addr} {oc:Value} {od an:Option Addr} {osl:Array (Option Value)} {kV doc pm cdv ct:Value} (l:K.lookup f=some ⟨oc,od,.func (PySem.W.fnOf x qual (defArgs st) (defBody st) (defScope st) .none kV doc pm an cdv ct),osl⟩)
  (c:PySem.W.codeIn K cdv qual=true) (k:PySem.W.keepIn K (.ref f)=true):Fun K x qual st f (PySem.W.fnOf x qual (defArgs st) (defBody st) (defScope st) .none kV doc pm an cdv ct):=⟨⟨oc,od,kV,doc,pm,an,cdv,ct,osl,rfl,l,c⟩,k⟩
end
theorem hu_of {A:Around} {k:Nat} (hr:Room k A):A.units+1 < cLine:=Nat.lt_of_le_of_lt (Nat.add_le_add_left (by decide:1≤64) _) hr.units
theorem small1000 {n:Nat} (h:n≤1000):n < sizeLine:=Nat.lt_of_le_of_lt h (by decide)

/-! ### expressions in short: the name that stands in the i-th slot -/
section
variable {X:Cx}
theorem pv (i:Nat) {x:Str} {pos:Pos} (hN:X.N[i]?=some x:=by rfl) (hv:Vis X.env.scope x:=by first | exact Or.inl rfl | exact Or.inr (Or.inl rfl) | exact Or.inr (Or.inr rfl)) (hd:(x == ("__debug__":Str))=false:=by decide)
  (hcd:(x == ("__classdict__":Str))=false:=by decide):PE X (.Name x pos) (tVar i):=pe_var hN hv hd hcd
end

/-! ### tests -/
theorem iteF {A B:Prop} (h:B):if false=true then A else B:=by
 rw [if_neg Bool.false_ne_true]
 exact h
theorem iteT {A B:Prop} (h:A):if true=true then A else B:=by
 rw [if_pos rfl]
 exact h
theorem ite2 {c A B:Prop} [Decidable c] (h1:c→A) (h2:¬ c→B):if c then A else B:=by
 by_cases h:c
 ·rw [if_pos h]
  exact h1 h
 ·rw [if_neg h]
  exact h2 h
/-! ### heaps -/
def Same (H H':Hp):Prop:=∀ b o,H b=some o→H' b=some o
theorem Same.refl (H:Hp):Same H H:=fun _ _ h=>h
theorem Same.trans {H H1 H2:Hp} (a:Same H H1) (b:Same H1 H2):Same H H2:=fun c o h=>b c o (a c o h)
theorem Same.free {H H':Hp} (e:Same H H') {l:Addr} (h:H' l=Option.none):H l=Option.none:=by
 cases q:H l with
 | none=>rfl
 | some o =>
  rw [e l o q] at h
  cases h
theorem Same.seq {K:PySem.W.Frag} {H H':Hp} {a:Addr} {xs:List V} (e:Same H H') (h:SqL K H a xs):SqL K H' a xs:=by
 rcases h with (h | ⟨o,h⟩) | h
 ·exact .inl (.inl (e _ _ h))
 ·exact .inl (.inr ⟨o,e _ _ h⟩)
 ·exact .inr h

/-! ### a dict's pairs: keys that differ -/
section
variable {κ:Type} [DecidableEq κ]
theorem nd_snoc:∀ {l:List κ} {k:κ},l.Nodup→¬ k∈l→(l++[k]).Nodup
 | [],k,_,_=>by simp
 | a::r,k,h,hk=>by
  obtain ⟨h1,h2⟩:=List.nodup_cons.mp h
  show (a::(r++[k])).Nodup
  refine List.nodup_cons.mpr ⟨fun m=>?_,nd_snoc h2 fun m=>hk (List.mem_cons.mpr (Or.inr m))⟩
  rcases List.mem_append.mp m with q | q
  ·exact h1 q
  ·exact hk (List.mem_cons.mpr (Or.inl (List.mem_singleton.mp q).symm))
end
end L2

set_option Elab.async false
set_option linter.all false
set_option maxRecDepth 100000
set_option maxHeartbeats 4000000
namespace Gu
open PySem L2
def top (i:Nat):Stmt:=PySem.Challenge.pw_guisery_k26_sections_told.main.body.getD i (.Pass ⟨0,0,0,0⟩)
abbrev sSect:Stmt:=top 5
abbrev sLeast:Stmt:=top 6
abbrev sCome:Stmt:=top 7
abbrev sKinds:Stmt:=top 8
abbrev sGone:Stmt:=top 9
abbrev sNumbered:Stmt:=top 10
abbrev sSections:Stmt:=top 12
abbrev sLasting:Stmt:=top 13
abbrev sComesA:Stmt:=top 14
abbrev sGoneTo:Stmt:=top 15
abbrev sInLine:Stmt:=top 17
abbrev sShrunk:Stmt:=top 18
abbrev sWhole:Stmt:=top 19
abbrev sLike:Stmt:=top 20
abbrev sCell:Stmt:=top 21
abbrev sLetters:Stmt:=top 22
abbrev sNumbers:Stmt:=top 23
abbrev sRear:Stmt:=top 24
abbrev sRows:Stmt:=top 25
abbrev sGuise:Stmt:=top 26
abbrev sAmple:Stmt:=top 27
abbrev sPairsL:Stmt:=top 28
abbrev sComesL:Stmt:=top 29
abbrev sRight:Stmt:=top 30
abbrev sLaw:Stmt:=top 31
end Gu

set_option Elab.async false
set_option linter.all false
set_option maxRecDepth 100000
set_option maxHeartbeats 4000000
namespace Gu
open PySem PySem.W PyProof.Rows
/-! ### the opening of a text,run over the tree of its objects -/
section
variable (tb:String→Option Builtin) (p:Program) (w:World) (m:Nat) (an:Option Value)
def topT:Nat→SharedT→Thread→Option SharedT
 | 0,_,_=>none
 | n+1,x,y=>match through y,stepOk m an y with
  | true,_=>some x
  | false,false=>none
  | false,true=>match stepT (denote tb) p w x y with
   | some z=>topT n z.1 z.2
   | none=>none
end
section
variable {tb:String→Option Builtin} {p:Program} {w:World} {m:Nat} {an:Option Value}
theorem topT_of:∀ (n:Nat) (x r:SharedT) (y:Thread),topT tb p w m an n x y=some r→topRun tb p w m an n x.abs y=some r.abs
 | 0,_,_,_,h=>by cases h
 | n+1,x,r,y,h=>by
  unfold topT at h
  unfold topRun
  cases ht:through y<;>cases hk:stepOk m an y<;>rw [ht,hk] at h<;>dsimp only at h ⊢
  ·cases h
  ·cases hs:stepT (denote tb) p w x y with
   | none=>rw [hs] at h;cases h
   | some z =>
    rw [hs] at h
    rw [stepT_spec (s':=z.1) (t':=z.2) hs]
    exact topT_of n _ _ _ h
  ·cases h;rfl
  ·cases h;rfl
end
noncomputable def bootT (P:Params):BT:=(.node (boot_o_0 P) (.node (boot_o_1 P) (.node (boot_o_3 P) (.node (boot_o_7 P) .nil .nil) .nil) (.node (boot_o_5 P) (.node (boot_o_9 P) .nil .nil) .nil)) (.node (boot_o_2 P) (.node (boot_o_4 P) (.node (boot_o_8 P) .nil .nil) .nil) (.node (boot_o_6 P) (.node (boot_o_10 P) .nil .nil) .nil)))
noncomputable def bootS (w:World) (os:OsState):SharedT:=⟨bootT w.params,11,(boot_heap w.params).life,Array.mk [],boot_drawn,boot_toks,os⟩
theorem boot_abs (P:Params):absHeap (bootT P) 11 (boot_heap P).life=boot_heap P:=by kernel_rfl
theorem left_of {p q:Program} {Xt:Shared→Bool} {α:Type} {Yf:Shared→α} {Ya:World→α} {N:Nat} (e:opening p=plainProg p.main.scope.names) (hN:Nat.ble 600 N=true) (f:∀ s,fenceModules? p s=some s)
  (h:∀ w os,(topT treeTable p w 11 (some (.ref 6)) N (bootS w os) (topStub p)).bind (fun r=>match staticsOk (importedModules p.main.body) (bootS w os).abs.heap r.abs.heap && namesBound p r.abs.heap && gensDone r.abs && laidKept (bootS w os).abs.heap r.abs.heap with
   | true=>some (openSeen q [] (importedModules p.main.body) Xt true r.abs,Yf r.abs)
   | false=>none)=some (openGood q [],Ya w)):LeftO p q [] Xt Yf Ya N:=fun w=>by
 obtain ⟨s,hs,hv⟩:=Option.map_eq_some_iff.mp (boot_open e hN f w)
 have es:s=(bootS w s.os).abs:=by
  obtain ⟨h1,g1,d1,t1,o1⟩:=s
  obtain ⟨a,b,c,d⟩:h1=boot_heap w.params∧g1=Array.mk []∧d1=boot_drawn∧t1=boot_toks:=by
   simpa [Prod.ext_iff] using hv
  subst a b c d
  show _=(⟨absHeap (bootT w.params) 11 (boot_heap w.params).life,_,_,_,_⟩:Shared)
  rw [boot_abs]
  rfl
 have k:=h w s.os
 obtain ⟨r,hr,k⟩:=Option.bind_eq_some_iff.mp k
 unfold openEnds
 rw [hs]
 show (topFrom treeTable p w N s).map _=_
 unfold topFrom
 rw [es]
 have z1:((bootS w s.os).abs.heap.isNs mainGlobals && (bootS w s.os).abs.gens.size == 0)=true:=by kernel_rfl
 have z2:(bootS w s.os).abs.heap.objs.size=11:=by kernel_rfl
 have z3:(bootS w s.os).abs.heap.nsMap mainGlobals "__annotations__"=some (.ref 6):=by kernel_rfl
 rw [z1,z2,z3]
 dsimp only
 rw [topT_of _ _ _ _ hr]
 show Option.map _ (match _ with | true=>_ | false=>_)=_
 cases c:staticsOk (importedModules p.main.body) (bootS w s.os).abs.heap r.abs.heap && namesBound p r.abs.heap && gensDone r.abs && laidKept (bootS w s.os).abs.heap r.abs.heap with
 | false=>rw [c] at k;cases k
 | true =>
  rw [c] at k
  exact k
end Gu

set_option Elab.async false
set_option linter.all false
set_option maxRecDepth 100000
namespace Gu
open PySem L2
def kE (P:Params) (x:Str) (t:Tok) (v:Value):DictEntry:={ hash:=PyData.keyHash P x,key:=Value.str x t,val:=v }
def kF (s:Stmt) (x:Str) (kV dc pm:Value) (an:Option Addr) (cd ct:Value):Obj:=⟨.type "function",none,.func (PySem.W.fnOf x x (defArgs s) (defBody s) (defScope s) .none kV dc pm an cd ct),#[]⟩
abbrev vN:Value:=.none
abbrev vR (a:Addr):Value:=.ref a
def kR (P:Params) (x:Str) (t:Tok) (a:Addr):DictEntry:=kE P x t (.ref a)
def kG (s:Stmt) (x m:Str) (t:Tok) (c:Addr):Obj:=kF s x .none .none (.str m t) none (.ref c) .none
def kC (x:Str) (a b c d:Tok) (vs:Array Value):Obj:={ cls:=.type "code",data:=.fields (#[Value.str x a,Value.str x b,Value.str "/claim/cut.py" c]++vs++#[Value.str "/claim/cut.py" d]) }
def kD (x:Str) (a b c d:Tok) (ln ar:Int) (A:Addr) (fl:Int) (B:Addr) (X Y Z:Value) (u:Int):Obj:=kC x a b c d #[.int ln 0,.int ar 0,.int 0 0,.int 0 0,.int 3 0,.ref A,.bool true,.int fl 0,.ref B,.none,X,Y,Z,.int u 0,.int ln 0]
def KH (P:Params):PySem.W.Frag:=(nat_lit 2,{ cls:=Value.none,data:=Data.dict #[] }) ::
 (nat_lit 3,{ cls:=Value.type "dict",data:=Data.dict #[kE P "__name__" 165 (Value.str "law_guisery_k26_sections_told" 307),kE P "__doc__" 166 (Value.none),kE P "__package__" 167 (Value.none),kE P "__loader__" 168 (Value.builtin "__main__.__loader__#opaque"),kE P "__spec__" 169 (Value.none),kR P "__annotations__" 170 6,kR P "__builtins__" 171 4,kE P "__file__" 173 (Value.str "/claim/cut.py" 172),kE P "__cached__" 174 (Value.none),kR P "GuiseError" 206 24,kR P "TooMany" 222 37,kE P "MOST_FORM_ROWS" 226 (Value.int 60 225),kR P "section_at" 235 46,kR P "least_form" 249 53,kR P "rows_come_to" 255 58,kR P "kinds_of_rows" 261 63,kR P "kinds_gone_to" 267 68,kR P "numbered" 273 73,kR P "sections" 281 78,kR P "lasting" 287 83,kR P "comes_again" 293 88,kR P "gone_to" 306 95,kR P "_law_in_line" 314 100,kR P "_law_shrunk" 320 105,kR P "_law_whole" 327 112,kR P "_law_like" 333 117,kR P "_law_cell" 341 124,kR P "_law_letters" 349 131,kR P "_law_numbers" 360 138,kR P "_law_rearranged" 372 145,kR P "_law_rows" 378 150,kR P "_law_guise" 386 157,kR P "_law_ample" 392 162,kR P "_law_pairs" 398 167,kR P "_law_comes_again" 409 174,kR P "_law_right" 415 179,kR P "law" 426 186] 37 }) ::
 (nat_lit 23,{ cls:=Value.type "dict",data:=Data.dict #[kE P "__module__" 196 (Value.str "guisery.errors" 187),kE P "__firstlineno__" 200 (Value.int 2 199),kR P "__static_attributes__" 201 22,kR P "__weakref__" 203 25,kE P "__doc__" 204 (Value.none)] 3 }) ::
 (nat_lit 24,{ cls:=Value.type "type",data:=Data.cls { name:="GuiseError",bases:=[Value.type "ValueError"],mro:=[Value.ref 24,Value.type "ValueError",Value.type "Exception",Value.type "BaseException",Value.type "object"],ns:=23,qualname:="GuiseError",subclasses:=[Value.ref 37] },slots:=#[some (Value.ref 15),none,some (Value.str "GuiseError" 189),some (Value.str "GuiseError" 197),some (Value.builtin "ValueError.__new__"),some (Value.bool true)] }) ::
 (nat_lit 25,{ cls:=Value.type "getset_descriptor",data:=Data.fields #[Value.str "__weakref__" 202,Value.ref 24,Value.builtin "ExceptionGroup.__weakref__",Value.none] }) ::
 (nat_lit 36,{ cls:=Value.type "dict",data:=Data.dict #[kE P "__module__" 214 (Value.str "guisery.errors" 187),kE P "__firstlineno__" 218 (Value.int 4 217),kR P "__static_attributes__" 219 35,kE P "__doc__" 220 (Value.none)] 2 }) ::
 (nat_lit 37,{ cls:=Value.type "type",data:=Data.cls { name:="TooMany",bases:=[Value.ref 24],mro:=[Value.ref 37,Value.ref 24,Value.type "ValueError",Value.type "Exception",Value.type "BaseException",Value.type "object"],ns:=36,qualname:="TooMany" },slots:=#[some (Value.ref 28),none,some (Value.str "TooMany" 207),some (Value.str "TooMany" 215),some (Value.builtin "ValueError.__new__"),some (Value.bool true)] }) ::
 (nat_lit 45,kD "section_at" 227 228 229 234 8 2 40 181 41 (vR 42) (vR 43) (vR 44) 233) ::
 (nat_lit 46,kG sSect "section_at" "guisery.machines" 223 45) ::
 (nat_lit 52,kD "least_form" 236 237 238 248 10 2 47 181 48 (vR 49) (vR 50) (vR 51) 247) ::
 (nat_lit 53,kG sLeast "least_form" "guisery.machines" 223 52) ::
 (nat_lit 57,kD "rows_come_to" 250 251 252 254 18 2 54 181 55 vN vN (vR 56) 253) ::
 (nat_lit 58,kG sCome "rows_come_to" "guisery.machines" 223 57) ::
 (nat_lit 62,kD "kinds_of_rows" 256 257 258 260 30 1 59 181 60 vN vN (vR 61) 259) ::
 (nat_lit 63,kG sKinds "kinds_of_rows" "guisery.machines" 223 62) ::
 (nat_lit 67,kD "kinds_gone_to" 262 263 264 266 39 2 64 181 65 vN vN (vR 66) 265) ::
 (nat_lit 68,kG sGone "kinds_gone_to" "guisery.machines" 223 67) ::
 (nat_lit 72,kD "numbered" 268 269 270 272 41 1 69 181 70 vN vN (vR 71) 271) ::
 (nat_lit 73,kG sNumbered "numbered" "guisery.machines" 223 72) ::
 (nat_lit 77,kD "sections" 276 277 278 280 48 1 74 181 75 vN vN (vR 76) 279) ::
 (nat_lit 78,kG sSections "sections" "guisery.crews" 274 77) ::
 (nat_lit 82,kD "lasting" 282 283 284 286 50 1 79 181 80 vN vN (vR 81) 285) ::
 (nat_lit 83,kG sLasting "lasting" "guisery.crews" 274 82) ::
 (nat_lit 87,kD "comes_again" 288 289 290 292 52 2 84 181 85 vN vN (vR 86) 291) ::
 (nat_lit 88,kG sComesA "comes_again" "guisery.crews" 274 87) ::
 (nat_lit 94,kD "gone_to" 294 295 296 305 63 2 89 181 90 (vR 91) (vR 92) (vR 93) 304) ::
 (nat_lit 95,kG sGoneTo "gone_to" "guisery.crews" 274 94) ::
 (nat_lit 99,kD "_law_in_line" 309 310 311 313 71 3 96 181 97 vN vN (vR 98) 312) ::
 (nat_lit 100,kG sInLine "_law_in_line" "law_guisery_k26_sections_told" 307 99) ::
 (nat_lit 104,kD "_law_shrunk" 315 316 317 319 79 2 101 181 102 vN vN (vR 103) 318) ::
 (nat_lit 105,kG sShrunk "_law_shrunk" "law_guisery_k26_sections_told" 307 104) ::
 (nat_lit 111,kD "_law_whole" 321 322 323 326 102 1 106 181 107 (vR 108) (vR 109) (vR 110) 325) ::
 (nat_lit 112,kG sWhole "_law_whole" "law_guisery_k26_sections_told" 307 111) ::
 (nat_lit 116,kD "_law_like" 328 329 330 332 104 2 113 181 114 vN vN (vR 115) 331) ::
 (nat_lit 117,kG sLike "_law_like" "law_guisery_k26_sections_told" 307 116) ::
 (nat_lit 123,kD "_law_cell" 334 335 336 340 116 2 118 181 119 (vR 120) (vR 121) (vR 122) 339) ::
 (nat_lit 124,kG sCell "_law_cell" "law_guisery_k26_sections_told" 307 123) ::
 (nat_lit 130,kD "_law_letters" 342 343 344 348 122 2 125 181 126 (vR 127) (vR 128) (vR 129) 347) ::
 (nat_lit 131,kG sLetters "_law_letters" "law_guisery_k26_sections_told" 307 130) ::
 (nat_lit 137,kD "_law_numbers" 350 351 352 359 124 2 132 181 133 (vR 134) (vR 135) (vR 136) 358) ::
 (nat_lit 138,kG sNumbers "_law_numbers" "law_guisery_k26_sections_told" 307 137) ::
 (nat_lit 144,kD "_law_rearranged" 361 362 363 371 135 2 139 181 140 (vR 141) (vR 142) (vR 143) 370) ::
 (nat_lit 145,kG sRear "_law_rearranged" "law_guisery_k26_sections_told" 307 144) ::
 (nat_lit 149,kD "_law_rows" 373 374 375 377 143 2 146 181 147 vN vN (vR 148) 376) ::
 (nat_lit 150,kG sRows "_law_rows" "law_guisery_k26_sections_told" 307 149) ::
 (nat_lit 156,kD "_law_guise" 379 380 381 385 162 2 151 181 152 (vR 153) (vR 154) (vR 155) 384) ::
 (nat_lit 157,kG sGuise "_law_guise" "law_guisery_k26_sections_told" 307 156) ::
 (nat_lit 161,kD "_law_ample" 387 388 389 391 164 2 158 181 159 vN vN (vR 160) 390) ::
 (nat_lit 162,kG sAmple "_law_ample" "law_guisery_k26_sections_told" 307 161) ::
 (nat_lit 166,kD "_law_pairs" 393 394 395 397 175 2 163 181 164 vN vN (vR 165) 396) ::
 (nat_lit 167,kG sPairsL "_law_pairs" "law_guisery_k26_sections_told" 307 166) ::
 (nat_lit 173,kD "_law_comes_again" 399 400 401 408 183 2 168 181 169 (vR 170) (vR 171) (vR 172) 407) ::
 (nat_lit 174,kG sComesL "_law_comes_again" "law_guisery_k26_sections_told" 307 173) ::
 (nat_lit 178,kD "_law_right" 410 411 412 414 192 1 175 181 176 vN vN (vR 177) 413) ::
 (nat_lit 179,kG sRight "_law_right" "law_guisery_k26_sections_told" 307 178) ::
 (nat_lit 185,kD "law" 416 417 418 425 204 1 180 181 181 (vR 182) (vR 183) (vR 184) 424) ::
 (nat_lit 186,kG sLaw "law" "law_guisery_k26_sections_told" 307 185)::[]
def KA:List Addr:=nat_lit 2::nat_lit 3::nat_lit 23::nat_lit 24::nat_lit 25::nat_lit 36::nat_lit 37::nat_lit 45::nat_lit 46::nat_lit 52::nat_lit 53::nat_lit 57::nat_lit 58::nat_lit 62::nat_lit 63::nat_lit 67::nat_lit 68::nat_lit 72::nat_lit 73::nat_lit 77::nat_lit 78::nat_lit 82::nat_lit 83::nat_lit 87::nat_lit 88::nat_lit 94::nat_lit 95::nat_lit 99::nat_lit 100::nat_lit 104::nat_lit 105::nat_lit 111::nat_lit 112::nat_lit 116::nat_lit 117::nat_lit 123::nat_lit 124::nat_lit 130::nat_lit 131::nat_lit 137::nat_lit 138::nat_lit 144::nat_lit 145::nat_lit 149::nat_lit 150::nat_lit 156::nat_lit 157::nat_lit 161::nat_lit 162::nat_lit 166::nat_lit 167::nat_lit 173::nat_lit 174::nat_lit 178::nat_lit 179::nat_lit 185::nat_lit 186::[]
end Gu

set_option Elab.async false
set_option linter.all false
set_option maxRecDepth 100000
set_option maxHeartbeats 4000000
lay_quick PySem.Challenge.pw_guisery_k26_sections_told
namespace Gu
open PySem PySem.W PyProof.Rows PySem.W.Fast
noncomputable abbrev pY:Program:=PySem.Challenge.pw_guisery_k26_sections_told
noncomputable abbrev pQ:Program:=tw2448069794752697393
noncomputable abbrev rY:OpenRow:=PySem.Challenge.rw_guisery_k26_sections_told.row
noncomputable def viewOf (p:Program):Program:={ p with main:={ p.main with body:=[1,2,4,5,6,7,8,9,10,12,13,14,15,17,18,19,20,21,22,23,24,25,26,27,28,29,30,31].map fun i=>p.main.body.getD i (.Pass ⟨0,0,0,0⟩) } }
noncomputable abbrev HK:Hook:=PySem.W.kmHook Gu.KH Gu.KA (fun _=>by kernel_rfl) [41]
theorem pqe:pY=pQ:=te2448069794752697393
set_option maxHeartbeats 0 in
theorem leftq:∀ w os,(topT tw14364793385576792824 pQ w 11 (some (.ref 6)) 2450 (bootS w os) (topStub pQ)).bind (fun r=>match staticsOk (tw5923862056798008813 pQ.main.body) (bootS w os).abs.heap r.abs.heap && namesBound pQ r.abs.heap && gensDone r.abs && laidKept (bootS w os).abs.heap r.abs.heap with
 | true=>some (tw4187177175401517315 (viewOf pQ) [] (tw5923862056798008813 pQ.main.body) (fun s=>xlAt (viewOf pQ) [] s && recOk [] s) true r.abs,HK.obs r.abs)
 | false=>none)=some (openGood (viewOf pQ) [],HK.val w):=fun w os=>by kernel_rfl
theorem left:LeftO rY.prog (viewOf pY) [] (fun s=>xlAt (viewOf pY) [] s && recOk (RowW.records rY.toRowW) s) HK.obs HK.val 2450:=by
 have h:=leftq
 rw [←te14364793385576792824,←te4187177175401517315,←te5923862056798008813,←pqe] at h
 exact left_of (by kernel_rfl) (by rfl) (fun _=>rfl) h
end Gu

set_option Elab.async false
set_option linter.all false
set_option maxRecDepth 100000
set_option maxHeartbeats 4000000
namespace L2
open PySem PySem.Spec PyProof.Rows

/-! ### comprehensions -/
def closeL (cells:List (Str × Addr)):List (Str × NameKind)→List (Str × Addr)→List (Str × Addr)
 | [],cs=>cs
 | (n,k)::r,cs=>closeL cells r (if k=.free then (n,(cells.lookup n).getD 0)::cs else cs)
theorem closeL_in {cells:List (Str × Addr)}:∀ (l:List (Str × NameKind)) (cs:List (Str × Addr)) (x:Str),(∀ y,(y,NameKind.free)∈l→∃ c,cells.lookup y=some c)→((x,NameKind.free)∈l∨cs.lookup x=cells.lookup x)→(closeL cells l cs).lookup x=cells.lookup x
 | [],cs,x,_,h=>by
  rcases h with h | h
  ·cases h
  ·exact h
 | (n,k)::r,cs,x,hc,h=>by
  refine closeL_in r _ x (fun y hy=>hc y (List.mem_cons_of_mem _ hy)) ?_
  by_cases hk:k=.free
  ·subst hk
   rw [if_pos rfl]
   by_cases e:x=n
   ·subst e
    obtain ⟨c,hcx⟩:=hc x List.mem_cons_self
    right
    rw [List.lookup_cons,hcx]
    simp
   ·rcases h with h | h
    ·rcases List.mem_cons.mp h with h | h
     ·exact absurd (congrArg Prod.fst h) e
     ·exact .inl h
    ·right
     have:(x == n)=false:=by simpa using e
     rw [List.lookup_cons,this]
     exact h
  ·rw [if_neg hk]
   rcases h with h | h
   ·rcases List.mem_cons.mp h with h | h
    ·exact absurd (congrArg Prod.snd h).symm hk
    ·exact .inl h
   ·exact .inr h
theorem closeL_out {cells:List (Str × Addr)}:∀ (l:List (Str × NameKind)) (cs:List (Str × Addr)) (x:Str),(x,NameKind.free)∉l→(closeL cells l cs).lookup x=cs.lookup x
 | [],cs,x,_=>rfl
 | (n,k)::r,cs,x,h=>by
  refine (closeL_out r _ x (fun hy=>h (List.mem_cons_of_mem _ hy))).trans ?_
  by_cases hk:k=.free
  ·subst hk
   rw [if_pos rfl]
   have e:x≠n:=fun e=>h (by subst e;exact List.mem_cons_self)
   have:(x == n)=false:=by simpa using e
   rw [List.lookup_cons,this]
  ·rw [if_neg hk]
theorem closureFor_run {scope:Scope} {env:Env} (h:∀ y,(y,NameKind.free)∈scope.names→∃ c,env.cells.lookup y=some c):closureFor scope env=pure (closeL env.cells scope.names []):=by
 have key:∀ (l:List (Str × NameKind)) (cs:List (Str × Addr)),(∀ y,(y,NameKind.free)∈l→∃ c,env.cells.lookup y=some c) →
   (forIn l cs (fun (x:Str × NameKind) (r:List (Str × Addr))=>if (x.2 == NameKind.free)=true then (do let c ←cellOf env x.1;pure (ForInStep.yield ((x.1,c)::r)):Sem _) else pure (ForInStep.yield r)):Sem (List (Str × Addr)))=pure (closeL env.cells l cs):=by
  intro l
  induction l with
  | nil=>intro cs _;rfl
  | cons x r ih =>
   intro cs hc
   obtain ⟨n,k⟩:=x
   rw [List.forIn_cons]
   by_cases hk:k=.free
   ·subst hk
    obtain ⟨c,e⟩:=hc n List.mem_cons_self
    have e1:cellOf env n=pure c:=by unfold cellOf;rw [e]
    have e2:closeL env.cells ((n,NameKind.free)::r) cs=closeL env.cells r ((n,c)::cs):=by
     show closeL env.cells r (if NameKind.free=NameKind.free then (n,(env.cells.lookup n).getD 0)::cs else cs)=_
     rw [if_pos rfl,e]
     all_goals rfl
    rw [e2,←ih _ (fun y hy=>hc y (List.mem_cons_of_mem _ hy))]
    simp only [beq_self_eq_true,if_true,e1]
    rfl
   ·have hb:(k == NameKind.free)=false:=by simpa using hk
    have e2:closeL env.cells ((n,k)::r) cs=closeL env.cells r cs:=by
     show closeL env.cells r (if k=NameKind.free then _ else cs)=_
     rw [if_neg hk]
    rw [e2,←ih _ (fun y hy=>hc y (List.mem_cons_of_mem _ hy))]
    simp only [hb,Bool.false_eq_true,if_false]
    rfl
 have:=key scope.names [] h
 unfold closureFor
 simp only [] at this ⊢
 exact (congrArg (fun m=>m >>= pure) this).trans rfl
end L2

set_option Elab.async false
set_option linter.all false
set_option maxRecDepth 100000
set_option maxHeartbeats 4000000
namespace L2
open PySem PySem.Spec PyProof.Rows

def noE:Value→Shared→Prop:=fun _ _=>False
section
variable {prog:Program} {w:World} {A:Around} {R:Result→Shared→Prop} {s:Shared}
theorem comp_turns {elt tg iter:Expr} {scope:Scope} {pos:Pos} {it acc:Value} {env:Env} (I:Nat→Shared→Prop)
  (turn:∀ n s,I n s→wpAny (model prog w) A (pyNext it) (fun r s1=>match r with
   | none=>R (.ok .next) s1
   | some v=>wpAny (model prog w) A (letOwnedTupleGo tg it v) (fun _ s2=>wpAny (model prog w) A (assign tg env v) (fun _ s3=>wpAny (model prog w) A (eval elt env) (fun x s4 =>
     wpAny (model prog w) A (call (.builtin "list.append") [acc,x]) (fun _ s5=>∃ m,m < n∧I m s5) noE s4) noE s3) noE s2) noE s1) noE s)
  (n:Nat) (h:I n s):codeAny (model prog w) A (.compLoop (.ListComp elt [⟨tg,iter,[],0⟩] scope pos) 0 it acc env) R s:=by
 have no:∀ (P:Value→Shared→Prop) (a:Value) (b:Shared),noE a b→P a b:=fun _ _ _ z=>False.elim z
 refine codeAny_loop rfl I (fun n s hI=>?_) n h
 show wpAny _ _ ((compTurn (.ListComp elt [⟨tg,iter,[],0⟩] scope pos) 0 it acc env).onRaise
  (fun x=>do noteFrame x env;theTreesLotGoes x)) _ _ s
 refine wpAny_noted ?_
 rw [compTurn_list1]
 refine wpAny_bind (wpAny_standAt (wpAny_bind (wpAny_mono (turn n s hI) (fun r s1 h1=>?_) (no _))))
 cases r with
 | none=>exact wpAny_pure h1
 | some v =>
  refine wpAny_bind (wpAny_mono h1 (fun _ s2 h2=>?_) (no _))
  refine wpAny_bind (wpAny_mono h2 (fun _ s3 h3=>?_) (no _))
  refine wpAny_bind (wpAny_bind (wpAny_mono h3 (fun x s4 h4=>?_) (no _)))
  exact wpAny_bind (wpAny_mono h4 (fun _ s5 h5=>wpAny_pure (wpAny_pure ⟨rfl,h5⟩)) (no _))
end

def relF (env:Env) (p:Str × NameKind):Str × NameKind:=if (p.2 == NameKind.free && env.scope.kind == .function && env.kindOf p.1 == some .cell)=true then (p.1,NameKind.cell) else p
theorem relF_pos {env:Env} {p:Str × NameKind} (h:(p.2 == NameKind.free && env.scope.kind == .function && env.kindOf p.1 == some .cell)=true):relF env p=(p.1,NameKind.cell):=if_pos h
theorem relF_neg {env:Env} {p:Str × NameKind} (h:¬ (p.2 == NameKind.free && env.scope.kind == .function && env.kindOf p.1 == some .cell)=true):relF env p=p:=if_neg h
theorem relabel_free {env:Env} {x:Str}:∀ {l:List (Str × NameKind)},l.lookup x=some .free→(l.map (relF env)).lookup x=some .cell∨(l.map (relF env)).lookup x=some .free
 | [],h=>by simp at h
 | (n,k)::r,h=>by
  rw [List.map_cons]
  by_cases hc:(k == NameKind.free && env.scope.kind == .function && env.kindOf n == some .cell)=true
  ·rw [relF_pos (p:=(n,k)) hc]
   cases hx:x == n with
   | true=>left;rw [List.lookup_cons,hx]
   | false =>
    rw [List.lookup_cons,hx] at h
    rw [List.lookup_cons,hx]
    exact relabel_free h
  ·rw [relF_neg (p:=(n,k)) hc]
   cases hx:x == n with
   | true=>right;rw [List.lookup_cons,hx] at h;rw [List.lookup_cons,hx];exact h
   | false =>
    rw [List.lookup_cons,hx] at h
    rw [List.lookup_cons,hx]
    exact relabel_free h
theorem relabel_only {env:Env} {x:Str} {kd:NameKind} (hkd:kd=.cell∨kd=.free):∀ {l:List (Str × NameKind)},(∀ y∈l,y.2≠.cell)→(l.map (relF env)).lookup x=some kd→(x,NameKind.free)∈l
 | [],_,h=>by simp at h
 | (n,k)::r,hn,h=>by
  rw [List.map_cons] at h
  have hk:k≠.cell:=hn (n,k) List.mem_cons_self
  have up:(r.map (relF env)).lookup x=some kd→(x,NameKind.free)∈(n,k)::r:=fun h2=>List.mem_cons_of_mem _ (relabel_only hkd (fun y hy=>hn y (List.mem_cons_of_mem _ hy)) h2)
  by_cases hc:(k == NameKind.free && env.scope.kind == .function && env.kindOf n == some .cell)=true
  ·rw [relF_pos (p:=(n,k)) hc] at h
   cases hx:x == n with
   | true =>
    have hxn:x=n:=by simpa using hx
    subst hxn
    have z:=hc
    simp only [Bool.and_eq_true,beq_iff_eq] at z
    rw [z.1.1]
    exact List.mem_cons_self
   | false=>rw [List.lookup_cons,hx] at h;exact up h
  ·rw [relF_neg (p:=(n,k)) hc] at h
   cases hx:x == n with
   | true =>
    have hxn:x=n:=by simpa using hx
    subst hxn
    rw [List.lookup_cons,hx] at h
    have e:k=kd:=Option.some.inj h
    rcases hkd with z | z
    ·exact absurd (e.trans z) hk
    ·rw [e,z];exact List.mem_cons_self
   | false=>rw [List.lookup_cons,hx] at h;exact up h

def cxComp (X:Cx) (N:List Str) (scope:Scope) (cl:List (Str × Addr)) (C:Addr) (ex:List Addr) (s:Shared) (H:Hp):Cx where
 prog:=X.prog
 w:=X.w
 K:=X.K
 mg:=X.mg
 base:=X.base
 A:=X.A
 N:=N
 s₀:=s
 H₀:=H
 env:=compEnvC scope cl C X.env
 outer:=X.stack
 stack:=X.stack
 ex:=ex
 fn:=fun _=>false
 calm:=X.calm
 pn:=[]
 xe:=noE
structure CompS (XN:List Str) (xsc:Scope) (N:List Str) (ix:List (Option Nat)) (scope:Scope):Prop where
 kind:scope.kind=.function
 nocell:∀ y∈scope.names,y.2≠.cell
 names:∀ y∈scope.names,y.2=.local→scope.names.lookup y.1=some .local
 frees:∀ y∈scope.names,y.2=.free→xsc.names.lookup y.1=some .cell∨xsc.names.lookup y.1=some .free
 len:ix.length=N.length
 has:((ix.zip N).all fun p=>match p.1 with | none=>true | some j=>XN[j]? == some p.2 && scope.names.lookup p.2 == some .free)=true
 nd:N.Nodup
def compSt (ix:List (Option Nat)) (σ:St):St:=ix.map fun o=>o.bind fun j=>(σ[j]?).join
theorem CompS.at_ {XN:List Str} {xsc:Scope} {N:List Str} {ix:List (Option Nat)} {scope:Scope} (S:CompS XN xsc N ix scope) {i:Nat} {x:Str} {v:V} {σ:St} (hi:N[i]?=some x) (hv:(compSt ix σ)[i]?=some (some v)) :
  ∃ j:Nat,XN[j]?=some x∧scope.names.lookup x=some .free∧σ[j]?=some (some v):=by
 unfold compSt at hv
 rw [List.getElem?_map] at hv
 cases e:ix[i]? with
 | none=>rw [e] at hv;cases hv
 | some o =>
  rw [e] at hv
  cases o with
  | none=>cases hv
  | some j =>
   have hv':(σ[j]?).join=some v:=Option.some.inj hv
   have hm:((some j:Option Nat),x)∈ix.zip N:=by
    have:(ix.zip N)[i]?=some (some j,x):=by rw [List.getElem?_zip_eq_some];exact ⟨e,hi⟩
    exact List.mem_of_getElem? this
   have q:=List.all_eq_true.mp S.has _ hm
   simp only [Bool.and_eq_true,beq_iff_eq] at q
   refine ⟨j,q.1,q.2,?_⟩
   cases z:σ[j]? with
   | none=>rw [z] at hv';cases hv'
   | some u=>rw [z] at hv';exact congrArg some hv'

section
variable {X:Cx} {pins:List (Addr × Obj)} {σ:St} {H:Hp} {s s1:Shared} {N:List Str} {ix:List (Option Nat)} {scope:Scope} {fp:List Addr} {C:Addr}
theorem comp_cells (I:Inv X pins σ H s) (S:CompS X.N X.env.scope N ix scope):∀ y,(y,NameKind.free)∈scope.names→∃ c,X.env.cells.lookup y=some c:=fun y hy=>I.ok.has y (S.frees _ hy rfl)
theorem comp_look (I:Inv X pins σ H s) (S:CompS X.N X.env.scope N ix scope) {x:Str} {c:Addr} (h:(closeL X.env.cells scope.names []).lookup x=some c):X.env.cells.lookup x=some c:=by
 by_cases hm:(x,NameKind.free)∈scope.names
 ·rw [←closeL_in scope.names [] x (comp_cells I S) (.inl hm)];exact h
 ·rw [closeL_out scope.names [] x hm] at h;cases h
theorem comp_inv (I:Inv X pins σ H s) (S:CompS X.N X.env.scope N ix scope) (hC:C=s.heap.objs.size) (hf:∀ b∈fp,FpOk X pins H b) (hfl:∀ b∈fp,b < s.heap.objs.size) {h1:Heap} {m:Str→Option Value} {tk:Nat} (hn:h1.Ns C m)
  (hk:∀ b o,s.heap.get? b=some o→h1.get? b=some o) :
  Inv (cxComp X N scope (closeL X.env.cells scope.names []) C fp s H) [] (compSt ix σ) H { s with heap:=h1,toks:=tk }:=by
 have hne:∀ {b:Addr} {o:Obj},X.base.get? b=some o→b∉fp:=fun {b o} e hb=>by
  obtain ⟨_,_,_,hx,_⟩:=hf b hb
  rcases hx with hx | hx
  ·exact I.ok.noex b o e hx
  ·exact absurd (Nat.lt_of_lt_of_le (Heap.lt_size (I.ok.bs b o e).1) hx) (Nat.lt_irrefl _)
 refine ⟨⟨I.ok.mod,S.kind,I.ok.glob,I.ok.blt,Nat.le_of_eq hC.symm,?_,?_,?_,I.ok.hd,I.ok.frames,.inl rfl,?_,I.bs,Nat.le_trans I.ok.bsz I.sz,fun b o e=>hne e,?_,I.stack,I.stkFree⟩,
  rfl,I.bare,Un.kept hk,⟨m,hn,?_⟩,?_,I.hok.fresh (Nat.le_of_eq hC.symm),?_,fun p hp=>absurd (show p∈([]:List (Addr × Obj)) from hp) (by simp),I.hok.kept hk,?_⟩
 ·intro x y c h1 h2
  exact I.ok.inj x y c (comp_look I S h1) (comp_look I S h2)
 ·intro x hx
  have hm:(x,NameKind.free)∈scope.names:=by
   rcases hx with hx | hx
   ·exact relabel_only (.inl rfl) S.nocell hx
   ·exact relabel_only (.inr rfl) S.nocell hx
  obtain ⟨c,e⟩:=comp_cells I S x hm
  exact ⟨c,(closeL_in scope.names [] x (comp_cells I S) (.inl hm)).trans e⟩
 ·intro x c hx;cases hx
 ·intro b hb
  obtain ⟨_,_,_,_,f4,_⟩:=hf b hb
  refine ⟨fun e=>?_,fun x c e=>f4 x c (comp_look I S e)⟩
  have z:=hfl b hb
  have e':b=C:=e
  rw [e',hC] at z
  exact Nat.lt_irrefl _ z
 ·intro b hb hb2
  obtain ⟨_,f1,f2,_⟩:=hf b hb
  exact (List.mem_cons.mp (I.stkSub b hb2)).elim f1 f2
 ·intro i x v e1 e2 e3
  obtain ⟨j,g1,g2,g3⟩:=S.at_ e1 e2
  have hm:(x,NameKind.free)∈scope.names:=PySem.mem_of_lookup g2
  have hk2:=S.frees _ hm rfl
  obtain ⟨m0,hn0,hl0⟩:=id I.loc
  obtain ⟨u,r,l⟩:=hl0 j x v g1 g3 (hk2.elim (fun z=>.inr (.inl z)) (fun z=>.inr (.inr z)))
  refine ⟨u,r,.inr ⟨relabel_free g2,?_⟩⟩
  rcases l with ⟨k,_⟩ | ⟨k,c,e,z⟩
  ·have k':X.env.scope.names.lookup x=some .local:=k
   rcases hk2 with z | z<;>(rw [k'] at z;cases z)
  ·refine ⟨c,(closeL_in scope.names [] x (comp_cells I S) (.inl hm)).trans e,?_⟩
   obtain ⟨o,ho,hd⟩:=z
   exact ⟨o,hk _ _ ho,hd⟩
 ·intro x c e
  obtain ⟨v,o,ho,hd⟩:=I.cell x c (comp_look I S e)
  exact ⟨v,o,hk _ _ ho,hd⟩
 ·intro x c e
  exact I.freeC x c (comp_look I S e)
 ·unfold compSt
  rw [List.length_map]
  exact S.len
end
end L2

set_option Elab.async false
set_option linter.all false
set_option maxRecDepth 100000
set_option maxHeartbeats 4000000
namespace L2
open PySem PySem.Spec PyProof.Rows

def compW (ix:List (Option Nat)) (J:It) (g:TG) (te:TE) (σ:St) (l:Addr) (H0:Hp) (Qe:Hp→Prop):Prop :=
 ∃ W:Nat→Nat→List V→Hp→Prop,(∃ m,W 0 m [] H0)∧∀ i m ys H,W i m ys H→H l=some (.lst ys) →
  (J.stop i H∧Qe H)∨(J.go i H∧ys.length < sizeLine∧∃ N:List V→Hp→Prop,(∀ zs H',N zs H'→∃ m',m' < m∧W (i+1) m' zs H')∧∀ x H',J.yld i H x H'→g x (compSt ix σ) H' fun σ2 H2=>te σ2 H2 fun v H3 =>
   H3 l=some (.lst ys)∧N (ys++[v]) (upd H3 l (.lst (ys++[v]))))
def tComp (ix:List (Option Nat)) (wi:TI) (g:TG) (te:TE):TE:=fun σ H Q=>wi σ H fun J H1=>∀ l,H1 l=none→compW ix J g te σ l (upd H1 l (.lst [])) fun H'=>Q (.ref l) H'

section
variable {X:Cx} {pins:List (Addr × Obj)} {σ:St} {H:Hp} {s:Shared} {N:List Str} {ix:List (Option Nat)} {scope:Scope} {elt iter tg:Expr} {pos:Pos} {g:TG} {te:TE} {E:Value→Shared→Prop}
theorem comp_again {C:Addr} {fp:List Addr} {pins':List (Addr × Obj)} {σ':St} {Hc:Hp} {s':Shared} (I:Inv X pins σ H s) (S:CompS X.N X.env.scope N ix scope)
  (J:Inv (cxComp X N scope (closeL X.env.cells scope.names []) C fp s H) pins' σ' Hc s'):Inv (cxComp X N scope (closeL X.env.cells scope.names []) C fp s H) [] (compSt ix σ) Hc s':=by
 obtain ⟨m,hn,_⟩:=J.loc
 refine ⟨J.ok,J.os,J.bare,J.base,⟨m,hn,?_⟩,J.cell,J.free,J.freeC,fun p hp=>absurd (show p∈([]:List (Addr × Obj)) from hp) (by simp),J.hok,?_⟩
 ·intro i x v e1 e2 e3
  obtain ⟨j,g1,g2,g3⟩:=S.at_ e1 e2
  have hm:(x,NameKind.free)∈scope.names:=PySem.mem_of_lookup g2
  have hk2:=S.frees _ hm rfl
  obtain ⟨m0,hn0,hl0⟩:=id I.loc
  obtain ⟨u,r,l⟩:=hl0 j x v g1 g3 (hk2.elim (fun z=>.inr (.inl z)) (fun z=>.inr (.inr z)))
  refine ⟨u,r,.inr ⟨relabel_free g2,?_⟩⟩
  rcases l with ⟨k,_⟩ | ⟨k,c,e,z⟩
  ·have k':X.env.scope.names.lookup x=some .local:=k
   rcases hk2 with z | z<;>(rw [k'] at z;cases z)
  ·have ec:(closeL X.env.cells scope.names []).lookup x=some c:=(closeL_in scope.names [] x (comp_cells I S) (.inl hm)).trans e
   refine ⟨c,ec,?_⟩
   obtain ⟨o,ho,hd⟩:=z
   obtain ⟨sl,q⟩:=J.base.any ho (I.freeC x c e) (fun hx=>(J.ok.exf c hx).2 x c ec rfl)
   exact ⟨_,q,hd⟩
 ·unfold compSt
  rw [List.length_map]
  exact S.len
theorem comp_block {it:Addr} {fp:List Addr} {tn:Nat→Heap→Prop} {J:It} {Qe:Addr→Hp→Prop} {RR:Value→Addr→Result→Shared→Prop} (hc:X.calm=true) (S:CompS X.N X.env.scope N ix scope)
  (hg:∀ cl C ex s H,PG (cxComp X N scope cl C ex s H) tg g) (he:∀ cl C ex s H,PE (cxComp X N scope cl C ex s H) elt te)
  (I:Inv X pins σ H s) (T:Turn X.prog X.w X.K tg J fp it tn) (st:tn 0 s.heap) (hf:∀ b∈fp,FpOk X pins H b)
  (hw:∀ l,H l=none→compW ix J g te σ l (upd H l (.lst [])) (Qe l))
  (hRR:∀ l C s' H' m,s'.heap.Ns C m→Inv X pins σ H' s'→FpOk X pins H' C→Qe l H'→RR (.ref l) C (.ok .next) s') :
  wpAny (model X.prog X.w) X.A (newList []) (fun acc s3=>wpAny (model X.prog X.w) X.A (newFunctionEnv scope X.env.globals (closeL X.env.cells scope.names []) [] X.env.qual none .none (some X.env)) (fun cenv s4 =>
   codeAny (model X.prog X.w) X.A (.compStart (.ListComp elt [⟨tg,iter,[],0⟩] scope pos) 0 (.ref it) acc { cenv with scope:=relabel scope X.env }) (RR acc cenv.locals) s4) E s3) E s:=by
 have hlt:∀ b∈fp,b < s.heap.objs.size:=fun b hb=>by
  obtain ⟨o,e,_⟩:=T.obj 0 s.heap st b hb
  exact Heap.lt_size e
 have hl0:H s.heap.objs.size=none:=I.fresh
 obtain ⟨W,⟨m0,w0⟩,turn⟩:=hw s.heap.objs.size hl0
 refine wpAny_newObj_type ?_
 generalize hs3:({ s with heap:=s.heap.push { cls:=.type "list",dict:=none,data:=.seq ([]:List Value).toArray } }:Shared)=s3
 have I3:Inv X pins σ (upd H s.heap.objs.size (.lst [])) s3:=by
  rw [←hs3]
  exact I.lnew (its:=[]) (t':=s.toks) .nil (Nat.zero_le _)
 have k3:∀ b o,s.heap.get? b=some o→s3.heap.get? b=some o:=fun b o e=>by
  rw [←hs3];exact Heap.get?_push_of_some _ e
 have sz3:s3.heap.objs.size=s.heap.objs.size+1:=by rw [←hs3];exact Heap.size_push ..
 have lnfp:s.heap.objs.size∉fp:=fun hb=>Nat.lt_irrefl _ (hlt _ hb)
 have st3:tn 0 s3.heap:=T.keep 0 _ _ st fun b _ o e=>k3 b o e
 have hf3:∀ b∈fp,FpOk X pins (upd H s.heap.objs.size (.lst [])) b:=fun b hb=>by
  obtain ⟨f0,f⟩:=hf b hb
  have nb:b≠s.heap.objs.size:=fun e=>lnfp (by rw [←e];exact hb)
  exact ⟨by rw [upd_ne nb];exact f0,f⟩
 have hlt3:∀ b∈fp,b < s3.heap.objs.size:=fun b hb=>by rw [sz3];exact Nat.lt_succ_of_lt (hlt b hb)
 clear hs3
 refine wpAny_newFunctionEnv S.nocell (by intro y hy;simp at hy) (fun h1 hn1 hb1=>?_) S.kind
 have hk1:∀ b o,s3.heap.get? b=some o→h1.get? b=some o:=fun b o e =>
  (hb1.2 b (Nat.ne_of_lt (Heap.lt_size e))).trans (Heap.get?_push_of_some _ e)
 have J0:Inv (cxComp X N scope (closeL X.env.cells scope.names []) s3.heap.objs.size fp s3 (upd H s.heap.objs.size (.lst []))) [] (compSt ix σ) (upd H s.heap.objs.size (.lst [])) { s3 with heap:=h1,toks:=s3.toks+([]:List (Str × Value)).length } :=
  comp_inv I3 S rfl hf3 hlt3 hn1 hk1
 have st1:tn 0 h1:=T.keep 0 _ _ st3 fun b _ o e=>hk1 b o e
 have fpY:∀ {Hc:Hp},(∀ b∈fp,Hc b=none)→∀ b∈fp,FpOk (cxComp X N scope (closeL X.env.cells scope.names []) s3.heap.objs.size fp s3 (upd H s.heap.objs.size (.lst []))) [] Hc b:=fun {Hc} hn b hb=>by
  obtain ⟨_,f1,f2,_,f4,_⟩:=hf3 b hb
  refine ⟨hn b hb,Nat.ne_of_lt (hlt3 b hb),fun hb2=>(List.mem_cons.mp (I3.stkSub b hb2)).elim f1 f2,.inl hb,fun x c e=>f4 x c (comp_look I3 S e),fun p hp=>absurd (show p∈([]:List (Addr × Obj)) from hp) (by simp)⟩
 have loop:∀ s4:Shared,s4=({ s3 with heap:=h1,toks:=s3.toks+([]:List (Str × Value)).length }:Shared)→codeAny (model X.prog X.w) X.A (.compLoop (.ListComp elt [⟨tg,iter,[],0⟩] scope pos) 0 (.ref it) (.ref s.heap.objs.size)
   (compEnvC scope (closeL X.env.cells scope.names []) s3.heap.objs.size X.env)) (RR (.ref s.heap.objs.size) s3.heap.objs.size) s4:=by
  intro s4 hs4
  subst hs4
  refine comp_turns (fun n s'=>∃ i ys Hc,Inv (cxComp X N scope (closeL X.env.cells scope.names []) s3.heap.objs.size fp s3 (upd H s.heap.objs.size (.lst []))) [] (compSt ix σ) Hc s'∧tn i s'.heap∧(∀ b∈fp,Hc b=none)∧Hc s.heap.objs.size=some (.lst ys)∧W i n ys Hc) ?_ m0 ⟨0,[],_,J0,st1,fun b hb=>(hf3 b hb).1,upd_same,w0⟩
  rintro n s5 ⟨i,ys,Hc,J5,st5,fr5,hl5,w5⟩
  rcases turn i n ys Hc w5 hl5 with ⟨stop,qe⟩ | ⟨go,hz,NN,hNN,step⟩
  ·refine thn (T.done (cxComp X N scope (closeL X.env.cells scope.names []) s3.heap.objs.size fp s3 (upd H s.heap.objs.size (.lst []))) rfl rfl rfl hc i [] s5 _ Hc noE J5 (fpY fr5) st5 stop) fun r s6 ⟨hr,J6⟩=>?_
   subst hr
   have I6:Inv X pins σ Hc s6:=I3.call' (ch:=fp) J6.os J6.base J6.hok J6.bare fun b hb=>by
    obtain ⟨_,f1,f2,f3,f4,f5⟩:=hf3 b hb
    exact ⟨f3,f1,f4,f5⟩
   obtain ⟨m6,hn6,_⟩:=J6.loc
   exact hRR _ _ s6 Hc m6 hn6 I6 (I3.fpOk (Nat.le_refl _) J6.free) qe
  ·refine thn (T.item (cxComp X N scope (closeL X.env.cells scope.names []) s3.heap.objs.size fp s3 (upd H s.heap.objs.size (.lst []))) rfl rfl rfl hc i [] s5 _ Hc noE J5 (fpY fr5) st5 go) fun r s6 ⟨u,hr,h6⟩=>?_
   subst hr
   refine thn h6 fun _ s7 ⟨x,H7,J7,r7,y7,st7,fr7⟩=>?_
   have J7':=J7.pinned (fpY fr7) (T.obj _ _ st7)
   refine thn (hg _ _ _ _ _ _ s7 _ H7 x u _ J7' r7 (step x H7 y7)) fun _ s8 ⟨σ8,H8,J8,q8⟩=>?_
   refine thn (he _ _ _ _ _ _ s8 σ8 H8 _ J8 q8) fun y s9 ⟨v,H9,J9,r9,hl9,n9⟩=>?_
   obtain ⟨m',hm',w9⟩:=hNN _ _ n9
   refine thn (mt_append (X:=cxComp X N scope (closeL X.env.cells scope.names []) s3.heap.objs.size fp s3 (upd H s.heap.objs.size (.lst []))) _ s9 σ8 H9 (.ref s.heap.objs.size) [v] (.ref s.heap.objs.size) [y]
    (fun z Hz=>z=.non∧Hz=upd H9 s.heap.objs.size (.lst (ys++[v]))) J9 rfl (.cons r9 .nil) ⟨_,ys,v,rfl,rfl,hl9,hz,rfl,rfl⟩) fun _ s10 ⟨_,H10,J10,_,_,e10⟩=>?_
   subst e10
   have len8:(compSt ix σ).length=σ8.length:=by
    rw [J10.len]
    unfold compSt
    rw [List.length_map]
    exact S.len
   refine ⟨m',hm',i+1,ys++[v],_,?_,T.keep _ _ _ st7 fun b hb o e=>(J10.pin (b,o) (List.mem_append_right _ (List.mem_append_right _ (mem_pinsAt hb e)))).1,fun b hb=>?_,upd_same,w9⟩
   ·exact comp_again I3 S J10
   ·obtain ⟨o,e,d⟩:=T.obj _ _ st7 b hb
    exact (J10.pin (b,o) (List.mem_append_right _ (List.mem_append_right _ (mem_pinsAt hb e)))).2.1
 exact codeAny_compStart_list (loop _ rfl) (T.self _ 0 _ _ _ st1 (loop _ rfl))
theorem pe_comp {wi:TI} (hc:X.calm=true) (S:CompS X.N X.env.scope N ix scope) (hi:PI X tg iter wi)
  (hg:∀ cl C ex s H,PG (cxComp X N scope cl C ex s H) tg g) (he:∀ cl C ex s H,PE (cxComp X N scope cl C ex s H) elt te)
  (hs:∀ x,foldedSetIterable iter X.env x=pure x:=by intro _;rfl):PE X (.ListComp elt [⟨tg,iter,[],0⟩] scope pos) (tComp ix wi g te):=by
 intro pins s σ H Q I h
 rw [eval_ListComp]
 refine wpAny_comprehension_free (use:=none) rfl hs (closureFor_run (comp_cells I S)) S.kind S.names (thn (hi pins s σ H _ I h) fun v s1 h1=>thn h1 fun itv s2 h2=>?_)
 obtain ⟨it,fp,tn,J,H2,e,I2,T,st2,f2,hw⟩:=h2
 subst e
 refine comp_block (RR:=fun acc C=>compPost (model X.prog X.w) X.A X.xe none (EP X pins σ Q) acc C) hc S hg he I2 T st2 f2 hw fun l C s' H' m hn I' fC q=>⟨m,hn,fun h' hs'=>?_⟩
 obtain ⟨c0,c1,_,c3,c4,c5⟩:=fC
 exact ⟨.ref l,H',I'.turned (t':=s'.toks) (fun b o hb e=>(hs'.2 b hb).trans e) c0 c1 c3 c4 c5,rfl,q⟩
theorem ps_comp {wi:TI} {i:Nat} {x:Str} {spos pos':Pos} (hc:X.calm=true) (S:CompS X.N X.env.scope N ix scope) (hi:PI X tg iter wi)
  (hg:∀ cl C ex s H,PG (cxComp X N scope cl C ex s H) tg g) (he:∀ cl C ex s H,PE (cxComp X N scope cl C ex s H) elt te)
  (hN:X.N.Nodup) (hx:X.N[i]?=some x) (hl:X.env.scope.names.lookup x=some .local)
  (hsw:swapsWith (.ListComp elt [⟨tg,iter,[],0⟩] scope pos) (some (.Name x pos')) spos.line X.env=pure true:=by rfl)
  (hs:∀ x,foldedSetIterable iter X.env x=pure x:=by intro _;rfl):PS X (.Assign [.Name x pos'] (.ListComp elt [⟨tg,iter,[],0⟩] scope pos) spos) (tAsg (tComp ix wi g te) (gName i)):=by
 intro pins s σ H D I h
 rw [exec_Assign_Name_used _ _ _ _ hsw]
 refine wpAny_bind (wpAny_standAt (wpAny_bind ?_))
 show wpAny _ _ (comprehension (.ListComp elt [⟨tg,iter,[],0⟩] scope pos) scope X.env _ (newList []) false (eval iter X.env) (some (assign (.Name x pos') X.env)) >>= fun _=>pure ()) _ _ s
 refine wpAny_bind (wpAny_mono (wpAny_comprehension_free (use:=some (assign (.Name x pos') X.env)) (Q:=fun _ s'=>SP X pins D .next s') rfl hs (closureFor_run (comp_cells I S)) S.kind S.names
  (thn (hi pins s σ H _ I h) fun v s1 h1=>thn h1 fun itv s2 h2=>?_)) (fun _ s' q=>wpAny_pure (wpAny_pure q)) fun _ _ e=>e)
 obtain ⟨it,fp,tn,J,H2,e,I2,T,st2,f2,hw⟩:=h2
 subst e
 refine comp_block (RR:=fun acc C=>compPost (model X.prog X.w) X.A X.xe (some (assign (.Name x pos') X.env)) (fun _ s'=>SP X pins D .next s') acc C) hc S hg he I2 T st2 f2 hw fun l C s' H' m hn I' fC q=>?_
 obtain ⟨c0,c1,c2,c3,c4,c5⟩:=fC
 show wpAny _ _ (assign (.Name x pos') X.env (.ref l)) _ _ _
 refine wpAny_assign_Name (store_ok2 I' hN hx (.inl hl) (v:=.ref l) rfl (fun s'' I'' ⟨a,sb,ha⟩=>?_) (.inr hl))
 have haC:C≠a:=by
  rcases ha with ha | ha
  ·rw [ha];exact c1
  ·exact fun z=>c4 x a ha z.symm
 refine ⟨m,hn.sameBut sb haC,fun h' hs'=>?_⟩
 exact ⟨_,H',I''.turned (t':=s''.toks) (fun b o hb e=>(hs'.2 b hb).trans e) c0 c1 c3 c4 c5,q⟩
end
/-! ### the forms one uses -/
theorem comp_by {J:It} {n:Nat} {l:Addr} {ix:List (Option Nat)} {g:TG} {te:TE} {σ:St} {H0:Hp} {Qe:Hp→Prop} (Pv:Nat→List V→Hp→Prop) (h0:Pv 0 [] H0)
  (hs:∀ i ys H,i < n→Pv i ys H→H l=some (.lst ys)→J.go i H∧ys.length < sizeLine∧∀ x H',J.yld i H x H'→g x (compSt ix σ) H' fun σ2 H2=>te σ2 H2 fun v H3=>H3 l=some (.lst ys)∧Pv (i+1) (ys++[v]) (upd H3 l (.lst (ys++[v]))))
  (hd:∀ ys H,Pv n ys H→H l=some (.lst ys)→J.stop n H∧Qe H):compW ix J g te σ l H0 Qe:=by
 refine ⟨fun i m ys H=>m=n - i∧i≤n∧Pv i ys H,⟨n,by simp,Nat.zero_le _,h0⟩,?_⟩
 rintro i m ys H ⟨rfl,hi,p⟩ hl
 by_cases hlt:i < n
 ·obtain ⟨h1,h2,h3⟩:=hs i ys H hlt p hl
  exact .inr ⟨h1,h2,Pv (i+1),fun zs H' q=>⟨n - (i+1),by omega,rfl,hlt,q⟩,h3⟩
 ·have e:i=n:=by omega
  subst e
  exact .inl (hd ys H p hl)
theorem comp_list {K:PySem.W.Frag} {a l:Addr} {xs:List V} {ix:List (Option Nat)} {g:TG} {te:TE} {σ:St} {H0:Hp} {Qe:Hp→Prop} (Pv:Nat→List V→Hp→Prop) (h0:Pv 0 [] H0) (hl:∀ i ys H,i≤xs.length→Pv i ys H→SqL K H a xs) (hz:xs.length≤sizeLine)
  (hn:∀ i ys H,Pv i ys H→ys.length=i)
  (hs:∀ i x ys H,xs[i]?=some x→Pv i ys H→H l=some (.lst ys)→g x (compSt ix σ) H fun σ2 H2=>te σ2 H2 fun v H3=>H3 l=some (.lst ys)∧Pv (i+1) (ys++[v]) (upd H3 l (.lst (ys++[v]))))
  (hd:∀ ys H,Pv xs.length ys H→H l=some (.lst ys)→Qe H):compW ix (Itl K a) g te σ l H0 Qe:=by
 refine comp_by (n:=xs.length) Pv h0 (fun i ys H hi p hy=>?_) fun ys H p hy=>⟨⟨xs,hl _ ys H (Nat.le_refl _) p,Nat.le_refl _⟩,hd ys H p hy⟩
 have q:=hl i ys H (Nat.le_of_lt hi) p
 refine ⟨⟨xs,xs[i],q,by simp [hi]⟩,by rw [hn i ys H p];exact Nat.lt_of_lt_of_le hi hz,fun x H' y=>?_⟩
 obtain ⟨e,y⟩:=y
 subst e
 exact hs i x ys _ (y xs q) p hy
theorem comp_tup {K:PySem.W.Frag} {a l:Addr} {xs:List V} {ix:List (Option Nat)} {g:TG} {te:TE} {σ:St} {H0:Hp} {Qe:Hp→Prop} (Pv:Nat→List V→Hp→Prop) (h0:Pv 0 [] H0) (hl:∀ i ys H,i≤xs.length→Pv i ys H→SqT K H a xs) (hz:xs.length≤sizeLine)
  (hn:∀ i ys H,Pv i ys H→ys.length=i)
  (hs:∀ i x ys H,xs[i]?=some x→Pv i ys H→H l=some (.lst ys)→g x (compSt ix σ) H fun σ2 H2=>te σ2 H2 fun v H3=>H3 l=some (.lst ys)∧Pv (i+1) (ys++[v]) (upd H3 l (.lst (ys++[v]))))
  (hd:∀ ys H,Pv xs.length ys H→H l=some (.lst ys)→Qe H):compW ix (Itt K a) g te σ l H0 Qe:=by
 refine comp_by (n:=xs.length) Pv h0 (fun i ys H hi p hy=>?_) fun ys H p hy=>⟨⟨xs,hl _ ys H (Nat.le_refl _) p,Nat.le_refl _⟩,hd ys H p hy⟩
 have q:=hl i ys H (Nat.le_of_lt hi) p
 refine ⟨⟨xs,xs[i],q,by simp [hi]⟩,by rw [hn i ys H p];exact Nat.lt_of_lt_of_le hi hz,fun x H' y=>?_⟩
 obtain ⟨e,y⟩:=y
 subst e
 exact hs i x ys _ (y xs q) p hy
theorem comp_range {lo:Int} {n:Nat} {l:Addr} {ix:List (Option Nat)} {g:TG} {te:TE} {σ:St} {H0:Hp} {Qe:Hp→Prop} (Pv:Nat→List V→Hp→Prop) (h0:Pv 0 [] H0) (hz:n≤sizeLine)
  (hn:∀ i ys H,Pv i ys H→ys.length=i)
  (hs:∀ i ys H,i < n→Pv i ys H→H l=some (.lst ys)→g (.int (lo+i)) (compSt ix σ) H fun σ2 H2=>te σ2 H2 fun v H3=>H3 l=some (.lst ys)∧Pv (i+1) (ys++[v]) (upd H3 l (.lst (ys++[v]))))
  (hd:∀ ys H,Pv n ys H→H l=some (.lst ys)→Qe H):compW ix (Itr lo n) g te σ l H0 Qe:=by
 refine comp_by (n:=n) Pv h0 (fun i ys H hi p hy=>⟨hi,by rw [hn i ys H p];exact Nat.lt_of_lt_of_le hi hz,fun x H' y=>?_⟩) fun ys H p hy=>⟨Nat.le_refl _,hd ys H p hy⟩
 obtain ⟨e,y⟩:=y
 subst e y
 exact hs i ys _ hi p hy
end L2

set_option Elab.async false
set_option linter.all false
set_option maxRecDepth 100000
set_option maxHeartbeats 4000000
namespace L2
open PySem PySem.Spec PyProof.Rows
open PySem.AutoSeq1 (wpAny_loadPart')

/-! ### range(n) as an object;tuple(range(n)),list(range(n)) -/
def rint (lo:Int) (n:Nat):List V:=(List.range n).map fun i=>V.int (lo+(i:Nat))
theorem rint_length (lo:Int) (n:Nat):(rint lo n).length=n:=by unfold rint;simp
theorem vals_of_items {lo c:Int} {acc:Array Value} {n:Nat} (hc:c=1) (h:ItemsOf (fun i v=>∃ t,v=.int (lo+i*c) t) acc n):Vals (rint lo n) acc.toList:=by
 subst hc
 obtain ⟨hs,hi⟩:=h
 have key:∀ (k:Nat) (i:Nat),i+k=n→Vals (((List.range n).drop i).map fun j=>V.int (lo+(j:Nat))) (acc.toList.drop i):=by
  intro k
  induction k with
  | zero =>
   intro i hk
   rw [List.drop_of_length_le (by simp;omega),List.drop_of_length_le (by simp;omega)]
   exact .nil
  | succ k ih =>
   intro i hk
   have h1:i < acc.size:=by omega
   have e1:(List.range n).drop i=i::(List.range n).drop (i+1):=by
    rw [List.drop_eq_getElem_cons (by simp;omega)];simp
   have e2:acc.toList.drop i=acc[i]::acc.toList.drop (i+1):=by
    rw [List.drop_eq_getElem_cons (by simpa using h1)];simp
   rw [e1,e2,List.map_cons]
   refine .cons ?_ (ih (i+1) (by omega))
   obtain ⟨t,e⟩:=hi i acc[i] (by simp [h1])
   exact ⟨t,by rw [e,Int.mul_one]⟩
 have:=key n 0 (by omega)
 simpa [rint] using this
section
variable {X:Cx}
theorem call_rng:CallR X (.type "range") (fun xs H Q=>∃ j:Int,xs=[.int j]∧-(2 ^ 62)≤j∧j < 2 ^ 62∧∀ p,H p=none→Q (.ref p) (upd H p (.rng 0 j))):=by
 intro pins s σ H xs us Q I r h
 obtain ⟨j,rfl,h1,h2,q⟩:=h
 obtain ⟨u,rfl,ru⟩:=vals1 r
 obtain ⟨t,rfl⟩:=ru
 refine call_range_1 ?_
 exact ⟨.ref s.heap.objs.size,upd H s.heap.objs.size (.rng 0 j),I.laid (o:=.rng 0 j) (fun b u e=>Heap.get?_push_of_some _ e) (Nat.le_refl _) ⟨_,_,_,Heap.get?_push_size _ rfl⟩,rfl,q _ I.fresh⟩
theorem Inv.rng {pins:List (Addr × Obj)} {σ:St} {H:Hp} {s:Shared} {p:Addr} {lo hi:Int} (I:Inv X pins σ H s) (h:H p=some (.rng lo hi)):∃ t u v,IsRange s.heap p lo hi 1 t u v:=by
 obtain ⟨t,u,v,e⟩:=I.hok p _ h
 exact ⟨t,u,v,e⟩
theorem rng_size {lo hi:Int}:Builtin.Range.rangeSize lo hi 1=(((hi - lo).toNat:Nat):Int):=by
 rw [rangeSize_one];split<;>omega
theorem call_list_rng (hc:X.calm=true):CallR X (.type "list") (fun xs H Q=>∃ p lo hi,xs=[.ref p]∧H p=some (.rng lo hi)∧(-(2 ^ 62)≤lo∧lo < 2 ^ 62∧-(2 ^ 62)≤hi∧hi < 2 ^ 62)∧(hi - lo).toNat≤2 ^ 24 ∧
  ∀ l,H l=none→Q (.ref l) (upd H l (.lst (rint lo (hi - lo).toNat)))):=by
 intro pins s σ H xs us Q I r h
 obtain ⟨p,lo,hi,rfl,hp,⟨b1,b2,b3,b4⟩,hn,q⟩:=h
 obtain ⟨u,rfl,ru⟩:=vals1 r
 cases ru
 obtain ⟨t,u,v,hr⟩:=I.rng hp
 refine call_list_range (I.ok.hd hc) hr (small_one b1 b2 b3 b4) rng_size hn fun h' tk acc c' hk hl hacc=>?_
 have hv:=vals_of_items rfl hacc
 exact ⟨.ref _,_,I.laid (o:=.lst (rint lo (hi - lo).toNat)) (fun b u e=>hk b u e) (Nat.le_refl _) ⟨by rw [rint_length,sizeLine_eq];omega,acc.toList,c',hv,by simpa using hl⟩,rfl,q _ I.fresh⟩
end

section
variable {prog:Program} {w:World} {A:Around} {E:Value→Shared→Prop} {s:Shared}
theorem collect_rng {Q:List Value→Shared→Prop} {r:Addr} {a b c:Int} {t u v:Tok} {n:Nat} (hh:A.handled=none) (hr:IsRange s.heap r a b c t u v) (hsmall:Builtin.Range.small a b c=true)
  (hn:Builtin.Range.rangeSize a b c=n) (hlen:n≤2 ^ 24)
  (hQ:∀ h' tk acc,(∀ b o,s.heap.get? b=some o→h'.get? b=some o)→s.heap.objs.size≤h'.objs.size→ItemsOf (fun i v=>∃ t,v=.int (a+i*c) t) acc n→Q acc.toList { s with heap:=h',toks:=tk }) :
  wpAny (model prog w) A (collect (.ref r)) Q E s:=by
 unfold collect
 refine wpAny_bind (wpAny_runValue (codeAny_builtin F.entry_proto_collect ?_))
 rw [Around.under_plainId F.plain_proto_collect _]
 show wpAny _ A.in1 (newList [] >>= fun l =>
  again (.builtin "list.__iadd__" ⟨[l,.ref r],[]⟩)) _ _ s
 refine wpAny_bind (wpAny_newObj_type ?_)
 refine wpAny_pure ⟨plainId_quiet F.plain_list_iadd _,codeAny_builtin F.entry_list_iadd ?_⟩
 rw [Around.under_plainId F.plain_list_iadd _]
 show wpAny _ A.in1 (Builtin.List.listExtendWith (.ref s.heap.objs.size) (.ref r)
  (.ref s.heap.objs.size)) _ _ _
 have hS:(s.heap.push { cls:=.type "list",data:=.seq ([]:List Value).toArray }).get? s.heap.objs.size=some
  { cls:=.type "list",data:=.seq #[] 0 }:=Heap.get?_push_size _ rfl
 have fin':∀ (h':Heap) (tk:Nat) (acc:Array Value) (c':Nat),(∀ b o,b≠s.heap.objs.size→(s.heap.push { cls:=.type "list",data:=.seq ([]:List Value).toArray }).get? b=some o→h'.get? b=some o) →
   h'.get? s.heap.objs.size=some { cls:=.type "list",dict:=none,data:=.seq acc c',slots:=#[] }→ItemsOf (fun i v=>∃ t,v=.int (a+i*c) t) acc n →
   wpAny (model prog w) A (match Value.ref s.heap.objs.size with
    | Value.ref a=>do
     match (←load a).data with
      | Data.seq xs _=>pure xs.toList
      | _=>unsupported "internal:collect"
    | _=>unsupported "internal:collect") Q E { s with heap:=h',toks:=tk }:=fun h' tk acc c' hk hS' hacc=>by
  show wpAny _ A (load s.heap.objs.size >>= _) _ _ _
  refine wpAny_bind (wpAny_load hS' (wpAny_pure ?_))
  exact hQ h' tk acc (fun b o e=>hk b o (Nat.ne_of_lt (Heap.lt_size e)) (Heap.get?_push_of_some _ e)) (Nat.le_of_lt (Heap.lt_size hS')) hacc
 refine wpAny_mono (wpAny_extend_range (A:=A) (R:=fun r s'=>r=.ok (.ret (.ref s.heap.objs.size))∧wpAny (model prog w) A (match Value.ref s.heap.objs.size with
    | Value.ref a=>do
     match (←load a).data with
      | Data.seq xs _=>pure xs.toList
      | _=>unsupported "internal:collect"
    | _=>unsupported "internal:collect") Q E s') (s:={ s with heap:=s.heap.push { cls:=.type "list",data:=.seq ([]:List Value).toArray } }) hh (Heap.get?_push_of_some _ hr) hsmall hn hlen _ (.ref s.heap.objs.size) 0 hS
  fun h' tk acc c' hk hS' hacc=>⟨rfl,fin' h' tk acc c' hk hS' hacc⟩) (fun fin s' h=>?_) (fun e s' h=>?_)
 ·cases fin with
  | done f =>
   obtain ⟨e,h⟩:=h
   cases e
   exact h
  | again c'=>exact ⟨h.1,codeAny_mono h.2 fun r s'' hr=>by obtain ⟨rfl,h2⟩:=hr;exact h2⟩
 ·exact absurd h.1 (by simp)
end
theorem meets_tuple_rng (r:Addr) {a b c:Int} {t u v:Tok} {n:Nat} (hsmall:Builtin.Range.small a b c=true) (hn:Builtin.Range.rangeSize a b c=n) (hlen:n≤2 ^ 24) :
  Meets (Builtin.«tuple.__new__» ⟨[.type "tuple",.ref r],[]⟩)
   (fun A R s=>A.handled=none∧IsRange s.heap r a b c t u v∧∀ (h':Heap) (tk:Nat) (acc:Array Value),(∀ b o,s.heap.get? b=some o→h'.get? b=some o)→s.heap.objs.size≤h'.objs.size→ItemsOf (fun i v=>∃ t,v=.int (a+i*c) t) acc n →
    R (.ok (.ret (.ref h'.objs.size))) { s with heap:=h'.push { cls:=.type "tuple",data:=.seq acc },toks:=tk }) :=
 .of_wp fun prog w A R s h=>by
  obtain ⟨hh,hr,h⟩:=h
  have hsub:=sub_tuple_self
  have hinit:=init_tuple_lookup
  have hmh:=madeHere_tuple
  have hT:s.TypeIs (.ref r) "range":=⟨_,hr,rfl⟩
  have hh1:A.in1.handled=none:=hh
  wp_walk using wpAny_typeOf hT,collect_rng hh1 hr hsmall hn hlen
  intro h' tk acc hk hz hacc
  show wpAny _ _ (Builtin.Tuple.tupleExact acc.toList.toArray >>=
   fun v=>ret v) _ _ _
  unfold Builtin.Tuple.tupleExact
  refine wpAny_bind (wpAny_newObj_type ?_ (show acc.toList.toArray.size≤sizeLine by simp only [Array.toArray_toList];rw [hacc.1,sizeLine_eq];omega))
  refine wpAny_pure ⟨_,rfl,?_⟩
  have e:acc.toList.toArray=acc:=by simp
  rw [e]
  exact h h' tk acc hk hz hacc
section
variable {X:Cx}
theorem call_tuple_rng (hc:X.calm=true):CallR X (.type "tuple") (fun xs H Q=>∃ p lo hi,xs=[.ref p]∧H p=some (.rng lo hi)∧(-(2 ^ 62)≤lo∧lo < 2 ^ 62∧-(2 ^ 62)≤hi∧hi < 2 ^ 62)∧(hi - lo).toNat≤2 ^ 24 ∧
  ∀ l,H l=none→Q (.ref l) (upd H l (.tup (rint lo (hi - lo).toNat)))):=by
 intro pins s σ H xs us Q I r h
 obtain ⟨p,lo,hi,rfl,hp,⟨b1,b2,b3,b4⟩,hn,q⟩:=h
 obtain ⟨u,rfl,ru⟩:=vals1 r
 cases ru
 obtain ⟨t,u,v,hr⟩:=I.rng hp
 refine callType_new F.called_tuple (by decide) (F.typeCall_tuple_1 _) (F.newCall_tuple_1 _) (fun obj=>F.args_object_init_2 obj _) F.entry_tuple_new
  (meets_tuple_rng p (t:=t) (u:=u) (v:=v) (small_one b1 b2 b3 b4) rng_size hn) ⟨I.ok.hd hc,hr,fun h' tk acc hk hz hacc=>⟨⟨_,Heap.get?_push_size _ rfl,rfl⟩,?_⟩⟩
 have hv:=vals_of_items rfl hacc
 have hf:H h'.objs.size=none:=I.hok.fresh hz
 refine ⟨.ref _,_,I.laid (o:=.tup (rint lo (hi - lo).toNat)) (fun b u e=>Heap.get?_push_of_some _ (hk b u e)) hz ⟨by rw [rint_length,sizeLine_eq];omega,acc.toList,0,hv,by rw [show acc.toList.toArray=acc by simp];exact Heap.get?_push_size _ rfl⟩,rfl,q _ hf⟩
end
/-! ### all(xs),any(xs) of a list of bools -/
section
variable {X:Cx}
theorem truth_bools {prog:Program} {w:World} {A:Around} {its:Array Value} {bs:List Bool} (r:Vals (bs.map V.bl) its.toList):TruthOf prog w A (fun i v=>its[i]?=some v) (fun i=>bs.getD i false):=by
 intro i v s Q E hi hq
 have hl:=r.length
 rw [List.length_map] at hl
 have hlt:i < bs.length:=by
  have:i < its.size:=by
   rcases Nat.lt_or_ge i its.size with z | z
   ·exact z
   ·rw [Array.getElem?_eq_none z] at hi;cases hi
  simp at hl;omega
 have h1:(bs.map V.bl)[i]?=some (.bl bs[i]):=by simp [hlt]
 obtain ⟨u,hu,ru⟩:=r.get h1
 have:u=v:=by
  have e:its.toList[i]?=some v:=by simpa using hi
  rw [e] at hu
  exact (Option.some.inj hu).symm
 subst this
 cases ru
 refine wpAny_truthy_bool ?_
 have e:bs.getD i false=bs[i]:=by simp [hlt]
 have hq':Q (bs.getD i false) s:=hq
 rw [e] at hq'
 exact hq'
theorem range_all {n:Nat} {bs:List Bool} (h:bs.length=n):(List.range n).all (fun i=>bs.getD i false)=bs.all id:=by
 subst h
 rw [Bool.eq_iff_iff,List.all_eq_true,List.all_eq_true]
 constructor
 ·intro h b hb
  obtain ⟨i,hi,e⟩:=List.getElem_of_mem hb
  have:=h i (by simpa using hi)
  simp [hi,e] at this
  exact this
 ·intro h i hi
  have hi:i < bs.length:=by simpa using hi
  have:=h bs[i] (List.getElem_mem hi)
  simp [hi]
  exact this
theorem call_all (hc:X.calm=true):CallR X (.builtin "all") (fun xs H Q=>∃ (p:Addr) (bs:List Bool),xs=[.ref p]∧SqL X.K H p (bs.map V.bl)∧Q (.bl (bs.all id)) H):=by
 intro pins s σ H xs us Q I r h
 obtain ⟨p,bs,rfl,hp,q⟩:=h
 obtain ⟨u,rfl,ru⟩:=vals1 r
 cases ru
 obtain ⟨its,rv,pl,hz⟩:=I.list hp
 have hlt:p < s.heap.objs.size:=by obtain ⟨o,n,e,_⟩:=pl;exact Heap.lt_size e
 have hl:=rv.length
 rw [List.length_map] at hl
 refine call_all_walk (wpAny_pyIter_list pl.isList ?_)
 refine ⟨s.heap.objs.size,_,_,_,_,_,fun i=>bs.getD i false,rfl,Walks.list (A:=X.A.in1) (show X.A.in1.handled=none from I.ok.hd hc) s.heap.objs.size p (Nat.ne_of_lt hlt) its.toArray,⟨⟨_,Heap.get?_push_size _ rfl,rfl,rfl⟩,Heap.IsList.push pl.isList _⟩,truth_bools (by simpa using rv),fun h' tk hk=>?_⟩
 rw [range_all (by simpa using hl)]
 exact ⟨.bl _,H,I.kept (t':=tk) (fun b o e=>hk b o (by simpa using (Nat.ne_of_lt (Heap.lt_size e))) (Heap.get?_push_of_some _ e)),rfl,q⟩
end
end L2

set_option Elab.async false
set_option linter.all false
set_option maxRecDepth 100000
set_option maxHeartbeats 4000000
namespace L2
open PySem PySem.Spec PyProof.Rows
open PySem.AutoSeq1 (wpAny_loadPart')

/-! ### enumerate over a tuple -/
section
variable {prog:Program} {w:World} {A:Around} {E:Value→Shared→Prop} {s:Shared}
end

theorem Inv.turnedNew {X:Cx} {pins:List (Addr × Obj)} {σ:St} {H:Hp} {s:Shared} {ch:List Addr} {p:Addr} {o:HO} {h':Heap} {t':Nat} (I:Inv X pins σ H s) (k:∀ b u,b∉ch→s.heap.get? b=some u→h'.get? b=some u)
  (hp:s.heap.objs.size≤p) (new:ObjOk X.prog X.w (upd H p o) h' p o) (hf:∀ b∈ch,FpOk X pins H b):Inv X pins σ (upd H p o) { s with heap:=h',toks:=t' }:=by
 have hn:H p=none:=I.hok.fresh hp
 have nc:∀ b u,H b=some u→b∉ch:=fun b u e z=>by rw [(hf b z).1] at e;cases e
 refine I.step (g':=s.gens) (d':=s.drawn) (ch:=ch) (fun b hb=>?_) (fun b u _ _ hc e _=>k b u hc e) (fun b u _ _ hc e _=>⟨u.slots,k b u hc e⟩) (fun b u _ e n=>?_) (fun b u hc e=>⟨u,k b u hc e⟩)
  (fun b xs e=>?_) (fun b u xs e=>?_) (fun b ps e=>⟨#[],?_⟩) (fun m hm=>?_) (fun b u e=>?_) I.bare
 ·obtain ⟨_,f1,_,f3,f4,f5⟩:=hf b hb
  exact ⟨f3,f1,f4,f5⟩
 ·rw [upd_ne (Nat.ne_of_lt (Nat.lt_of_lt_of_le (Heap.lt_size e) hp))];exact n
 ·rw [upd_ne (ne_of_none e hn)];exact e
 ·rw [upd_ne (ne_of_none e hn)];exact e
 ·rw [upd_ne (ne_of_none e hn),e];simp
 ·obtain ⟨ob,es,ep,ho,r⟩:=hm
  exact ⟨ob,es,ep,k _ ob (fun z=>(hf _ z).2.1 rfl) ho,r⟩
 ·by_cases hb:b=p
  ·subst hb;rw [upd_same] at e;cases e;exact new
  ·rw [upd_ne hb] at e
   refine (I.hok b u e).stay (fun c v hc q=>k c v ?_ q) (fun c q=>by rw [upd_ne (ne_of_none q hn)];exact q) fun c xs q=>by rw [upd_ne (ne_of_none q hn)];exact q
   rcases hc with z | z
   ·rw [z];exact nc b u e
   ·exact nc c _ z
theorem Inv.turnedL {X:Cx} {pins:List (Addr × Obj)} {σ:St} {H:Hp} {s:Shared} {ch:List Addr} {h':Heap} {t':Nat} (I:Inv X pins σ H s) (k:∀ b u,b∉ch→s.heap.get? b=some u→h'.get? b=some u)
  (hf:∀ b∈ch,FpOk X pins H b):Inv X pins σ H { s with heap:=h',toks:=t' }:=by
 have nc:∀ b u,H b=some u→b∉ch:=fun b u e z=>by rw [(hf b z).1] at e;cases e
 refine I.step (g':=s.gens) (d':=s.drawn) (ch:=ch) (fun b hb=>?_) (fun b u _ _ hc e _=>k b u hc e) (fun b u _ _ hc e _=>⟨u.slots,k b u hc e⟩) (fun b u _ e n=>n) (fun b u hc e=>⟨u,k b u hc e⟩)
  (fun b xs e=>e) (fun b u xs e=>e) (fun b ps e=>⟨#[],by rw [e];simp⟩) (fun m hm=>?_) (fun b u e=>?_) I.bare
 ·obtain ⟨_,f1,_,f3,f4,f5⟩:=hf b hb
  exact ⟨f3,f1,f4,f5⟩
 ·obtain ⟨ob,es,ep,ho,r⟩:=hm
  exact ⟨ob,es,ep,k _ ob (fun z=>(hf _ z).2.1 rfl) ho,r⟩
 ·refine (I.hok b u e).stay (fun c v hc q=>k c v ?_ q) (fun c q=>q) fun c xs q=>q
  rcases hc with z | z
  ·rw [z];exact nc b u e
  ·exact nc c _ z
end L2

set_option Elab.async false
set_option linter.all false
set_option maxRecDepth 100000
set_option maxHeartbeats 4000000
namespace L2
open PySem PySem.Spec PyProof.Rows

section
variable {X:Cx} {elts:List Expr} {tk:Nat} {tp:Pos}
/-! ### zip over two lists -/
def Itz (K:PySem.W.Frag) (a b:Addr):It :=
 ⟨fun i H=>∃ xs ys x y,SqL K H a xs∧SqL K H b ys∧xs[i]?=some x∧ys[i]?=some y,
  fun i H v H'=>∃ p x y,v=.ref p∧H p=none∧(∀ xs,SqL K H a xs→xs[i]?=some x)∧(∀ ys,SqL K H b ys→ys[i]?=some y)∧H'=upd H p (.tup [x,y]),
  fun i H=>∃ xs ys,SqL K H a xs∧SqL K H b ys∧(xs.length≤i∨ys.length≤i)⟩
theorem ne_cls {h:Heap} {a b:Addr} {o u:Obj} {x y:String} (ha:h.get? a=some o) (hb:h.get? b=some u) (hx:o.cls=.type x) (hy:u.cls=.type y) (hxy:x≠y):a≠b:=by
 intro e
 subst e
 rw [ha] at hb
 cases hb
 rw [hx] at hy
 injection hy with hy
 exact hxy hy
theorem turn_zip {P:Program} {w:World} {K:PySem.W.Frag} (a b z TI TO i1 i2:Addr) (D:TI≠z∧TO≠z∧i1≠z∧i2≠z∧TI≠TO∧TI≠i1∧TI≠i2∧TO≠i1∧TO≠i2∧i1≠i2) :
  Turn P w K (.Tuple elts tk tp) (Itz K a b) [z,TI,TO,i1,i2] z (fun i h=>IsZip h z TI TO .none∧IsPair h TI (.ref i1) (.ref i2)∧(∃ u v,IsPair h TO u v)∧h.IsListIter i1 a i∧h.IsListIter i2 b i) where
 mem:=by simp
 obj:=fun i h st c hc=>by
  obtain ⟨hz,hTI,⟨u,v,hTO⟩,⟨o1,e1,c1,d1⟩,⟨o2,e2,c2,d2⟩⟩:=st
  simp at hc
  rcases hc with q | q | q | q | q
  ·rw [q];exact ⟨_,hz,fun v z=>by cases z⟩
  ·rw [q];exact ⟨_,hTI,fun v z=>by cases z⟩
  ·rw [q];exact ⟨_,hTO,fun v z=>by cases z⟩
  ·rw [q];exact ⟨_,e1,fun v z=>by rw [d1] at z;cases z⟩
  ·rw [q];exact ⟨_,e2,fun v z=>by rw [d2] at z;cases z⟩
 keep:=fun i h h' st k=>by
  obtain ⟨hz,hTI,⟨u,v,hTO⟩,⟨o1,e1,c1⟩,⟨o2,e2,c2⟩⟩:=st
  exact ⟨k z (by simp) _ hz,k TI (by simp) _ hTI,⟨u,v,k TO (by simp) _ hTO⟩,⟨o1,k i1 (by simp) _ e1,c1⟩,⟨o2,k i2 (by simp) _ e2,c2⟩⟩
 item:=by
  intro X hP hw hK hc i pins s σ H E I hf st hg
  subst hP hw hK
  obtain ⟨hz,hTI,⟨u,v,hTO⟩,h1,h2⟩:=st
  obtain ⟨xs,ys,x,y,hxs,hys,hx,hy⟩:=hg
  obtain ⟨its,rv,p,_⟩:=I.list hxs
  obtain ⟨itt,rw',p',_⟩:=I.list hys
  obtain ⟨ux,hux,rux⟩:=rv.get hx
  obtain ⟨uy,huy,ruy⟩:=rw'.get hy
  obtain ⟨d1,d2,d3,d4,d5,d6,d7,d8,d9,d10⟩:=D
  have Da:∀ {l:Addr} {its:Array Value},s.heap.IsList l its→l≠z∧l≠TO∧l≠i1∧l≠i2:=fun {l its} hl=>by
   obtain ⟨o,e,c,_⟩:=hl
   obtain ⟨o1,e1,c1,_⟩:=id h1
   obtain ⟨o2,e2,c2,_⟩:=id h2
   exact ⟨ne_cls e hz c rfl (by decide),ne_cls e hTO c rfl (by decide),ne_cls e e1 c c1 (by decide),ne_cls e e2 c c2 (by decide)⟩
  obtain ⟨a1,a2,a3,a4⟩:=Da p.isList
  obtain ⟨b1,b2,b3,b4⟩:=Da p'.isList
  refine wpAny_pyNext_zip_item ⟨d1,d2,d3,d4,d5,d6,d7,d8,d9,d10,a1,a2,a3,a4,b1,b2,b3,b4⟩ hz hTI hTO h1 h2 p.isList p'.isList (x:=ux) (y:=uy) (by simpa using hux) (by simpa using huy) fun h' q1 q2 q3 q4 q5 q6 hk=>?_
  refine ⟨_,rfl,wpAny_letOwnedTupleGo_zip q1 fun h2' hz2 hs2=>?_⟩
  have zlt:z < s.heap.objs.size:=Heap.lt_size hz
  have kk:∀ c o,c∉[z,TO,i1,i2]→s.heap.get? c=some o→h2'.get? c=some o:=fun c o hc q=>by
   simp at hc
   exact (hs2.2 c hc.1).trans (hk c o hc.1 hc.2.1 hc.2.2.1 hc.2.2.2 q)
  have sub:∀ c∈[z,TO,i1,i2],c∈[z,TI,TO,i1,i2]:=fun c hc=>by simp at hc ⊢;rcases hc with q | q | q | q<;>simp [q]
  have I1:Inv X pins σ (upd H s.heap.objs.size (.tup [x,y])) { s with heap:=h2',toks:=s.toks }:=by
   refine I.turnedNew (ch:=[z,TO,i1,i2]) kk (Nat.le_refl _) ?_ (fun c hc=>hf c (sub c hc))
   exact ⟨by show 2≤sizeLine;decide,[ux,uy],0,.cons rux (.cons ruy .nil),(hs2.2 _ (Nat.ne_of_gt zlt)).trans q5⟩
  have up:∀ {c:Addr} {o:Obj},c≠z→h'.get? c=some o→h2'.get? c=some o:=fun {c o} hc q=>(hs2.2 c hc).trans q
  obtain ⟨o3,e3,c3⟩:=q3
  obtain ⟨o4,e4,c4⟩:=q4
  refine ⟨.ref s.heap.objs.size,_,I1,rfl,⟨s.heap.objs.size,x,y,rfl,I.fresh,fun zs hz'=>by rw [I.list_inj hz' hxs];exact hx,fun zs hz'=>by rw [I.list_inj hz' hys];exact hy,rfl⟩,⟨hz2,?_,⟨_,_,up d2 q2⟩,⟨o3,up d3 e3,c3⟩,⟨o4,up d4 e4,c4⟩⟩,fun c hc=>?_⟩
  ·exact up d1 (hk TI _ d1 d5 d6 d7 hTI)
  ·have c0:=(hf c hc).1
   have lt:c < s.heap.objs.size:=by
    obtain ⟨o1,e1,_⟩:=id h1
    obtain ⟨o2,e2,_⟩:=id h2
    simp at hc
    rcases hc with q | q | q | q | q
    ·rw [q];exact zlt
    ·rw [q];exact Heap.lt_size hTI
    ·rw [q];exact Heap.lt_size hTO
    ·rw [q];exact Heap.lt_size e1
    ·rw [q];exact Heap.lt_size e2
   rw [upd_ne (Nat.ne_of_lt lt)];exact c0
 done:=by
  intro X hP hw hK hc i pins s σ H E I hf st hg
  subst hP hw hK
  obtain ⟨hz,hTI,⟨u,v,hTO⟩,h1,h2⟩:=st
  obtain ⟨xs,ys,hxs,hys,hx⟩:=hg
  obtain ⟨its,rv,p,_⟩:=I.list hxs
  obtain ⟨itt,rw',p',_⟩:=I.list hys
  obtain ⟨d1,d2,d3,d4,d5,d6,d7,d8,d9,d10⟩:=D
  have Da:∀ {l:Addr} {its:Array Value},s.heap.IsList l its→l≠z∧l≠TO∧l≠i1∧l≠i2:=fun {l its} hl=>by
   obtain ⟨o,e,c,_⟩:=hl
   obtain ⟨o1,e1,c1,_⟩:=id h1
   obtain ⟨o2,e2,c2,_⟩:=id h2
   exact ⟨ne_cls e hz c rfl (by decide),ne_cls e hTO c rfl (by decide),ne_cls e e1 c c1 (by decide),ne_cls e e2 c c2 (by decide)⟩
  obtain ⟨a1,a2,a3,a4⟩:=Da p.isList
  obtain ⟨b1,b2,b3,b4⟩:=Da p'.isList
  have l1:=rv.length
  have l2:=rw'.length
  refine wpAny_pyNext_zip_end (I.ok.hd hc) ⟨d1,d2,d3,d4,d5,d6,d7,d8,d9,d10,a1,a2,a3,a4,b1,b2,b3,b4⟩ hz hTI hTO h1 h2 p.isList p'.isList ?_ fun h' hk=>⟨rfl,?_⟩
  ·rcases hx with q | q
   ·left;simp;omega
   ·right;simp;omega
  ·refine I.turnedL (ch:=[z,TO,i1,i2]) (t':=s.toks) (fun c o hcc q=>?_) (fun c hcc=>hf c ?_)
   ·simp at hcc
    exact hk c o hcc.1 hcc.2.1 hcc.2.2.1 hcc.2.2.2 q
   ·simp at hcc ⊢;rcases hcc with q | q | q | q<;>simp [q]
 self:=fun A i s Q E st h=>wpAny_pyIter_zip st.1 h
def iZip (K:PySem.W.Frag) (ta:TA):TI:=fun σ H R=>ta σ H fun vs H1=>∃ a b:Addr,vs=[.ref a,.ref b]∧(∃ xs,SqL K H1 a xs)∧(∃ ys,SqL K H1 b ys)∧R (Itz K a b) H1
theorem pi_zip {a b:Expr} {ta:TA} {p pos:Pos} (hg:Gl X "zip") (hm:X.mg "zip"=none) (ha:PA X [a,b] ta) (hs:starEach [a,b] X.env=[(false,eval a X.env),(false,eval b X.env)]:=by rfl) (hs2:starEach [b] X.env=[(false,eval b X.env)]:=by rfl) :
  PI X (.Tuple elts tk tp) (.Call (.Name "zip" p) [a,b] [] pos) (iZip X.K ta):=by
 intro pins s σ H R I h
 refine Call_ (ld_blt I hg hm boot_zip (PyProof.Rows.callWith_type1 (thn (ha pos pins s σ H _ I h) fun us s1 ⟨vs,H1,I1,r1,q1⟩=>?_) (by rw [hs,hs2]) (by rw [hs2];rfl)))
 obtain ⟨a,b,e,⟨xs,hq⟩,⟨ys,hq'⟩,q⟩:=q1
 subst e
 obtain ⟨u,v,rfl,ru,rv'⟩:=vals2 r1
 cases ru
 cases rv'
 obtain ⟨its,rv,pl,hz⟩:=I1.list hq
 obtain ⟨its2,rv2,pl2,hz2⟩:=I1.list hq'
 refine call_zip_2 pl.isList pl2.isList fun h' z1 z2 z3 z4 z5 z6 hk=>wpAny_pyIter_zip z1 ?_
 have I2:Inv X pins σ H1 { s1 with heap:=h' }:=I1.kept (t':=s1.toks) hk
 refine ⟨s1.heap.objs.size+4,[s1.heap.objs.size+4,s1.heap.objs.size+2,s1.heap.objs.size+3,s1.heap.objs.size,s1.heap.objs.size+1],_,_,H1,rfl,I2,
  turn_zip a b (s1.heap.objs.size+4) (s1.heap.objs.size+2) (s1.heap.objs.size+3) s1.heap.objs.size (s1.heap.objs.size+1) (by refine ⟨?_,?_,?_,?_,?_,?_,?_,?_,?_,?_⟩<;>(show @Ne Nat _ _;omega)),⟨z1,z2,⟨_,_,z3⟩,z4,z5⟩,fun c hb=>?_,q⟩
 have hb':s1.heap.objs.size≤c:=by
  simp only [List.mem_cons,List.not_mem_nil,or_false] at hb
  rcases hb with q | q | q | q | q<;>(have q:@Eq Nat c _:=q;omega)
 exact I1.fpOk hb' (I1.hok.fresh hb')
end
theorem for_zip {K:PySem.W.Frag} {a b:Addr} {xs ys:List V} {g:TG} {tb:TS} {D:Ends} {σ:St} {H:Hp} (hlen:xs.length=ys.length) (Pv:Nat→St→Hp→Prop) (h0:Pv 0 σ H) (hl:∀ i σ H,i≤xs.length→Pv i σ H→SqL K H a xs∧SqL K H b ys)
  (hs:∀ i x y p σ H,xs[i]?=some x→ys[i]?=some y→Pv i σ H→H p=none→g (.ref p) σ (upd H p (.tup [x,y])) fun σ2 H2=>tb { D with nx:=Pv (i+1),ct:=Pv (i+1),bk:=D.nx } σ2 H2) (hd:∀ σ H,Pv xs.length σ H→D.nx σ H) :
  ∃ W:Nat→Nat→St→Hp→Prop,(∃ m,W 0 m σ H)∧∀ i m σ H,W i m σ H →
   ((Itz K a b).stop i H∧D.nx σ H)∨((Itz K a b).go i H∧∃ N:St→Hp→Prop,(∀ σ' H',N σ' H'→∃ m',m' < m∧W (i+1) m' σ' H')∧∀ x H',(Itz K a b).yld i H x H'→g x σ H' fun σ2 H2=>tb { D with nx:=N,ct:=N,bk:=D.nx } σ2 H2):=by
 refine ⟨fun i m σ H=>m=xs.length - i∧i≤xs.length∧Pv i σ H,⟨xs.length,by simp,Nat.zero_le _,h0⟩,?_⟩
 rintro i m σ H ⟨rfl,hi,p⟩
 obtain ⟨q,q'⟩:=hl i σ H hi p
 by_cases hlt:i < xs.length
 ·refine .inr ⟨⟨xs,ys,xs[i],ys[i]'(by omega),q,q',by simp [hlt],by simp [show i < ys.length by omega]⟩,Pv (i+1),fun σ' H' p'=>⟨xs.length - (i+1),by omega,rfl,hlt,p'⟩,fun x H' y=>?_⟩
  obtain ⟨c,z,z',rfl,hb,hz,hz',rfl⟩:=y
  exact hs i z z' c σ H (hz xs q) (hz' ys q') p hb
 ·have e:i=xs.length:=by omega
  subst e
  exact .inl ⟨⟨xs,ys,q,q',.inl (Nat.le_refl _)⟩,hd σ H p⟩
theorem comp_zip {K:PySem.W.Frag} {a b l:Addr} {xs zs:List V} {ix:List (Option Nat)} {g:TG} {te:TE} {σ:St} {H0:Hp} {Qe:Hp→Prop} (hlen:xs.length=zs.length) (Pv:Nat→List V→Hp→Prop) (h0:Pv 0 [] H0) (hl:∀ i ys H,i≤xs.length→Pv i ys H→SqL K H a xs∧SqL K H b zs) (hz:xs.length≤sizeLine)
  (hn:∀ i ys H,Pv i ys H→ys.length=i)
  (hs:∀ i x y p ys H,xs[i]?=some x→zs[i]?=some y→Pv i ys H→H l=some (.lst ys)→H p=none→g (.ref p) (compSt ix σ) (upd H p (.tup [x,y])) fun σ2 H2=>te σ2 H2 fun v H3=>H3 l=some (.lst ys)∧Pv (i+1) (ys++[v]) (upd H3 l (.lst (ys++[v]))))
  (hd:∀ ys H,Pv xs.length ys H→H l=some (.lst ys)→Qe H):compW ix (Itz K a b) g te σ l H0 Qe:=by
 refine comp_by (n:=xs.length) Pv h0 (fun i ys H hi p hy=>?_) fun ys H p hy=>⟨⟨xs,zs,(hl _ ys H (Nat.le_refl _) p).1,(hl _ ys H (Nat.le_refl _) p).2,.inl (Nat.le_refl _)⟩,hd ys H p hy⟩
 obtain ⟨q,q'⟩:=hl i ys H (Nat.le_of_lt hi) p
 refine ⟨⟨xs,zs,xs[i],zs[i]'(by omega),q,q',by simp [hi],by simp [show i < zs.length by omega]⟩,by rw [hn i ys H p];exact Nat.lt_of_lt_of_le hi hz,fun x H' y=>?_⟩
 obtain ⟨c,z,z',rfl,hb,hz,hz',rfl⟩:=y
 exact hs i z z' c ys H (hz xs q) (hz' zs q') p hy hb
end L2

set_option Elab.async false
set_option linter.all false
set_option maxRecDepth 100000
set_option maxHeartbeats 4000000
namespace L2
open PySem PySem.Spec PyProof.Rows
open PySem.AutoSeq1 (wpAny_loadPart')

/-! ### data: what a value stands for,through its tuples and lists -/
inductive D where
 | non | bl (b:Bool) | int (i:Int) | str (x:Str) | tup (ds:List D) | lst (ds:List D)
mutual
def Dr (K:PySem.W.Frag) (H:Hp):D→V→Prop
 | .non,v=>v=.non
 | .bl b,v=>v=.bl b
 | .int i,v=>v=.int i
 | .str x,v=>v=.str x
 | .tup ds,v=>∃ (a:Addr) (vs:List V),v=.ref a∧H a=some (.tup vs)∧DrL K H ds vs
 | .lst ds,v=>∃ (a:Addr) (vs:List V),v=.ref a∧SqL K H a vs∧DrL K H ds vs
def DrL (K:PySem.W.Frag) (H:Hp):List D→List V→Prop
 | [],vs=>vs=[]
 | d::ds,vs=>∃ v r,vs=v::r∧Dr K H d v∧DrL K H ds r
end
theorem Same.tupl {K:PySem.W.Frag} {H H':Hp} {a:Addr} {xs:List V} (s:Same H H') (h:SqT K H a xs):SqT K H' a xs:=by
 rcases h with (h | ⟨o,h⟩) | h
 ·exact .inl (.inl (s _ _ h))
 ·exact .inl (.inr ⟨o,s _ _ h⟩)
 ·exact .inr h
mutual
theorem Dr.mono {K:PySem.W.Frag} {H H':Hp} (s:Same H H'):∀ {d:D} {v:V},Dr K H d v→Dr K H' d v
 | .non,_,h=>by simp only [Dr] at h ⊢;exact h
 | .bl _,_,h=>by simp only [Dr] at h ⊢;exact h
 | .int _,_,h=>by simp only [Dr] at h ⊢;exact h
 | .str _,_,h=>by simp only [Dr] at h ⊢;exact h
 | .tup ds,_,h=>by
  simp only [Dr] at h ⊢
  obtain ⟨a,vs,e,q,r⟩:=h
  exact ⟨a,vs,e,s _ _ q,DrL.mono s r⟩
 | .lst ds,_,h=>by
  simp only [Dr] at h ⊢
  obtain ⟨a,vs,e,q,r⟩:=h
  exact ⟨a,vs,e,s.seq q,DrL.mono s r⟩
theorem DrL.mono {K:PySem.W.Frag} {H H':Hp} (s:Same H H'):∀ {ds:List D} {vs:List V},DrL K H ds vs→DrL K H' ds vs
 | [],_,h=>by simp only [DrL] at h ⊢;exact h
 | d::ds,_,h=>by
  simp only [DrL] at h ⊢
  obtain ⟨v,r,e,q,q'⟩:=h
  exact ⟨v,r,e,Dr.mono s q,DrL.mono s q'⟩
end
theorem DrL.length {K:PySem.W.Frag} {H:Hp}:∀ {ds:List D} {vs:List V},DrL K H ds vs→ds.length=vs.length
 | [],_,h=>by simp only [DrL] at h;subst h;rfl
 | d::ds,_,h=>by
  simp only [DrL] at h
  obtain ⟨v,r,rfl,_,q⟩:=h
  rw [List.length_cons,List.length_cons,DrL.length q]
theorem DrL.get {K:PySem.W.Frag} {H:Hp}:∀ {ds:List D} {vs:List V} {i:Nat} {d:D},DrL K H ds vs→ds[i]?=some d→∃ v,vs[i]?=some v∧Dr K H d v
 | [],_,_,_,_,e=>by simp at e
 | d::ds,_,0,_,h,e=>by
  simp only [DrL] at h
  obtain ⟨v,r,rfl,q,_⟩:=h
  simp at e;subst e
  exact ⟨v,rfl,q⟩
 | d::ds,_,i+1,d',h,e=>by
  simp only [DrL] at h
  obtain ⟨v,r,rfl,_,q⟩:=h
  obtain ⟨v',h1,h2⟩:=DrL.get (i:=i) q (by simpa using e)
  exact ⟨v',by simpa using h1,h2⟩
theorem DrL.append {K:PySem.W.Frag} {H:Hp}:∀ {ds es:List D} {vs us:List V},DrL K H ds vs→DrL K H es us→DrL K H (ds++es) (vs++us)
 | [],_,_,_,h,h'=>by simp only [DrL] at h;subst h;exact h'
 | d::ds,es,_,us,h,h'=>by
  simp only [DrL] at h
  obtain ⟨v,r,rfl,q,q'⟩:=h
  show DrL K H (d::(ds++es)) (v::(r++us))
  simp only [DrL]
  exact ⟨v,_,rfl,q,DrL.append q' h'⟩
theorem DrL.one {K:PySem.W.Frag} {H:Hp} {d:D} {v:V} (h:Dr K H d v):DrL K H [d] [v]:=by
 simp only [DrL];exact ⟨v,[],rfl,h,rfl⟩
theorem DrL.nil {K:PySem.W.Frag} {H:Hp}:DrL K H [] []:=by simp only [DrL]
theorem DrL.cons {K:PySem.W.Frag} {H:Hp} {d:D} {v:V} {ds:List D} {vs:List V} (h:Dr K H d v) (h':DrL K H ds vs):DrL K H (d::ds) (v::vs):=by
 simp only [DrL];exact ⟨v,vs,rfl,h,h'⟩
theorem DrL.ints {K:PySem.W.Frag} {H:Hp}:∀ (ns:List Int),DrL K H (ns.map D.int) (ns.map V.int)
 | []=>DrL.nil
 | n::r=>DrL.cons (by simp only [Dr]) (DrL.ints r)
theorem DrL.ints_inv {K:PySem.W.Frag} {H:Hp}:∀ {ns:List Int} {vs:List V},DrL K H (ns.map D.int) vs→vs=ns.map V.int
 | [],_,h=>by simp only [List.map_nil,DrL] at h;rw [h];rfl
 | n::r,_,h=>by
  simp only [List.map_cons,DrL] at h
  obtain ⟨v,w,rfl,q,q'⟩:=h
  simp only [Dr] at q
  subst q
  rw [DrL.ints_inv q',List.map_cons]
theorem Dr.tup {K:PySem.W.Frag} {H:Hp} {a:Addr} {ds:List D} {vs:List V} (h:H a=some (.tup vs)) (r:DrL K H ds vs):Dr K H (.tup ds) (.ref a):=by
 simp only [Dr];exact ⟨a,vs,rfl,h,r⟩
theorem Dr.lst {K:PySem.W.Frag} {H:Hp} {a:Addr} {ds:List D} {vs:List V} (h:H a=some (.lst vs)) (r:DrL K H ds vs):Dr K H (.lst ds) (.ref a):=by
 simp only [Dr];exact ⟨a,vs,rfl,SqL.of h,r⟩
theorem Dr.int {K:PySem.W.Frag} {H:Hp} (i:Int):Dr K H (.int i) (.int i):=by simp only [Dr]
abbrev D.its (ns:List Int):D:=.tup (ns.map D.int)
end L2

set_option Elab.async false
set_option linter.all false
set_option maxRecDepth 100000
set_option maxHeartbeats 4000000
namespace L2
open PySem PySem.Spec PyProof.Rows
open PySem.SeqAt

/-! ### == of data -/
mutual
def D.eq:D→D→Bool
 | .non,.non=>true
 | .bl a,.bl b=>a == b
 | .int i,.int j=>i == j
 | .str x,.str y=>decide (x=y)
 | .tup a,.tup b=>D.eqL a b
 | .lst a,.lst b=>D.eqL a b
 | _,_=>false
def D.eqL:List D→List D→Bool
 | [],[]=>true
 | d::ds,e::es=>D.eq d e && D.eqL ds es
 | _,_=>false
end
mutual
def D.ok:D→D→Prop
 | .non,.non=>True
 | .bl _,.bl _=>True
 | .int _,.int _=>True
 | .str _,.str _=>True
 | .tup a,.tup b=>D.okL a b
 | .lst a,.lst b=>D.okL a b
 | _,_=>False
def D.okL:List D→List D→Prop
 | d::ds,e::es=>D.ok d e∧D.okL ds es
 | _,_=>True
end
mutual
def D.dep:D→Nat
 | .tup a=>D.depL a+1
 | .lst a=>D.depL a+1
 | _=>0
def D.depL:List D→Nat
 | []=>0
 | d::ds=>max (D.dep d) (D.depL ds)
end
mutual
theorem D.eq_refl:∀ d:D,D.eq d d=true
 | .non=>by simp only [D.eq]
 | .bl b=>by simp only [D.eq,beq_self_eq_true]
 | .int i=>by simp only [D.eq,beq_self_eq_true]
 | .str x=>by simp only [D.eq,decide_true]
 | .tup a=>by simp only [D.eq];exact D.eqL_refl a
 | .lst a=>by simp only [D.eq];exact D.eqL_refl a
theorem D.eqL_refl:∀ ds:List D,D.eqL ds ds=true
 | []=>by simp only [D.eqL]
 | d::ds=>by simp only [D.eqL,D.eq_refl d,D.eqL_refl ds,Bool.and_self]
end
mutual
theorem D.eq_of:∀ {d e:D},D.eq d e=true→d=e
 | .non,e,h=>by cases e<;>simp only [D.eq,Bool.false_eq_true] at h<;>rfl
 | .bl b,e,h=>by cases e<;>simp only [D.eq,Bool.false_eq_true,beq_iff_eq] at h;rw [h]
 | .int b,e,h=>by cases e<;>simp only [D.eq,Bool.false_eq_true,beq_iff_eq] at h;rw [h]
 | .str b,e,h=>by cases e<;>simp only [D.eq,Bool.false_eq_true,decide_eq_true_eq] at h;rw [h]
 | .tup b,e,h=>by
  cases e<;>simp only [D.eq,Bool.false_eq_true] at h
  rw [D.eqL_of h]
 | .lst b,e,h=>by
  cases e<;>simp only [D.eq,Bool.false_eq_true] at h
  rw [D.eqL_of h]
theorem D.eqL_of:∀ {d e:List D},D.eqL d e=true→d=e
 | [],e,h=>by cases e<;>simp only [D.eqL,Bool.false_eq_true] at h;rfl
 | d::ds,e,h=>by
  cases e<;>simp only [D.eqL,Bool.false_eq_true,Bool.and_eq_true] at h
  rw [D.eq_of h.1,D.eqL_of h.2]
end
theorem D.okL_get:∀ {ds es:List D} {j:Nat} {d e:D},D.okL ds es→ds[j]?=some d→es[j]?=some e→D.ok d e
 | [],_,_,_,_,_,h,_=>by simp at h
 | _::_,[],_,_,_,_,_,h=>by simp at h
 | _::_,_::_,0,_,_,h,h1,h2=>by
  simp only [D.okL] at h
  simp at h1 h2;subst h1 h2;exact h.1
 | _::_,_::_,j+1,_,_,h,h1,h2=>by
  simp only [D.okL] at h
  exact D.okL_get h.2 (by simpa using h1) (by simpa using h2)
theorem D.depL_get:∀ {ds:List D} {j:Nat} {d:D},ds[j]?=some d→D.dep d≤D.depL ds
 | [],_,_,h=>by simp at h
 | _::_,0,_,h=>by
  simp at h;subst h;simp only [D.depL];exact Nat.le_max_left _ _
 | _::ds,j+1,_,h=>by
  simp only [D.depL]
  exact Nat.le_trans (D.depL_get (ds:=ds) (j:=j) (by simpa using h)) (Nat.le_max_right _ _)
def D.at_ (ds es:List D) (j:Nat):Bool:=match ds[j]?,es[j]? with | some d,some e=>D.eq d e | _,_=>true
theorem D.all_eqL:∀ (ds es:List D),(((List.range (min ds.length es.length)).all (D.at_ ds es)) && ds.length == es.length)=D.eqL ds es
 | [],[]=>by simp [D.eqL]
 | [],e::es=>by simp [D.eqL]
 | d::ds,[]=>by simp [D.eqL]
 | d::ds,e::es=>by
  have ih:=D.all_eqL ds es
  simp only [D.eqL]
  rw [←ih]
  have e1:min (d::ds).length (e::es).length=min ds.length es.length+1:=by simp only [List.length_cons];omega
  rw [e1,List.range_succ_eq_map,List.all_cons,List.all_map,Bool.and_assoc]
  have e2:D.at_ (d::ds) (e::es) 0=D.eq d e:=by simp [D.at_]
  have e3:(D.at_ (d::ds) (e::es) ∘ Nat.succ)=D.at_ ds es:=by funext j;simp [D.at_]
  have e4:((d::ds).length == (e::es).length)=(ds.length == es.length):=by simp
  rw [e2,e3,e4]
theorem D.all_eqL' {ds es:List D} (h:ds.length=es.length):(List.range ds.length).all (D.at_ ds es)=D.eqL ds es:=by
 rw [←D.all_eqL ds es]
 have:min ds.length es.length=ds.length:=by omega
 rw [this]
 simp [h]
theorem D.eqL_len {ds es:List D} (h:ds.length≠es.length):D.eqL ds es=false:=by
 rw [←D.all_eqL ds es]
 have:(ds.length == es.length)=false:=by simpa using h
 rw [this,Bool.and_false]
section
variable {X:Cx} {pins:List (Addr × Obj)} {σ:St} {H:Hp} {s:Shared}
mutual
theorem Dr.inj (I:Inv X pins σ H s):∀ {d e:D} {v:V},Dr X.K H d v→Dr X.K H e v→D.ok d e→d=e
 | .non,e,v,h,h',o=>by cases e<;>simp only [D.ok] at o<;>rfl
 | .bl b,e,v,h,h',o=>by
  cases e<;>simp only [D.ok] at o
  simp only [Dr] at h h';rw [h] at h';cases h';rfl
 | .int b,e,v,h,h',o=>by
  cases e<;>simp only [D.ok] at o
  simp only [Dr] at h h';rw [h] at h';cases h';rfl
 | .str b,e,v,h,h',o=>by
  cases e<;>simp only [D.ok] at o
  simp only [Dr] at h h';rw [h] at h';cases h';rfl
 | .tup ds,e,v,h,h',o=>by
  cases e<;>simp only [D.ok] at o
  simp only [Dr] at h h'
  obtain ⟨a,vs,rfl,q,r⟩:=h
  obtain ⟨b,us,eq,q',r'⟩:=h'
  cases eq
  have:=I.tuple_inj (SqT.of q) (SqT.of q')
  subst this
  rw [DrL.inj I r r' o]
 | .lst ds,e,v,h,h',o=>by
  cases e<;>simp only [D.ok] at o
  simp only [Dr] at h h'
  obtain ⟨a,vs,rfl,q,r⟩:=h
  obtain ⟨b,us,eq,q',r'⟩:=h'
  cases eq
  have:=I.list_inj q q'
  subst this
  rw [DrL.inj I r r' o]
theorem DrL.inj (I:Inv X pins σ H s):∀ {ds es:List D} {vs:List V},DrL X.K H ds vs→DrL X.K H es vs→D.okL ds es→ds=es
 | [],[],_,_,_,_=>rfl
 | [],_::_,_,h,h',_=>by
  simp only [DrL] at h h'
  obtain ⟨_,_,e,_⟩:=h'
  rw [h] at e;cases e
 | _::_,[],_,h,h',_=>by
  simp only [DrL] at h h'
  obtain ⟨_,_,e,_⟩:=h
  rw [h'] at e;cases e
 | d::ds,e::es,_,h,h',o=>by
  simp only [DrL] at h h'
  simp only [D.okL] at o
  obtain ⟨v,r,rfl,q,q'⟩:=h
  obtain ⟨u,w,eq,p,p'⟩:=h'
  cases eq
  rw [Dr.inj I q p o.1,DrL.inj I q' p' o.2]
end
theorem eqAtD (I:Inv X pins σ H s):∀ (n:Nat) (A:Around) {d e:D} {x y:V} {v u:Value},D.dep d≤n→A.units+n < cLine→Dr X.K H d x→Dr X.K H e y→D.ok d e→RelV x v→RelV y u→EqAt A s v u (D.eq d e)∧(∀ l b,x=.ref l→y=.ref b→RcAt A s v u (D.eq d e)):=by
 intro n
 induction n with
 | zero =>
  intro A d e x y v u hd hu hx hy o rx ry
  cases d<;>cases e<;>simp only [D.ok] at o<;>simp only [D.dep,Nat.le_zero,Nat.add_eq_zero_iff,Nat.one_ne_zero,and_false] at hd
  ·simp only [Dr] at hx hy;subst hx hy;cases rx;cases ry
   exact ⟨EqAt.same _,fun _ _ h=>nomatch h⟩
  ·rename_i a b
   simp only [Dr] at hx hy;subst hx hy;cases rx;cases ry
   simp only [D.eq]
   exact ⟨EqAt.bool_bool _ _,fun _ _ h=>nomatch h⟩
  ·rename_i a b
   simp only [Dr] at hx hy;subst hx hy;obtain ⟨t,rfl⟩:=rx;obtain ⟨t',rfl⟩:=ry
   simp only [D.eq]
   exact ⟨fun prog w E Q h=>wpAny_eqBool_int h,fun _ _ h=>nomatch h⟩
  ·rename_i a b
   simp only [Dr] at hx hy;subst hx hy;obtain ⟨t,rfl⟩:=rx;obtain ⟨t',rfl⟩:=ry
   simp only [D.eq]
   exact ⟨fun prog w E Q h=>wpAny_eqBool_str h,fun _ _ h=>nomatch h⟩
 | succ n ih =>
  intro A d e x y v u hd hu hx hy o rx ry
  have flat:D.dep d≤0→EqAt A s v u (D.eq d e)∧(∀ l b,x=.ref l→y=.ref b→RcAt A s v u (D.eq d e)):=fun z=>ih A (Nat.le_trans z (Nat.zero_le _)) (by omega) hx hy o rx ry
  have hin:A.in1.units+n < cLine:=by show A.units+1+n < cLine;omega
  have both:∀ {l b:Addr} {k:Bool},RcAt A s (.ref l) (.ref b) k→(l=b→k=true)→EqAt A s (.ref l) (.ref b) k:=fun {l b k} h hk=>by
   by_cases e:l=b
   ·have z:=hk e
    subst e
    rw [z]
    exact EqAt.same _
   ·exact EqAt.of_refs e h
  have items:∀ {ds es:List D} {vs us:List V} {its itt:List Value},D.depL ds≤n→D.okL ds es→DrL X.K H ds vs→DrL X.K H es us→Vals vs its→Vals us itt→∀ j (h1:j < its.toArray.size) (h2:j < itt.toArray.size),EqAt A.in1 s its.toArray[j] itt.toArray[j] (D.at_ ds es j):=by
   intro ds es vs us its itt hdp hok r r' rv rv' j h1 h2
   have l1:=rv.length
   have l2:=rv'.length
   have l3:=r.length
   have l4:=r'.length
   have h1':j < its.length:=by simpa using h1
   have h2':j < itt.length:=by simpa using h2
   have e1:ds[j]?=some ds[j]:=List.getElem?_eq_getElem (by omega)
   have e2:es[j]?=some es[j]:=List.getElem?_eq_getElem (by omega)
   obtain ⟨x1,g1,d1⟩:=r.get e1
   obtain ⟨x2,g2,d2⟩:=r'.get e2
   obtain ⟨u1,k1,q1⟩:=rv.get g1
   obtain ⟨u2,k2,q2⟩:=rv'.get g2
   have z1:u1=its.toArray[j]:=by
    rw [List.getElem?_eq_getElem h1'] at k1
    have:=Option.some.inj k1
    simpa using this.symm
   have z2:u2=itt.toArray[j]:=by
    rw [List.getElem?_eq_getElem h2'] at k2
    have:=Option.some.inj k2
    simpa using this.symm
   have z3:D.at_ ds es j=D.eq ds[j] es[j]:=by unfold D.at_;rw [e1,e2]
   rw [z3,←z1,←z2]
   exact (ih A.in1 (Nat.le_trans (D.depL_get e1) hdp) hin d1 d2 (D.okL_get hok e1 e2) q1 q2).1
  cases d with
  | non=>exact flat (Nat.le_refl _)
  | bl _=>exact flat (Nat.le_refl _)
  | int _=>exact flat (Nat.le_refl _)
  | str _=>exact flat (Nat.le_refl _)
  | tup ds =>
   cases e<;>simp only [D.ok] at o
   rename_i es
   have inj:=fun (q:x=y)=>Dr.inj I hx (q ▸ hy) (by simp only [D.ok];exact o)
   have hdp:D.depL ds≤n:=by simp only [D.dep] at hd;omega
   simp only [Dr] at hx hy
   obtain ⟨l,vs,rfl,q,r⟩:=hx
   obtain ⟨b,us,rfl,q',r'⟩:=hy
   cases rx
   cases ry
   obtain ⟨its,rv,pl,_⟩:=I.tuple (SqT.of q)
   obtain ⟨itt,rv',pl',_⟩:=I.tuple (SqT.of q')
   have R:RcAt A s (.ref l) (.ref b) (D.eq (.tup ds) (.tup es)):=by
    have z:=RcAt.tuples (A:=A) (e:=D.at_ ds es) pl pl' (by omega) (items hdp o r r' rv rv')
    have e1:its.toArray.size=ds.length:=by rw [r.length,rv.length];simp
    have e2:itt.toArray.size=es.length:=by rw [r'.length,rv'.length];simp
    rw [e1,e2,D.all_eqL] at z
    simp only [D.eq]
    exact z
   exact ⟨both R fun h=>by subst h;have:=inj rfl;rw [this];exact D.eq_refl _,fun _ _ _ _=>R⟩
  | lst ds =>
   cases e<;>simp only [D.ok] at o
   rename_i es
   have inj:=fun (q:x=y)=>Dr.inj I hx (q ▸ hy) (by simp only [D.ok];exact o)
   have hdp:D.depL ds≤n:=by simp only [D.dep] at hd;omega
   simp only [Dr] at hx hy
   obtain ⟨l,vs,rfl,q,r⟩:=hx
   obtain ⟨b,us,rfl,q',r'⟩:=hy
   cases rx
   cases ry
   obtain ⟨its,rv,pl,_⟩:=I.list q
   obtain ⟨itt,rv',pl',_⟩:=I.list q'
   have e1:its.toArray.size=ds.length:=by rw [r.length,rv.length];simp
   have e2:itt.toArray.size=es.length:=by rw [r'.length,rv'.length];simp
   have R:RcAt A s (.ref l) (.ref b) (D.eq (.lst ds) (.lst es)):=by
    by_cases hl:ds.length=es.length
    ·have z:=RcAt.lists (A:=A) (e:=D.at_ ds es) pl.isList pl'.isList (by omega) (by omega) (items hdp o r r' rv rv')
     rw [e1,D.all_eqL' hl] at z
     simp only [D.eq]
     exact z
    ·have z:=RcAt.lists_lengths (A:=A) pl.isList pl'.isList (by rw [e1,e2];simpa using hl) (by omega)
     simp only [D.eq]
     rw [D.eqL_len hl]
     exact z
   exact ⟨both R fun h=>by subst h;have:=inj rfl;rw [this];exact D.eq_refl _,fun _ _ _ _=>R⟩
/-! ### isinstance of a built-in type -/
end
end L2

set_option Elab.async false
set_option maxRecDepth 100000
set_option maxHeartbeats 4000000
namespace L2
open PySem PySem.Spec PyProof.Rows PySem.SeqAt
open PySem.AutoSeq1 (wpAny_loadPart')
section
variable {X:Cx}
end
end L2

set_option Elab.async false
set_option linter.all false
set_option maxRecDepth 100000
set_option maxHeartbeats 4000000
namespace L2
open PySem PySem.Spec PyProof.Rows
/-! ### the rules that name the fragment,said of a fragment that is handed in (a block's context hides its own) -/
section
variable {X:Cx} (K:PySem.W.Frag)
theorem ixL (h:X.K=K):IxR X (rIxL K):=h ▸ ix_list
theorem ixT (h:X.K=K):IxR X (rIxT K):=h ▸ ix_tup
theorem cLen (h:X.K=K):CallR X (.builtin "len") (fun xs H Q=>∃ p ys,xs=[.ref p]∧(SqL K H p ys∨SqT K H p ys)∧Q (.int ys.length) H):=h ▸ call_len_seq
theorem cTup (h:X.K=K):CallR X (.type "tuple") (fun xs H Q=>∃ p ys,xs=[.ref p]∧((SqL K H p ys∧∀ l,H l=none→Q (.ref l) (upd H l (.tup ys)))∨(SqT K H p ys∧Q (.ref p) H))):=h ▸ call_tuple_of
theorem piT {tg l:Expr} {tl:TE} (h:X.K=K) (hl:PE X l tl):PI X tg l (iTup K tl):=h ▸ pi_tup hl
variable {o e:Expr} {es:List Expr} {to:TE} {t:TA} {name:Str} {apos cpos:Pos} {T id:String} {r:V→List V→Hp→VK→Prop}
theorem cAll (h:X.K=K) (hc:X.calm=true):CallR X (.builtin "all") (fun xs H Q=>∃ (p:Addr) (bs:List Bool),xs=[.ref p]∧SqL K H p (bs.map V.bl)∧Q (.bl (bs.all _root_.id)) H):=h ▸ call_all hc
theorem pgT {es:List Expr} {k:Nat} {t:TGs} {n:Nat} {pos:Pos} (h:X.K=K) (hc:X.calm=true) (hp:PGs X es t)
  (hn:(assignEach es X.env).length=n:=by rfl) (hst:(assignEach es X.env).findIdx? (·.1)=none:=by rfl):PG X (.Tuple es k pos) (gTup K n t):=h ▸ pg_tup hc hp hn hst
theorem piZip {elts:List Expr} {tk:Nat} {tp:Pos} {a b:Expr} {ta:TA} {p pos:Pos} (h:X.K=K) (hg:Gl X "zip") (hm:X.mg "zip"=none) (ha:PA X [a,b] ta) (hs:starEach [a,b] X.env=[(false,eval a X.env),(false,eval b X.env)]:=by rfl) (hs2:starEach [b] X.env=[(false,eval b X.env)]:=by rfl) :
  PI X (.Tuple elts tk tp) (.Call (.Name "zip" p) [a,b] [] pos) (iZip K ta):=h ▸ pi_zip hg hm ha hs hs2
inductive TyS (K:PySem.W.Frag) (H:Hp):V→Value→Prop where
 | of {x:V} {t:Value} (h:TyOf K H x t):TyS K H x t
 | tup {a:Addr} {xs:List V} (h:SqT K H a xs):TyS K H (.ref a) (.type "tuple")
 | lst {a:Addr} {xs:List V} (h:SqL K H a xs):TyS K H (.ref a) (.type "list")
theorem cIsS (c:String) (hK:X.K=K):CallR X (.builtin "isinstance") (fun xs H Q=>∃ x t b,xs=[x,.ty c]∧TyS K H x t∧PySem.W.kitOne K t (.type c)=some b∧Q (.bl b) H):=by
 subst hK
 intro pins s σ H xs us Q I r h
 obtain ⟨x,t,b,rfl,ty,k,q⟩:=h
 obtain ⟨u,w',rfl,ru,rw'⟩:=vals2 r
 cases rw'
 cases ty with
 | of ty=>exact isinst_ok I ru ty k fun tk=>⟨.bl b,H,I.tok tk,rfl,q⟩
 | tup ht =>
  cases ru
  obtain ⟨_,_,⟨o,h1,h2,_⟩,_⟩:=I.tuple ht
  exact PySem.W.kia_one PySem.W.kitx_tuple I.kIn ⟨o,h1,h2⟩ k (fun z=>nomatch z) fun tk=>⟨.bl b,H,I.tok tk,rfl,q⟩
 | lst ht =>
  cases ru
  obtain ⟨_,_,⟨o,n,h1,h2,_⟩,_⟩:=I.list ht
  exact PySem.W.kia_one PySem.W.kitx_list I.kIn ⟨o,h1,h2⟩ k (fun z=>nomatch z) fun tk=>⟨.bl b,H,I.tok tk,rfl,q⟩
def tIsi (K:PySem.W.Frag) (c:String) (te:TE):TE:=tCB (fun xs H Q=>∃ x t b,xs=[x,.ty c]∧TyS K H x t∧PySem.W.kitOne K t (.type c)=some b∧Q (.bl b) H) (tCons te (tCons (tC (.ty c)) tNil))
theorem pIsi {x:Str} {c:String} {p q cpos:Pos} {te:TE} (hK:X.K=K) (he:PE X e te) (mi:X.mg "isinstance"=none) (mc:X.mg x=none) (hb:bootBuiltins x=some (.type c)) (hg:Gl X "isinstance":=by rfl) (hgc:Gl X x:=by rfl)
  (hn:x≠"__name__":=by decide) (hd:(x == ("__debug__":Str))=false:=by decide)
  (hs:starEach [e,.Name x q] X.env=(false,eval e X.env)::starEach [.Name x q] X.env:=by rfl) (hpl:(backTo cpos (starEach [.Name x q] X.env)).any (·.1)=false:=by rfl) :
  PE X (.Call (.Name "isinstance" p) [e,.Name x q] [] cpos) (tIsi K c te) :=
 pe_callB (cIsS K c hK) hg mi boot_isinstance (pa_cons he (pa_cons (pe_bltn (v:=.ty c) hgc mc hb rfl hn hd) pa_nil) hs) (by decide) (by decide) hs hpl
end
/-! no list or tuple in it is long -/
mutual
def D.few:D→Prop
 | .tup a=>a.length≤5000∧D.fewL a
 | .lst a=>a.length≤5000∧D.fewL a
 | _=>True
def D.fewL:List D→Prop
 | []=>True
 | d::ds=>D.few d∧D.fewL ds
end
theorem D.fewL_get:∀ {ds:List D} {j:Nat} {d:D},D.fewL ds→ds[j]?=some d→D.few d
 | [],_,_,_,h=>by simp at h
 | _::_,0,_,h,e=>by
  simp only [D.fewL] at h
  simp at e;subst e;exact h.1
 | _::_,j+1,_,h,e=>by
  simp only [D.fewL] at h
  exact D.fewL_get h.2 (by simpa using e)
theorem D.fewL_ints:∀ ns:List Int,D.fewL (ns.map D.int)
 | []=>by simp only [List.map_nil,D.fewL]
 | n::r=>by simp only [List.map_cons,D.fewL,D.few];exact ⟨trivial,D.fewL_ints r⟩
theorem D.depL_ints:∀ ns:List Int,D.depL (ns.map D.int)=0
 | []=>by simp only [List.map_nil,D.depL]
 | n::r=>by simp only [List.map_cons,D.depL,D.dep,D.depL_ints r];rfl
end L2

set_option Elab.async false
set_option linter.all false
set_option maxRecDepth 100000
set_option maxHeartbeats 4000000
namespace Gu
open PySem L2
/-! ### what the law's own defs reckon -/
def cell (ns:List Int) (i:Nat):Int:=if i < ns.length then ns.getD i 0 else if ns.length=0 then 29*i+5 else ns.getD (i % ns.length) 0 % 1000003+103*i
def letters (ns:List Int) (i:Nat):Int:=2+cell ns i % 4
theorem letters_ge (ns:List Int) (i:Nat):2≤letters ns i:=by unfold letters;have:=Int.emod_nonneg (cell ns i) (show (4:Int)≠0 by decide);omega
theorem letters_le (ns:List Int) (i:Nat):letters ns i≤5:=by unfold letters;have:=Int.emod_lt_of_pos (cell ns i) (show (0:Int) < 4 by decide);omega
def letN (ns:List Int) (i:Nat):Nat:=(letters ns i).toNat
theorem letN_ge (ns:List Int) (i:Nat):2≤letN ns i:=by unfold letN;have:=letters_ge ns i;omega
theorem letN_le (ns:List Int) (i:Nat):letN ns i≤5:=by unfold letN;have:=letters_le ns i;omega
theorem letN_int (ns:List Int) (i:Nat):((letN ns i:Nat):Int)=2+cell ns i % 4:=by unfold letN;have:=letters_ge ns i;unfold letters at *;omega
def iota (n:Nat):List Int:=(List.range n).map fun (i:Nat)=>(i:Int)
theorem iota_len (n:Nat):(iota n).length=n:=by simp [iota]
theorem iota_get {n i:Nat} (h:i < n):(iota n)[i]?=some (i:Int):=by simp [iota,h]
theorem mem_iota {n:Nat} {x:Int}:x∈iota n↔0≤x∧x < n:=by
 constructor
 ·intro h
  obtain ⟨i,hi,rfl⟩:=List.mem_map.mp h
  have:=List.mem_range.mp hi
  omega
 ·intro ⟨h0,h1⟩
  exact List.mem_map.mpr ⟨x.toNat,List.mem_range.mpr (by omega),by omega⟩
theorem iota_nodup (n:Nat):(iota n).Nodup:=by
 unfold iota
 rw [List.nodup_iff_pairwise_ne,List.pairwise_map]
 exact List.Pairwise.imp (fun h=>by omega) List.nodup_range
theorem rint_iota (n:Nat):rint 0 n=(iota n).map V.int:=by
 unfold rint iota
 rw [List.map_map]
 refine List.map_congr_left fun i _=>?_
 simp
theorem cons_erase_perm:∀ (l:List Int) (i:Nat) (h:i < l.length),(l[i]::l.eraseIdx i).Perm l
 | [],_,h=>by simp at h
 | a::r,0,_=>List.Perm.refl _
 | a::r,i+1,h=>by
  have ih:=cons_erase_perm r i (by simpa using h)
  show (r[i]'(by simpa using h)::a::r.eraseIdx i).Perm (a::r)
  exact (List.Perm.swap _ _ _).trans (ih.cons a)
def rear:Nat→Int→List Int→List Int
 | 0,_,_=>[]
 | k+1,p,left=>left.getD (p % (left.length:Int)).toNat 0::rear k (p / (left.length:Int)) (left.eraseIdx (p % (left.length:Int)).toNat)
def rearr (pick:Int) (n:Nat):List Int:=rear n pick (iota n)
theorem rear_perm:∀ (k:Nat) (p:Int) (left:List Int),left.length=k→(rear k p left).Perm left
 | 0,_,left,h=>by
  have:left=[]:=List.length_eq_zero_iff.mp h
  subst this
  exact List.Perm.refl _
 | k+1,p,left,h=>by
  have hpos:(0:Int) < left.length:=by omega
  have h0:=Int.emod_nonneg p (show (left.length:Int)≠0 by omega)
  have h1:=Int.emod_lt_of_pos p hpos
  have hi:(p % (left.length:Int)).toNat < left.length:=by omega
  unfold rear
  have e:left.getD (p % (left.length:Int)).toNat 0=left[(p % (left.length:Int)).toNat]:=by simp [hi]
  rw [e]
  have ih:=rear_perm k (p / (left.length:Int)) (left.eraseIdx (p % (left.length:Int)).toNat) (by rw [List.length_eraseIdx_of_lt hi];omega)
  exact (ih.cons _).trans (cons_erase_perm _ _ hi)
theorem rearr_perm (pick:Int) (n:Nat):(rearr pick n).Perm (iota n):=rear_perm n pick (iota n) (iota_len n)
def IsP (n:Nat) (p:List Int):Prop:=p.Perm (iota n)
theorem IsP.len {n:Nat} {p:List Int} (h:IsP n p):p.length=n:=by rw [List.Perm.length_eq h,iota_len]
def turn (one other:List Int):List Int:=one.map fun x=>other.getD x.toNat 0
def back (p:List Int):List Int:=(iota p.length).map fun k=>((p.idxOf k:Nat):Int)
end Gu

set_option Elab.async false
set_option linter.all false
set_option maxRecDepth 100000
set_option maxHeartbeats 4000000
namespace L2
open PySem PySem.Spec PyProof.Rows PySem.SeqAt

/-! ### tuples within tuples as keys of a dict -/
instance:DecidableEq D:=fun a b=>if h:D.eq a b=true then isTrue (D.eq_of h) else isFalse fun e=>h (by rw [e];exact D.eq_refl b)
theorem D.dec (a b:D):decide (a=b)=D.eq a b:=by
 by_cases h:D.eq a b=true
 ·rw [decide_eq_true (D.eq_of h),h]
 ·rw [decide_eq_false (fun e=>h (by rw [e];exact D.eq_refl b)),Bool.eq_false_iff.mpr h]
mutual
def Hd (h:Heap):D→Value→Prop
 | .int i,v=>∃ t,v=.int i t
 | .tup ds,v=>∃ (a:Addr) (o:Obj) (its:Array Value) (n:Nat),v=.ref a∧h.get? a=some o∧o.cls=.type "tuple"∧o.data=.seq its n∧HdL h ds its.toList
 | _,_=>False
def HdL (h:Heap):List D→List Value→Prop
 | [],vs=>vs=[]
 | d::ds,vs=>∃ v r,vs=v::r∧Hd h d v∧HdL h ds r
end
mutual
def D.hash:D→Int
 | .int i=>hashInt i
 | .tup ds=>reduceHash (Builtin.Tuple.tupleHashOf (D.hashL ds))
 | _=>0
def D.hashL:List D→List Int
 | []=>[]
 | d::ds=>D.hash d::D.hashL ds
end
mutual
def D.draws:D→Nat
 | .tup ds=>D.drawsL ds+1
 | _=>1
def D.drawsL:List D→Nat
 | []=>0
 | d::ds=>D.draws d+D.drawsL ds
end
theorem D.hashL_app:∀ a b:List D,D.hashL (a++b)=D.hashL a++D.hashL b
 | [],b=>by simp only [List.nil_append,D.hashL]
 | d::a,b=>by simp only [List.cons_append,D.hashL,D.hashL_app a b]
theorem D.drawsL_app:∀ a b:List D,D.drawsL (a++b)=D.drawsL a+D.drawsL b
 | [],b=>by simp only [List.nil_append,D.drawsL,Nat.zero_add]
 | d::a,b=>by simp only [List.cons_append,D.drawsL,D.drawsL_app a b,Nat.add_assoc]
theorem HdL.length {h:Heap}:∀ {ds:List D} {vs:List Value},HdL h ds vs→ds.length=vs.length
 | [],_,h=>by simp only [HdL] at h;subst h;rfl
 | d::ds,_,h=>by
  simp only [HdL] at h
  obtain ⟨v,r,rfl,_,q⟩:=h
  rw [List.length_cons,List.length_cons,HdL.length q]
theorem HdL.get {h:Heap}:∀ {ds:List D} {vs:List Value} {i:Nat} {d:D},HdL h ds vs→ds[i]?=some d→∃ v,vs[i]?=some v∧Hd h d v
 | [],_,_,_,_,e=>by simp at e
 | d::ds,_,0,_,h,e=>by
  simp only [HdL] at h
  obtain ⟨v,r,rfl,q,_⟩:=h
  simp at e;subst e
  exact ⟨v,rfl,q⟩
 | d::ds,_,i+1,d',h,e=>by
  simp only [HdL] at h
  obtain ⟨v,r,rfl,_,q⟩:=h
  obtain ⟨v',h1,h2⟩:=HdL.get (i:=i) q (by simpa using e)
  exact ⟨v',by simpa using h1,h2⟩
mutual
theorem Hd.keep {h h':Heap} (k:∀ a o its n,h.get? a=some o→o.cls=.type "tuple"→o.data=.seq its n→h'.get? a=some o):∀ {d:D} {v:Value},Hd h d v→Hd h' d v
 | .int _,_,q=>by simp only [Hd] at q ⊢;exact q
 | .tup ds,_,q=>by
  simp only [Hd] at q ⊢
  obtain ⟨a,o,its,n,e,h1,h2,h3,h4⟩:=q
  exact ⟨a,o,its,n,e,k a o its n h1 h2 h3,h2,h3,HdL.keep k h4⟩
 | .non,_,q=>by simp only [Hd] at q
 | .bl _,_,q=>by simp only [Hd] at q
 | .str _,_,q=>by simp only [Hd] at q
 | .lst _,_,q=>by simp only [Hd] at q
theorem HdL.keep {h h':Heap} (k:∀ a o its n,h.get? a=some o→o.cls=.type "tuple"→o.data=.seq its n→h'.get? a=some o):∀ {ds:List D} {vs:List Value},HdL h ds vs→HdL h' ds vs
 | [],_,q=>by simp only [HdL] at q ⊢;exact q
 | d::ds,_,q=>by
  simp only [HdL] at q ⊢
  obtain ⟨v,r,e,q1,q2⟩:=q
  exact ⟨v,r,e,Hd.keep k q1,HdL.keep k q2⟩
end
mutual
theorem Hd.inj {h:Heap}:∀ {d e:D} {v:Value},Hd h d v→Hd h e v→d=e
 | .int _,e,v,p,q=>by
  simp only [Hd] at p
  obtain ⟨t,rfl⟩:=p
  cases e<;>simp only [Hd] at q
  ·obtain ⟨t',e⟩:=q;injection e with e;rw [e]
  ·obtain ⟨a,_,_,_,e,_⟩:=q;cases e
 | .tup ds,e,v,p,q=>by
  simp only [Hd] at p
  obtain ⟨a,o,its,n,rfl,h1,h2,h3,h4⟩:=p
  cases e<;>simp only [Hd] at q
  ·obtain ⟨t',e⟩:=q;cases e
  ·obtain ⟨b,o',its',n',e,g1,g2,g3,g4⟩:=q
   cases e
   rw [h1] at g1;cases g1
   rw [h3] at g3;injection g3 with e1 _;subst e1
   rw [HdL.inj h4 g4]
 | .non,_,_,q,_=>by simp only [Hd] at q
 | .bl _,_,_,q,_=>by simp only [Hd] at q
 | .str _,_,_,q,_=>by simp only [Hd] at q
 | .lst _,_,_,q,_=>by simp only [Hd] at q
theorem HdL.inj {h:Heap}:∀ {ds es:List D} {vs:List Value},HdL h ds vs→HdL h es vs→ds=es
 | [],[],_,_,_=>rfl
 | [],_::_,_,p,q=>by
  simp only [HdL] at p q
  obtain ⟨_,_,e,_⟩:=q;rw [p] at e;cases e
 | _::_,[],_,p,q=>by
  simp only [HdL] at p q
  obtain ⟨_,_,e,_⟩:=p;rw [q] at e;cases e
 | d::ds,e::es,_,p,q=>by
  simp only [HdL] at p q
  obtain ⟨v,r,rfl,p1,p2⟩:=p
  obtain ⟨u,w,eq,q1,q2⟩:=q
  cases eq
  rw [Hd.inj p1 q1,HdL.inj p2 q2]
end
section
variable {prog:Program} {w:World}
theorem hash_data:∀ (n:Nat) {A:Around} {E:Value→Shared→Prop} {s:Shared} {d:D} {v:Value} {Q:Int→Shared→Prop},D.dep d≤n→A.units+n < cLine→Hd s.heap d v→Q (D.hash d) { s with toks:=s.toks+D.draws d }→wpAny (model prog w) A (pyHash v) Q E s:=by
 intro n
 induction n with
 | zero =>
  intro A E s d v Q hd hu hv h
  cases d<;>simp only [Hd] at hv<;>simp only [D.dep,Nat.le_zero,Nat.add_eq_zero_iff,Nat.one_ne_zero,and_false] at hd
  obtain ⟨t,rfl⟩:=hv
  exact wpAny_pyHash_int h
 | succ n ih =>
  intro A E s d v Q hd hu hv h
  cases d with
  | int i =>
   simp only [Hd] at hv
   obtain ⟨t,rfl⟩:=hv
   exact wpAny_pyHash_int h
  | tup ds =>
   simp only [Hd] at hv
   simp only [D.dep] at hd
   obtain ⟨a,o,its,m,rfl,ho,hc,hdd,hi⟩:=hv
   have hT:s.TypeIs (.ref a) "tuple":=⟨o,ho,hc⟩
   have hin:A.in1.units+n < cLine:=by show A.units+1+n < cLine;omega
   unfold pyHash
   first | unfold pyHashByItsType | skip
   first | refine wpAny_bind (wpAny_cRoomFor_or (.inr (show A.units < cLine by omega)) ?_) | skip
   refine wpAny_bind (wpAny_specialOf hT F.slot_tuple_hash.lookup ?_)
   show wpAny _ _ (if (some (Value.builtin "tuple.__hash__") == some Value.none)=true
    then _ else _) Q E s
   rw [if_neg (by rw [beq_builtin_none];exact Bool.false_ne_true)]
   refine wpAny_bind (wpAny_specialOf hT F.slot_tuple_hash.lookup ?_)
   show wpAny _ _ (callSpecialIfBoundUnlessNone? (.ref a) "__hash__" _
    >>= _) Q E s
   refine wpAny_bind (wpAny_callSpecialIfBoundUnlessNone?_slot hT F.slot_tuple_hash (wpAny_call_entry F.slot_tuple_hash
    hT F.entry_tuple_hash ?_ (F.args_tuple_hash_1 _)))
   show wpAny _ _ (Builtin.Tuple.tupleItemsOf (.ref a) >>= _) _ _ s
   refine wpAny_bind (wpAny_tupleItemsOf ho hdd (wpAny_bind ?_))
   rw [←Array.forIn_toList]
   refine wpAny_forIn_list _ (fun rest (b:Array Int) s'=>∃ done left,ds=done++left∧HdL s.heap left rest∧b.toList=D.hashL done∧s'={ s with toks:=s.toks+D.drawsL done }) _ ?_ ?_ _ _ ⟨[],ds,rfl,hi,by simp only [D.hashL],by simp only [D.drawsL,Nat.add_zero]⟩
   ·rintro x rest b s' ⟨done,left,e,hl,hb,rfl⟩
    cases left with
    | nil=>simp only [HdL] at hl;cases hl
    | cons k ks =>
     simp only [HdL] at hl
     obtain ⟨v',r,ev,q1,q2⟩:=hl
     cases ev
     have hk:D.dep k≤n:=by
      have z:ds[done.length]?=some k:=by rw [e];simp
      have:=D.depL_get z
      omega
     refine wpAny_bind (ih hk hin q1 ?_)
     have fin:∃ done' left',ds=done'++left'∧HdL s.heap left' rest∧(b.push (D.hash k)).toList=D.hashL done'∧({ s with toks:=s.toks+D.drawsL done+D.draws k }:Shared)={ s with toks:=s.toks+D.drawsL done' } :=
      ⟨done++[k],ks,by rw [e];simp,q2,by rw [D.hashL_app,←hb];simp [D.hashL],by rw [D.drawsL_app];simp only [D.drawsL,Nat.add_zero,Nat.add_assoc]⟩
     first
      | exact wpAny_pure fin
      | exact wpAny_bind (wpAny_pure (wpAny_pure fin))
   ·rintro b s' ⟨done,left,e,hl,hb,rfl⟩
    cases left with
    | cons k ks=>simp only [HdL] at hl;obtain ⟨_,_,e,_⟩:=hl;cases e
    | nil =>
     rw [List.append_nil] at e
     subst e
     show wpAny _ _ (retInt (Builtin.Tuple.tupleHashOf b.toList))
      _ _ _
     rw [hb]
     refine wpAny_ret_mkInt ?_
     show wpAny _ _ (if (decide (-(2:Int) ^ 63≤Builtin.Tuple.tupleHashOf (D.hashL ds)) && decide (Builtin.Tuple.tupleHashOf (D.hashL ds) < 2 ^ 63))=true then _ else _) Q E _
     simp only [D.hash] at h
     unfold reduceHash at h
     simp only [D.draws] at h
     by_cases hr:(decide (-(2:Int) ^ 63≤Builtin.Tuple.tupleHashOf (D.hashL ds)) && decide (Builtin.Tuple.tupleHashOf (D.hashL ds) < 2 ^ 63))=true
     ·rw [if_pos hr]
      rw [if_pos hr] at h
      exact wpAny_pure (by simpa [Nat.add_assoc] using h)
     ·rw [if_neg hr]
      rw [if_neg hr] at h
      exact wpAny_bind (wpAny_rule (wpAny_pure (by simpa [Nat.add_assoc] using h)))
  | non=>simp only [Hd] at hv
  | bl _=>simp only [Hd] at hv
  | str _=>simp only [Hd] at hv
  | lst _=>simp only [Hd] at hv
end
end L2

set_option Elab.async false
set_option linter.all false
set_option maxRecDepth 100000
set_option maxHeartbeats 4000000
namespace L2
open PySem PySem.Spec PyProof.Rows PySem.SeqAt
section
variable {prog:Program} {w:World}
theorem eq_data {s:Shared}:∀ (n:Nat) (A:Around) {d e:D} {v u:Value},D.dep d≤n→A.units+n < cLine→Hd s.heap d v→Hd s.heap e u→EqAt A s v u (D.eq d e):=by
 intro n
 induction n with
 | zero =>
  intro A d e v u hd hu hv hx
  cases d<;>simp only [Hd] at hv<;>simp only [D.dep,Nat.le_zero,Nat.add_eq_zero_iff,Nat.one_ne_zero,and_false] at hd
  obtain ⟨t,rfl⟩:=hv
  cases e<;>simp only [Hd] at hx
  ·obtain ⟨t',rfl⟩:=hx
   simp only [D.eq]
   exact EqAt.int_int _ _ _ _
  ·obtain ⟨a,o,its,m,rfl,ho,hc,hdd,hi⟩:=hx
   simp only [D.eq]
   exact EqAt.int_tuple _ _ (items:=its) ⟨o,ho,hc,m,hdd⟩ (by omega)
 | succ n ih =>
  intro A d e v u hd hu hv hx
  have hin:A.in1.units+n < cLine:=by show A.units+1+n < cLine;omega
  cases d with
  | int i=>exact ih A (Nat.zero_le _) (by omega) hv hx
  | tup ds =>
   simp only [Hd] at hv
   simp only [D.dep] at hd
   obtain ⟨a,o,its,m,rfl,ho,hc,hdd,hi⟩:=hv
   have ta:s.heap.IsTuple a its:=⟨o,ho,hc,m,hdd⟩
   cases e with
   | int j =>
    simp only [Hd] at hx
    obtain ⟨t',rfl⟩:=hx
    simp only [D.eq]
    exact EqAt.tuple_int _ _ ta (by omega)
   | tup es =>
    have inj:Value.ref a=u→D.tup ds=D.tup es:=fun z=>Hd.inj (h:=s.heap) (v:=u) (by rw [←z];simp only [Hd];exact ⟨a,o,its,m,rfl,ho,hc,hdd,hi⟩) hx
    simp only [Hd] at hx
    obtain ⟨b,o',its',m',rfl,ho',hc',hdd',hi'⟩:=hx
    have tb:s.heap.IsTuple b its':=⟨o',ho',hc',m',hdd'⟩
    have e1:its.size=ds.length:=by have:=hi.length;simp at this;omega
    have e2:its'.size=es.length:=by have:=hi'.length;simp at this;omega
    have z:=RcAt.tuples (A:=A) (e:=D.at_ ds es) ta tb (by omega) (fun j h1 h2=>by
     have g1:ds[j]?=some ds[j]:=List.getElem?_eq_getElem (by omega)
     have g2:es[j]?=some es[j]:=List.getElem?_eq_getElem (by omega)
     obtain ⟨x1,k1,q1⟩:=hi.get g1
     obtain ⟨x2,k2,q2⟩:=hi'.get g2
     have z1:x1=its[j]:=by simp [h1] at k1;exact k1.symm
     have z2:x2=its'[j]:=by simp [h2] at k2;exact k2.symm
     have z3:D.at_ ds es j=D.eq ds[j] es[j]:=by unfold D.at_;rw [g1,g2]
     rw [z3,←z1,←z2]
     exact ih A.in1 (Nat.le_trans (D.depL_get g1) (by omega)) hin q1 q2)
    rw [e1,e2,D.all_eqL] at z
    simp only [D.eq]
    by_cases hab:a=b
    ·have:=inj (by rw [hab])
     injection this with this
     subst this hab
     rw [D.eqL_refl]
     exact EqAt.same _
    ·exact EqAt.of_refs hab z
   | non=>simp only [Hd] at hx
   | bl _=>simp only [Hd] at hx
   | str _=>simp only [Hd] at hx
   | lst _=>simp only [Hd] at hx
  | non=>simp only [Hd] at hv
  | bl _=>simp only [Hd] at hv
  | str _=>simp only [Hd] at hv
  | lst _=>simp only [Hd] at hv
theorem quiet_data {A:Around} {E:Value→Shared→Prop} {s:Shared}:∀ (n:Nat) {d:D} {v:Value} {Q:Bool→Shared→Prop},D.dep d≤n→Hd s.heap d v→Q true s→wpAny (model prog w) A (eqIsQuiet n v) Q E s:=by
 have flat:∀ (n:Nat) {i:Int} {t:Tok} {Q:Bool→Shared→Prop},Q true s→wpAny (model prog w) A (eqIsQuiet n (.int i t)) Q E s:=fun n i t Q h=>by
  rw [eqIsQuiet_byValue n (v:=.int i t) rfl]
  exact wpAny_pure h
 intro n
 induction n with
 | zero =>
  intro d v Q hd hv h
  cases d<;>simp only [Hd] at hv<;>simp only [D.dep,Nat.le_zero,Nat.add_eq_zero_iff,Nat.one_ne_zero,and_false] at hd
  obtain ⟨t,rfl⟩:=hv
  exact flat 0 h
 | succ n ih =>
  intro d v Q hd hv h
  cases d with
  | int i =>
   simp only [Hd] at hv
   obtain ⟨t,rfl⟩:=hv
   exact flat _ h
  | tup ds =>
   simp only [Hd] at hv
   simp only [D.dep] at hd
   obtain ⟨a,o,its,m,rfl,ho,hc,hdd,hi⟩:=hv
   have hT:s.TypeIs (.ref a) "tuple":=⟨o,ho,hc⟩
   unfold eqIsQuiet
   refine wpAny_bind (wpAny_specialOf hT F.slot_tuple_eq.lookup ?_)
   show wpAny _ _ (isInstance (.ref a) (.type "tuple")
    >>= _) _ _ s
   refine wpAny_bind (wpAny_isInstance hT isSubtype_tuple_tuple ?_)
   simp only [Bool.not_true,Bool.false_eq_true,if_false]
   refine wpAny_bind (wpAny_seqItems ho hdd (wpAny_bind ?_))
   show wpAny _ _ (forIn its _ _) _ _ s
   rw [←Array.forIn_toList]
   refine wpAny_forIn_list _ (fun rest r s'=>r.1=none∧s'=s∧∃ left,HdL s.heap left rest∧D.depL left≤n) _ ?_ ?_ _ _ ⟨rfl,rfl,ds,hi,by omega⟩
   ·rintro x rest r s' ⟨hr,rfl,left,hl,hdl⟩
    cases left with
    | nil=>simp only [HdL] at hl;cases hl
    | cons k ks =>
     simp only [HdL] at hl
     simp only [D.depL] at hdl
     obtain ⟨v',q,ev,q1,q2⟩:=hl
     cases ev
     refine wpAny_bind (ih (by omega) q1 ?_)
     simp only [Bool.not_true,Bool.false_eq_true,if_false]
     exact wpAny_pure ⟨rfl,rfl,ks,q2,by omega⟩
   ·rintro ⟨r1,r2⟩ s' ⟨hr,rfl,_⟩
    simp only at hr
    subst hr
    exact wpAny_pure h
  | non=>simp only [Hd] at hv
  | bl _=>simp only [Hd] at hv
  | str _=>simp only [Hd] at hv
  | lst _=>simp only [Hd] at hv
def dataKind (prog:Program) (w:World):HeapKind prog w D where
 is:=fun h d a=>Hd h d (.ref a)∧D.dep d≤8
 hash:=D.hash
 draws:=D.draws
 room:=fun A=>A.units+8 < cLine
 inj:=fun hx hy=>Hd.inj hx.1 hy.1
 keeps:=fun {h h' k a d o es ep} hx ho hd hs=>⟨Hd.keep (fun b o' its n e c q=>(hs.2 b (by
  rintro rfl
  rw [ho] at e;cases e;rw [hd] at q;cases q)).trans e) hx.1,hx.2⟩
 pyHash:=fun hu hk h=>hash_data 8 hk.2 hu hk.1 h
 eqBool:=fun hu hx hy h=>by
  rw [D.dec] at h
  exact eq_data 8 _ hx.2 hu hx.1 hy.1 _ _ _ _ h
 quiet:=fun hk h=>quiet_data 8 hk.2 hk.1 h
end
mutual
def D.key:D→Prop
 | .int _=>True
 | .tup ds=>D.keyL ds
 | _=>False
def D.keyL:List D→Prop
 | []=>True
 | d::ds=>D.key d∧D.keyL ds
end
section
variable {P:Program} {w:World} {K:PySem.W.Frag} {H:Hp} {h:Heap}
mutual
theorem Dr.hd (ok:HOk P w H h):∀ {d:D} {v:V} {u:Value},D.key d→Dr K H d v→RelV v u→Hd h d u
 | .int i,v,u,_,q,r=>by
  simp only [Dr] at q
  subst q
  simp only [Hd]
  exact r
 | .tup ds,v,u,k,q,r=>by
  simp only [Dr] at q
  simp only [D.key] at k
  obtain ⟨a,vs,rfl,e,q⟩:=q
  cases r
  obtain ⟨_,its,n,rv,h1⟩:=ok a _ e
  simp only [Hd]
  exact ⟨a,_,its.toArray,n,rfl,h1,rfl,rfl,by simpa using DrL.hd ok k q rv⟩
 | .non,_,_,k,_,_=>by simp only [D.key] at k
 | .bl _,_,_,k,_,_=>by simp only [D.key] at k
 | .str _,_,_,k,_,_=>by simp only [D.key] at k
 | .lst _,_,_,k,_,_=>by simp only [D.key] at k
theorem DrL.hd (ok:HOk P w H h):∀ {ds:List D} {vs:List V} {us:List Value},D.keyL ds→DrL K H ds vs→Vals vs us→HdL h ds us
 | [],vs,us,_,q,r=>by
  simp only [DrL] at q
  subst q
  cases r
  simp only [HdL]
 | d::ds,vs,us,k,q,r=>by
  simp only [DrL] at q
  simp only [D.keyL] at k
  obtain ⟨v,z,rfl,q1,q2⟩:=q
  cases r with
  | cons r1 r2 =>
   simp only [HdL]
   exact ⟨_,_,rfl,Dr.hd ok k.1 q1 r1,DrL.hd ok k.2 q2 r2⟩
end
end
end L2

set_option Elab.async false
set_option linter.all false
set_option maxRecDepth 100000
set_option maxHeartbeats 4000000
namespace L2
open PySem PySem.Spec PyProof.Rows PySem.SeqAt

/-! ### a dict whose keys are tuples,at any depth -/
def dExt (P:Program) (w:World) (a:Addr) (xs:List (D × Addr × Value)):HO :=
 .ext fun h=>(a == sysModules)=false∧∃ o es ep,h.get? a=some o∧o.ExactDict∧o.data=.dict es ep∧es.toList=xs.map (entryOfKey (dataKind P w))
abbrev KDr (K:PySem.W.Frag) (H:Hp):List (D × V)→List (D × Addr × Value)→Prop:=Paired fun p q=>p.1=q.1∧(D.key p.1∧D.dep p.1≤8∧Dr K H p.1 (.ref q.2.1))∧RelV p.2 q.2.2
def DD (P:Program) (w:World) (K:PySem.W.Frag) (H:Hp) (a:Addr) (kvs:List (D × V)):Prop :=
 ∃ xs,H a=some (dExt P w a xs)∧KDr K H kvs xs∧(kvs.map (·.1)).Nodup∧kvs.length≤sizeLine
theorem KDr.val {K:PySem.W.Frag} {H:Hp} {kvs:List (D × V)} {xs:List (D × Addr × Value)} (r:KDr K H kvs xs) (k:D):RelO (valV kvs k) ((atKey xs k).map (·.2)):=by
 induction r with
 | nil=>exact True.intro
 | @cons p q ps qs h t ih =>
  obtain ⟨h1,_,h2⟩:=h
  by_cases e:p.1=k
  ·have e':q.1=k:=h1.symm.trans e
   have b:atKey (q::qs) k=some q.2:=by simp [atKey,List.find?_cons,e']
   rw [valV_pos e,b]
   exact h2
  ·have e':¬ q.1=k:=fun z=>e (h1.trans z)
   have b:atKey (q::qs) k=atKey qs k:=by simp [atKey,List.find?_cons,e']
   rw [valV_neg e,b]
   exact ih
theorem KDr.repl {K:PySem.W.Frag} {H:Hp} {kvs:List (D × V)} {xs:List (D × Addr × Value)} (r:KDr K H kvs xs) (k:D) {y:V} {u:Value} (ry:RelV y u) :
  KDr K H (kvs.map fun kv=>if kv.1=k then (kv.1,y) else kv) (xs.map (putAt k u)):=by
 induction r with
 | nil=>exact .nil
 | @cons p q ps qs h t ih =>
  rw [List.map_cons,List.map_cons]
  refine .cons ?_ ih
  obtain ⟨h1,h2,h3⟩:=h
  unfold putAt
  by_cases e:p.1=k
  ·rw [if_pos e,if_pos (h1.symm.trans e)]
   exact ⟨h1,h2,ry⟩
  ·rw [if_neg e,if_neg (fun z=>e (h1.trans z))]
   exact ⟨h1,h2,h3⟩
theorem KDr.put {K:PySem.W.Frag} {H:Hp} {kvs:List (D × V)} {xs:List (D × Addr × Value)} (r:KDr K H kvs xs) (k:D) {b:Addr} {y:V} {u:Value} (hb:D.key k∧D.dep k≤8∧Dr K H k (.ref b)) (ry:RelV y u) :
  KDr K H (putK kvs k y) (storedH xs k b u):=by
 have e:(kvs.any fun kv=>decide (kv.1=k))=(atKey xs k).isSome:=by
  rw [valV_any,(r.val k).isSome_eq,Option.isSome_map]
 unfold putK storedH
 rw [e]
 by_cases q:(atKey xs k).isSome=true
 ·rw [if_pos q,if_pos q]
  exact r.repl k ry
 ·rw [if_neg q,if_neg q]
  exact Paired.snoc r ⟨rfl,hb,ry⟩
theorem KDr.keys {K:PySem.W.Frag} {H:Hp} {kvs:List (D × V)} {xs:List (D × Addr × Value)} (r:KDr K H kvs xs):kvs.map (·.1)=xs.map (·.1):=by
 induction r with
 | nil=>rfl
 | @cons p q ps qs h t ih=>rw [List.map_cons,List.map_cons,ih,h.1]
theorem KDr.mono {K:PySem.W.Frag} {H H':Hp} {kvs:List (D × V)} {xs:List (D × Addr × Value)} (r:KDr K H kvs xs) (f:∀ d v,D.key d→Dr K H d v→Dr K H' d v):KDr K H' kvs xs :=
 Paired.mapP r fun _ _ z=>⟨z.1,⟨z.2.1.1,z.2.1.2.1,f _ _ z.2.1.1 z.2.1.2.2⟩,z.2.2⟩
theorem DD.mono {P:Program} {w:World} {K:PySem.W.Frag} {H H':Hp} {a:Addr} {kvs:List (D × V)} (h:DD P w K H a kvs) (s:Same H H'):DD P w K H' a kvs:=by
 obtain ⟨xs,e,r,n,z⟩:=h
 exact ⟨xs,s _ _ e,r.mono fun _ _ _ q=>q.mono s,n,z⟩
mutual
theorem Dr.keyed {K:PySem.W.Frag} {H H':Hp} (k:∀ b xs,H b=some (.tup xs)→H' b=some (.tup xs)):∀ {d:D} {v:V},D.key d→Dr K H d v→Dr K H' d v
 | .int _,_,_,h=>by simp only [Dr] at h ⊢;exact h
 | .tup ds,_,q,h=>by
  simp only [Dr] at h ⊢
  simp only [D.key] at q
  obtain ⟨a,vs,e,z,r⟩:=h
  exact ⟨a,vs,e,k _ _ z,DrL.keyed k q r⟩
 | .non,_,q,_=>by simp only [D.key] at q
 | .bl _,_,q,_=>by simp only [D.key] at q
 | .str _,_,q,_=>by simp only [D.key] at q
 | .lst _,_,q,_=>by simp only [D.key] at q
theorem DrL.keyed {K:PySem.W.Frag} {H H':Hp} (k:∀ b xs,H b=some (.tup xs)→H' b=some (.tup xs)):∀ {ds:List D} {vs:List V},D.keyL ds→DrL K H ds vs→DrL K H' ds vs
 | [],_,_,h=>by simp only [DrL] at h ⊢;exact h
 | d::ds,_,q,h=>by
  simp only [DrL] at h ⊢
  simp only [D.keyL] at q
  obtain ⟨v,r,e,q1,q2⟩:=h
  exact ⟨v,r,e,Dr.keyed k q.1 q1,DrL.keyed k q.2 q2⟩
end
section
variable {X:Cx} {pins:List (Addr × Obj)} {σ:St} {H:Hp} {s:Shared} {a:Addr} {kvs:List (D × V)} {K:PySem.W.Frag}
theorem DD.at (I:Inv X pins σ H s) (h:DD X.prog X.w K H a kvs):(a == sysModules)=false∧∃ xs,H a=some (dExt X.prog X.w a xs)∧KDr K H kvs xs∧s.heap.DictOfH (dataKind X.prog X.w) a xs:=by
 obtain ⟨xs,e,r,n,z⟩:=h
 obtain ⟨⟨hs,o,es,ep,h1,h2,h3,h4⟩,_,_⟩:=I.hok a _ e
 refine ⟨hs,xs,e,r,o,es,ep,h1,h2,h3,h4,?_,by rw [←r.keys];exact n⟩
 have all:∀ {l:List (D × V)} {m:List (D × Addr × Value)},KDr K H l m→∀ x∈m,(dataKind X.prog X.w).is s.heap x.1 x.2.1:=by
  intro l m q
  induction q with
  | nil=>intro x hx;exact nomatch hx
  | @cons p q ps qs hq t ih =>
   intro x hx
   rcases List.mem_cons.mp hx with e | hx
   ·subst e
    rw [←hq.1]
    exact ⟨Dr.hd I.hok hq.2.1.1 hq.2.1.2.2 rfl,hq.2.1.2.1⟩
   ·exact ih x hx
 exact all r
theorem key_at (I:Inv X pins σ H s) {d:D} {b:Addr} (k:D.key d) (hd:D.dep d≤8) (h:Dr K H d (.ref b)):(dataKind X.prog X.w).is s.heap d b:=⟨Dr.hd I.hok k h rfl,hd⟩
def KeyV (K:PySem.W.Frag) (H:Hp) (d:D) (y:V):Prop:=(∃ b,y=.ref b)∧D.key d∧D.dep d≤8∧Dr K H d y
variable {o i e f value:Expr} {pos pos' apos cpos:Pos} {td ty tv tx:TE}
def tGetD (P:Program) (w:World) (K:PySem.W.Frag) (td ty:TE):TE:=fun σ H Q=>td σ H fun x H1=>ty σ H1 fun y H2=>∃ a kvs d v,x=.ref a∧DD P w K H2 a kvs∧KeyV K H2 d y∧valV kvs d=some v∧Q v H2
theorem pe_getD (hu:X.A.units+9 < cLine) (ho:PE X o td) (hi:PE X i ty) (hs:NoSl i):PE X (.Subscript o i pos) (tGetD X.prog X.w K td ty):=by
 intro pins s σ H Q I h
 refine subD_of PySem.F.slot_dict_getitem.lookup hs (thn (ho pins s σ H _ I h) fun u s1 ⟨x,H1,I1,rx,q1⟩=>thn (hi pins s1 σ H1 _ I1 q1) fun iv s2 ⟨y,H2,I2,ry,a,kvs,d,v,ex,g,⟨⟨b,eb⟩,k1,k2,k3⟩,hv,q2⟩=>?_)
 subst ex eb
 obtain rfl:u=Value.ref a:=rx
 obtain rfl:iv=Value.ref b:=ry
 obtain ⟨hsm,xs,e,r,dd⟩:=g.at I2
 obtain ⟨w',hw,rw'⟩:=RelO.some_of (v:=v) (o:=(atKey xs d).map (·.2)) (by rw [←hv];exact r.val d)
 obtain ⟨p,hp,hp2⟩:=Option.map_eq_some_iff.mp hw
 refine ⟨dd.typeIs,wpAny_getItem_heap (show X.A.units+1+8 < cLine by omega) (key_at I2 k1 k2 k3) dd hp ?_⟩
 rw [hp2]
 exact ⟨v,H2,I2.tok _,rw',q2⟩
def tNotInD (P:Program) (w:World) (K:PySem.W.Frag) (ty td:TE):TE:=fun σ H Q=>ty σ H fun y H1=>td σ H1 fun x H2=>∃ a kvs d,x=.ref a∧DD P w K H2 a kvs∧KeyV K H2 d y∧Q (.bl (!(valV kvs d).isSome)) H2
theorem pc_notinD (hu:X.A.units+9 < cLine) (hi:PE X i ty) (ho:PE X o td):PC X .NotIn i o (tNotInD X.prog X.w K ty td):=by
 intro pins s σ H Q I h
 refine thn (hi pins s σ H _ I h) fun iv s1 ⟨y,H1,I1,ry,q1⟩=>thn (ho pins s1 σ H1 _ I1 q1) fun u s2 ⟨x,H2,I2,rx,a,kvs,d,ex,g,⟨⟨b,eb⟩,k1,k2,k3⟩,q2⟩=>?_
 subst ex eb
 obtain rfl:u=Value.ref a:=rx
 obtain rfl:iv=Value.ref b:=ry
 obtain ⟨hsm,xs,e,r,dd⟩:=g.at I2
 refine wpAny_notIn_heap (show X.A.units+1+8 < cLine by omega) (key_at I2 k1 k2 k3) hsm dd ?_
 have q:=(r.val d).isSome_eq
 rw [Option.isSome_map] at q
 rw [←q]
 exact ⟨.bl _,H2,I2.tok _,rfl,q2⟩
def sPutD (P:Program) (w:World) (K:PySem.W.Frag) (td ty tv:TE):TS:=fun Dd σ H=>tv σ H fun v H1=>td σ H1 fun x H2=>ty σ H2 fun y H3=>∃ a kvs d,x=.ref a∧DD P w K H3 a kvs∧KeyV K H3 d y∧kvs.length < sizeLine ∧
 ∀ ob,DD P w K (upd H3 a ob) a (putK kvs d v)→Dd.nx σ (upd H3 a ob)
theorem dd_notup {P:Program} {w:World} (h:DD P w K H a kvs):∀ b xs,H b=some (.tup xs)→b≠a:=fun b xs e z=>by
 obtain ⟨ys,q,_⟩:=h
 rw [z,q] at e
 cases e
theorem ps_putD (hu:X.A.units+9 < cLine) (ho:PE X o td) (hi:PE X i ty) (hv:PE X value tv) (hs:swapsWith value (some (.Subscript o i pos')) pos.line X.env=pure false:=by rfl) :
  PS X (.Assign [.Subscript o i pos'] value pos) (sPutD X.prog X.w K td ty tv):=by
 intro pins s σ H D I h
 refine wpAny_Assign_Subscript (thn (hv pins s σ H _ I h) fun r s1 ⟨v,H1,I1,rv,q1⟩=>thn (ho pins s1 σ H1 _ I1 q1) fun u s2 ⟨x,H2,I2,rx,q2⟩=>thn (hi pins s2 σ H2 _ I2 q2) fun iv s3 ⟨y,H3,I3,ry,a,kvs,d,ex,g,⟨⟨b,eb⟩,k1,k2,k3⟩,hz,q3⟩=>?_) hs
 subst ex eb
 obtain rfl:u=Value.ref a:=rx
 obtain rfl:iv=Value.ref b:=ry
 obtain ⟨hsm,xs,e,rr,dd⟩:=g.at I3
 have hlen:xs.length≤sizeLine:=by rw [←Paired.length rr];exact Nat.le_of_lt hz
 have hl:(putK kvs d v).length≤sizeLine:=by have:=length_putK kvs d v;omega
 refine wpAny_setItem_heap (hsz:=hlen) (show X.A.units+1+8 < cLine by omega) (key_at I3 k1 k2 k3) dd fun h' dd' hsb=>?_
 obtain ⟨q,es,ep,hq,h2,h3,h4,_,h5⟩:=dd'
 have Iw:Inv X pins σ (upd H3 a (dExt X.prog X.w a (storedH xs d b r))) { s3 with heap:=h',toks:=s3.toks+(dataKind X.prog X.w).draws d }:=by
  refine d_write I3 (by rw [e];exact True.intro) hsb ⟨q,hq⟩ ⟨⟨hsm,q,es,ep,hq,h2,h3,h4⟩,⟨q,hq⟩,fun h1 h2' p k=>?_⟩
  obtain ⟨p0,o1,es1,ep1,p1,p2,p3,p4⟩:=p
  exact ⟨p0,o1,es1,ep1,k _ p1,p2,p3,p4⟩
 have kt:∀ c ys,H3 c=some (.tup ys)→upd H3 a (dExt X.prog X.w a (storedH xs d b r)) c=some (.tup ys):=fun c ys ec=>by
  rw [upd_ne (dd_notup g c ys ec)];exact ec
 refine ⟨σ,_,Iw,q3 _ ⟨_,upd_same,(rr.put d ⟨k1,k2,k3⟩ rv).mono fun d' v' kd q=>q.keyed kt kd,?_,hl⟩⟩
 have nd:=h5
 have ek:=(rr.put d ⟨k1,k2,k3⟩ rv).keys
 rw [ek]
 exact nd
def tNewD (P:Program) (w:World) (K:PySem.W.Frag):TE:=fun _ H Q=>∀ p,H p=none→∀ ob,DD P w K (upd H p ob) p []→Q (.ref p) (upd H p ob)
theorem pe_newD:PE X (.Dict [] [] pos) (tNewD X.prog X.w K):=fun pins s σ H Q I h=>by
 have hb:(s.heap.objs.size == sysModules)=false:=beq_eq_false_iff_ne.mpr (Ne.symm (Nat.ne_of_lt I.big))
 refine wpAny_Dict_empty ⟨.ref s.heap.objs.size,_,I.laid (a:=s.heap.objs.size) (o:=dExt X.prog X.w s.heap.objs.size []) (t':=s.toks) (fun _ _ q=>Heap.get?_push_of_some _ q) (Nat.le_refl _) ⟨⟨hb,_,#[],0,Heap.get?_push_size _ rfl,⟨rfl,rfl,rfl⟩,rfl,rfl⟩,⟨_,Heap.get?_push_size _ rfl⟩,fun h1 h2 p k=>?_⟩,rfl,h _ I.fresh _ ⟨[],upd_same,.nil,List.nodup_nil,Nat.zero_le _⟩⟩
 obtain ⟨p0,o1,es1,ep1,p1,p2,p3,p4⟩:=p
 exact ⟨p0,o1,es1,ep1,k _ p1,p2,p3,p4⟩
def tGet2D (P:Program) (w:World) (K:PySem.W.Frag) (td ty tx:TE):TE:=fun σ H Q=>td σ H fun x H1=>∃ a kvs0,x=.ref a∧DD P w K H1 a kvs0∧ty σ H1 fun y H2=>tx σ H2 fun z H3=>∃ kvs d,DD P w K H3 a kvs∧KeyV K H3 d y∧Q ((valV kvs d).getD z) H3
theorem pe_get2D (hu:X.A.units+9 < cLine) (ho:PE X o td) (he:PE X e ty) (hf:PE X f tx) (m:M2 X o "get" apos e f cpos):PE X (.Call (.Attribute o "get" apos) [e,f] [] cpos) (tGet2D X.prog X.w K td ty tx):=by
 intro pins s σ H Q I h
 refine wpAny_Call_method m.base m.few m.line PySem.F.plainAttrs_dict PySem.F.slot_dict_get PySem.F.type_dict_get (thn (ho pins s σ H _ I h) fun u s1 ⟨x,H1,I1,rx,a,kvs0,ex,g0,q1⟩=>?_)
 subst ex
 obtain rfl:u=Value.ref a:=rx
 obtain ⟨hsm,xs0,_,_,dd0⟩:=g0.at I1
 refine ⟨dd0.typeIs,fun b q=>?_,?_⟩
 ·cases q
  obtain ⟨ob,_,_,h1,h2,_⟩:=dd0
  exact ⟨ob,h1,h2.2.1⟩
 rw [m.trees]
 refine Calls.callWith_builtin rfl (Calls.evalArgs_plain (Calls.spliced_cons (thn (he pins s1 σ H1 _ I1 q1) fun iv s2 ⟨y,H2,I2,ry,q2⟩ =>
  Calls.spliced_cons (thn (hf pins s2 σ H2 _ I2 q2) fun fv s3 ⟨z,H3,I3,rz,kvs,d,g,⟨⟨b,eb⟩,k1,k2,k3⟩,q3⟩=>Calls.spliced_nil ?_))))
 subst eb
 obtain rfl:iv=Value.ref b:=ry
 obtain ⟨_,xs,_,r,dd⟩:=g.at I3
 refine call_meetsIn PySem.F.slot_dict_get dd.typeIs PySem.F.entry_dict_get (PySem.F.args_dict_get_3 _ _ _) (meetsH_dict_get_default (dataKind X.prog X.w) a b hsm fv) ⟨show X.A.units+1+8 < cLine by omega,d,xs,key_at I3 k1 k2 k3,dd,?_⟩
 exact ⟨_,H3,I3.tok _,(r.val d).getD rz,q3⟩
end
end L2

set_option Elab.async false
set_option linter.all false
set_option maxRecDepth 100000
set_option maxHeartbeats 4000000
namespace L2
open PySem PySem.Spec PyProof.Rows PySem.SeqAt
open PySem.AutoSeq1 (wpAny_loadPart')
section
variable {X:Cx} (K:PySem.W.Frag)
theorem cLenD:CallR X (.builtin "len") (fun xs H Q=>∃ a kvs,xs=[V.ref a]∧DD X.prog X.w K H a kvs∧Q (.int kvs.length) H):=by
 intro pins s σ H xs us Q I r h
 obtain ⟨a,kvs,rfl,g,q⟩:=h
 obtain ⟨u,rfl,ru⟩:=vals1 r
 cases ru
 obtain ⟨hsm,xs,_,rr,dd⟩:=g.at I
 obtain ⟨o,es,ep,ho,hc,hdat,hes,_⟩:=id dd
 have hlen:es.size=kvs.length:=by
  have:es.toList.length=xs.length:=by rw [hes,List.length_map]
  rw [Paired.length rr,←this];simp
 have hz:kvs.length≤sizeLine:=by obtain ⟨_,_,_,_,z⟩:=g;exact z
 have hz2:(kvs.length:Int) < 2 ^ 63:=by have:=line63;omega
 refine Calls.call_function_entry kind_len plain_len entry_len (args_len1 _) ?_
 unfold Builtin.«len»
 refine wpAny_bind (m:=oneArg "len" _) (wpAny_pure ?_)
 refine wpAny_bind (m:=callSpecial? (.ref a) (Str.ofString "__len__")) (wpAny_callSpecial?_slot (name:=Str.ofString "__len__") dd.typeIs F.slot_dict_len
  (wpAny_call_entry F.slot_dict_len dd.typeIs F.entry_dict_len ?_ (F.args_dict_len_1 _)))
 show wpAny _ _ (dictSize a >>= _) _ _ s
 unfold dictSize
 refine wpAny_bind (wpAny_bind (wpAny_dictEntries ho hdat (wpAny_pure ?_)))
 show wpAny _ _ (Builtin.Dict.pendingCount a >>= _) _ _ s
 refine wpAny_bind (wpAny_pendingCount_other hsm ?_)
 refine wpAny_ret_mkInt ?_
 rw [Nat.add_zero,hlen]
 refine wpAny_bind (wpAny_holding (wpAny_pure ?_))
 refine wpAny_bind (wpAny_letGo ?_)
 show wpAny _ _ (if ((kvs.length:Nat):Int) < 0
  then _ else _) _ _ _
 rw [if_neg (by omega)]
 show wpAny _ _ (if ((kvs.length:Nat):Int) ≥ 2 ^ 63
  then _ else _) _ _ _
 rw [if_neg (by omega)]
 exact wpAny_bind (wpAny_mkInt (wpAny_pure ⟨_,rfl,.int kvs.length,H,I.tok _,⟨_,rfl⟩,q⟩))
end
end L2

set_option Elab.async false
set_option linter.all false
set_option maxRecDepth 100000
set_option maxHeartbeats 4000000
namespace L2
open PySem PySem.Spec PyProof.Rows PySem.SeqAt
open PySem.AutoSeq1 (wpAny_loadPart')
theorem int_items:∀ {ns:List Int} {its:List Value},Vals (ns.map V.int) its→∃ xs:List (Int × Tok),its=xs.map (fun p=>Value.int p.1 p.2)∧xs.map (·.1)=ns
 | [],_,r=>by rw [List.map_nil] at r;cases r;exact ⟨[],rfl,rfl⟩
 | n::ns,_,r=>by
  rw [List.map_cons] at r
  cases r with
  | cons r rr =>
   obtain ⟨t,rfl⟩:=r
   obtain ⟨xs,rfl,e⟩:=int_items rr
   exact ⟨(n,t)::xs,rfl,by rw [List.map_cons,e]⟩
section
variable {X:Cx} (K:PySem.W.Frag)
theorem cMax (hK:X.K=K) (hc:X.calm=true):CallR X (.builtin "max") (fun xs H Q=>∃ (p:Addr) (ns:List Int) (M:Int),xs=[.ref p]∧SqL K H p (ns.map V.int)∧M∈ns∧(∀ a∈ns,a≤M)∧Q (.int M) H):=by
 subst hK
 intro pins s σ H xs us Q I r h
 obtain ⟨p,ns,M,rfl,hp,hM,hle,q⟩:=h
 obtain ⟨u,rfl,ru⟩:=vals1 r
 cases ru
 obtain ⟨its,rv,pl,hz⟩:=I.list hp
 obtain ⟨ys,rfl,ey⟩:=int_items rv
 have hne:0 < ys.length:=by
  have:0 < ns.length:=List.length_pos_of_mem hM
  rw [←ey,List.length_map] at this
  exact this
 have e1:(ys.map fun p=>Value.int p.1 p.2).toArray=intItems ys.toArray:=by unfold intItems;simp
 have pl':=pl.isList
 rw [e1] at pl'
 refine max_intList (xs:=ys.toArray) (I.ok.hd hc) pl' (by simpa using hne) fun v h' tk hv hk=>?_
 obtain ⟨t,rfl⟩:=intItems_at hv
 obtain ⟨h1,h2⟩:=argBest_gt (numAt ys.toArray) (ys.toArray.size - 1)
 have emem:∀ j,j < ys.length→numAt ys.toArray j∈ns:=fun j hj=>by
  rw [numAt_eq]
  have:(ys.toArray.toList.map (·.1))=ns:=by simpa using ey
  rw [this]
  have hjn:j < ns.length:=by rw [←ey,List.length_map];exact hj
  simp [hjn]
 have hb:argBest (fun i j=>decide (numAt ys.toArray i > numAt ys.toArray j)) (ys.toArray.size - 1) < ys.length:=by
  have:ys.toArray.size=ys.length:=by simp
  omega
 have eM:numAt ys.toArray (argBest (fun i j=>decide (numAt ys.toArray i > numAt ys.toArray j)) (ys.toArray.size - 1))=M:=by
  refine Int.le_antisymm (hle _ (emem _ hb)) ?_
  obtain ⟨j,hj,e⟩:=List.getElem_of_mem hM
  have hjy:j < ys.length:=by rw [←ey,List.length_map] at hj;exact hj
  have z:=h2 j (by simp;omega)
  have e2:numAt ys.toArray j=M:=by
   rw [numAt_eq]
   have:(ys.toArray.toList.map (·.1))=ns:=by simpa using ey
   rw [this]
   simp [hj,e]
  rw [e2] at z
  exact z
 rw [eM]
 exact ⟨.int M,H,I.kept (t':=tk) hk,⟨_,rfl⟩,q⟩
/-! ### a tuple so many times -/
end
section
variable {X:Cx} (P:Program) (w:World) (K:PySem.W.Frag) {o i e f value:Expr} {pos pos' apos cpos:Pos} {td ty tv tx:TE}
theorem peGetD (hP:X.prog=P) (hw:X.w=w) (hu:X.A.units+9 < cLine) (ho:PE X o td) (hi:PE X i ty) (hs:NoSl i):PE X (.Subscript o i pos) (tGetD P w K td ty):=by
 subst hP hw
 exact pe_getD hu ho hi hs
end
end L2

set_option Elab.async false
set_option linter.all false
set_option maxRecDepth 100000
set_option maxHeartbeats 4000000
namespace L2
open PySem PySem.Spec PyProof.Rows
/-! ### defs that raise nothing,whatever way exceptions lie behind calls -/
class NoE (CX:CXT):Prop where
 no:∀ {outer:List Env} {H:Hp} {s:Shared} {e:Value} {s':Shared},¬ CX outer H s E0 e s'
theorem passN {CX:CXT} [N:NoE CX] {X:Cx}:Passes CX X E0:=fun _ _ _ _ _ _ _ h=>absurd h N.no
theorem Fun.okc {CX:CXT} {P:Program} {w:World} {K:PySem.W.Frag} {mg:Str→Option Value} {base:Heap} {x qual:Str} {st:Stmt} {f:Addr} {fd:FuncData} {N ps:List Str} {k:Nat} {sp:Sp} (F:Fun K x qual st f fd) (S:FnScope N ps (defScope st)) (len:∀ vs H Q E,sp vs H Q E→vs.length=ps.length)
  (hbody:∀ (cdv:Value) (A:Around) (outer:List Env) (s:Shared) (H:Hp) (vs:List V) (Q:VK) (E:XK),Room k (A.deeper (envOfC qual (defScope st) s.heap.objs.size f cdv))→sp vs H Q E →
   ∃ t,PSs (cxOf CX P w K mg base N qual (defScope st) f cdv A outer s H E).nox (defBody st) t∧t { nx:=fun _ H'=>Q .non H',rt:=Q } (start N vs) H):FnOk P w K mg base CX (k+1) f fd ps sp:=by
 obtain ⟨oc,od,kV,doc,pm,an,cdv,ct,osl,rfl,lk,hcd⟩:=F.ex
 refine fn_of lk hcd S len fun A outer s H vs Q E hr hsp=>?_
 obtain ⟨t,h,q⟩:=hbody cdv A outer s H vs Q E hr hsp
 exact ⟨t,h.nox,q⟩
end L2

set_option Elab.async false
set_option linter.all false
set_option maxRecDepth 100000
set_option maxHeartbeats 4000000
namespace L2
open PySem PySem.Spec PyProof.Rows
/-! ### a plainer reading in the place of one -/
theorem PS.weak {X:Cx} {st:Stmt} {t:TS} (t':TS) (h:PS X st t) (k:∀ D σ H,t' D σ H→t D σ H):PS X st t':=fun pins s σ H D I hw=>h pins s σ H D I (k D σ H hw)
theorem PT.weak {X:Cx} {e:Expr} {t:TT} (t':TT) (h:PT X e t) (k:∀ σ H Q,t' σ H Q→t σ H Q):PT X e t':=fun pins s σ H Q I hw=>h pins s σ H Q I (k σ H Q hw)
def tAny (Pre:St→Hp→Prop):TT:=fun σ H Q=>Pre σ H∧∀ c:Bool,Q c H
end L2

set_option Elab.async false
set_option linter.all false
set_option maxRecDepth 100000
set_option maxHeartbeats 4000000
namespace Gu
open PySem L2
/-! ### first come,first numbered -/
section
variable {α:Type} [DecidableEq α]
def addN (o:List α) (g:α):List α:=if g∈o then o else o++[g]
def addAll (o:List α) (gs:List α):List α:=gs.foldl addN o
def uniq (ks:List α):List α:=addAll [] ks
def numb (ks:List α):List Int:=ks.map fun k=>(((uniq ks).idxOf k:Nat):Int)
theorem addN_mem {o:List α} {g:α} (h:g∈o):addN o g=o:=if_pos h
theorem addN_new {o:List α} {g:α} (h:g∉o):addN o g=o++[g]:=if_neg h
theorem addN_has (o:List α) (g:α):g∈addN o g:=by
 by_cases h:g∈o
 ·rw [addN_mem h];exact h
 ·rw [addN_new h];simp
theorem addN_sub (o:List α) (g:α):∃ m,addN o g=o++m:=by
 by_cases h:g∈o
 ·exact ⟨[],by rw [addN_mem h];simp⟩
 ·exact ⟨[g],addN_new h⟩
theorem addAll_sub:∀ (gs o:List α),∃ m,addAll o gs=o++m
 | [],o=>⟨[],by simp [addAll]⟩
 | g::gs,o=>by
  obtain ⟨m1,e1⟩:=addN_sub o g
  obtain ⟨m2,e2⟩:=addAll_sub gs (addN o g)
  refine ⟨m1++m2,?_⟩
  show addAll (addN o g) gs=_
  rw [e2,e1,List.append_assoc]
theorem addAll_snoc (o gs:List α) (g:α):addAll o (gs++[g])=addN (addAll o gs) g:=by
 unfold addAll
 rw [List.foldl_append]
 rfl
theorem addN_nodup {o:List α} {g:α} (h:o.Nodup):(addN o g).Nodup:=by
 by_cases hg:g∈o
 ·rw [addN_mem hg];exact h
 ·rw [addN_new hg]
  exact nd_snoc h hg
theorem addAll_nodup:∀ (gs o:List α),o.Nodup→(addAll o gs).Nodup
 | [],o,h=>h
 | g::gs,o,h=>addAll_nodup gs (addN o g) (addN_nodup h)
theorem addN_mem_iff {o:List α} {g x:α}:x∈addN o g↔x∈o∨x=g:=by
 by_cases hg:g∈o
 ·rw [addN_mem hg]
  constructor
  ·exact .inl
  ·rintro (h | rfl)
   ·exact h
   ·exact hg
 ·rw [addN_new hg];simp
theorem addAll_mem:∀ {gs o:List α} {x:α},x∈addAll o gs↔x∈o∨x∈gs
 | [],o,x=>by simp [addAll]
 | g::gs,o,x=>by
  have ih:=addAll_mem (gs:=gs) (o:=addN o g) (x:=x)
  show x∈addAll (addN o g) gs↔_
  rw [ih,addN_mem_iff,List.mem_cons]
  constructor
  ·rintro ((h | h) | h)
   ·exact .inl h
   ·exact .inr (.inl h)
   ·exact .inr (.inr h)
  ·rintro (h | h | h)
   ·exact .inl (.inl h)
   ·exact .inl (.inr h)
   ·exact .inr h
theorem addAll_len:∀ (gs o:List α),(addAll o gs).length≤o.length+gs.length
 | [],o=>by simp [addAll]
 | g::gs,o=>by
  have ih:=addAll_len gs (addN o g)
  have h1:(addN o g).length≤o.length+1:=by
   by_cases hg:g∈o
   ·rw [addN_mem hg];omega
   ·rw [addN_new hg];simp
  show (addAll (addN o g) gs).length≤_
  rw [List.length_cons];omega
theorem idxOf_app {o m:List α} {g:α} (h:g∈o):(o++m).idxOf g=o.idxOf g:=by
 rw [List.idxOf_append,if_pos h]
theorem nodup_nat:∀ (n:Nat) (o:List Nat),o.Nodup→(∀ x∈o,x < n)→o.length≤n
 | 0,o,_,h=>by
  cases o with
  | nil=>simp
  | cons a r=>exact absurd (h a (by simp)) (Nat.not_lt_zero _)
 | n+1,o,hn,h=>by
  by_cases hm:n∈o
  ·have ih:=nodup_nat n (o.erase n) (hn.erase n) fun x hx=>by
    have h1:=(hn.mem_erase_iff).mp hx
    have:=h x h1.2
    have:=h1.1
    omega
   rw [List.length_erase_of_mem hm] at ih
   omega
  ·have ih:=nodup_nat n o hn fun x hx=>by
    have:=h x hx
    have:x≠n:=fun e=>hm (e ▸ hx)
    omega
   omega
theorem nodup_len {n:Nat} {o:List Int} (h:o.Nodup) (hr:∀ x∈o,0≤x∧x < (n:Int)):o.length≤n:=by
 have h1:(o.map Int.toNat).Nodup:=by
  rw [List.nodup_iff_pairwise_ne,List.pairwise_map]
  refine List.Pairwise.imp_of_mem (fun {a b} ha hb hab e=>?_) (List.nodup_iff_pairwise_ne.mp h)
  have:=hr a ha
  have:=hr b hb
  exact hab (by omega)
 have h3:=nodup_nat n _ h1 fun x hx=>by
  obtain ⟨y,hy,rfl⟩:=List.mem_map.mp hx
  have:=hr y hy
  omega
 simpa using h3
end
/-! ### machines -/
abbrev Row:=List Int × List Int
def row (rows:List Row) (r:Int):Row:=rows.getD r.toNat ([],[])
structure GoodM (n:Nat) (rows:List Row):Prop where
 few:rows.length≤4000
 some:1≤rows.length
 perm:∀ r∈rows,IsP n r.1
 len:∀ r∈rows,r.2.length=n
 go:∀ r∈rows,∀ g∈r.2,0≤g∧g < (rows.length:Int)
def rowD (r:Row):D:=.tup [D.its r.1,D.its r.2]
def bfs (rows:List Row):Nat→Nat→List Int→List Int
 | 0,_,o=>o
 | f+1,i,o=>match o[i]? with
  | none=>o
  | some r=>bfs rows f (i+1) (addAll o (row rows r).2)
def order (rows:List Row):List Int:=bfs rows (rows.length+1) 0 [0]
theorem bfs_step {rows:List Row} {f i:Nat} {o:List Int} {r:Int} (e:o[i]?=some r):bfs rows (f+1) i o=bfs rows f (i+1) (addAll o (row rows r).2):=by
 show (match o[i]? with | none=>o | some r=>bfs rows f (i+1) (addAll o (row rows r).2))=_
 rw [e]
theorem bfs_stop {rows:List Row} {f i:Nat} {o:List Int} (e:o.length≤i):bfs rows f i o=o:=by
 cases f with
 | zero=>rfl
 | succ f =>
  show (match o[i]? with | none=>o | some r=>bfs rows f (i+1) (addAll o (row rows r).2))=_
  rw [List.getElem?_eq_none e]
theorem bfs_sub (rows:List Row):∀ (f i:Nat) (o:List Int),∃ m,bfs rows f i o=o++m
 | 0,i,o=>⟨[],by simp [bfs]⟩
 | f+1,i,o=>by
  unfold bfs
  cases e:o[i]? with
  | none=>exact ⟨[],by simp⟩
  | some r =>
   obtain ⟨m1,e1⟩:=addAll_sub (row rows r).2 o
   obtain ⟨m2,e2⟩:=bfs_sub rows f (i+1) (addAll o (row rows r).2)
   exact ⟨m1++m2,by show bfs rows f (i+1) (addAll o (row rows r).2)=_;rw [e2,e1,List.append_assoc]⟩
structure Line (rows:List Row) (o:List Int):Prop where
 nd:o.Nodup
 rg:∀ x∈o,0≤x∧x < (rows.length:Int)
 hd:∃ t,o=0::t
theorem row_mem {rows:List Row} {r:Int} (h0:0≤r) (h1:r < (rows.length:Int)):row rows r∈rows:=by
 unfold row
 have:r.toNat < rows.length:=by omega
 have e:rows.getD r.toNat ([],[])=rows[r.toNat]:=by simp [this]
 rw [e]
 exact List.getElem_mem this
theorem row_get {rows:List Row} {r:Int} (h0:0≤r) (h1:r < (rows.length:Int)):rows[r.toNat]?=some (row rows r):=by
 unfold row
 have:r.toNat < rows.length:=by omega
 simp [this]
theorem Line.add {n:Nat} {rows:List Row} {o:List Int} (G:GoodM n rows) (L:Line rows o) {r:Int} (h:r∈o):Line rows (addAll o (row rows r).2):=by
 refine ⟨addAll_nodup _ _ L.nd,fun x hx=>?_,?_⟩
 ·rcases addAll_mem.mp hx with hx | hx
  ·exact L.rg x hx
  ·exact G.go _ (row_mem (L.rg r h).1 (L.rg r h).2) x hx
 ·obtain ⟨t,e⟩:=L.hd
  obtain ⟨m,e2⟩:=addAll_sub (row rows r).2 o
  exact ⟨t++m,by rw [e2,e];rfl⟩
theorem Line.len {rows:List Row} {o:List Int} (L:Line rows o):o.length≤rows.length:=nodup_len L.nd L.rg
theorem line0 {n:Nat} {rows:List Row} (G:GoodM n rows):Line rows [0]:=by
 refine ⟨by simp,fun x hx=>?_,⟨[],rfl⟩⟩
 have:x=0:=by simpa using hx
 have:=G.some
 omega
theorem bfs_end {n:Nat} {rows:List Row} (G:GoodM n rows):∀ (f i:Nat) (o:List Int),Line rows o→i≤o.length→rows.length+1≤f+i→(∀ j r,j < i→o[j]?=some r→∀ g∈(row rows r).2,g∈o) →
  Line rows (bfs rows f i o)∧∀ r∈bfs rows f i o,∀ g∈(row rows r).2,g∈bfs rows f i o
 | 0,i,o,L,hi,hf,hc=>by
  have:=L.len
  omega
 | f+1,i,o,L,hi,hf,hc=>by
  cases e:o[i]? with
  | none =>
   rw [bfs_stop (List.getElem?_eq_none_iff.mp e)]
   refine ⟨L,fun r hr g hg=>?_⟩
   obtain ⟨j,hj,e2⟩:=List.getElem_of_mem hr
   have:o.length≤i:=List.getElem?_eq_none_iff.mp e
   exact hc j r (by omega) (by rw [List.getElem?_eq_getElem hj,e2]) g hg
  | some r =>
   rw [bfs_step e]
   have hr:r∈o:=List.mem_of_getElem? e
   have hil:i < o.length:=(List.getElem?_eq_some_iff.mp e).1
   obtain ⟨m,em⟩:=addAll_sub (row rows r).2 o
   refine bfs_end G f (i+1) _ (L.add G hr) (by rw [em,List.length_append];omega) (by omega) fun j r' hj er g hg=>?_
   have hjo:j < o.length:=by omega
   have er':o[j]?=some r':=by rw [em,List.getElem?_append_left hjo] at er;exact er
   by_cases hji:j=i
   ·subst hji
    rw [e] at er'
    cases er'
    exact addAll_mem.mpr (.inr hg)
   ·exact addAll_mem.mpr (.inl (hc j r' (by omega) er' g hg))
theorem order_line {n:Nat} {rows:List Row} (G:GoodM n rows):Line rows (order rows)∧∀ r∈order rows,∀ g∈(row rows r).2,g∈order rows :=
 bfs_end G (rows.length+1) 0 [0] (line0 G) (by simp) (by omega) fun j r hj=>absurd hj (Nat.not_lt_zero _)
def foundOf (rows:List Row) (o:List Int):List Row:=o.map fun r=>((row rows r).1,(row rows r).2.map fun g=>((o.idxOf g:Nat):Int))
def found (rows:List Row):List Row:=foundOf rows (order rows)
def stepK (ks:List Int) (rows:List Row):List (Int × List Int):=(ks.zip rows).map fun p=>(p.1,p.2.2.map fun g=>ks.getD g.toNat 0)
def cnt (ks:List Int):Int:=ks.foldl max 0+1
def kloop (rows:List Row):Nat→Int→List Int→List Int
 | 0,_,ks=>ks
 | f+1,c,ks=>if c < cnt ks then kloop rows f (cnt ks) (numb (stepK ks rows)) else ks
def kinds (rows:List Row):List Int:=kloop rows (rows.length+1) 0 (numb (rows.map (·.1)))
def leastOf (rows:List Row) (ks:List Int):List Row:=(rows.zip ks).foldl (fun l p=>if p.2=(l.length:Int) then l++[(p.1.1,p.1.2.map fun g=>ks.getD g.toNat 0)] else l) []
def least (rows:List Row):List Row:=leastOf (found rows) (kinds (found rows))
end Gu

set_option Elab.async false
set_option linter.all false
set_option maxRecDepth 100000
set_option maxHeartbeats 4000000
namespace Gu
open PySem L2
def csc (ns:List (Str × NameKind)):Scope:={ kind:=.function,names:=ns,isGenerator:=false,isCoroutine:=false,more:=[] }
def Gives (K:PySem.W.Frag) (H:Hp) (Q:VK) (d:D):Prop:=∀ v H',Same H H'→Dr K H' d v→Q v H'
theorem same_up {H H1:Hp} {p:Addr} {o:HO} (s:Same H H1) (h:H1 p=none):Same H (upd H1 p o):=fun b u e=>by
 have q:=s b u e
 rw [upd_ne (ne_of_none q h)];exact q
theorem same_over {H H1:Hp} {p:Addr} {o:HO} (s:Same H H1) (h:H p=none):Same H (upd H1 p o):=fun b u e=>by
 rw [upd_ne (ne_of_none e h)];exact s b u e
theorem take_snoc {α β:Type} {l:List α} {i:Nat} {x:α} (f:α→β) (h:l[i]?=some x):(l.take (i+1)).map f=(l.take i).map f++[f x]:=by
 rw [List.take_add_one,h,List.map_append];rfl
theorem small5 {n:Nat} (h:n≤4900):n < sizeLine:=Nat.lt_of_le_of_lt h (by decide)
theorem line_le {n:Nat} (h:n≤5000):n≤sizeLine:=Nat.le_trans h (by decide)
theorem atI_of {α:Type} {xs:List α} {k:Int} {v:α} (h0:0≤k) (h:xs[k.toNat]?=some v):atI xs k=some v:=by
 have q:=atI_nat h
 rwa [show ((k.toNat:Nat):Int)=k by omega] at q
theorem map_erase {α β:Type} (f:α→β):∀ (l:List α) (i:Nat),(l.map f).eraseIdx i=(l.eraseIdx i).map f
 | [],_=>rfl
 | _::_,0=>rfl
 | a::r,i+1=>by
  show f a::(r.map f).eraseIdx i=f a::(r.eraseIdx i).map f
  rw [map_erase f r i]
structure Blt (mg:Str→Option Value):Prop where
 len:mg "len"=none
 tup:mg "tuple"=none
 lst:mg "list"=none
 rng:mg "range"=none
 isi:mg "isinstance"=none
 int:mg "int"=none
 bl:mg "bool"=none
 str:mg "str"=none
 all:mg "all"=none
theorem its_dep (ns:List Int):D.dep (D.its ns)=1:=by simp only [D.dep,D.depL_ints]
theorem its_few5 {ns:List Int} (h:ns.length≤5000):D.few (D.its ns):=by
 simp only [D.few]
 exact ⟨by rw [List.length_map];exact h,D.fewL_ints ns⟩
theorem its_few {ns:List Int} (h:ns.length≤1000):D.few (D.its ns):=its_few5 (by omega)
theorem okL_ints:∀ (ns ms:List Int),D.okL (ns.map D.int) (ms.map D.int)
 | [],ms=>by cases ms<;>simp only [List.map_nil,List.map_cons,D.okL]
 | n::r,[]=>by simp only [List.map_nil,List.map_cons,D.okL]
 | n::r,m::q=>by simp only [List.map_cons,D.okL,D.ok];exact ⟨trivial,okL_ints r q⟩
theorem Dr.its_inv {K:PySem.W.Frag} {H:Hp} {ns:List Int} {v:V} (h:Dr K H (D.its ns) v):∃ a,v=.ref a∧H a=some (.tup (ns.map V.int)):=by
 simp only [Dr] at h
 obtain ⟨a,vs,rfl,s,r⟩:=h
 exact ⟨a,rfl,DrL.ints_inv r ▸ s⟩
def spCell (K:PySem.W.Frag):Sp:=fun vs H Q _=>∃ (a:Addr) (ns:List Int) (i:Nat),vs=[.ref a,.int i]∧SqL K H a (ns.map V.int)∧ns.length≤63∧i≤1000∧Q (.int (cell ns i)) H
def spLetters (K:PySem.W.Frag):Sp:=fun vs H Q _=>∃ (a:Addr) (ns:List Int) (i:Nat),vs=[.ref a,.int i]∧SqL K H a (ns.map V.int)∧ns.length≤63∧i≤1000∧Q (.int (letN ns i)) H
def spRear (K:PySem.W.Frag):Sp:=fun vs H Q _=>∃ (pick:Int) (n:Nat),vs=[.int pick,.int n]∧n≤1000∧Gives K H Q (D.its (rearr pick n))
def spWhole (K:PySem.W.Frag):Sp:=fun vs H Q _=>∃ i:Int,vs=[.int i]∧Q (.bl true) H
def spLike (K:PySem.W.Frag) (n:Nat):Sp:=fun vs H Q _=>∃ (a b:V) (d:D),vs=[a,b]∧Dr K H d a∧Dr K H d b∧D.dep d < n∧D.few d∧∀ H',Same H H'→Q (.bl true) H'
end Gu

set_option Elab.async false
set_option linter.all false
set_option maxRecDepth 100000
set_option maxHeartbeats 4000000
namespace Gu
open PySem L2
/-! ### a dict that numbers things as they come -/
section
variable {α κ:Type} [DecidableEq α] [DecidableEq κ]
def prsF (f:α→κ):Nat→List α→List (κ × V)
 | _,[]=>[]
 | n,a::r=>(f a,V.int (n:Int))::prsF f (n+1) r
abbrev prs (f:α→κ) (u:List α):List (κ × V):=prsF f 0 u
theorem prsF_len (f:α→κ):∀ (n:Nat) (u:List α),(prsF f n u).length=u.length
 | _,[]=>rfl
 | n,a::r=>by simp [prsF,prsF_len f (n+1) r]
theorem prsF_app (f:α→κ):∀ (n:Nat) (u:List α) (a:α),prsF f n (u++[a])=prsF f n u++[(f a,V.int ((n+u.length:Nat):Int))]
 | n,[],a=>by simp [prsF]
 | n,b::r,a=>by
  have ih:=prsF_app f (n+1) r a
  show (f b,V.int (n:Int))::prsF f (n+1) (r++[a])=(f b,V.int (n:Int))::(prsF f (n+1) r++_)
  have e:n+1+r.length=n+(b::r).length:=by rw [List.length_cons];omega
  rw [ih,e]
theorem prsF_val (f:α→κ) (hf:∀ x y,f x=f y→x=y):∀ (n:Nat) (u:List α) (a:α),valV (prsF f n u) (f a)=if a∈u then some (V.int ((n+u.idxOf a:Nat):Int)) else none
 | n,[],a=>by simp [prsF,valV]
 | n,b::r,a=>by
  have ih:=prsF_val f hf (n+1) r a
  show valV ((f b,V.int (n:Int))::prsF f (n+1) r) (f a)=_
  by_cases e:b=a
  ·subst e
   rw [valV_pos rfl,if_pos (by simp)]
   simp
  ·rw [valV_neg (p:=(f b,V.int (n:Int))) (fun z=>e (hf _ _ z)),ih]
   have e1:(b::r).idxOf a=r.idxOf a+1:=by
    rw [List.idxOf_cons]
    have hb:(b == a)=false:=by simpa using e
    rw [hb]
    rfl
   by_cases hm:a∈r
   ·have e2:n+1+r.idxOf a=n+(r.idxOf a+1):=by omega
    rw [if_pos hm,if_pos (by simp [hm]),e1,e2]
   ·rw [if_neg hm,if_neg (by simp [hm,Ne.symm e])]
theorem prs_val (f:α→κ) (hf:∀ x y,f x=f y→x=y) (u:List α) (a:α):valV (prs f u) (f a)=if a∈u then some (V.int ((u.idxOf a:Nat):Int)) else none:=by
 have:=prsF_val f hf 0 u a
 simpa using this
theorem prs_put (f:α→κ) (hf:∀ x y,f x=f y→x=y) {u:List α} {a:α} (h:a∉u):putK (prs f u) (f a) (V.int (u.length:Nat))=prs f (u++[a]):=by
 have e:=prsF_app f 0 u a
 rw [Nat.zero_add] at e
 rw [putK_new _ (by rw [prs_val f hf,if_neg h])]
 exact e.symm
end
def rowsD (rows:List Row):List D:=rows.map rowD
theorem its_key (ns:List Int):D.key (D.its ns):=by
 have:∀ l:List Int,D.keyL (l.map D.int):=by
  intro l
  induction l with
  | nil=>simp only [List.map_nil,D.keyL]
  | cons a r ih=>simp only [List.map_cons,D.keyL,D.key];exact ⟨trivial,ih⟩
 simp only [D.key]
 exact this ns
def Things (ds:List D):Prop:=∀ d∈ds,D.key d∧D.dep d≤8∧∃ es,d=.tup es
def spNumbered (K:PySem.W.Frag):Sp:=fun vs H Q _=>∃ (a:Addr) (us:List V) (ds:List D),vs=[.ref a]∧H a=some (.lst us)∧DrL K H ds us∧Things ds∧ds.length≤4900 ∧
 ∀ (r:Addr) (H':Hp),Same H H'→H' r=some (.lst ((numb ds).map V.int))→Q (.ref r) H'
theorem keyV {K:PySem.W.Frag} {H:Hp} {d:D} {v:V} (h:D.key d∧D.dep d≤8∧∃ es,d=.tup es) (q:Dr K H d v):KeyV K H d v:=by
 obtain ⟨h1,h2,es,rfl⟩:=h
 refine ⟨?_,h1,h2,q⟩
 simp only [Dr] at q
 obtain ⟨a,vs,e,_⟩:=q
 exact ⟨a,e⟩
end Gu

set_option Elab.async false
set_option linter.all false
set_option maxRecDepth 100000
set_option maxHeartbeats 4000000
namespace Gu
open PySem L2
/-! ### tuples stay -/
def TupK (H H':Hp):Prop:=∀ b xs,H b=some (.tup xs)→H' b=some (.tup xs)
theorem TupK.of {H H':Hp} (s:Same H H'):TupK H H':=fun b xs e=>s _ _ e
theorem TupK.refl (H:Hp):TupK H H:=fun _ _ e=>e
theorem TupK.trans {H H1 H2:Hp} (a:TupK H H1) (b:TupK H1 H2):TupK H H2:=fun c xs e=>b c xs (a c xs e)
theorem TupK.up {H H1:Hp} {a:Addr} {o u:HO} (t:TupK H H1) (h:H1 a=some o) (n:∀ xs,o≠.tup xs):TupK H (upd H1 a u):=fun b xs e=>by
 have q:=t b xs e
 have:b≠a:=fun z=>by rw [z,h] at q;exact n xs (Option.some.inj q)
 rw [upd_ne this];exact q
theorem row_key (r:Row):D.key (rowD r):=by
 unfold rowD
 simp only [D.key,D.keyL]
 have h1:=its_key r.1
 have h2:=its_key r.2
 simp only [D.key] at h1 h2
 exact ⟨h1,h2,trivial⟩
theorem rows_key:∀ rs:List Row,D.keyL (rowsD rs)
 | []=>by unfold rowsD;simp only [List.map_nil,D.keyL]
 | r::rs=>by
  have:=rows_key rs
  unfold rowsD at this ⊢
  simp only [List.map_cons,D.keyL]
  exact ⟨row_key r,this⟩
theorem rowD_inv {K:PySem.W.Frag} {H:Hp} {r:Row} {v:V} (h:Dr K H (rowD r) v):∃ a b c,v=.ref a∧H a=some (.tup [.ref b,.ref c])∧H b=some (.tup (r.1.map V.int))∧H c=some (.tup (r.2.map V.int)):=by
 unfold rowD at h
 simp only [Dr,DrL] at h
 obtain ⟨a,vs,rfl,e,x,l,rfl,hx,y,l',rfl,hy,rfl⟩:=h
 obtain ⟨b,us,rfl,eb,rb⟩:=hx
 obtain ⟨c,ws,rfl,ec,rc⟩:=hy
 have e1:=DrL.ints_inv rb
 have e2:=DrL.ints_inv rc
 subst e1 e2
 exact ⟨a,b,c,rfl,e,eb,ec⟩
theorem rowD_mk {K:PySem.W.Frag} {H:Hp} {r:Row} {a b c:Addr} (h:H a=some (.tup [.ref b,.ref c])) (hb:H b=some (.tup (r.1.map V.int))) (hc:H c=some (.tup (r.2.map V.int))):Dr K H (rowD r) (.ref a):=by
 unfold rowD
 exact Dr.tup h (DrL.cons (Dr.tup hb (DrL.ints _)) (DrL.cons (Dr.tup hc (DrL.ints _)) DrL.nil))
theorem rows_at {K:PySem.W.Frag} {H:Hp} {rows:List Row} {us:List V} (h:DrL K H (rowsD rows) us) {i:Nat} {r:Row} (e:rows[i]?=some r):∃ v,us[i]?=some v∧Dr K H (rowD r) v :=
 h.get (by unfold rowsD;rw [List.getElem?_map,e];rfl)
/-! ### what the program's defs hand back -/
def spGone (K:PySem.W.Frag):Sp:=fun vs H Q _=>∃ (a:Addr) (b:V) (ks gs:List Int),vs=[.ref a,b]∧H a=some (.lst (ks.map V.int))∧Dr K H (D.its gs) b∧(∀ g∈gs,0≤g∧g < (ks.length:Int))∧gs.length≤1000∧Gives K H Q (D.its (gs.map fun g=>ks.getD g.toNat 0))
def RowsAt (K:PySem.W.Frag) (H:Hp) (a:Addr) (rows:List Row):Prop:=∃ us,H a=some (.lst us)∧DrL K H (rowsD rows) us
theorem RowsAt.mono {K:PySem.W.Frag} {H H':Hp} {a:Addr} {rows:List Row} (h:RowsAt K H a rows) (s:Same H H'):RowsAt K H' a rows:=by
 obtain ⟨us,e,d⟩:=h
 exact ⟨us,s _ _ e,d.mono s⟩
end Gu

set_option Elab.async false
set_option linter.all false
set_option maxRecDepth 100000
set_option maxHeartbeats 4000000
namespace Gu
open PySem L2
section
variable {α β:Type} [DecidableEq α] [DecidableEq β]
theorem addAll_map (f:α→β) (hf:∀ x y,f x=f y→x=y):∀ (gs o:List α),addAll (o.map f) (gs.map f)=(addAll o gs).map f
 | [],o=>rfl
 | g::gs,o=>by
  have h1:addN (o.map f) (f g)=(addN o g).map f:=by
   by_cases h:g∈o
   ·rw [addN_mem h,addN_mem (List.mem_map.mpr ⟨g,h,rfl⟩)]
   ·have:f g∉o.map f:=fun z=>by
     obtain ⟨x,hx,e⟩:=List.mem_map.mp z
     exact h (hf _ _ e ▸ hx)
    rw [addN_new h,addN_new this,List.map_append];rfl
  show addAll (addN (o.map f) (f g)) (gs.map f)=(addAll (addN o g) gs).map f
  rw [h1]
  exact addAll_map f hf gs (addN o g)
theorem idxOf_map (f:α→β) (hf:∀ x y,f x=f y→x=y):∀ (l:List α) (a:α),(l.map f).idxOf (f a)=l.idxOf a
 | [],a=>rfl
 | b::r,a=>by
  rw [List.map_cons,List.idxOf_cons,List.idxOf_cons,idxOf_map f hf r a]
  have:(f b == f a)=(b == a):=by
   by_cases e:b=a
   ·subst e;simp
   ·have h1:(b == a)=false:=by simpa using e
    have h2:(f b == f a)=false:=by simpa using fun z=>e (hf _ _ z)
    rw [h1,h2]
  rw [this]
theorem numb_map (f:α→β) (hf:∀ x y,f x=f y→x=y) (xs:List α):numb (xs.map f)=numb xs:=by
 unfold numb uniq
 have:=addAll_map f hf xs []
 rw [List.map_nil] at this
 rw [this,List.map_map]
 refine List.map_congr_left fun x _=>?_
 show (((((addAll [] xs).map f).idxOf (f x):Nat)):Int)=_
 rw [idxOf_map f hf]
theorem numb_len (xs:List α):(numb xs).length=xs.length:=by unfold numb;rw [List.length_map]
theorem uniq_le (xs:List α):(uniq xs).length≤xs.length:=by have:=addAll_len xs [];unfold uniq;simpa using this
theorem numb_rg {xs:List α} {k:Int} (h:k∈numb xs):0≤k∧k < ((uniq xs).length:Int):=by
 unfold numb at h
 obtain ⟨x,hx,rfl⟩:=List.mem_map.mp h
 have:x∈uniq xs:=addAll_mem.mpr (.inr hx)
 have:=List.idxOf_lt_length_of_mem this
 omega
end
theorem max_le:∀ (ks:List Int) (m:Int),m≤ks.foldl max m∧∀ k∈ks,k≤ks.foldl max m
 | [],m=>⟨Int.le_refl _,fun k h=>by simp at h⟩
 | a::r,m=>by
  obtain ⟨h1,h2⟩:=max_le r (max m a)
  refine ⟨Int.le_trans (Int.le_max_left m a) h1,fun k hk=>?_⟩
  rcases List.mem_cons.mp hk with rfl | hk
  ·exact Int.le_trans (Int.le_max_right m k) h1
  ·exact h2 k hk
theorem max_mem:∀ (ks:List Int) (m:Int),ks.foldl max m=m∨ks.foldl max m∈ks
 | [],m=>.inl rfl
 | a::r,m=>by
  rcases max_mem r (max m a) with h | h
  ·rcases Int.le_total m a with z | z
   ·right
    show r.foldl max (max m a)∈a::r
    rw [h,Int.max_eq_right z];simp
   ·left
    show r.foldl max (max m a)=m
    rw [h,Int.max_eq_left z]
  ·right;exact List.mem_cons_of_mem _ h
theorem cnt_max {ks:List Int} (hne:ks≠[]) (h0:∀ k∈ks,0≤k):cnt ks - 1∈ks∧∀ k∈ks,k≤cnt ks - 1:=by
 unfold cnt
 have e:ks.foldl max 0+1 - 1=ks.foldl max 0:=by omega
 rw [e]
 refine ⟨?_,(max_le ks 0).2⟩
 rcases max_mem ks 0 with h | h
 ·rw [h]
  cases ks with
  | nil=>exact absurd rfl hne
  | cons a r =>
   have h1:=(max_le (a::r) 0).2 a (by simp)
   rw [h] at h1
   have h2:=h0 a (by simp)
   have:a=0:=by omega
   simp [this]
 ·exact h
theorem cnt_le {ks:List Int} {n:Nat} (hne:ks≠[]) (h0:∀ k∈ks,0≤k∧k < (n:Int)):cnt ks≤n∧1≤cnt ks:=by
 obtain ⟨h1,h2⟩:=cnt_max hne fun k hk=>(h0 k hk).1
 have:=h0 _ h1
 omega
structure GoodF (n:Nat) (rows:List Row):Prop where
 some:1≤rows.length
 few:rows.length≤4000
 perm:∀ r∈rows,IsP n r.1
 len:∀ r∈rows,r.2.length=n
 go:∀ r∈rows,∀ g∈r.2,0≤g∧g < (rows.length:Int)
theorem found_good {n:Nat} {rows:List Row} (G:GoodM n rows):GoodF n (found rows):=by
 obtain ⟨L,cl⟩:=order_line G
 have hl:=L.len
 have hm:∀ r∈found rows,∃ x∈order rows,r=((row rows x).1,(row rows x).2.map fun g=>(((order rows).idxOf g:Nat):Int)):=fun r hr=>by
  unfold found foundOf at hr
  obtain ⟨x,hx,e⟩:=List.mem_map.mp hr
  exact ⟨x,hx,e.symm⟩
 have fl:(found rows).length=(order rows).length:=by unfold found foundOf;rw [List.length_map]
 refine ⟨?_,by have:=G.few;omega,fun r hr=>?_,fun r hr=>?_,fun r hr g hg=>?_⟩
 ·obtain ⟨t,e⟩:=L.hd
  rw [fl,e];simp
 ·obtain ⟨x,hx,rfl⟩:=hm r hr
  exact G.perm (row rows x) (row_mem (L.rg x hx).1 (L.rg x hx).2)
 ·obtain ⟨x,hx,rfl⟩:=hm r hr
  show (List.map _ _).length=n
  rw [List.length_map]
  exact G.len _ (row_mem (L.rg x hx).1 (L.rg x hx).2)
 ·obtain ⟨x,hx,rfl⟩:=hm r hr
  obtain ⟨y,hy,rfl⟩:=List.mem_map.mp hg
  have:=List.idxOf_lt_length_of_mem (cl x hx y hy)
  omega
structure GoodK (rows:List Row) (ks:List Int):Prop where
 len:ks.length=rows.length
 rg:∀ k∈ks,0≤k∧k < (rows.length:Int)
theorem goodK0 {n:Nat} {rows:List Row} (G:GoodF n rows):GoodK rows (numb (rows.map (·.1))):=by
 refine ⟨by rw [numb_len,List.length_map],fun k hk=>?_⟩
 have:=numb_rg hk
 have:=uniq_le (rows.map (·.1))
 rw [List.length_map] at this
 omega
theorem stepK_len {rows:List Row} {ks:List Int} (h:GoodK rows ks):(stepK ks rows).length=rows.length:=by
 unfold stepK
 rw [List.length_map,List.length_zip,h.len];omega
theorem goodK1 {rows:List Row} {ks:List Int} (h:GoodK rows ks):GoodK rows (numb (stepK ks rows)):=by
 have hl:=stepK_len h
 refine ⟨by rw [numb_len,hl],fun k hk=>?_⟩
 have:=numb_rg hk
 have:=uniq_le (stepK ks rows)
 omega
theorem ks_ne {n:Nat} {rows:List Row} {ks:List Int} (G:GoodF n rows) (h:GoodK rows ks):ks≠[]:=fun e=>by
 have:=h.len
 have:=G.some
 subst e
 simp at *
 omega
def stepD (p:Int × List Int):D:=.tup [.int p.1,D.its p.2]
theorem its_inj {a b:List Int} (e:D.its a=D.its b):a=b:=by
 injection e with e
 induction a generalizing b with
 | nil=>cases b with
  | nil=>rfl
  | cons _ _=>cases e
 | cons x r ih=>cases b with
  | nil=>cases e
  | cons y q =>
   rw [List.map_cons,List.map_cons] at e
   injection e with e1 e2
   injection e1 with e1
   rw [e1,ih e2]
theorem stepD_inj (p q:Int × List Int) (e:stepD p=stepD q):p=q:=by
 unfold stepD at e
 injection e with e
 injection e with e1 e2
 injection e2 with e2 _
 injection e1 with e1
 have:=its_inj e2
 exact Prod.ext e1 this
theorem step_key (p:Int × List Int):D.key (stepD p):=by
 unfold stepD
 simp only [D.key,D.keyL]
 have h:=its_key p.2
 simp only [D.key] at h
 exact ⟨trivial,h,trivial⟩
theorem step_dep (p:Int × List Int):D.dep (stepD p)≤8:=by
 unfold stepD
 simp only [D.dep,D.depL,D.depL_ints]
 decide
theorem steps_key:∀ ps:List (Int × List Int),D.keyL (ps.map stepD)
 | []=>by simp only [List.map_nil,D.keyL]
 | p::ps=>by simp only [List.map_cons,D.keyL];exact ⟨step_key p,steps_key ps⟩
theorem its_keys:∀ ps:List (List Int),D.keyL (ps.map D.its)
 | []=>by simp only [List.map_nil,D.keyL]
 | p::ps=>by
  have:=its_key p
  simp only [List.map_cons,D.keyL];exact ⟨this,its_keys ps⟩
end Gu

set_option Elab.async false
set_option linter.all false
set_option maxRecDepth 100000
set_option maxHeartbeats 4000000
namespace Gu
open PySem L2
theorem kloop_good {rows:List Row}:∀ (m:Nat) (c:Int) (ks:List Int),GoodK rows ks→GoodK rows (kloop rows m c ks)
 | 0,_,ks,h=>h
 | m+1,c,ks,h=>by
  unfold kloop
  by_cases hc:c < cnt ks
  ·rw [if_pos hc];exact kloop_good m _ _ (goodK1 h)
  ·rw [if_neg hc];exact h
theorem kinds_good {n:Nat} {rows:List Row} (G:GoodF n rows):GoodK rows (kinds rows):=kloop_good _ _ _ (goodK0 G)
def lstep (ks:List Int) (l:List Row) (p:Row × Int):List Row:=if p.2=(l.length:Int) then l++[(p.1.1,p.1.2.map fun g=>ks.getD g.toNat 0)] else l
def leastP (rows:List Row) (ks:List Int) (i:Nat):List Row:=((rows.zip ks).take i).foldl (lstep ks) []
theorem leastP_all {rows:List Row} {ks:List Int} (h:ks.length=rows.length):leastP rows ks rows.length=leastOf rows ks:=by
 unfold leastP leastOf
 rw [List.take_of_length_le (by rw [List.length_zip];omega)]
 rfl
theorem leastP_step {rows:List Row} {ks:List Int} {i:Nat} {r:Row} {k:Int} (e:rows[i]?=some r) (e':ks[i]?=some k):leastP rows ks (i+1)=lstep ks (leastP rows ks i) (r,k):=by
 unfold leastP
 rw [List.take_add_one,List.getElem?_zip_eq_some (z:=(r,k)) |>.mpr ⟨e,e'⟩,List.foldl_append]
 rfl
theorem lstep_len (ks:List Int) (l:List Row) (p:Row × Int):(lstep ks l p).length≤l.length+1:=by
 unfold lstep
 split
 ·rw [List.length_append];simp
 ·omega
theorem leastP_len (rows:List Row) (ks:List Int) (i:Nat):(leastP rows ks i).length≤i:=by
 unfold leastP
 have:∀ (l:List (Row × Int)) (a:List Row),(l.foldl (lstep ks) a).length≤a.length+l.length:=by
  intro l
  induction l with
  | nil=>intro a;simp
  | cons p l ih =>
   intro a
   have h1:=ih (lstep ks a p)
   have h2:=lstep_len ks a p
   rw [List.foldl_cons,List.length_cons]
   omega
 have h:=this ((rows.zip ks).take i) []
 rw [List.length_take] at h
 simp only [List.length_nil] at h
 omega
theorem found_le {n:Nat} {rows:List Row} (G:GoodM n rows):(found rows).length≤rows.length:=by
 have:=(order_line G).1.len
 unfold found foundOf
 rw [List.length_map];exact this
end Gu

set_option Elab.async false
set_option linter.all false
set_option maxRecDepth 100000
set_option maxHeartbeats 4000000
namespace Gu
open PySem L2
/-! ### drawn numbers,drawn machines -/
def Nums (m:Nat) (ns:List Int):Prop:=ns.length=m∧∀ x∈ns,0≤x∧x < 1009
def spNumbers (K:PySem.W.Frag):Sp:=fun vs H Q _=>∃ (c:Int) (m:Nat),vs=[.int c,.int m]∧m≤900∧∀ (r:Addr) (H':Hp) (ns:List Int),Same H H'→H' r=some (.lst (ns.map V.int))→Nums m ns→Q (.ref r) H'
theorem nums_snoc {ns:List Int} {x:Int} (h:∀ x∈ns,0≤x∧x < 1009) (hx:0≤x∧x < 1009):∀ y∈ns++[x],0≤y∧y < 1009:=by
 intro y hy
 rcases List.mem_append.mp hy with hy | hy
 ·exact h y hy
 ·rw [List.mem_singleton.mp hy];exact hx
theorem pmod {j:Int} (h:(0:Int) < j:=by decide):0 < j:=h
theorem mod1009 (x:Int):0≤x % 1009∧x % 1009 < 1009:=by omega
def spRows (K:PySem.W.Frag):Sp:=fun vs H Q _=>∃ (n:Nat) (c:Int),vs=[.int n,.int c]∧2≤n∧n≤5∧∀ (r:Addr) (H':Hp) (rows:List Row),Same H H'→RowsAt K H' r rows→GoodM n rows→rows.length≤8→Q (.ref r) H'
def GI (m:Nat) (H:Hp) (i:Nat) (ys:List V) (H2:Hp):Prop:=∃ gs:List Int,ys=gs.map V.int∧gs.length=i∧(∀ g∈gs,0≤g∧g < (m:Int))∧Same H H2
theorem GI.nil {m:Nat} {H:Hp} {l:Addr} (h:H l=none):GI m H 0 [] (upd H l (.lst [])):=⟨[],rfl,rfl,fun g hg=>by simp at hg,same_up (Same.refl H) h⟩
theorem GI.len {m:Nat} {H H2:Hp} {i:Nat} {ys:List V} (h:GI m H i ys H2):ys.length=i:=by
 obtain ⟨gs,rfl,e,_⟩:=h
 rw [List.length_map];exact e
theorem GI.snoc {m:Nat} {H H2:Hp} {i:Nat} {ys:List V} {l:Addr} {o:HO} (h:GI m H i ys H2) (hl:H l=none) {g:Int} (hg:0≤g∧g < (m:Int)):GI m H (i+1) (ys++[.int g]) (upd H2 l o):=by
 obtain ⟨gs,rfl,e,r,s⟩:=h
 refine ⟨gs++[g],by rw [List.map_append];rfl,by rw [List.length_append,e];rfl,fun x hx=>?_,same_over s hl⟩
 rcases List.mem_append.mp hx with hx | hx
 ·exact r x hx
 ·rw [List.mem_singleton.mp hx];exact hg
structure RIx (K:PySem.W.Frag) (n m:Nat) (c kd:Int) (j:Nat) (ln lr lp:Addr) (H0:Hp) (σ:St) (H:Hp):Prop where
 ex:∃ (b:V) (lg:Addr) (p gs:List Int),σ=[some (.int n),some (.int c),some (.ref ln),some (.int m),some (.int kd),some (.ref lr),some (.int j),some (.ref lp),some b,some (.ref lg)]∧Same H0 H∧Dr K H (D.its p) b∧IsP n p ∧
  H lg=some (.lst (gs.map V.int))∧gs.length=n∧∀ g∈gs,0≤g∧g < (m:Int)
structure RF (n m j:Nat) (ps:List Int) (lp:Addr) (H0:Hp):Prop where
 n2:2≤n
 n5:n≤5
 jm:j < m
 m8:m≤8
 lp:H0 lp=some (.lst (ps.map V.int))
 len:ps.length=6
 nn:∀ p∈ps,0≤p∧p < 1009
def tRI (K:PySem.W.Frag):TS:=fun D σ H=>∃ (n m:Nat) (c kd:Int) (j:Nat) (ln lr lp:Addr) (ps:List Int) (H0:Hp),RF n m j ps lp H0∧RIx K n m c kd j ln lr lp H0 σ H∧∀ σ' H',RIx K n m c kd j ln lr lp H0 σ' H'→D.nx σ' H'
def PreRI (K:PySem.W.Frag) (σ:St) (H:Hp):Prop:=∃ (n m:Nat) (c kd:Int) (j:Nat) (ln lr lp:Addr) (ps:List Int) (H0:Hp),RF n m j ps lp H0∧RIx K n m c kd j ln lr lp H0 σ H
def GR (n m:Nat) (rs:List Row):Prop:=∀ r∈rs,IsP n r.1∧r.2.length=n∧∀ g∈r.2,0≤g∧g < (m:Int)
theorem GR.snoc {n m:Nat} {rs:List Row} {r:Row} (h:GR n m rs) (hr:IsP n r.1∧r.2.length=n∧∀ g∈r.2,0≤g∧g < (m:Int)):GR n m (rs++[r]):=fun x hx=>by
 rcases List.mem_append.mp hx with hx | hx
 ·exact h x hx
 ·rw [List.mem_singleton.mp hx];exact hr
theorem GR.good {n m:Nat} {rs:List Row} (h:GR n m rs) (hl:rs.length=m) (h1:1≤m) (h4:m≤4000):GoodM n rs:=by
 subst hl
 exact ⟨h4,h1,fun r hr=>(h r hr).1,fun r hr=>(h r hr).2.1,fun r hr=>(h r hr).2.2⟩
theorem cut6 {ns:List Int} {i:Nat} (h:Nums 64 ns) (hi:i < 8):∃ ps:List Int,cutV (ns.map V.int) (some (2+6*(i:Int))) (some (8+6*(i:Int)))=ps.map V.int∧ps.length=6∧∀ p∈ps,0≤p∧p < 1009:=by
 have hl:=h.1
 refine ⟨(ns.drop (2+6*i)).take 6,?_,by rw [List.length_take,List.length_drop];omega,fun p hp=>h.2 p (List.mem_of_mem_drop (List.mem_of_mem_take hp))⟩
 have e1:(2+6*(i:Int))=((2+6*i:Nat):Int):=by omega
 have e2:(8+6*(i:Int))=((8+6*i:Nat):Int):=by omega
 unfold cutV
 rw [e1,e2,HT.sIx_nat,HT.sIx_nat,List.length_map,hl,Nat.min_eq_left (by omega),Nat.min_eq_left (by omega),show 8+6*i - (2+6*i)=6 by omega,List.map_take,List.map_drop]
theorem nat_of {x:Int} (h:0≤x):∃ m:Nat,x=(m:Int):=⟨x.toNat,by omega⟩
theorem flat1 (n:Nat) (j:Int):(List.replicate n [V.int j]).flatten=(List.replicate n j).map V.int:=by
 induction n with
 | zero=>rfl
 | succ n ih=>rw [List.replicate_succ,List.flatten_cons,ih,List.replicate_succ];rfl
theorem isP_iota (n:Nat):IsP n (iota n):=List.Perm.refl _
end Gu

set_option Elab.async false
set_option linter.all false
set_option maxRecDepth 100000
set_option maxHeartbeats 4000000
namespace Gu
open PySem L2
theorem inl_inj (x y:Int) (e:(Sum.inl x:Key)=Sum.inl y):x=y:=Sum.inl.inj e
theorem nd_take {o:List Int} (h:o.Nodup) {i:Nat} {r:Int} (e:o[i]?=some r):r∉o.take i:=fun z=>by
 have h':(o.take i++o.drop i).Nodup:=by rw [List.take_append_drop];exact h
 have hr:r∈o.drop i:=List.mem_of_getElem? (i:=0) (by rw [List.getElem?_drop];exact e)
 exact (List.nodup_append.mp h').2.2 r z r hr rfl
/-! ### a dict from rows to data -/
def mk (o:List Int) (vs:List V):List (Key × V):=(o.zip vs).map fun p=>(Sum.inl p.1,p.2)
def FK (f:Int→D):Prop:=∀ r,D.key (f r)∧D.dep (f r)≤3
theorem FK.keyL {f:Int→D} (h:FK f):∀ o:List Int,D.keyL (o.map f)
 | []=>by simp only [List.map_nil,D.keyL]
 | r::o=>by simp only [List.map_cons,D.keyL];exact ⟨(h r).1,FK.keyL h o⟩
theorem FK.depL {f:Int→D} (h:FK f):∀ o:List Int,D.depL (o.map f)≤3
 | []=>by simp only [List.map_nil,D.depL];omega
 | r::o=>by
  simp only [List.map_cons,D.depL]
  have:=(h r).2
  have:=FK.depL h o
  omega
theorem FK.its (rows:List Row):FK fun r=>D.its (row rows r).1:=fun r=>⟨its_key _,by rw [its_dep];decide⟩
theorem FK.int (k:Int→Int):FK fun r=>D.int (k r):=fun r=>⟨by simp only [D.key],by simp only [D.dep];decide⟩
def keyOf (rows:List Row) (f:Int→D) (r:Int):D:=.tup [f r,.tup ((row rows r).2.map f)]
theorem FK.key {rows:List Row} {f:Int→D} (h:FK f) (r:Int):D.key (keyOf rows f r)∧D.dep (keyOf rows f r)≤8∧∃ es,keyOf rows f r=.tup es:=by
 refine ⟨?_,?_,_,rfl⟩
 ·unfold keyOf
  simp only [D.key,D.keyL]
  exact ⟨(h r).1,h.keyL _,trivial⟩
 ·unfold keyOf
  simp only [D.dep,D.depL]
  have:=(h r).2
  have:=h.depL (row rows r).2
  omega
def skeys (rows:List Row) (o:List Int) (f:Int→D):List D:=o.map (keyOf rows f)
def sroundI (rows:List Row) (o:List Int) (f:Int→D) (r:Int):Int:=(((uniq (skeys rows o f)).idxOf (keyOf rows f r):Nat):Int)
def sround (rows:List Row) (o:List Int) (f:Int→D):Int→D:=fun r=>.int (sroundI rows o f r)
def scount (rows:List Row) (o:List Int) (f:Int→D):Nat:=(uniq (skeys rows o f)).length
theorem scount_le (rows:List Row) (o:List Int) (f:Int→D):scount rows o f≤o.length:=by
 have:=uniq_le (skeys rows o f)
 unfold scount skeys at *
 rw [List.length_map] at this
 exact this
def sloop (rows:List Row) (o:List Int):Nat→Nat→(Int→D)→(Int→D)
 | 0,_,f=>f
 | m+1,many,f=>if many < scount rows o f then sloop rows o m (scount rows o f) (sround rows o f) else sround rows o f
def smarks (rows:List Row):Int→D:=sloop rows (order rows) (rows.length+2) 0 fun r=>D.its (row rows r).1
/-! ### the rows in line -/
def hdStep (k:Int→Int) (hs:List Int) (r:Int):List Int:=if k r∈hs.map k then hs else hs++[r]
def heads (k:Int→Int) (o:List Int):List Int:=o.foldl (hdStep k) []
def inLine (rows:List Row) (k:Int→Int) (o:List Int):List Row:=(heads k o).map fun r=>((row rows r).1,(row rows r).2.map fun g=>((((heads k o).map k).idxOf (k g):Nat):Int))
theorem heads_snoc (k:Int→Int) (o:List Int) (r:Int):heads k (o++[r])=hdStep k (heads k o) r:=by
 unfold heads
 rw [List.foldl_append];rfl
theorem heads_has (k:Int→Int) (o:List Int):(∀ r∈o,k r∈(heads k o).map k)∧(∀ r∈heads k o,r∈o)∧(heads k o).length≤o.length:=by
 have:∀ (o hs:List Int),(∀ x∈hs.map k,x∈(o.foldl (hdStep k) hs).map k)∧(∀ r∈o,k r∈(o.foldl (hdStep k) hs).map k)∧(∀ r∈o.foldl (hdStep k) hs,r∈hs∨r∈o)∧(o.foldl (hdStep k) hs).length≤hs.length+o.length:=by
  intro o
  induction o with
  | nil=>intro hs;exact ⟨fun x h=>h,fun r h=>by simp at h,fun r h=>.inl h,by simp⟩
  | cons a o ih =>
   intro hs
   obtain ⟨i1,i2,i3,i4⟩:=ih (hdStep k hs a)
   rw [List.foldl_cons]
   have hsub:∀ x∈hs.map k,x∈(hdStep k hs a).map k:=fun x hx=>by
    unfold hdStep
    split
    ·exact hx
    ·rw [List.map_append];exact List.mem_append_left _ hx
   have ha:k a∈(hdStep k hs a).map k:=by
    unfold hdStep
    split
    ·assumption
    ·simp
   have hlen:(hdStep k hs a).length≤hs.length+1:=by
    unfold hdStep
    split
    ·omega
    ·simp
   refine ⟨fun x hx=>i1 x (hsub x hx),fun r hr=>?_,fun r hr=>?_,by rw [List.length_cons];omega⟩
   ·rcases List.mem_cons.mp hr with rfl | hr
    ·exact i1 _ ha
    ·exact i2 r hr
   ·rcases i3 r hr with h | h
    ·unfold hdStep at h
     split at h
     ·exact .inl h
     ·rcases List.mem_append.mp h with h | h
      ·exact .inl h
      ·exact .inr (by rw [List.mem_singleton.mp h];simp)
    ·exact .inr (List.mem_cons_of_mem _ h)
 obtain ⟨_,h2,h3,h4⟩:=this o []
 refine ⟨h2,fun r hr=>?_,by unfold heads;simpa using h4⟩
 rcases h3 r hr with h | h
 ·simp at h
 ·exact h
theorem heads_hd (k:Int→Int) (a:Int) (o:List Int):∃ t,heads k (a::o)=a::t:=by
 have:∀ (o hs:List Int),∃ t,o.foldl (hdStep k) hs=hs++t:=by
  intro o
  induction o with
  | nil=>intro hs;exact ⟨[],by simp⟩
  | cons a o ih =>
   intro hs
   obtain ⟨t,e⟩:=ih (hdStep k hs a)
   rw [List.foldl_cons,e]
   unfold hdStep
   split
   ·exact ⟨t,rfl⟩
   ·exact ⟨[a]++t,by rw [List.append_assoc]⟩
 unfold heads
 rw [List.foldl_cons]
 have e:hdStep k [] a=[a]:=by unfold hdStep;simp
 rw [e]
 obtain ⟨t,e⟩:=this o [a]
 exact ⟨t,e⟩
def sInt:D→Int
 | .int i=>i
 | _=>0
def kOf (rows:List Row) (r:Int):Int:=sInt (smarks rows r)
theorem sloop_int (rows:List Row) (o:List Int):∀ (m many:Nat) (f:Int→D),∃ k:Int→Int,sloop rows o (m+1) many f=fun r=>D.int (k r)
 | 0,many,f=>by
  unfold sloop
  split
  ·unfold sloop;exact ⟨sroundI rows o f,rfl⟩
  ·exact ⟨sroundI rows o f,rfl⟩
 | m+1,many,f=>by
  unfold sloop
  split
  ·exact sloop_int rows o m _ _
  ·exact ⟨sroundI rows o f,rfl⟩
theorem smarks_int (rows:List Row):smarks rows=fun r=>D.int (kOf rows r):=by
 obtain ⟨k,e⟩:=sloop_int rows (order rows) (rows.length+1) 0 fun r=>D.its (row rows r).1
 have e':smarks rows=fun r=>D.int (k r):=e
 funext r
 unfold kOf
 rw [e']
 rfl
def shr (rows:List Row):List Row:=inLine rows (kOf rows) (order rows)
theorem shr_hd {n:Nat} {rows:List Row} (G:GoodM n rows):∃ r t,shr rows=r::t∧IsP n r.1:=by
 obtain ⟨L,_⟩:=order_line G
 obtain ⟨t,e⟩:=L.hd
 obtain ⟨t',e'⟩:=heads_hd (kOf rows) 0 t
 unfold shr inLine
 rw [e,e',List.map_cons]
 have:=G.some
 exact ⟨_,_,rfl,G.perm (row rows 0) (row_mem (Int.le_refl 0) (show (0:Int) < (rows.length:Int) by omega))⟩
theorem DD.keyed {P:Program} {w:World} {K:PySem.W.Frag} {H H':Hp} {a:Addr} {kvs:List (D × V)} (h:DD P w K H a kvs) (k:TupK H H') (e:H' a=H a):DD P w K H' a kvs:=by
 obtain ⟨xs,e0,r,n,z⟩:=h
 exact ⟨xs,by rw [e];exact e0,r.mono fun _ _ q d=>d.keyed k q,n,z⟩
theorem prs_put_same {κ:Type} [DecidableEq κ]:∀ (n:Nat) (u:List κ) (a:κ),a∈u→u.Nodup→putK (prsF id n u) a (V.int ((n+u.idxOf a:Nat):Int))=prsF id n u:=by
 intro n u a ha hn
 have hv:valV (prsF id n u) a=some (V.int ((n+u.idxOf a:Nat):Int)):=by
  have:=prsF_val (κ:=κ) id (fun _ _ e=>e) n u a
  rw [if_pos ha] at this
  exact this
 unfold putK
 rw [valV_any,hv]
 rw [if_pos (show (some (V.int ((n+u.idxOf a:Nat):Int))).isSome=true from rfl)]
 clear hv
 induction u generalizing n with
 | nil=>rfl
 | cons b u ih =>
  show (if b=a then (b,_) else (b,V.int (n:Int)))::List.map _ (prsF id (n+1) u)=(b,V.int (n:Int))::prsF id (n+1) u
  have hnb:=(List.nodup_cons.mp hn).1
  have hnu:=(List.nodup_cons.mp hn).2
  by_cases e:b=a
  ·subst e
   rw [if_pos rfl]
   have e1:(b::u).idxOf b=0:=by simp
   rw [e1]
   congr 1
   have:∀ (m:Nat) (l:List κ),b∉l→List.map (fun kv:κ × V=>if kv.1=b then (kv.1,V.int ((n+0:Nat):Int)) else kv) (prsF id m l)=prsF id m l:=by
    intro m l
    induction l generalizing m with
    | nil=>intro _;rfl
    | cons c l ih2 =>
     intro hb
     show (if c=b then _ else (c,V.int (m:Int)))::List.map _ (prsF id (m+1) l)=(c,V.int (m:Int))::prsF id (m+1) l
     rw [if_neg (fun z=>hb (by rw [z];simp)),ih2 (m+1) (fun z=>hb (List.mem_cons_of_mem _ z))]
   exact this _ _ hnb
  ·rw [if_neg e]
   have ha':a∈u:=by rcases List.mem_cons.mp ha with z | z;exact absurd z.symm e;exact z
   have e1:(b::u).idxOf a=u.idxOf a+1:=by
    rw [List.idxOf_cons]
    have hb:(b == a)=false:=by simpa using e
    rw [hb];rfl
   rw [e1,show n+(u.idxOf a+1)=(n+1)+u.idxOf a by omega,ih (n+1) ha' hnu]
def spShrunk (K:PySem.W.Frag):Sp:=fun vs H Q _=>∃ (a:Addr) (n:Nat) (rows:List Row),vs=[.ref a,.int 0]∧RowsAt K H a rows∧GoodM n rows∧n≤60∧Gives K H Q (D.tup (rowsD (shr rows)))
end Gu

set_option Elab.async false
set_option linter.all false
set_option maxRecDepth 100000
set_option maxHeartbeats 4000000
namespace Gu
open PySem L2
def spGuise (K:PySem.W.Frag):Sp:=fun vs H Q _=>∃ (n:Nat) (c:Int),vs=[.int n,.int c]∧2≤n∧n≤5∧∀ (v:V) (H':Hp) (rows:List Row),Same H H'→GoodM n rows→rows.length≤8→Dr K H' (D.tup (rowsD (shr rows))) v→Q v H'
end Gu

set_option Elab.async false
set_option linter.all false
set_option maxRecDepth 100000
set_option maxHeartbeats 4000000
namespace Gu
open PySem L2
/-! ### how many are unlike -/
section
variable {α β:Type} [DecidableEq α] [DecidableEq β]
theorem uniq_snoc (xs:List α) (x:α):uniq (xs++[x])=addN (uniq xs) x:=addAll_snoc [] xs x
theorem mem_uniq {xs:List α} {x:α}:x∈uniq xs↔x∈xs:=by
 unfold uniq
 rw [addAll_mem]
 simp
theorem uniq_nd (xs:List α):(uniq xs).Nodup:=addAll_nodup xs [] List.nodup_nil
theorem uniq_app (xs ys:List α):uniq (xs++ys)=addAll (uniq xs) ys:=by
 unfold uniq addAll
 rw [List.foldl_append]
theorem addAll_old:∀ {gs o:List α},(∀ g∈gs,g∈o)→addAll o gs=o
 | [],o,_=>rfl
 | g::gs,o,h=>by
  show addAll (addN o g) gs=o
  rw [addN_mem (h g (by simp))]
  exact addAll_old fun x hx=>h x (List.mem_cons_of_mem _ hx)
theorem addAll_fresh:∀ {gs o:List α},(o++gs).Nodup→addAll o gs=o++gs
 | [],o,_=>by simp [addAll]
 | g::gs,o,h=>by
  show addAll (addN o g) gs=_
  have hg:g∉o:=fun z=>(List.nodup_append.mp h).2.2 g z g (by simp) rfl
  rw [addN_new hg,addAll_fresh (by rw [List.append_assoc];exact h),List.append_assoc]
  rfl
theorem uniq_self {l:List α} (h:l.Nodup):uniq l=l:=by
 have:=addAll_fresh (o:=[]) (gs:=l) (by simpa using h)
 rw [List.nil_append] at this
 exact this
theorem count_rev (f:Int→α) (f':Int→β):∀ l:List Int,(∀ x∈l.reverse,∀ y∈l.reverse,f' x=f' y→f x=f y) →
  (uniq (l.reverse.map f)).length≤(uniq (l.reverse.map f')).length∧((uniq (l.reverse.map f')).length≤(uniq (l.reverse.map f)).length→∀ x∈l.reverse,∀ y∈l.reverse,f x=f y→f' x=f' y)
 | [],_=>⟨Nat.le_refl _,fun _ x hx=>by simp at hx⟩
 | z::l,h=>by
  rw [List.reverse_cons] at h ⊢
  obtain ⟨ih1,ih2⟩:=count_rev f f' l fun x hx y hy=>h x (List.mem_append_left _ hx) y (List.mem_append_left _ hy)
  have hz:z∈l.reverse++[z]:=by simp
  have hL:∀ x,x∈l.reverse→x∈l.reverse++[z]:=fun x hx=>List.mem_append_left _ hx
  rw [List.map_append,List.map_append,show List.map f [z]=[f z] from rfl,show List.map f' [z]=[f' z] from rfl,uniq_snoc,uniq_snoc]
  generalize l.reverse=o at *
  by_cases h1:f' z∈uniq (o.map f')
  ·obtain ⟨z',hz',ez⟩:=List.mem_map.mp (mem_uniq.mp h1)
   have ez2:f z'=f z:=h z' (hL _ hz') z hz ez
   have h2:f z∈uniq (o.map f):=mem_uniq.mpr (List.mem_map.mpr ⟨z',hz',ez2⟩)
   rw [addN_mem h1,addN_mem h2]
   refine ⟨ih1,fun hc x hx y hy e=>?_⟩
   have red:∀ x∈o++[z],∃ x'∈o,f x'=f x∧f' x'=f' x:=fun x hx=>by
    rcases List.mem_append.mp hx with hx | hx
    ·exact ⟨x,hx,rfl,rfl⟩
    ·rw [List.mem_singleton.mp hx];exact ⟨z',hz',ez2,ez⟩
   obtain ⟨x',hx',e1,e2⟩:=red x hx
   obtain ⟨y',hy',e3,e4⟩:=red y hy
   rw [←e2,←e4]
   exact ih2 hc x' hx' y' hy' (by rw [e1,e3,e])
  ·rw [addN_new h1]
   by_cases h2:f z∈uniq (o.map f)
   ·rw [addN_mem h2,List.length_append]
    refine ⟨by simp;omega,fun hc=>?_⟩
    simp at hc
    omega
   ·rw [addN_new h2,List.length_append,List.length_append]
    refine ⟨by simp;omega,fun hc x hx y hy e=>?_⟩
    have hc':(uniq (o.map f')).length≤(uniq (o.map f)).length:=by simp at hc;omega
    have no:∀ x∈o,f x≠f z:=fun x hx e=>h2 (mem_uniq.mpr (List.mem_map.mpr ⟨x,hx,e⟩))
    rcases List.mem_append.mp hx with hx | hx
    ·rcases List.mem_append.mp hy with hy | hy
     ·exact ih2 hc' x hx y hy e
     ·rw [List.mem_singleton.mp hy] at e
      exact absurd e (no x hx)
    ·rcases List.mem_append.mp hy with hy | hy
     ·rw [List.mem_singleton.mp hx] at e
      exact absurd e.symm (no y hy)
     ·rw [List.mem_singleton.mp hx,List.mem_singleton.mp hy]
theorem count_of (f:Int→α) (f':Int→β) (o:List Int) (h:∀ x∈o,∀ y∈o,f' x=f' y→f x=f y) :
  (uniq (o.map f)).length≤(uniq (o.map f')).length∧((uniq (o.map f')).length≤(uniq (o.map f)).length→∀ x∈o,∀ y∈o,f x=f y→f' x=f' y):=by
 have:=count_rev f f' o.reverse (by rw [List.reverse_reverse];exact h)
 rwa [List.reverse_reverse] at this
def nk (o:List Int) (key:Int→α) (x:Int):Int:=(((uniq (o.map key)).idxOf (key x):Nat):Int)
theorem idx_inj {l:List α} {a b:α} (ha:a∈l) (hb:b∈l) (e:l.idxOf a=l.idxOf b):a=b:=by
 have h1:=List.getElem_idxOf (List.idxOf_lt_length_of_mem ha)
 have h2:=List.getElem_idxOf (List.idxOf_lt_length_of_mem hb)
 rw [←h1,←h2]
 congr 1
theorem nk_eq {o:List Int} {key:Int→α} {x y:Int} (hx:x∈o) (hy:y∈o):nk o key x=nk o key y↔key x=key y:=by
 unfold nk
 constructor
 ·intro e
  exact idx_inj (mem_uniq.mpr (List.mem_map.mpr ⟨x,hx,rfl⟩)) (mem_uniq.mpr (List.mem_map.mpr ⟨y,hy,rfl⟩)) (by omega)
 ·intro e;rw [e]
theorem nk_count (o:List Int) (key:Int→α):(uniq (o.map (nk o key))).length=(uniq (o.map key)).length:=by
 have h1:=(count_of (nk o key) key o fun x hx y hy e=>(nk_eq hx hy).mpr e).1
 have h2:=(count_of key (nk o key) o fun x hx y hy e=>(nk_eq hx hy).mp e).1
 omega
theorem addAll_mapOn (f:α→β):∀ (gs o:List α),(∀ x∈o++gs,∀ y∈o++gs,f x=f y→x=y)→addAll (o.map f) (gs.map f)=(addAll o gs).map f
 | [],o,_=>rfl
 | g::gs,o,hf=>by
  have h1:addN (o.map f) (f g)=(addN o g).map f:=by
   by_cases h:g∈o
   ·rw [addN_mem h,addN_mem (List.mem_map.mpr ⟨g,h,rfl⟩)]
   ·have:f g∉o.map f:=fun z=>by
     obtain ⟨x,hx,e⟩:=List.mem_map.mp z
     exact h (hf x (List.mem_append_left _ hx) g (by simp) e ▸ hx)
    rw [addN_new h,addN_new this,List.map_append];rfl
  show addAll (addN (o.map f) (f g)) (gs.map f)=(addAll (addN o g) gs).map f
  rw [h1]
  refine addAll_mapOn f gs (addN o g) fun x hx y hy=>hf x ?_ y ?_
  ·rcases List.mem_append.mp hx with hx | hx
   ·rcases addN_mem_iff.mp hx with hx | hx
    ·exact List.mem_append_left _ hx
    ·rw [hx];simp
   ·exact List.mem_append_right _ (List.mem_cons_of_mem _ hx)
  ·rcases List.mem_append.mp hy with hy | hy
   ·rcases addN_mem_iff.mp hy with hy | hy
    ·exact List.mem_append_left _ hy
    ·rw [hy];simp
   ·exact List.mem_append_right _ (List.mem_cons_of_mem _ hy)
theorem idx_self {l:List α} (h:l.Nodup):l.map (fun x=>((l.idxOf x:Nat):Int))=iota l.length:=by
 refine List.ext_getElem (by rw [List.length_map,iota_len]) fun i h1 h2=>?_
 rw [List.length_map] at h1
 rw [List.getElem_map,h.idxOf_getElem i h1]
 have:=iota_get h1
 rw [List.getElem?_eq_getElem h2] at this
 exact (Option.some.inj this).symm
theorem nk_uniq (o:List Int) (key:Int→α):uniq (o.map (nk o key))=iota (uniq (o.map key)).length:=by
 have e:o.map (nk o key)=(o.map key).map (fun v=>(((uniq (o.map key)).idxOf v:Nat):Int)):=by
  rw [List.map_map];rfl
 rw [e]
 have:=addAll_mapOn (fun v=>(((uniq (o.map key)).idxOf v:Nat):Int)) (o.map key) [] fun x hx y hy q=>by
  rw [List.nil_append] at hx hy
  exact idx_inj (mem_uniq.mpr hx) (mem_uniq.mpr hy) (Int.ofNat.inj q)
 rw [List.map_nil] at this
 show addAll [] _=_
 rw [this]
 exact idx_self (uniq_nd (o.map key))
end
/-! ### what a row does -/
def run (M:List Row):Int→List Nat→Int
 | x,[]=>x
 | x,i::w=>run M ((row M x).2.getD i 0) w
def beh (M:List Row) (x:Int) (w:List Nat):List Int:=(row M (run M x w)).1
structure Cl (n:Nat) (M:List Row) (o:List Int):Prop where
 zero:0∈o
 cl:∀ r∈o,∀ g∈(row M r).2,g∈o
 len:∀ r∈o,(row M r).2.length=n
theorem Cl.go {n:Nat} {M:List Row} {o:List Int} (C:Cl n M o) {x:Int} (hx:x∈o) (i:Nat):(row M x).2.getD i 0∈o:=by
 by_cases h:i < (row M x).2.length
 ·rw [List.getD_eq_getElem?_getD,List.getElem?_eq_getElem h]
  exact C.cl x hx _ (List.getElem_mem h)
 ·rw [List.getD_eq_getElem?_getD,List.getElem?_eq_none (by omega)]
  exact C.zero
theorem order_cl {n:Nat} {rows:List Row} (G:GoodM n rows):Cl n rows (order rows):=by
 obtain ⟨L,cl⟩:=order_line G
 obtain ⟨t,e⟩:=L.hd
 exact ⟨by rw [e];simp,cl,fun r hr=>G.len _ (row_mem (L.rg r hr).1 (L.rg r hr).2)⟩
def Right {α:Type} (M:List Row) (o:List Int) (f:Int→α):Prop:=∀ x∈o,∀ y∈o,f x=f y↔beh M x=beh M y
structure Fair {α:Type} (M:List Row) (o:List Int) (f:Int→α):Prop where
 all:∀ x∈o,∀ y∈o,beh M x=beh M y→f x=f y
 fst:∀ x∈o,∀ y∈o,f x=f y→(row M x).1=(row M y).1
def Finer {α β:Type} (M:List Row) (o:List Int) (f:Int→α) (f':Int→β):Prop:=∀ x∈o,∀ y∈o,f' x=f' y↔(f x=f y∧(row M x).2.map f=(row M y).2.map f)
theorem Fair.next {α β:Type} {n:Nat} {M:List Row} {o:List Int} {f:Int→α} {f':Int→β} (C:Cl n M o) (F:Fair M o f) (S:Finer M o f f'):Fair M o f':=by
 refine ⟨fun x hx y hy e=>(S x hx y hy).mpr ⟨F.all x hx y hy e,?_⟩,fun x hx y hy e=>F.fst x hx y hy ((S x hx y hy).mp e).1⟩
 refine List.ext_getElem (by rw [List.length_map,List.length_map,C.len x hx,C.len y hy]) fun i h1 h2=>?_
 rw [List.length_map] at h1 h2
 rw [List.getElem_map,List.getElem_map]
 have a1:=C.go hx i
 have a2:=C.go hy i
 have b1:(row M x).2.getD i 0=(row M x).2[i]:=by rw [List.getD_eq_getElem?_getD,List.getElem?_eq_getElem h1];rfl
 have b2:(row M y).2.getD i 0=(row M y).2[i]:=by rw [List.getD_eq_getElem?_getD,List.getElem?_eq_getElem h2];rfl
 rw [←b1,←b2]
 exact F.all _ a1 _ a2 (funext fun w=>congrFun e (i::w))
theorem Fair.right {α β:Type} {n:Nat} {M:List Row} {o:List Int} {f:Int→α} {f':Int→β} (C:Cl n M o) (F:Fair M o f) (S:Finer M o f f') (hk:∀ x∈o,∀ y∈o,f x=f y→f' x=f' y):Right M o f':=by
 have key:∀ (w:List Nat) (x y:Int),x∈o→y∈o→f x=f y→beh M x w=beh M y w:=by
  intro w
  induction w with
  | nil=>intro x y hx hy e;exact F.fst x hx y hy e
  | cons i w ih =>
   intro x y hx hy e
   refine ih _ _ (C.go hx i) (C.go hy i) ?_
   have h:=((S x hx y hy).mp (hk x hx y hy e)).2
   have h':=congrArg (fun l=>l[i]?) h
   simp only [List.getElem?_map] at h'
   rw [List.getD_eq_getElem?_getD,List.getD_eq_getElem?_getD]
   cases e1:(row M x).2[i]? with
   | none =>
    rw [e1] at h'
    cases e2:(row M y).2[i]? with
    | none=>rfl
    | some b=>rw [e2] at h';cases h'
   | some a =>
    rw [e1] at h'
    cases e2:(row M y).2[i]? with
    | none=>rw [e2] at h';cases h'
    | some b=>rw [e2] at h';exact Option.some.inj h'
 intro x hx y hy
 refine ⟨fun e=>funext fun w=>key w x y hx hy ((S x hx y hy).mp e).1,fun e=>(F.next C S).all x hx y hy e⟩
end Gu

set_option Elab.async false
set_option linter.all false
set_option maxRecDepth 100000
set_option maxHeartbeats 4000000
namespace Gu
open PySem L2
/-! ### the law's marks are right -/
theorem sround_nk (rows:List Row) (o:List Int) (f:Int→D) (r:Int):sround rows o f r=D.int (nk o (keyOf rows f) r):=rfl
theorem keyOf_eq {rows:List Row} {f:Int→D} {x y:Int}:keyOf rows f x=keyOf rows f y↔(f x=f y∧(row rows x).2.map f=(row rows y).2.map f):=by
 unfold keyOf
 constructor
 ·intro e
  injection e with e
  injection e with e1 e2
  injection e2 with e2 _
  injection e2 with e2
  exact ⟨e1,e2⟩
 ·rintro ⟨e1,e2⟩
  rw [e1,e2]
theorem sround_finer (rows:List Row) (o:List Int) (f:Int→D):Finer rows o f (sround rows o f):=fun x hx y hy=>by
 rw [sround_nk,sround_nk]
 constructor
 ·intro e
  injection e with e
  exact keyOf_eq.mp ((nk_eq hx hy).mp e)
 ·intro e
  rw [(nk_eq hx hy).mpr (keyOf_eq.mpr e)]
theorem scount_is (rows:List Row) (o:List Int) (f:Int→D):scount rows o f=(uniq (o.map (sround rows o f))).length:=by
 have h1:scount rows o f=(uniq (o.map (keyOf rows f))).length:=rfl
 have h2:=(count_of (sround rows o f) (keyOf rows f) o fun x hx y hy e=>by rw [sround_nk,sround_nk,(nk_eq hx hy).mpr e]).1
 have h3:=(count_of (keyOf rows f) (sround rows o f) o fun x hx y hy e=>by
  rw [sround_nk,sround_nk] at e
  injection e with e
  exact (nk_eq hx hy).mp e).1
 omega
theorem sloop_right {n:Nat} {rows:List Row} {o:List Int} (C:Cl n rows o):∀ (m many:Nat) (f:Int→D),Fair rows o f→(many=0∨many=(uniq (o.map f)).length)→many≤o.length→o.length+1≤m+many→Right rows o (sloop rows o m many f)
 | 0,many,f,F,hm,hl,hf=>by omega
 | m+1,many,f,F,hm,hl,hf=>by
  unfold sloop
  have S:=sround_finer rows o f
  by_cases hc:many < scount rows o f
  ·rw [if_pos hc]
   refine sloop_right C m _ _ (F.next C S) (.inr (scount_is rows o f)) (scount_le rows o f) (by omega)
  ·rw [if_neg hc]
   have h1:1≤scount rows o f:=by
    have:keyOf rows f 0∈uniq (skeys rows o f):=mem_uniq.mpr (List.mem_map.mpr ⟨0,C.zero,rfl⟩)
    exact List.length_pos_of_mem this
   have h2:many=(uniq (o.map f)).length:=by rcases hm with h | h;omega;exact h
   have h3:=scount_is rows o f
   refine F.right C S ((count_of f (sround rows o f) o fun x hx y hy e=>((S x hx y hy).mp e).1).2 (by omega))
theorem fair0 (rows:List Row) (o:List Int):Fair rows o fun r=>D.its (row rows r).1 :=
 ⟨fun x hx y hy e=>by
  have:=congrFun e []
  show D.its _=D.its _
  rw [show (row rows x).1=(row rows y).1 from this],fun x hx y hy e=>its_inj e⟩
theorem kOf_right {n:Nat} {rows:List Row} (G:GoodM n rows):Right rows (order rows) (kOf rows):=by
 have hl:=(order_line G).1.len
 have h:=sloop_right (order_cl G) (rows.length+2) 0 _ (fair0 rows (order rows)) (.inl rfl) (by omega) (by omega)
 intro x hx y hy
 have:=h x hx y hy
 have e:sloop rows (order rows) (rows.length+2) 0 (fun r=>D.its (row rows r).1)=fun r=>D.int (kOf rows r):=smarks_int rows
 rw [e] at this
 rw [←this]
 exact ⟨fun q=>by show D.int _=D.int _;rw [q],fun q=>D.int.inj q⟩
/-! ### the program's kinds are right -/
def kf (ks:List Int) (x:Int):Int:=ks.getD x.toNat 0
theorem kf_numb {α:Type} [DecidableEq α] {L:Nat} {key:Int→α} {x:Int} (hx:x∈iota L):kf (numb ((iota L).map key)) x=nk (iota L) key x:=by
 have hx':=mem_iota.mp hx
 unfold kf numb nk
 have hl:x.toNat < L:=by omega
 rw [List.getD_eq_getElem?_getD,List.getElem?_map,List.getElem?_map,iota_get hl]
 have:((x.toNat:Nat):Int)=x:=by omega
 simp only [Option.map_some,Option.getD_some,this]
theorem rows_iota (fs:List Row) (g:Row→α):fs.map g=(iota fs.length).map fun x=>g (row fs x):=by
 refine List.ext_getElem? fun i=>?_
 rw [List.getElem?_map,List.getElem?_map]
 by_cases h:i < fs.length
 ·rw [iota_get h,List.getElem?_eq_getElem h]
  show some (g fs[i])=some (g (row fs (i:Int)))
  congr 2
  unfold row
  have:((i:Nat):Int).toNat=i:=by omega
  rw [this,List.getD_eq_getElem?_getD,List.getElem?_eq_getElem h];rfl
 ·rw [List.getElem?_eq_none (by omega),List.getElem?_eq_none (by rw [iota_len];omega)]
  rfl
def pkey (fs:List Row) (ks:List Int) (x:Int):Int × List Int:=(kf ks x,(row fs x).2.map (kf ks))
theorem stepK_iota {fs:List Row} {ks:List Int} (h:ks.length=fs.length):stepK ks fs=(iota fs.length).map (pkey fs ks):=by
 unfold stepK
 refine List.ext_getElem? fun i=>?_
 rw [List.getElem?_map,List.getElem?_map]
 by_cases hi:i < fs.length
 ·have e1:(ks.zip fs)[i]?=some (ks[i]'(by omega),fs[i]):=List.getElem?_zip_eq_some.mpr ⟨List.getElem?_eq_getElem (by omega),List.getElem?_eq_getElem hi⟩
  rw [iota_get hi,e1]
  simp only [Option.map_some]
  congr 1
  unfold pkey kf row
  have:((i:Nat):Int).toNat=i:=by omega
  rw [this,List.getD_eq_getElem?_getD,List.getElem?_eq_getElem (by omega:i < ks.length),List.getD_eq_getElem?_getD,List.getElem?_eq_getElem hi]
  rfl
 ·rw [List.getElem?_eq_none (by rw [List.length_zip];omega),List.getElem?_eq_none (by rw [iota_len];omega)]
  rfl
theorem cnt_numb {α:Type} [DecidableEq α] {xs:List α} (h:xs≠[]):cnt (numb xs)=((uniq xs).length:Int):=by
 have hne:numb xs≠[]:=fun z=>h (by
  have:=numb_len xs
  rw [z] at this
  exact List.eq_nil_of_length_eq_zero this.symm)
 obtain ⟨h1,h2⟩:=cnt_max hne fun k hk=>(numb_rg hk).1
 have h3:=(numb_rg h1).2
 have hpos:0 < (uniq xs).length:=by
  cases xs with
  | nil=>exact absurd rfl h
  | cons a r=>exact List.length_pos_of_mem (mem_uniq.mpr (show a∈a::r by simp))
 have hm:(uniq xs)[(uniq xs).length - 1]'(by omega)∈xs:=mem_uniq.mp (List.getElem_mem _)
 have h4:(((uniq xs).length - 1:Nat):Int)∈numb xs:=by
  unfold numb
  refine List.mem_map.mpr ⟨_,hm,?_⟩
  rw [(uniq_nd xs).idxOf_getElem]
 have:=h2 _ h4
 omega
theorem iota_ne {L:Nat} {α:Type} {g:Int→α} (h:1≤L):(iota L).map g≠[]:=fun z=>by
 have:=congrArg List.length z
 rw [List.length_map,iota_len] at this
 simp at this
 omega
theorem kf_uniq {α:Type} [DecidableEq α] {L:Nat} {key:Int→α}:(uniq ((iota L).map (kf (numb ((iota L).map key))))).length=(uniq ((iota L).map key)).length:=by
 rw [←nk_count (iota L) key]
 congr 2
 exact List.map_congr_left fun x hx=>kf_numb hx
theorem pkey_finer {fs:List Row} (hgo:∀ x∈iota fs.length,∀ g∈(row fs x).2,g∈iota fs.length) {ks:List Int}:Finer fs (iota fs.length) (kf ks) (kf (numb ((iota fs.length).map (pkey fs ks)))):=fun x hx y hy=>by
 rw [kf_numb hx,kf_numb hy,nk_eq hx hy]
 unfold pkey
 rw [Prod.mk.injEq]
theorem fs_cl {n:Nat} {fs:List Row} (G:GoodF n fs):Cl n fs (iota fs.length):=by
 refine ⟨mem_iota.mpr ⟨by omega,by have:=G.some;omega⟩,fun r hr g hg=>?_,fun r hr=>?_⟩
 ·have h:=mem_iota.mp hr
  exact mem_iota.mpr (G.go _ (row_mem h.1 h.2) g hg)
 ·have h:=mem_iota.mp hr
  exact G.len _ (row_mem h.1 h.2)
theorem kloop_right {n:Nat} {fs:List Row} (G:GoodF n fs):∀ (m:Nat) (c:Int) (ks:List Int),(∃ (α:Type) (_:DecidableEq α) (key:Int→α),ks=numb ((iota fs.length).map key))→Fair fs (iota fs.length) (kf ks) →
  (c=0∨∃ ks0:List Int,Fair fs (iota fs.length) (kf ks0)∧Finer fs (iota fs.length) (kf ks0) (kf ks)∧c=((uniq ((iota fs.length).map (kf ks0))).length:Int))→0≤c→c≤(fs.length:Int)→(fs.length:Int)+1≤m+c →
  Right fs (iota fs.length) (kf (kloop fs m c ks))∧∃ (α:Type) (_:DecidableEq α) (key:Int→α),kloop fs m c ks=numb ((iota fs.length).map key)
 | 0,c,ks,hk,F,hp,h0,h1,h2=>by omega
 | m+1,c,ks,hk,F,hp,h0,h1,h2=>by
  unfold kloop
  have C:=fs_cl G
  obtain ⟨α,ia,key,rfl⟩:=hk
  have hcn:=cnt_numb (iota_ne (g:=key) G.some)
  have hU:(uniq ((iota fs.length).map key)).length≤fs.length:=by
   have:=uniq_le ((iota fs.length).map key)
   rw [List.length_map,iota_len] at this
   exact this
  have hUp:1≤(uniq ((iota fs.length).map key)).length:=List.length_pos_of_mem (mem_uniq.mpr (List.mem_map.mpr ⟨0,C.zero,rfl⟩))
  by_cases hc:c < cnt (numb ((iota fs.length).map key))
  ·rw [if_pos hc,hcn,stepK_iota (by rw [numb_len,List.length_map,iota_len])]
   refine kloop_right G m _ _ ⟨_,_,_,rfl⟩ (F.next C (pkey_finer C.cl)) (.inr ⟨_,F,pkey_finer C.cl,?_⟩) (by omega) (by omega) (by rw [hcn] at hc;omega)
   rw [kf_uniq]
  ·rw [if_neg hc]
   refine ⟨?_,_,_,_,rfl⟩
   rcases hp with hp | ⟨ks0,F0,S0,hc0⟩
   ·rw [hcn] at hc;omega
   ·refine F0.right C S0 ((count_of _ _ _ fun x hx y hy e=>((S0 x hx y hy).mp e).1).2 ?_)
    rw [kf_uniq]
    rw [hcn] at hc
    omega
theorem kinds_right {n:Nat} {fs:List Row} (G:GoodF n fs):Right fs (iota fs.length) (kf (kinds fs))∧∃ (α:Type) (_:DecidableEq α) (key:Int→α),kinds fs=numb ((iota fs.length).map key):=by
 have C:=fs_cl G
 unfold kinds
 refine kloop_right G (fs.length+1) 0 _ ⟨List Int,inferInstance,fun x=>(row fs x).1,by rw [rows_iota fs (·.1)]⟩ ?_ (.inl rfl) (by omega) (by omega) (by omega)
 rw [rows_iota fs (·.1)]
 refine ⟨fun x hx y hy e=>?_,fun x hx y hy e=>?_⟩
 ·rw [kf_numb hx,kf_numb hy,nk_eq hx hy]
  exact congrFun e []
 ·rw [kf_numb hx,kf_numb hy,nk_eq hx hy] at e
  exact e
end Gu

set_option Elab.async false
set_option linter.all false
set_option maxRecDepth 100000
set_option maxHeartbeats 4000000
namespace Gu
open PySem L2
/-! ### the line of a machine,and of one that it is mapped to -/
inductive BF (M:List Row):Nat→List Int→List Int→Prop
 | stop {i:Nat} {o:List Int}:o.length≤i→BF M i o o
 | step {i:Nat} {o res:List Int} {r:Int}:o[i]?=some r→BF M (i+1) (addAll o (row M r).2) res→BF M i o res
theorem BF.det {M:List Row} {i:Nat} {o a b:List Int} (h:BF M i o a) (h':BF M i o b):a=b:=by
 induction h generalizing b with
 | stop hl =>
  cases h' with
  | stop _=>rfl
  | step e _=>rw [List.getElem?_eq_none hl] at e;cases e
 | step e _ ih =>
  cases h' with
  | stop hl=>rw [List.getElem?_eq_none hl] at e;cases e
  | step e' q =>
   rw [e] at e'
   cases e'
   exact ih q
theorem BF.sub {M:List Row} {i:Nat} {o a:List Int} (h:BF M i o a):∃ m,a=o++m:=by
 induction h with
 | stop _=>exact ⟨[],by simp⟩
 | @step i o res r e _ ih =>
  obtain ⟨m,em⟩:=ih
  obtain ⟨m',em'⟩:=addAll_sub (row M r).2 o
  exact ⟨m'++m,by rw [em,em',List.append_assoc]⟩
theorem bf_of {n:Nat} {rows:List Row} (G:GoodM n rows):∀ (f i:Nat) (o:List Int),Line rows o→i≤o.length→rows.length+1≤f+i→BF rows i o (bfs rows f i o)
 | 0,i,o,L,hi,hf=>by
  have:=L.len
  omega
 | f+1,i,o,L,hi,hf=>by
  cases e:o[i]? with
  | none =>
   rw [bfs_stop (List.getElem?_eq_none_iff.mp e)]
   exact .stop (List.getElem?_eq_none_iff.mp e)
  | some r =>
   rw [bfs_step e]
   have hr:r∈o:=List.mem_of_getElem? e
   have hil:i < o.length:=(List.getElem?_eq_some_iff.mp e).1
   obtain ⟨m,em⟩:=addAll_sub (row rows r).2 o
   exact .step e (bf_of G f (i+1) _ (L.add G hr) (by rw [em,List.length_append];omega) (by omega))
theorem order_bf {n:Nat} {rows:List Row} (G:GoodM n rows):BF rows 0 [0] (order rows):=bf_of G (rows.length+1) 0 [0] (line0 G) (by simp) (by omega)
theorem uniq_addAll {α β:Type} [DecidableEq α] [DecidableEq β] (h:α→β):∀ (gs o:List α),uniq ((addAll o gs).map h)=addAll (uniq (o.map h)) (gs.map h)
 | [],o=>rfl
 | g::gs,o=>by
  show uniq ((addAll (addN o g) gs).map h)=addAll (addN (uniq (o.map h)) (h g)) (gs.map h)
  rw [uniq_addAll h gs (addN o g)]
  congr 1
  by_cases hg:g∈o
  ·rw [addN_mem hg,addN_mem (mem_uniq.mpr (List.mem_map.mpr ⟨g,hg,rfl⟩))]
  ·rw [addN_new hg,List.map_append]
   exact uniq_snoc _ _
def Mor (M' M:List Row) (o':List Int) (h:Int→Int):Prop:=∀ x∈o',row M (h x)=((row M' x).1,(row M' x).2.map h)
theorem BF.map {M' M:List Row} {h:Int→Int} {i:Nat} {o res:List Int} (b:BF M' i o res):Mor M' M res h→(∀ j r,j < i→o[j]?=some r→∀ g∈(row M' r).2,g∈o)→i≤o.length →
  BF M (uniq ((o.take i).map h)).length (uniq (o.map h)) (uniq (res.map h)):=by
 induction b with
 | @stop i o hl =>
  intro _ _ _
  rw [List.take_of_length_le hl]
  exact .stop (Nat.le_refl _)
 | @step i o res r e b ih =>
  intro mo pc hi
  obtain ⟨m0,em0⟩:=b.sub
  obtain ⟨m,em⟩:=addAll_sub (row M' r).2 o
  have hil:i < o.length:=(List.getElem?_eq_some_iff.mp e).1
  have hro:r∈o:=List.mem_of_getElem? e
  have hr:=mo r (by rw [em0,em];exact List.mem_append_left _ (List.mem_append_left _ hro))
  have ih':=ih mo (fun j r' hj er g hg=>?_) (by rw [em,List.length_append];omega)
  ·have et:(addAll o (row M' r).2).take (i+1)=o.take i++[r]:=by
    rw [em,List.take_append_of_le_length (by omega),List.take_add_one,e];rfl
   rw [et,List.map_append,show List.map h [r]=[h r] from rfl,uniq_snoc,uniq_addAll] at ih'
   by_cases hm:h r∈uniq ((o.take i).map h)
   ·rw [addN_mem hm,addAll_old] at ih'
    ·exact ih'
    ·intro g hg
     obtain ⟨r',hr',er'⟩:=List.mem_map.mp (mem_uniq.mp hm)
     obtain ⟨j,hj,ej⟩:=List.getElem_of_mem hr'
     rw [List.length_take] at hj
     rw [List.getElem_take] at ej
     have hmo:=mo r' (by rw [em0,em];exact List.mem_append_left _ (List.mem_append_left _ (List.mem_of_mem_take hr')))
     rw [er',hr] at hmo
     have e2:(row M' r).2.map h=(row M' r').2.map h:=congrArg Prod.snd hmo
     rw [e2] at hg
     obtain ⟨g',hg',eg⟩:=List.mem_map.mp hg
     have:=pc j r' (by omega) (by rw [List.getElem?_eq_getElem (by omega),ej]) g' hg'
     exact mem_uniq.mpr (List.mem_map.mpr ⟨g',this,eg⟩)
   ·rw [addN_new hm,List.length_append] at ih'
    refine .step (r:=h r) ?_ ?_
    ·have eo:o=(o.take i++[r])++o.drop (i+1):=by
      have:o.take (i+1)=o.take i++[r]:=by rw [List.take_add_one,e];rfl
      rw [←this,List.take_append_drop]
     have e3:uniq (o.map h)=addAll (uniq ((o.take i).map h)++[h r]) ((o.drop (i+1)).map h):=by
      conv=>lhs;rw [eo]
      rw [List.map_append,uniq_app,List.map_append,show List.map h [r]=[h r] from rfl,uniq_snoc,addN_new hm]
     obtain ⟨m2,em2⟩:=addAll_sub ((o.drop (i+1)).map h) (uniq ((o.take i).map h)++[h r])
     rw [e3,em2,List.append_assoc,List.getElem?_append_right (Nat.le_refl _),Nat.sub_self]
     rfl
    ·rw [hr]
     exact ih'
  ·have hjo:j < o.length:=by omega
   have er':o[j]?=some r':=by rw [em,List.getElem?_append_left hjo] at er;exact er
   by_cases hji:j=i
   ·subst hji
    rw [e] at er'
    cases er'
    exact addAll_mem.mpr (.inr hg)
   ·exact addAll_mem.mpr (.inl (pc j r' (by omega) er' g hg))
theorem order_map {n n':Nat} {M' M:List Row} {h:Int→Int} (G':GoodM n' M') (G:GoodM n M) (h0:h 0=0) (mo:Mor M' M (order M') h):uniq ((order M').map h)=order M:=by
 have b:=(order_bf G').map mo (fun j r hj=>absurd hj (Nat.not_lt_zero _)) (by simp)
 have e:uniq ([(0:Int)].map h)=[0]:=by
  rw [show [(0:Int)].map h=[h 0] from rfl,h0];rfl
 rw [e] at b
 exact b.det (order_bf G)
/-! ### heads -/
theorem heads_uniq (k:Int→Int):∀ l:List Int,(heads k l.reverse).map k=uniq (l.reverse.map k)
 | []=>rfl
 | a::l=>by
  rw [List.reverse_cons,heads_snoc,List.map_append,show List.map k [a]=[k a] from rfl,uniq_snoc,←heads_uniq k l]
  unfold hdStep
  by_cases h:k a∈(heads k l.reverse).map k
  ·rw [if_pos h,addN_mem h]
  ·rw [if_neg h,addN_new h,List.map_append];rfl
theorem heads_map_uniq (k:Int→Int) (o:List Int):(heads k o).map k=uniq (o.map k):=by
 have:=heads_uniq k o.reverse
 rwa [List.reverse_reverse] at this
theorem heads_ker {k k':Int→Int}:∀ l:List Int,(∀ x∈l.reverse,∀ y∈l.reverse,k x=k y↔k' x=k' y)→heads k l.reverse=heads k' l.reverse
 | [],_=>rfl
 | a::l,h=>by
  rw [List.reverse_cons] at h ⊢
  rw [heads_snoc,heads_snoc,heads_ker l fun x hx y hy=>h x (List.mem_append_left _ hx) y (List.mem_append_left _ hy)]
  unfold hdStep
  have hin:=(heads_has k' l.reverse).2.1
  have:k a∈(heads k' l.reverse).map k↔k' a∈(heads k' l.reverse).map k':=by
   constructor
   ·intro hm
    obtain ⟨x,hx,e⟩:=List.mem_map.mp hm
    exact List.mem_map.mpr ⟨x,hx,(h x (List.mem_append_left _ (hin x hx)) a (by simp)).mp e⟩
   ·intro hm
    obtain ⟨x,hx,e⟩:=List.mem_map.mp hm
    exact List.mem_map.mpr ⟨x,hx,(h x (List.mem_append_left _ (hin x hx)) a (by simp)).mpr e⟩
  by_cases hm:k a∈(heads k' l.reverse).map k
  ·rw [if_pos hm,if_pos (this.mp hm)]
  ·rw [if_neg hm,if_neg (fun z=>hm (this.mpr z))]
theorem heads_ker' {k k':Int→Int} {o:List Int} (h:∀ x∈o,∀ y∈o,k x=k y↔k' x=k' y):heads k o=heads k' o:=by
 have:=heads_ker (k:=k) (k':=k') o.reverse (by rw [List.reverse_reverse];exact h)
 rwa [List.reverse_reverse] at this
theorem heads_comp (k h:Int→Int):∀ l:List Int,(heads (fun x=>k (h x)) l.reverse).map h=heads k (uniq (l.reverse.map h))
 | []=>rfl
 | a::l=>by
  rw [List.reverse_cons,heads_snoc,List.map_append,show List.map h [a]=[h a] from rfl,uniq_snoc]
  have ih:=heads_comp k h l
  have e:(heads (fun x=>k (h x)) l.reverse).map (fun x=>k (h x))=(heads k (uniq (l.reverse.map h))).map k:=by
   rw [←ih,List.map_map];rfl
  unfold hdStep
  by_cases hm:h a∈uniq (l.reverse.map h)
  ·have hk:k (h a)∈(heads (fun x=>k (h x)) l.reverse).map (fun x=>k (h x)):=by
    rw [e]
    exact (heads_has k _).1 _ hm
   rw [if_pos hk,addN_mem hm];exact ih
  ·rw [addN_new hm,heads_snoc]
   unfold hdStep
   by_cases hk:k (h a)∈(heads (fun x=>k (h x)) l.reverse).map (fun x=>k (h x))
   ·rw [if_pos hk,if_pos (by rw [←e];exact hk)];exact ih
   ·rw [if_neg hk,if_neg (by rw [←e];exact hk),List.map_append,ih];rfl
theorem heads_comp' (k h:Int→Int) (o:List Int):(heads (fun x=>k (h x)) o).map h=heads k (uniq (o.map h)):=by
 have:=heads_comp k h o.reverse
 rwa [List.reverse_reverse] at this
theorem idx_ker {k k':Int→Int} {x:Int}:∀ {l:List Int},(∀ y∈l,k y=k x↔k' y=k' x)→(l.map k).idxOf (k x)=(l.map k').idxOf (k' x)
 | [],_=>rfl
 | b::l,h=>by
  rw [List.map_cons,List.map_cons,List.idxOf_cons,List.idxOf_cons,idx_ker fun y hy=>h y (List.mem_cons_of_mem _ hy)]
  have:=h b (by simp)
  have e:(k b == k x)=(k' b == k' x):=by
   rw [Bool.eq_iff_iff,beq_iff_eq,beq_iff_eq];exact this
  rw [e]
theorem run_mor {n:Nat} {M' M:List Row} {o':List Int} {h:Int→Int} (C:Cl n M' o') (h0:h 0=0) (mo:Mor M' M o' h):∀ (w:List Nat) (x:Int),x∈o'→h (run M' x w)=run M (h x) w∧run M' x w∈o'
 | [],x,hx=>⟨rfl,hx⟩
 | i::w,x,hx=>by
  have e:(row M (h x)).2.getD i 0=h ((row M' x).2.getD i 0):=by
   rw [mo x hx,List.getD_eq_getElem?_getD,List.getD_eq_getElem?_getD,List.getElem?_map]
   cases (row M' x).2[i]? with
   | none=>exact h0.symm
   | some a=>rfl
  obtain ⟨h1,h2⟩:=run_mor C h0 mo w _ (C.go hx i)
  refine ⟨?_,h2⟩
  show h (run M' ((row M' x).2.getD i 0) w)=run M ((row M (h x)).2.getD i 0) w
  rw [e];exact h1
theorem inLine_mor {n n':Nat} {M' M:List Row} {h k k':Int→Int} (G':GoodM n' M') (G:GoodM n M) (h0:h 0=0) (mo:Mor M' M (order M') h) (R:Right M (order M) k) (R':Right M' (order M') k') :
  inLine M' k' (order M')=inLine M k (order M):=by
 have C':=order_cl G'
 have eo:=order_map G' G h0 mo
 have hin:∀ x∈order M',h x∈order M:=fun x hx=>by rw [←eo];exact mem_uniq.mpr (List.mem_map.mpr ⟨x,hx,rfl⟩)
 have hb:∀ x∈order M',beh M' x=beh M (h x):=fun x hx=>funext fun w=>by
  obtain ⟨h1,h2⟩:=run_mor C' h0 mo w x hx
  show (row M' (run M' x w)).1=(row M (run M (h x) w)).1
  rw [←h1,mo _ h2]
 have ker:∀ x∈order M',∀ y∈order M',k' x=k' y↔k (h x)=k (h y):=fun x hx y hy=>by
  rw [R' x hx y hy,R _ (hin x hx) _ (hin y hy),hb x hx,hb y hy]
 have hh:heads k' (order M')=heads (fun x=>k (h x)) (order M'):=heads_ker' ker
 have hm:(heads (fun x=>k (h x)) (order M')).map h=heads k (order M):=by rw [heads_comp',eo]
 have hsub:∀ r∈heads (fun x=>k (h x)) (order M'),r∈order M':=(heads_has _ _).2.1
 unfold inLine
 rw [hh,←hm,List.map_map]
 refine List.map_congr_left fun r hr=>?_
 have hro:=hsub r hr
 show _=((row M (h r)).1,(row M (h r)).2.map _)
 rw [mo r hro]
 refine Prod.ext rfl ?_
 show List.map _ _=List.map _ (List.map h (row M' r).2)
 rw [List.map_map]
 refine List.map_congr_left fun g hg=>?_
 have hgo:=C'.cl r hro g hg
 show (((List.map k' (heads (fun x=>k (h x)) (order M'))).idxOf (k' g):Nat):Int)=((((heads (fun x=>k (h x)) (order M')).map h).map k).idxOf (k (h g)):Nat)
 rw [List.map_map]
 have:=idx_ker (k:=k') (k':=fun x=>k (h x)) (x:=g) (l:=heads (fun x=>k (h x)) (order M')) fun y hy=>ker y (hsub y hy) g hgo
 rw [this]
 rfl
theorem shr_mor {n n':Nat} {M' M:List Row} {h:Int→Int} (G':GoodM n' M') (G:GoodM n M) (h0:h 0=0) (mo:Mor M' M (order M') h):shr M'=shr M :=
 inLine_mor G' G h0 mo (kOf_right G) (kOf_right G')
/-! ### the program's least machine is the law's -/
theorem GoodF.m {n:Nat} {fs:List Row} (G:GoodF n fs):GoodM n fs:=⟨G.few,G.some,G.perm,G.len,G.go⟩
theorem found_row {n:Nat} {rows:List Row} (G:GoodM n rows) {x:Int} (hx:x∈order rows):row (found rows) ((((order rows).idxOf x:Nat):Int))=((row rows x).1,(row rows x).2.map fun g=>(((order rows).idxOf g:Nat):Int)):=by
 have hl:=List.idxOf_lt_length_of_mem hx
 unfold row found foundOf
 have:((((order rows).idxOf x:Nat):Int)).toNat=(order rows).idxOf x:=by omega
 rw [this,List.getD_eq_getElem?_getD,List.getElem?_map,List.getElem?_eq_getElem hl,List.getElem_idxOf hl]
 rfl
theorem found_len (rows:List Row):(found rows).length=(order rows).length:=by unfold found foundOf;rw [List.length_map]
theorem found_order {n:Nat} {rows:List Row} (G:GoodM n rows):order (found rows)=iota (found rows).length:=by
 obtain ⟨L,cl⟩:=order_line G
 obtain ⟨t,e⟩:=L.hd
 have h0:(((order rows).idxOf 0:Nat):Int)=0:=by rw [e];simp
 have h:=order_map (h:=fun x=>(((order rows).idxOf x:Nat):Int)) G (found_good G).m h0 fun x hx=>found_row G hx
 rw [←h,idx_self L.nd,found_len]
 exact uniq_self (iota_nodup _)
theorem found_mor {n:Nat} {rows:List Row} (G:GoodM n rows):Mor (found rows) rows (order (found rows)) fun i=>(order rows).getD i.toNat 0:=by
 obtain ⟨L,cl⟩:=order_line G
 intro i hi
 rw [found_order G,found_len] at hi
 obtain ⟨i0,i1⟩:=mem_iota.mp hi
 have hl:i.toNat < (order rows).length:=by omega
 have e1:(order rows).getD i.toNat 0=(order rows)[i.toNat]:=by rw [List.getD_eq_getElem?_getD,List.getElem?_eq_getElem hl];rfl
 have hx:(order rows)[i.toNat]∈order rows:=List.getElem_mem hl
 have e2:(((order rows).idxOf (order rows)[i.toNat]:Nat):Int)=i:=by rw [L.nd.idxOf_getElem];omega
 have e3:=found_row G hx
 rw [e2] at e3
 show row rows ((order rows).getD i.toNat 0)=_
 rw [e1,e3]
 refine Prod.ext rfl ?_
 show (row rows (order rows)[i.toNat]).2=List.map _ (List.map _ _)
 rw [List.map_map]
 conv=>lhs;rw [←List.map_id (row rows (order rows)[i.toNat]).2]
 refine List.map_congr_left fun g hg=>?_
 have hg':=cl _ hx g hg
 have hl':=List.idxOf_lt_length_of_mem hg'
 show g=(order rows).getD ((((order rows).idxOf g:Nat):Int)).toNat 0
 have:((((order rows).idxOf g:Nat):Int)).toNat=(order rows).idxOf g:=by omega
 rw [this,List.getD_eq_getElem?_getD,List.getElem?_eq_getElem hl',List.getElem_idxOf hl']
 rfl
theorem iota_take {L i:Nat} (h:i≤L):(iota L).take i=iota i:=by
 refine List.ext_getElem? fun j=>?_
 by_cases hj:j < i
 ·rw [List.getElem?_take_of_lt hj,iota_get (by omega),iota_get hj]
 ·rw [List.getElem?_eq_none (by rw [List.length_take,iota_len];omega),List.getElem?_eq_none (by rw [iota_len];omega)]
theorem iota_app {c:Nat} {u m:List Int} (e:u++m=iota c):u=iota u.length:=by
 have hl:u.length≤c:=by have:=congrArg List.length e;rw [List.length_append,iota_len] at this;omega
 have:=congrArg (List.take u.length) e
 rw [List.take_append_of_le_length (Nat.le_refl _),List.take_length,iota_take hl] at this
 exact this
theorem iota_succ (j:Nat):iota (j+1)=iota j++[(j:Int)]:=by
 unfold iota
 rw [List.range_succ,List.map_append];rfl
theorem least_inLine {fs:List Row} {ks:List Int} (hl:ks.length=fs.length) (hn:∃ (α:Type) (_:DecidableEq α) (key:Int→α),ks=numb ((iota fs.length).map key)) (hgo:∀ r∈fs,∀ g∈r.2,0≤g∧g < (fs.length:Int)) :
  leastOf fs ks=inLine fs (kf ks) (iota fs.length):=by
 obtain ⟨α,ia,key,ek⟩:=hn
 have hU:uniq ((iota fs.length).map (kf ks))=iota (uniq ((iota fs.length).map key)).length:=by
  have e:(iota fs.length).map (kf ks)=(iota fs.length).map (nk (iota fs.length) key):=List.map_congr_left fun x hx=>by rw [ek];exact kf_numb hx
  rw [e]
  exact nk_uniq (iota fs.length) key
 generalize hc:(uniq ((iota fs.length).map key)).length=c at hU
 have hpre:∀ i,i≤fs.length→uniq ((iota i).map (kf ks))=iota (uniq ((iota i).map (kf ks))).length:=fun i hi=>by
  have e1:iota fs.length=iota i++(iota fs.length).drop i:=by
   conv=>lhs;rw [←List.take_append_drop i (iota fs.length)]
   rw [iota_take hi]
  rw [e1,List.map_append,uniq_app] at hU
  obtain ⟨m,em⟩:=addAll_sub (((iota fs.length).drop i).map (kf ks)) (uniq ((iota i).map (kf ks)))
  rw [em] at hU
  exact iota_app hU
 have main:∀ i,i≤fs.length→leastP fs ks i=(heads (kf ks) (iota i)).map fun r=>((row fs r).1,(row fs r).2.map (kf ks)):=by
  intro i
  induction i with
  | zero=>intro _;rfl
  | succ i ih =>
   intro hi
   have ih:=ih (by omega)
   have hif:i < fs.length:=by omega
   have hik:i < ks.length:=by omega
   rw [leastP_step (r:=fs[i]) (k:=ks[i]) (List.getElem?_eq_getElem hif) (List.getElem?_eq_getElem hik),ih,iota_succ,heads_snoc]
   have p1:=hpre i (by omega)
   have p2:=hpre (i+1) hi
   rw [iota_succ,List.map_append,show List.map (kf ks) [(i:Int)]=[kf ks i] from rfl,uniq_snoc] at p2
   have hm:=heads_map_uniq (kf ks) (iota i)
   have hlen:(heads (kf ks) (iota i)).length=(uniq ((iota i).map (kf ks))).length:=by rw [←hm,List.length_map]
   have ek:ks[i]=kf ks (i:Int):=by
    unfold kf
    have:((i:Nat):Int).toNat=i:=by omega
    rw [this,List.getD_eq_getElem?_getD,List.getElem?_eq_getElem hik];rfl
   have er:fs[i]=row fs (i:Int):=by
    unfold row
    have:((i:Nat):Int).toNat=i:=by omega
    rw [this,List.getD_eq_getElem?_getD,List.getElem?_eq_getElem hif];rfl
   unfold lstep hdStep
   rw [hm,List.length_map,hlen]
   by_cases hin:kf ks i∈uniq ((iota i).map (kf ks))
   ·rw [if_pos hin,if_neg]
    show ¬ ks[i]=_
    rw [ek]
    rw [p1] at hin
    have:=mem_iota.mp hin
    omega
   ·rw [if_neg hin,if_pos]
    ·rw [List.map_append,er]
     rfl
    ·show ks[i]=_
     rw [ek]
     rw [addN_new hin,List.length_append] at p2
     have e3:iota ((uniq ((iota i).map (kf ks))).length+[kf ks (i:Int)].length)=iota (uniq ((iota i).map (kf ks))).length++[((uniq ((iota i).map (kf ks))).length:Int)]:=iota_succ _
     rw [e3,←p1] at p2
     have:=List.append_cancel_left p2
     simpa using this
 rw [←leastP_all hl,main fs.length (Nat.le_refl _)]
 unfold inLine
 refine List.map_congr_left fun r hr=>?_
 refine Prod.ext rfl ?_
 refine List.map_congr_left fun g hg=>?_
 have hr':=mem_iota.mp ((heads_has (kf ks) (iota fs.length)).2.1 r hr)
 have hg':=hgo _ (row_mem hr'.1 hr'.2) g hg
 have hin:kf ks g∈uniq ((iota fs.length).map (kf ks)):=mem_uniq.mpr (List.mem_map.mpr ⟨g,mem_iota.mpr hg',rfl⟩)
 rw [heads_map_uniq]
 have hl':=List.idxOf_lt_length_of_mem hin
 have e:=List.getElem_idxOf hl'
 rw [hU] at hin hl' ⊢
 have h1:=mem_iota.mp hin
 have e2:(iota c)[(iota c).idxOf (kf ks g)]'hl'=kf ks g:=List.getElem_idxOf hl'
 have e3:=iota_get (n:=c) (i:=(iota c).idxOf (kf ks g)) (by rw [iota_len] at hl';exact hl')
 rw [List.getElem?_eq_getElem hl',e2] at e3
 exact Option.some.inj e3
theorem least_shr {n:Nat} {rows:List Row} (G:GoodM n rows):least rows=shr rows:=by
 have GF:=found_good G
 obtain ⟨R,N⟩:=kinds_right GF
 obtain ⟨L,cl⟩:=order_line G
 obtain ⟨t,e⟩:=L.hd
 unfold least
 rw [least_inLine (kinds_good GF).len N GF.go]
 have h0:(fun i:Int=>(order rows).getD i.toNat 0) 0=0:=by
  show (order rows).getD (0:Int).toNat 0=0
  rw [e];rfl
 have R':Right (found rows) (order (found rows)) (kf (kinds (found rows))):=by rw [found_order G];exact R
 have:=inLine_mor (h:=fun i=>(order rows).getD i.toNat 0) GF.m G h0 (found_mor G) (kOf_right G) R'
 rw [found_order G] at this
 exact this
end Gu

set_option Elab.async false
set_option linter.all false
set_option maxRecDepth 100000
set_option maxHeartbeats 4000000
namespace L2
open PySem PySem.Spec PyProof.Rows
/-! ### d.setdefault(k,x) -/
section
variable {X:Cx} {pins:List (Addr × Obj)} {σ:St} {H:Hp} {s:Shared} {a:Addr} {kvs:List (Key × V)} {k:Key} {u:Value} {A:Around} {E:Value→Shared→Prop}
end
section
variable {X:Cx} {o e f:Expr} {apos cpos:Pos} {td ty tx:TE}
end
end L2

set_option Elab.async false
set_option linter.all false
set_option maxRecDepth 100000
set_option maxHeartbeats 4000000
namespace HT
open PySem PySem.Spec PyProof.Rows
section
variable {prog:Program} {w:World} {A:Around} {E:Value→Shared→Prop} {s:Shared}
end
end HT
namespace L2
open PySem PySem.Spec PyProof.Rows
section
variable {X:Cx} {e st:Expr} {te ts:TE} {pos p2:Pos}
end
end L2

set_option Elab.async false
set_option linter.all false
set_option maxRecDepth 100000
set_option maxHeartbeats 4000000
namespace L2
open PySem PySem.Spec PyProof.Rows
/-! ### enumerate over a list -/
section
variable {X:Cx} {elts:List Expr} {tk:Nat} {tp:Pos}
end
end L2

set_option Elab.async false
set_option linter.all false
set_option maxRecDepth 100000
set_option maxHeartbeats 4000000
namespace L2
open PySem PySem.Spec PyProof.Rows
section
variable {X:Cx}
end
end L2

set_option Elab.async false
set_option linter.all false
set_option maxRecDepth 100000
set_option maxHeartbeats 4000000
namespace Gu
open PySem L2
/-! ### a machine blown up -/
def tw (T S:List Int) (i:Nat):Int:=T.getD (S.getD i 0).toNat 0
end Gu
namespace Gu
open PySem L2
end Gu
namespace Gu
open PySem L2
def GB (T S gs0:List Int) (H:Hp) (j:Nat) (ys:List V) (H2:Hp):Prop:=∃ gs:List Int,ys=gs.map V.int∧gs.length=j∧(∀ g∈gs,0≤g∧g < (T.length:Int))∧gs.map (fun g=>tw T S g.toNat)=gs0.take j∧Same H H2
end Gu
namespace Gu
open PySem L2
theorem rows_dep:∀ l:List Row,D.depL (rowsD l)≤2
 | []=>by unfold rowsD;simp only [List.map_nil,D.depL];omega
 | r::l=>by
  have h:=rows_dep l
  unfold rowsD at h ⊢
  have h2:D.dep (rowD r)=2:=by
   unfold rowD
   simp only [D.dep,D.depL,D.depL_ints]
   decide
  simp only [List.map_cons,D.depL]
  omega
theorem rows_few:∀ l:List Row,(∀ r∈l,r.1.length≤1000∧r.2.length≤1000)→D.fewL (rowsD l)
 | [],_=>by unfold rowsD;simp only [List.map_nil,D.fewL]
 | r::l,h=>by
  have ih:=rows_few l fun x hx=>h x (List.mem_cons_of_mem _ hx)
  obtain ⟨a,b⟩:=h r (by simp)
  unfold rowsD at ih ⊢
  simp only [List.map_cons,D.fewL]
  refine ⟨?_,ih⟩
  unfold rowD
  simp only [D.few,D.fewL]
  have a:=its_few a
  have b:=its_few b
  simp only [D.few] at a b
  exact ⟨by simp,a,b,trivial⟩
theorem shr_small {n:Nat} {rows:List Row} (G:GoodM n rows) (hn:n≤60):D.dep (D.tup (rowsD (shr rows))) < 4∧D.few (D.tup (rowsD (shr rows))):=by
 obtain ⟨L,cl⟩:=order_line G
 have hl:=L.len
 have h4:=G.few
 have hh:=(heads_has (kOf rows) (order rows)).2
 refine ⟨?_,?_⟩
 ·have:=rows_dep (shr rows)
  simp only [D.dep]
  omega
 ·simp only [D.few]
  refine ⟨?_,rows_few _ fun r hr=>?_⟩
  ·unfold rowsD shr inLine
   rw [List.length_map,List.length_map]
   have:=hh.2
   omega
  ·unfold shr inLine at hr
   obtain ⟨x,hx,rfl⟩:=List.mem_map.mp hr
   have hxo:=L.rg x (hh.1 x hx)
   have hrm:=row_mem hxo.1 hxo.2
   refine ⟨?_,?_⟩
   ·show (row rows x).1.length≤1000
    rw [(G.perm _ hrm).len];omega
   ·show (List.map _ _).length≤1000
    rw [List.length_map,G.len _ hrm];omega
end Gu

set_option Elab.async false
set_option linter.all false
set_option maxRecDepth 100000
set_option maxHeartbeats 4000000
namespace L2
open PySem PySem.Spec PyProof.Rows
/-! ### an exception in flight -/
def Fly (h0:Heap) (H:Hp) (h:Heap) (ea C:Addr):Prop:=h0.get? ea=none∧H ea=none∧∃ a0 oe vs T oT ts,h.get? ea=some oe∧(oe.cls=.ref C∧vs[0]?=some a0)∧oe.data=.fields vs∧vs[1]?=some (.ref T)∧T≠ea∧h0.get? T=none∧H T=none∧h.get? T=some oT∧oT.data=.fields ts∧ts[3]?=some .none
def Fresh (h0:Heap) (H:Hp) (h:Heap) (ea C:Addr):Prop:=h0.get? ea=none∧H ea=none∧∃ a0 oe vs,h.get? ea=some oe∧(oe.cls=.ref C∧vs[0]?=some a0)∧oe.data=.fields vs∧vs[1]?=some .none
theorem funFrames_at {h base:Heap}:∀ {l:List Env},h.FunFrames base l→∀ b∈frs l,∃ o,h.get? b=some o∧∀ vs,o.data≠.fields vs
 | [],_,b,hb=>by simp [frs] at hb
 | env::r,hl,b,hb=>by
  obtain ⟨hk,⟨L,o,hf,hn,ho,hd⟩,hr⟩:=hl
  unfold frs at hb
  rw [List.filterMap_cons,hf] at hb
  rcases List.mem_cons.mp hb with z | z
  ·rw [z];exact ⟨o,ho,hd⟩
  ·exact funFrames_at hr b z
theorem funFrames_base {h base base':Heap}:∀ {l:List Env},h.FunFrames base l→(∀ b∈frs l,base'.get? b=none)→h.FunFrames base' l
 | [],_,_=>trivial
 | env::r,hl,hb=>by
  obtain ⟨hk,⟨L,o,hf,hn,ho,hd⟩,hr⟩:=hl
  have e:frs (env::r)=L::frs r:=by unfold frs;rw [List.filterMap_cons,hf]
  exact ⟨hk,⟨L,o,hf,hb L (by rw [e];simp),ho,hd⟩,funFrames_base hr fun b hb'=>hb b (by rw [e];exact List.mem_cons_of_mem _ hb')⟩
section
variable {P:Program} {w:World}
theorem objThere {H:Hp} {h:Heap} {a:Addr} {o:HO} (x:ObjOk P w H h a o):∃ ob,h.get? a=some ob:=by
 cases o with
 | lst xs=>obtain ⟨_,_,_,_,e⟩:=x;exact ⟨_,e⟩
 | tup xs=>obtain ⟨_,_,_,_,e⟩:=x;exact ⟨_,e⟩
 | dK kvs=>obtain ⟨_,_,_,_,o,_,_,e,_⟩:=x;exact ⟨_,e⟩
 | dT kvs=>obtain ⟨_,_,_,_,o,_,_,e,_⟩:=x;exact ⟨_,e⟩
 | set S n=>obtain ⟨o,_,_,_,e,_⟩:=x;exact ⟨_,e⟩
 | ins C dx fs=>obtain ⟨_,_,_,e,_⟩:=x;exact ⟨_,e⟩
 | own y=>obtain ⟨_,e⟩:=x;exact ⟨_,e⟩
 | xd fs=>obtain ⟨_,⟨_,_,_,e,_⟩,_⟩:=x;exact ⟨_,e⟩
 | rng lo hi=>obtain ⟨_,_,_,e⟩:=x;exact ⟨_,e⟩
 | frz ob u=>obtain ⟨e,_⟩:=x;exact ⟨_,e⟩
 | tbl ps=>exact ⟨_,show h.get? a=some _ from x⟩
 | met f y=>exact ⟨_,show h.get? a=some _ from x⟩
 | ext φ=>obtain ⟨_,⟨_,e⟩,_⟩:=x;exact ⟨_,e⟩
theorem left_ok {fr:List Addr} {H1 H':Hp} {h1 h h':Heap} {env:Env} {outer:List Env} {ea C:Addr} {a0:Value} {base:Heap} {hid:List Addr} (FF:h.FunFrames base (env::outer)) (u:Un fr [] H1 H' h1 h) (hok:HOk P w H' h)
  (hfr:∀ b∈frs (env::outer),H' b=none∧(b∈fr∨h1.get? b=none)) (hfr2:∀ b∈fr,b∈frs (env::outer)) (he1:h1.get? ea=none) (heH:H' ea=none) (hid1:∀ b∈hid,h1.get? b=none∧H' b=none)
  (lf:(PySem.W.hideAll h (ea::(hid++frs (env::outer)))).LeftW (env::outer) ea (.ref C) a0 h h') :
  Un fr [] H1 H' h1 h'∧HOk P w H' h'∧Fly h1 H' h' ea C:=by
 obtain ⟨st,ff,tr,sl⟩:=lf
 have keep:∀ b o,h.get? b=some o→b≠ea→b∉hid→b∉frs (env::outer)→h'.get? b=some o:=fun b o e n1 n2 n3 =>
  st b o (PySem.W.hideAll_get _ e fun z=>by
   rcases List.mem_cons.mp z with z | z
   ·exact n1 z
   ·rcases List.mem_append.mp z with z | z
    ·exact n2 z
    ·exact n3 z)
 have slot:∀ b o,h.get? b=some o→b∈frs (env::outer)→∃ s,h'.get? b=some { o with slots:=s }:=fun b o e hb=>by
  obtain ⟨o',e',hd⟩:=funFrames_at FF b hb
  rw [e] at e'
  cases e'
  exact sl b o e hd
 have nh:∀ b o,h1.get? b=some o→b≠ea∧b∉hid:=fun b o e=>⟨fun z=>(by rw [z,he1] at e;cases e),fun z=>(by rw [(hid1 b z).1] at e;cases e)⟩
 refine ⟨⟨fun b o e n hb hx=>?_,fun b o e n hb hx=>?_,u.free,fun b o e hx=>?_,u.tups,u.frzs,u.tbls⟩,fun a o e=>?_,he1,heH,?_⟩
 ·have e2:=u.keep b o e n hb hx
  refine keep b o e2 (nh b o e).1 (nh b o e).2 fun z=>?_
  rcases (hfr b z).2 with z | z
  ·exact hb z
  ·rw [z] at e;cases e
 ·obtain ⟨s1,e2⟩:=u.slot b o e n hb hx
  obtain ⟨s2,e3⟩:=slot b _ e2 (hfr2 b hb)
  exact ⟨s2,e3⟩
 ·obtain ⟨o',e2⟩:=u.there b o e hx
  by_cases hb:b∈frs (env::outer)
  ·obtain ⟨s2,e3⟩:=slot b _ e2 hb
   exact ⟨_,e3⟩
  ·exact ⟨o',keep b o' e2 (nh b o e).1 (nh b o e).2 hb⟩
 ·refine (hok a o e).stay (fun b v hb q=>?_) (fun _ q=>q) fun _ _ q=>q
  have hbs:∃ ob,H' b=some ob:=by
   rcases hb with z | z
   ·rw [z];exact ⟨_,e⟩
   ·exact ⟨_,z⟩
  obtain ⟨ob,hob⟩:=hbs
  refine keep b v q (fun z=>?_) (fun z=>?_) fun z=>?_
  ·rw [z,heH] at hob;cases hob
  ·rw [(hid1 b z).2] at hob;cases hob
  ·rw [(hfr b z).1] at hob;cases hob
 ·obtain ⟨oe,vs,T,oT,ts,g1,g2,g3,g4,g5,g6,g7,g8,g9⟩:=tr
  have hT:h1.get? T=none∧H' T=none:=by
   cases eT:h.get? T with
   | none =>
    refine ⟨?_,?_⟩
    ·cases q:h1.get? T with
     | none=>rfl
     | some o =>
      obtain ⟨o',e2⟩:=u.there T o q (by simp)
      rw [eT] at e2;cases e2
    ·cases q:H' T with
     | none=>rfl
     | some o =>
      obtain ⟨ob,hob⟩:=objThere (hok T o q)
      rw [eT] at hob;cases hob
   | some oT' =>
    have hm:T∈ea::(hid++frs (env::outer)):=Classical.byContradiction fun nm=>by
     rw [PySem.W.hideAll_get _ eT nm] at g5;cases g5
    rcases List.mem_cons.mp hm with z | z
    ·exact absurd z g6
    ·rcases List.mem_append.mp z with z | z
     ·exact hid1 T z
     ·obtain ⟨o',e',hd⟩:=funFrames_at ff T z
      rw [g7] at e'
      cases e'
      exact absurd g8 (hd ts)
  exact ⟨a0,oe,vs,T,oT,ts,g1,g2,g3,g4,g6,hT.1,hT.2,g7,g8,g9⟩
theorem leave_ok {M:Model} {A:Around} {E:Value→Shared→Prop} {Q:Unit→Shared→Prop} {s:Shared} {fr:List Addr} {H1 H':Hp} {h1:Heap} {env:Env} {outer:List Env} {L ea C:Addr} {base:Heap} (hA:A.frames=some (env::outer)) (hL:env.frame=some L) (FF:s.heap.FunFrames base (env::outer)) (u:Un fr [] H1 H' h1 s.heap) (hok:HOk P w H' s.heap)
  (hfr:∀ b∈frs (env::outer),H' b=none∧(b∈fr∨h1.get? b=none)) (hfr2:∀ b∈fr,b∈frs (env::outer)) (hf:Fresh h1 H' s.heap ea C∨Fly h1 H' s.heap ea C)
  (k:∀ h',Un fr [] H1 H' h1 h'→HOk P w H' h'→Fly h1 H' h' ea C→Q () { s with heap:=h' }):wpAny M A (leaving env (.ref ea)) Q E s:=by
 rcases hf with ⟨he1,heH,a0,oe,vs,g1,⟨g2,g20⟩,g3,g4⟩ | ⟨he1,heH,a0,oe,vs,T,oT,ts,g1,g2,g3,g4,g5,g6,g7,g8,g9,g10⟩
 ·have FF':s.heap.FunFrames (PySem.W.hideAll s.heap (ea::([]++frs (env::outer)))) (env::outer):=funFrames_base FF fun b hb=>PySem.W.hideAll_none _ (by simp [hb])
  refine wpAny_leaving_firstW hA FF' hL g1 (fun b o e=>PySem.W.of_hideAll _ e) (PySem.W.hideAll_none _ (by simp)) g3 g4 g20 fun h' lf=>?_
  rw [g2] at lf
  obtain ⟨a,b,c⟩:=left_ok (hid:=[]) FF u hok hfr hfr2 he1 heH (fun b hb=>by simp at hb) lf
  exact k h' a b c
 ·have FF':s.heap.FunFrames (PySem.W.hideAll s.heap (ea::([T]++frs (env::outer)))) (env::outer):=funFrames_base FF fun b hb=>PySem.W.hideAll_none _ (by simp [hb])
  refine wpAny_leaving_nextW hA FF' hL ⟨oe,vs,T,oT,ts,g1,g2,g3,g4,PySem.W.hideAll_none _ (by simp),g5,g8,g9,g10⟩ (fun b o e=>PySem.W.of_hideAll _ e) (PySem.W.hideAll_none _ (by simp)) fun h' lf=>?_
  obtain ⟨a,b,c⟩:=left_ok (hid:=[T]) FF u hok hfr hfr2 he1 heH (fun b hb=>by rw [List.mem_singleton.mp hb];exact ⟨g6,g7⟩) lf
  exact k h' a b c
def CXx (P:Program) (w:World):CXT:=fun outer H s E e s'=>∃ (ea C:Addr) (H':Hp),e=.ref ea∧s'.os=s.os∧AllBare s'.gens∧Un (frs outer) [] H H' s.heap s'.heap∧HOk P w H' s'.heap∧Fly s.heap H' s'.heap ea C∧E (.ref ea) (some C) H'
instance:NoE (CXx P w):=⟨fun ⟨_,_,_,_,_,_,_,_,_,h⟩=>h⟩
theorem xe_of {K:PySem.W.Frag} {mg:Str→Option Value} {base:Heap} {N:List Str} {qual:Str} {scope:Scope} {f:Addr} {cd:Value} {A:Around} {outer:List Env} {s:Shared} {H:Hp} {E:XK} {pins:List (Addr × Obj)} {σ:St} {H':Hp} {s':Shared} {ea C:Addr}
  (J:Inv (cxOf (CXx P w) P w K mg base N qual scope f cd A outer s H E) pins σ H' s') (hf:Fresh s.heap H' s'.heap ea C∨Fly s.heap H' s'.heap ea C) (hE:E (.ref ea) (some C) H'):(cxOf (CXx P w) P w K mg base N qual scope f cd A outer s H E).xe (.ref ea) s':=by
 have hsub:=J.stkSub
 have hfree:=J.stkFree
 have hst:=J.stack
 have hfrm:=J.ok.frames
 show wpAny (model P w) (A.deeper (envOfC qual scope s.heap.objs.size f cd)) (leaving (envOfC qual scope s.heap.objs.size f cd) (.ref ea)) (fun _ s''=>CXx P w outer H s E (.ref ea) s'') (fun e' s''=>CXx P w outer H s E e' s'') s'
 refine leave_ok (P:=P) (w:=w) (fr:=frs outer) (H1:=H) (H':=H') (h1:=s.heap) (base:=base) hfrm rfl hst J.base J.hok (fun b hb=>⟨hfree b hb,?_⟩) (fun b hb=>List.mem_cons_of_mem _ hb) hf fun h' a b c=>?_
 ·rcases List.mem_cons.mp (hsub b hb) with z | z
  ·right
   rw [z]
   exact Heap.get?_none_of_le (Nat.le_refl _)
  ·exact .inl z
 ·exact ⟨ea,C,H',rfl,J.os,J.bare,a,b,c,hE⟩
theorem passX {K:PySem.W.Frag} {mg:Str→Option Value} {base:Heap} {N:List Str} {qual:Str} {scope:Scope} {f:Addr} {cd:Value} {A:Around} {outer:List Env} {s:Shared} {H:Hp} {E E':XK} (hE:∀ e C H',E' e C H'→E e C H') :
  Passes (CXx P w) (cxOf (CXx P w) P w K mg base N qual scope f cd A outer s H E) E':=by
 intro pins σ H1 s1 e s' I hx
 obtain ⟨ea,C,H',rfl,os,bare,un,hok,fly,q⟩:=hx
 have J:=I.call' (ch:=[]) os un hok bare (fun b z=>absurd z (by simp))
 refine xe_of J (.inr ?_) (hE _ _ _ q)
 have up:∀ b,s1.heap.get? b=none→s.heap.get? b=none:=fun b z=>by
  cases q:s.heap.get? b with
  | none=>rfl
  | some o =>
   obtain ⟨o',e⟩:=I.base.there b o q (by simp [cxOf])
   rw [z] at e;cases e
 obtain ⟨a1,a2,a0,oe,vs,T,oT,ts,g1,g2,g3,g4,g5,g6,r⟩:=fly
 exact ⟨up _ a1,a2,a0,oe,vs,T,oT,ts,g1,g2,g3,g4,g5,up _ g6,r⟩
end
end L2

set_option Elab.async false
set_option linter.all false
set_option maxRecDepth 100000
set_option maxHeartbeats 4000000
namespace L2
open PySem PySem.Spec PyProof.Rows
theorem exc_obj {K:PySem.W.Frag} {h:Heap} {C:Addr} {bmB:List Value} {newId:String} (X:K.In h) (e:PySem.W.excIn K C bmB newId=true):∃ bm N nm q bs hdct sn sub ab col dd k0 k1 k2 k3 k5 mN,
  h.get? C=some (excClassObj nm q C N bs bm hdct sn sub ab col dd k0 k1 k2 k3 k5 newId)∧h.Ns N mN∧mN "__init__"=none∧OwnTail h bmB bm:=by
 unfold PySem.W.excIn at e
 split at e
 ·rename_i dict cd sl hl
  split at e
  ·rename_i C' bm a0 a1 a2 a3 n a5 hm hs
   simp only [Bool.and_eq_true,beq_iff_eq,Bool.not_eq_true'] at e
   obtain ⟨⟨⟨⟨⟨e1,e2⟩,e3⟩,e4⟩,e5⟩,e6⟩:=e
   have hC:=X C _ hl
   subst e1 e2
   have hsl:sl=#[a0,a1,a2,a3,some (Value.builtin n),a5]:=by rw [←Array.toArray_toList (xs:=sl),hs]
   obtain ⟨nm,bs,mro,ns,q,hd,sn,sub,ab,col,hdel⟩:=cd
   simp only at hm e3 e5 e6
   subst hm e3 hsl
   exact ⟨bm,ns,nm,q,bs,hd,sn,sub,ab,col,dict,a0,a1,a2,a3,a5,h.nsMap ns,hC,Heap.Ns.of_isNs (PySem.W.isNs_of_in X e5),PySem.W.nsMap_none_of_in X e5 e6,PySem.W.tail_of_in X e4⟩
  ·cases e
 ·cases e
theorem tail_has {h:Heap} {bmB bm:List Value} {v:Value} (t:OwnTail h bmB bm) (hb:bmB.contains v=true):bm.contains v=true:=by
 induction t with
 | base=>exact hb
 | own _ _ _ _ ih=>rw [List.contains_cons,ih];simp
section
variable {P:Program} {w:World} {K:PySem.W.Frag} {mg:Str→Option Value} {base:Heap} {N:List Str} {qual:Str} {scope:Scope} {f:Addr} {cd:Value} {A:Around} {outer:List Env} {s0:Shared} {H0:Hp} {E:XK}
theorem ps_raise {x:Str} {C:Addr} {B newId initId:String} {bmB:List Value} {arg:Expr} {ta:TE} {np cpos pos:Pos} (hx:mg x=some (.ref C)) (hg:Gl (cxOf (CXx P w) P w K mg base N qual scope f cd A outer s0 H0 E) x) (he:PySem.W.excIn K C bmB newId=true) (hB:ExcBaseFacts B newId initId bmB)
  (ha:PE (cxOf (CXx P w) P w K mg base N qual scope f cd A outer s0 H0 E) arg ta)
  (htr:backTo cpos (starEach [arg] (cxOf (CXx P w) P w K mg base N qual scope f cd A outer s0 H0 E).env)=[(false,eval arg (cxOf (CXx P w) P w K mg base N qual scope f cd A outer s0 H0 E).env)]:=by rfl) (hdb:(x == ("__debug__":Str))=false:=by decide) :
  PS (cxOf (CXx P w) P w K mg base N qual scope f cd A outer s0 H0 E) (.Raise (some (.Call (.Name x np) [arg] [] cpos)) none pos) (fun D σ H=>ta σ H fun v H1=>∀ ea,E (.ref ea) (some C) H1):=by
 intro pins s σ H D I h
 obtain ⟨bm,NN,nm,q,bs,hd,sn,sub,ab,col,dict,a0,a1,a2,a3,a5,mN,hC,hN,hi,ht⟩:=exc_obj I.ok.mod.kin he
 refine wpAny_Raise_call_subT (nm:=nm) (q:=q) (N:=NN) (bs:=bs) (hdct:=hd) (sn:=sn) (sub:=sub) (ab:=ab) (col:=col) (dd:=dict) (k0:=a0) (k1:=a1) (k2:=a2) (k3:=a3) (k5:=a5) hB (tail_has ht hB.hasBase) (I.ok.hd rfl) (by rw [htr];rfl) hi (ld_glob I hg hx ⟨rfl,?_⟩ hdb)
 rw [htr]
 refine Calls.evalArgs_plain (Calls.spliced_cons (thn (ha pins s σ H _ I h) fun u s2 ⟨v,H2,I2,r2,q2⟩=>Calls.spliced_nil ?_))
 have bk:=I2.bk
 refine ⟨rfl,by show 1≤sizeLine;decide,bk _ _ hC,hN.keeps bk,ht.keeps bk,fun h' e me=>?_⟩
 obtain ⟨kp,nw,t,g1,g2,g3⟩:=me
 have J:=I2.kept (h':=h') (t':=s2.toks) kp
 refine xe_of J (.inl ⟨?_,?_,_,_,_,g1,⟨rfl,rfl⟩,rfl,rfl⟩) (q2 e)
 ·cases z:s0.heap.get? e with
  | none=>rfl
  | some o =>
   obtain ⟨o',e'⟩:=I2.base.there e o z (by simp [cxOf])
   rw [nw] at e';cases e'
 ·cases z:H2 e with
  | none=>rfl
  | some o =>
   obtain ⟨ob,hob⟩:=objThere (I2.hok e o z)
   rw [nw] at hob;cases hob
end
end L2

set_option Elab.async false
set_option linter.all false
set_option maxRecDepth 100000
set_option maxHeartbeats 4000000
namespace L2
open PySem PySem.Spec PyProof.Rows
section
variable {P:Program} {w:World}
end
abbrev Cx.sup (X:Cx) (e:Addr):Cx:={ X with A:=X.A.mark (some (.ref e)),calm:=false,xe:=fun _ _=>False }
end L2

set_option Elab.async false
set_option linter.all false
set_option maxRecDepth 100000
set_option maxHeartbeats 4000000
namespace L2
open PySem PySem.Spec PyProof.Rows PySem.SeqAt
section
variable {X:Cx}
end
end L2

set_option Elab.async false
set_option linter.all false
set_option maxRecDepth 100000
set_option maxHeartbeats 4000000
namespace Gu
open PySem L2
def NumbK (rows:List Row) (ks:List Int):Prop:=∃ (α:Type) (_:DecidableEq α) (key:Int→α),ks=numb ((iota rows.length).map key)
theorem numbK0 (rows:List Row):NumbK rows (numb (rows.map (·.1))):=⟨List Int,inferInstance,fun x=>(row rows x).1,by rw [rows_iota rows (·.1)]⟩
theorem numbK1 {rows:List Row} {ks:List Int} (h:ks.length=rows.length):NumbK rows (numb (stepK ks rows)):=⟨Int × List Int,inferInstance,pkey rows ks,by rw [stepK_iota h]⟩
theorem cnt_step {n:Nat} {rows:List Row} (G:GoodF n rows) {ks:List Int} (h:NumbK rows ks):cnt ks≤cnt (numb (stepK ks rows)):=by
 obtain ⟨α,ia,key,rfl⟩:=h
 rw [stepK_iota (by rw [numb_len,List.length_map,iota_len]),cnt_numb (iota_ne G.some),cnt_numb (iota_ne G.some)]
 have h1:=kf_uniq (L:=rows.length) (key:=key)
 have h2:=(count_of (kf (numb ((iota rows.length).map key))) (pkey rows (numb ((iota rows.length).map key))) (iota rows.length) fun x hx y hy e=>by
  unfold pkey at e
  exact (Prod.mk.inj e).1).1
 omega
theorem kloop_mono {n:Nat} {rows:List Row} (G:GoodF n rows):∀ (m:Nat) (c:Int) (ks:List Int),NumbK rows ks→GoodK rows ks→cnt ks≤cnt (kloop rows m c ks)
 | 0,c,ks,h,_=>Int.le_refl _
 | m+1,c,ks,h,hg=>by
  unfold kloop
  by_cases hc:c < cnt ks
  ·rw [if_pos hc]
   exact Int.le_trans (cnt_step G h) (kloop_mono G m _ _ (numbK1 hg.len) (goodK1 hg))
  ·rw [if_neg hc];exact Int.le_refl _
theorem shr_cnt {n:Nat} {rows:List Row} (G:GoodM n rows):((shr rows).length:Int)=cnt (kinds (found rows)):=by
 have GF:=found_good G
 obtain ⟨R,N⟩:=kinds_right GF
 rw [←least_shr G]
 unfold least
 rw [least_inLine (kinds_good GF).len N GF.go]
 unfold inLine
 have hm:=heads_map_uniq (kf (kinds (found rows))) (iota (found rows).length)
 have:(heads (kf (kinds (found rows))) (iota (found rows).length)).length=(uniq ((iota (found rows).length).map (kf (kinds (found rows))))).length:=by rw [←hm,List.length_map]
 rw [List.length_map,this]
 obtain ⟨α,ia,key,e⟩:=N
 rw [e,kf_uniq,cnt_numb (iota_ne GF.some)]
theorem shr_le {n:Nat} {rows:List Row} (G:GoodM n rows):(shr rows).length≤rows.length:=by
 obtain ⟨L,cl⟩:=order_line G
 have hl:=L.len
 have hh:=(heads_has (kOf rows) (order rows)).2.2
 unfold shr inLine
 rw [List.length_map]
 omega
theorem shr_good {n:Nat} {rows:List Row} (G:GoodM n rows):GoodM n (shr rows):=by
 obtain ⟨L,cl⟩:=order_line G
 obtain ⟨h1,h2,h3⟩:=heads_has (kOf rows) (order rows)
 have hl:=shr_le G
 have hf:=G.few
 obtain ⟨r0,t0,e0,_⟩:=shr_hd G
 have hm:∀ r∈shr rows,∃ x∈order rows,r=((row rows x).1,(row rows x).2.map fun g=>((((heads (kOf rows) (order rows)).map (kOf rows)).idxOf (kOf rows g):Nat):Int)):=fun r hr=>by
  unfold shr inLine at hr
  obtain ⟨x,hx,e⟩:=List.mem_map.mp hr
  exact ⟨x,h2 x hx,e.symm⟩
 refine ⟨by omega,by rw [e0];simp,fun r hr=>?_,fun r hr=>?_,fun r hr g hg=>?_⟩
 ·obtain ⟨x,hx,rfl⟩:=hm r hr
  exact G.perm (row rows x) (row_mem (L.rg x hx).1 (L.rg x hx).2)
 ·obtain ⟨x,hx,rfl⟩:=hm r hr
  show (List.map _ _).length=n
  rw [List.length_map]
  exact G.len _ (row_mem (L.rg x hx).1 (L.rg x hx).2)
 ·obtain ⟨x,hx,rfl⟩:=hm r hr
  obtain ⟨y,hy,rfl⟩:=List.mem_map.mp hg
  have:=List.idxOf_lt_length_of_mem (h1 y (cl x hx y hy))
  rw [List.length_map] at this
  unfold shr inLine
  rw [List.length_map]
  omega
theorem shr_shr {n:Nat} {rows:List Row} (G:GoodM n rows):shr (shr rows)=shr rows:=by
 obtain ⟨L,cl⟩:=order_line G
 have C:=order_cl G
 have R:=kOf_right G
 obtain ⟨h1,h2,h3⟩:=heads_has (kOf rows) (order rows)
 obtain ⟨t,et⟩:=L.hd
 refine (shr_mor (M':=rows) (M:=shr rows) (h:=fun x=>((((heads (kOf rows) (order rows)).map (kOf rows)).idxOf (kOf rows x):Nat):Int)) G (shr_good G) ?_ fun x hx=>?_).symm
 ·obtain ⟨t',et'⟩:=heads_hd (kOf rows) 0 t
  show ((((heads (kOf rows) (order rows)).map (kOf rows)).idxOf (kOf rows 0):Nat):Int)=0
  rw [et,et',List.map_cons,List.idxOf_cons]
  simp
 ·have hy:∃ y,(heads (kOf rows) (order rows))[((heads (kOf rows) (order rows)).map (kOf rows)).idxOf (kOf rows x)]?=some y∧kOf rows y=kOf rows x:=by
   have hlt:=List.idxOf_lt_length_of_mem (h1 x hx)
   have hg:=List.getElem_idxOf hlt
   rw [List.length_map] at hlt
   rw [List.getElem_map] at hg
   exact ⟨_,List.getElem?_eq_getElem hlt,hg⟩
  show row (shr rows) ((((heads (kOf rows) (order rows)).map (kOf rows)).idxOf (kOf rows x):Nat):Int)=_
  generalize ((heads (kOf rows) (order rows)).map (kOf rows)).idxOf (kOf rows x)=j at hy ⊢
  obtain ⟨y,ey,hg⟩:=hy
  have hhd:y∈order rows:=h2 _ (List.mem_of_getElem? ey)
  have eb:=(R _ hhd x hx).mp hg
  have er:row (shr rows) ((j:Nat):Int)=((row rows y).1,(row rows y).2.map fun g=>((((heads (kOf rows) (order rows)).map (kOf rows)).idxOf (kOf rows g):Nat):Int)):=by
   unfold row shr inLine
   have:((j:Nat):Int).toNat=j:=by omega
   rw [this,List.getD_eq_getElem?_getD,List.getElem?_map,ey]
   rfl
  rw [er]
  refine Prod.ext ?_ ?_
  ·exact congrFun eb []
  ·show List.map _ _=List.map _ _
   refine List.ext_getElem (by rw [List.length_map,List.length_map,C.len y hhd,C.len x hx]) fun i i1 i2=>?_
   rw [List.length_map] at i1 i2
   rw [List.getElem_map,List.getElem_map]
   have b1:(row rows y).2.getD i 0=(row rows y).2[i]:=by rw [List.getD_eq_getElem?_getD,List.getElem?_eq_getElem i1];rfl
   have b2:(row rows x).2.getD i 0=(row rows x).2[i]:=by rw [List.getD_eq_getElem?_getD,List.getElem?_eq_getElem i2];rfl
   have a1:=C.go hhd i
   have a2:=C.go hx i
   rw [b1] at a1
   rw [b2] at a2
   have hb:beh rows (row rows y).2[i]=beh rows (row rows x).2[i]:=by
    rw [←b1,←b2]
    exact funext fun w=>congrFun eb (i::w)
   rw [(R _ a1 _ a2).mpr hb]
/-! ### what raises -/
def TMx (Ct:Addr) (E:XK) (H:Hp):Prop:=∀ (ea:Addr) (H':Hp),Same H H'→E (.ref ea) (some Ct) H'
def spKindsX (K:PySem.W.Frag) (Ct:Addr):Sp:=fun vs H Q E=>∃ (a:Addr) (n:Nat) (rows:List Row),vs=[.ref a]∧RowsAt K H a rows∧GoodF n rows∧n≤60∧(cnt (kinds rows)≤60→∀ (r:Addr) (H':Hp),Same H H'→H' r=some (.lst ((kinds rows).map V.int))→Q (.ref r) H')∧(60 < cnt (kinds rows)→TMx Ct E H)
def spAmple (K:PySem.W.Frag):Sp:=fun vs H Q _=>∃ (n:Nat) (c:Int),vs=[.int n,.int c]∧2≤n∧n≤5∧∀ (v:V) (H':Hp) (rows:List Row),Same H H'→GoodM n rows→rows.length≤48→Dr K H' (D.tup (rowsD (shr rows))) v→Q v H'
end Gu
namespace L2
open PySem PySem.Spec PyProof.Rows
theorem Fun.okx {CX:CXT} {P:Program} {w:World} {K:PySem.W.Frag} {mg:Str→Option Value} {base:Heap} {x qual:Str} {st:Stmt} {f:Addr} {fd:FuncData} {N ps:List Str} {k:Nat} {sp:Sp} (F:Fun K x qual st f fd) (S:FnScope N ps (defScope st)) (len:∀ vs H Q E,sp vs H Q E→vs.length=ps.length)
  (hbody:∀ (cdv:Value) (A:Around) (outer:List Env) (s:Shared) (H:Hp) (vs:List V) (Q:VK) (E:XK),Room k (A.deeper (envOfC qual (defScope st) s.heap.objs.size f cdv))→sp vs H Q E →
   ∃ t,PSs (cxOf CX P w K mg base N qual (defScope st) f cdv A outer s H E) (defBody st) t∧t { nx:=fun _ H'=>Q .non H',rt:=Q } (start N vs) H):FnOk P w K mg base CX (k+1) f fd ps sp:=by
 obtain ⟨oc,od,kV,doc,pm,an,cdv,ct,osl,rfl,lk,hcd⟩:=F.ex
 exact fn_of lk hcd S len fun A outer s H vs Q E hr hsp=>hbody cdv A outer s H vs Q E hr hsp
end L2

set_option Elab.async false
set_option linter.all false
set_option maxRecDepth 100000
set_option maxHeartbeats 4000000
namespace L2
open PySem PySem.Spec PyProof.Rows PySem.SeqAt
section
variable {X:Cx}
/-! ### t*k -/
/-! ### t != u of ints -/
end
end L2

set_option Elab.async false
set_option linter.all false
set_option maxRecDepth 100000
set_option maxHeartbeats 4000000
namespace Gu
/-! ### endless words: a beginning and a ring -/
/-! ### the least ring -/
end Gu

set_option Elab.async false
set_option linter.all false
set_option maxRecDepth 100000
set_option maxHeartbeats 4000000
namespace Gu
open PySem L2
/-! ### cuts of lists of ints -/
end Gu

set_option Elab.async false
set_option linter.all false
set_option maxRecDepth 100000
set_option maxHeartbeats 4000000
namespace Gu
open PySem L2
end Gu
namespace Gu
open PySem L2
end Gu

set_option Elab.async false
set_option linter.all false
set_option maxRecDepth 100000
set_option maxHeartbeats 4000000
namespace L2
open PySem PySem.Spec PyProof.Rows
/-! ### a thing that stays as it is -/
abbrev frO (o:Obj):HO:=.frz o (.ext fun _=>True)
section
variable {P:Program} {w:World} {H H1:Hp} {h:Heap} {a:Addr} {o:Obj}
theorem frO_ok (e:h.get? a=some o):ObjOk P w H h a (frO o):=⟨e,trivial,⟨o,e⟩,fun _ _ _ _=>trivial⟩
theorem frO_at (x:HOk P w H h) (e:H a=some (frO o)):h.get? a=some o:=(x a _ e).1
end
def utk (H:Hp) (cs:List Addr):Hp:=fun b=>if b∈cs then none else H b
def rtk (H H1:Hp) (cs:List Addr):Hp:=fun b=>if b∈cs then H b else H1 b
theorem utk_in {H:Hp} {cs:List Addr} {b:Addr} (h:b∈cs):utk H cs b=none:=if_pos h
theorem utk_out {H:Hp} {cs:List Addr} {b:Addr} (h:b∉cs):utk H cs b=H b:=if_neg h
theorem rtk_in {H H1:Hp} {cs:List Addr} {b:Addr} (h:b∈cs):rtk H H1 cs b=H b:=if_pos h
theorem rtk_out {H H1:Hp} {cs:List Addr} {b:Addr} (h:b∉cs):rtk H H1 cs b=H1 b:=if_neg h
theorem Same.rtk {H H1:Hp} {cs:List Addr} (s:Same (utk H cs) H1):Same H (L2.rtk H H1 cs):=fun b o e=>by
 by_cases hb:b∈cs
 ·rw [rtk_in hb];exact e
 ·rw [rtk_out hb];exact s b o (by rw [utk_out hb];exact e)
theorem Same.rtk' {H H1:Hp} {cs:List Addr} (hn:∀ c∈cs,H1 c=none):Same H1 (L2.rtk H H1 cs):=fun b o e=>by
 have hb:b∉cs:=fun z=>by rw [hn b z] at e;cases e
 rw [rtk_out hb];exact e
theorem utk_get {H:Hp} {cs:List Addr} (hc:∀ c∈cs,∃ ob,H c=some (frO ob)) {b:Addr} {o:HO} (e:H b=some o) (ne:∀ ob,o≠frO ob):utk H cs b=some o:=by
 have hb:b∉cs:=fun z=>by
  obtain ⟨ob,q⟩:=hc b z
  rw [e] at q
  exact ne ob (Option.some.inj q)
 rw [utk_out hb];exact e
def CloAt (H:Hp) (f:Addr) (params:Arguments) (body:Expr) (scope:Scope) (qual:Str) (N:List Str) (fv:St):Prop :=
 ∃ (clos:List (Str × Addr)) (cs:List Addr) (pm:Value) (c':Addr) (ctv:Value) (oc:Obj) (vs:Array Value) (t:Tok),H f=some (frO (PySem.W.kla_obj "<lambda>" qual params body scope clos pm c' ctv))∧H c'=some (frO oc)∧oc.data=.fields vs∧vs[1]?=some (.str qual t) ∧
  (∀ x y c,clos.lookup x=some c→clos.lookup y=some c→x=y)∧(∀ x c,clos.lookup x=some c→c∈cs)∧(∀ c∈cs,(∃ x,clos.lookup x=some c)∧∃ o u,H c=some (frO o)∧o.data=.cell u)∧(∀ x,scope.names.lookup x=some .free→∃ c,clos.lookup x=some c) ∧
  ∀ (i:Nat) x v,N[i]?=some x→fv[i]?=some (some v)→∃ c o u,clos.lookup x=some c∧H c=some (frO o)∧o.data=.cell (some u)∧RelV v u
theorem CloAt.mono {H H':Hp} {f:Addr} {params:Arguments} {body:Expr} {scope:Scope} {qual:Str} {N:List Str} {fv:St} (h:CloAt H f params body scope qual N fv) (s:Same H H'):CloAt H' f params body scope qual N fv:=by
 obtain ⟨clos,cs,pm,c',ctv,oc,vs,t,e1,e2,e3,e4,e5,e5',e6,e7,e8⟩:=h
 refine ⟨clos,cs,pm,c',ctv,oc,vs,t,s _ _ e1,s _ _ e2,e3,e4,e5,e5',fun c hc=>?_,e7,fun i x v h1 h2=>?_⟩
 ·obtain ⟨hx,o,u,q,d⟩:=e6 c hc
  exact ⟨hx,o,u,s _ _ q,d⟩
 ·obtain ⟨c,o,u,q1,q2,q3⟩:=e8 i x v h1 h2
  exact ⟨c,o,u,q1,s _ _ q2,q3⟩
structure LamS (N ps:List Str) (sc:Scope):Prop where
 kind:sc.kind=.function
 co:sc.isCoroutine=false
 gen:sc.isGenerator=false
 nd:N.Nodup
 pre:N.take ps.length=ps
 par:∀ x∈ps,sc.names.lookup x=some .local
 nocell:∀ y∈sc.names,y.2≠.cell
 fr:∀ x∈N.drop ps.length,sc.names.lookup x=some .free
def lamSt (vs:List V) (fv:St):St:=vs.map some++fv.drop vs.length
def cxLam (P:Program) (w:World) (K:PySem.W.Frag) (mg:Str→Option Value) (base:Heap) (N:List Str) (qual:Str) (scope:Scope) (f:Addr) (cd:Value) (clos:List (Str × Addr)) (A:Around) (outer:List Env) (s:Shared) (H:Hp):Cx where
 prog:=P
 w:=w
 K:=K
 mg:=mg
 base:=base
 A:=A.deeper (PySem.W.envX qual scope s.heap.objs.size f cd clos)
 N:=N
 s₀:=s
 H₀:=H
 env:=PySem.W.envX qual scope s.heap.objs.size f cd clos
 outer:=outer
 stack:=PySem.W.envX qual scope s.heap.objs.size f cd clos::outer
 ex:=[]
 calm:=true
 fn:=fun _=>false
 pn:=[]
 xe:=noE
theorem zip_rev_look {ps:List Str} {us:List Value} {i:Nat} {x:Str} {u:Value} (nd:ps.Nodup) (hp:ps[i]?=some x) (hu:us[i]?=some u):(ps.zip us).reverse.lookup x=some u:=by
 have hm:(x,u)∈(ps.zip us).reverse:=List.mem_reverse.mpr (List.mem_of_getElem? (i:=i) (by rw [List.getElem?_zip_eq_some];exact ⟨hp,hu⟩))
 have key:∀ l:List (Str × Value),(∀ v,(x,v)∈l→v=u)→(x,u)∈l→l.lookup x=some u:=by
  intro l
  induction l with
  | nil=>intro _ h;cases h
  | cons q r ih =>
   intro h1 h2
   obtain ⟨y,v⟩:=q
   rw [List.lookup_cons]
   by_cases e:x=y
   ·subst e
    rw [show (x == x)=true by simp]
    exact congrArg some (h1 v List.mem_cons_self)
   ·rw [show (x == y)=false by simpa using e]
    refine ih (fun v hv=>h1 v (List.mem_cons_of_mem _ hv)) ?_
    rcases List.mem_cons.mp h2 with z | z
    ·injection z with z1 _;exact absurd z1 e
    ·exact z
 refine key _ (fun v hv=>?_) hm
 obtain ⟨j,hj,ej⟩:=List.getElem_of_mem (List.mem_reverse.mp hv)
 have e1:(ps.zip us)[j]?=some (x,v):=by rw [List.getElem?_eq_getElem hj,ej]
 rw [List.getElem?_zip_eq_some] at e1
 have:j=i:=nodup_ix nd e1.1 hp
 subst this
 rw [hu] at e1
 exact (Option.some.inj e1.2).symm
theorem clo_run {CX:CXT} {P:Program} {w:World} {K:PySem.W.Frag} {mg:Str→Option Value} {base:Heap} {k:Nat} {H:Hp} {f:Addr} {params:Arguments} {body:Expr} {scope:Scope} {qual:Str} {N ps:List Str} {fv:St} (C:CloAt H f params body scope qual N fv) (S:LamS N ps scope)
  (hbind:∀ (cl:List (Str × Addr)) (pm cdv ct:Value) (us:List Value),us.length=ps.length→bindArgs (PySem.W.kla_fn "<lambda>" qual params body scope cl pm cdv ct) ⟨us,[]⟩=pure (ps.zip us)) (hfv:fv.length=N.length)
  {A:Around} {outer:List Env} {s:Shared} {us:List Value} {vs:List V} {Q:VK} {E:XK} (hr:Room (k+1) A) (e0:Env0 P w K mg base A outer s H) (r:Vals vs us) (hl:vs.length=ps.length)
  (hbody:∀ (cd:Value) (clos:List (Str × Addr)) (cs:List Addr),Room k (A.deeper (PySem.W.envX qual scope s.heap.objs.size f cd clos))→(∀ c∈cs,∃ o,H c=some (frO o)) →
   ∃ t,PE (cxLam P w K mg base N qual scope f cd clos A outer s (utk H cs)) body t∧t (lamSt vs fv) (utk H cs) fun v H1=>(∀ c∈cs,H1 c=none)→Q v (rtk H H1 cs)) :
  codeAny (model P w) A (.call (.ref f) ⟨us,[]⟩) (CR CX outer P w H s Q E) s:=by
 obtain ⟨clos,cs,pm,c',ctv,oc,vs',t,e1,e2,e3,e4,e5,hcl,e6',e7,e8⟩:=C
 have e6:∀ c∈cs,∃ o u,H c=some (frO o)∧o.data=.cell u:=fun c hc=>(e6' c hc).2
 obtain ⟨tb,hPE,hq⟩:=hbody (.ref c') clos cs (hr.deeper _) (fun c hc=>let ⟨o,_,q,_⟩:=e6 c hc;⟨o,q⟩)
 have KX:K.In s.heap:=e0.mod.kin.keeps fun b o e=>(e0.bs b o e).1
 have lim:s.heap.NoLimit:=e0.mod.nolimit.keeps fun b o e=>(e0.bs b o e).1
 have hul:us.length=ps.length:=by rw [←r.length];exact hl
 refine PySem.W.kla_callFunE hr.depth (frO_at e0.hok e1) rfl S.co S.gen rfl ⟨c',oc,vs',t,rfl,frO_at e0.hok e2,e3,e4⟩ ?_
 rw [hbind clos pm (.ref c') ctv us hul]
 refine wpAny_pure (wpAny_newFunctionEnv S.nocell (fun y hy=>S.par y.1 (List.of_mem_zip hy).1) (fun h₁ hns hsb=>?_) S.kind)
 have hk₁:∀ b o,s.heap.get? b=some o→h₁.get? b=some o:=fun b o e=>hsb.extBut b o (Nat.ne_of_lt (Heap.lt_size e)) (Heap.get?_push_of_some _ e)
 refine ⟨lim.keeps hk₁,?_⟩
 show codeAny _ _ (.expr body (PySem.W.envX qual scope s.heap.objs.size f (.ref c') clos)) _ _
 have hcu:∀ c∈cs,utk H cs c=none:=fun c hc=>utk_in hc
 have hclt:∀ c∈cs,c < s.heap.objs.size:=fun c hc=>by
  obtain ⟨o,_,q,_⟩:=e6 c hc
  exact Heap.lt_size (frO_at e0.hok q)
 have hokU:HOk P w (utk H cs) s.heap:=fun b u e=>by
  have hb:b∉cs:=fun z=>by rw [utk_in z] at e;cases e
  rw [utk_out hb] at e
  refine (e0.hok b u e).stay (fun _ _ _ q=>q) (fun c q=>?_) fun c xs q=>?_
  ·exact utk_get (fun c hc=>let ⟨o,_,q,_⟩:=e6 c hc;⟨o,q⟩) q (fun ob z=>by cases z)
  ·exact utk_get (fun c hc=>let ⟨o,_,q,_⟩:=e6 c hc;⟨o,q⟩) q (fun ob z=>by cases z)
 have noA:∀ b:Addr,b∉(cxLam P w K mg base N qual scope f (.ref c') clos A outer s (utk H cs)).ex:=fun b z=>absurd (show b∈([]:List Addr) from z) (by simp)
 have nonU:∀ {b:Addr},H b=none→utk H cs b=none:=fun {b} e=>by
  by_cases hb:b∈cs
  ·exact utk_in hb
  ·rw [utk_out hb];exact e
 have I:Inv (cxLam P w K mg base N qual scope f (.ref c') clos A outer s (utk H cs)) [] (lamSt vs fv) (utk H cs) { s with heap:=h₁,toks:=s.toks+(ps.zip us).length }:=by
  refine ⟨⟨e0.mod,S.kind,rfl,rfl,Nat.le_refl _,e5,fun y hy=>?_,fun y c hf _=>?_,fun _=>hr.hd,Around.frames_deeper e0.frames,.inr ⟨rfl,rfl⟩,fun b z=>absurd z (noA b),fun b o e=>⟨(e0.bs b o e).1,nonU (e0.bs b o e).2⟩,e0.bsz,fun b _ _=>noA b,fun b z=>absurd z (noA b),e0.funs,fun b hb=>nonU (e0.frf b hb)⟩,
   rfl,e0.bare,Un.kept hk₁,⟨_,hns,fun i y v h1 h2 h3=>?_⟩,fun y c h=>?_,?_,fun y c h=>hcu c (hcl y c h),fun p hp=>absurd (show p∈([]:List (Addr × Obj)) from hp) (by simp),hokU.kept hk₁,?_⟩
  ·rcases hy with hy | hy
   ·exact absurd rfl (S.nocell _ (PySem.mem_of_lookup hy))
   ·exact e7 y hy
  ·exact absurd (show false=true from hf) Bool.false_ne_true
  ·by_cases hi:i < vs.length
   ·have ha:vs[i]?=some v:=by
     unfold lamSt at h2
     rw [List.getElem?_append_left (by simpa using hi),List.getElem?_map] at h2
     cases e:vs[i]? with
     | none=>rw [e] at h2;cases h2
     | some a=>rw [e] at h2;cases h2;rfl
    obtain ⟨u,hu,rv⟩:=r.get ha
    have hp:ps[i]?=some y:=by
     rw [←S.pre,List.getElem?_take_of_lt (by omega)];exact h1
    have ndP:ps.Nodup:=by rw [←S.pre];exact S.nd.sublist (List.take_sublist _ _)
    exact ⟨u,rv,.inl ⟨S.par y (List.mem_of_getElem? hp),zip_rev_look ndP hp hu⟩⟩
   ·have h2':fv[i]?=some (some v):=by
     unfold lamSt at h2
     rw [List.getElem?_append_right (by simpa using hi),List.length_map,List.getElem?_drop] at h2
     rw [show vs.length+(i - vs.length)=i by omega] at h2
     exact h2
    obtain ⟨c,o,u,q1,q2,q3,q4⟩:=e8 i y v h1 h2'
    have hkk:scope.names.lookup y=some .local∨scope.names.lookup y=some .cell∨scope.names.lookup y=some .free:=h3
    refine ⟨u,q4,?_⟩
    rcases hkk with z | z | z
    ·have hm:y∈N.drop ps.length:=List.mem_of_getElem? (i:=i - ps.length) (by rw [List.getElem?_drop,show ps.length+(i - ps.length)=i by omega];exact h1)
     rw [S.fr y hm] at z
     cases z
    ·exact absurd rfl (S.nocell _ (PySem.mem_of_lookup z))
    ·exact .inr ⟨.inr z,c,q1,⟨o,hk₁ _ _ (frO_at e0.hok q2),q3⟩⟩
  ·obtain ⟨o,u,q,d⟩:=e6 c (hcl y c h)
   exact ⟨u,o,hk₁ _ _ (frO_at e0.hok q),d⟩
  ·exact nonU (e0.hok.fresh (Nat.le_refl _))
  ·unfold lamSt
   show _=N.length
   have hpl:ps.length≤N.length:=by have:=congrArg List.length S.pre;rw [List.length_take] at this;omega
   rw [List.length_append,List.length_map,List.length_drop,hfv]
   omega
 refine PySem.W.kla_codeExpr (wpAny_mono (hPE [] _ (lamSt vs fv) (utk H cs) _ I hq) (fun v' s' hs=>?_) fun e' s' hs=>False.elim hs)
 obtain ⟨v,H1,J,rv,q1⟩:=hs
 have hn1:∀ c∈cs,H1 c=none:=fun c hc=>by
  obtain ⟨⟨x,hx⟩,_⟩:=e6' c hc
  exact J.freeC x c hx
 have U:Un (frs outer) [] (utk H cs) H1 s.heap s'.heap:=J.base
 have hcs':∀ c∈cs,∃ ob,H c=some (frO ob):=fun c hc=>let ⟨o,_,q,_⟩:=e6 c hc;⟨o,q⟩
 have out:∀ {b:Addr},H b=none→b∉cs:=fun {b} e z=>by obtain ⟨o,q⟩:=hcs' b z;rw [e] at q;cases q
 have got:∀ {b:Addr} {o:HO},(∀ ob,o≠frO ob)→H b=some o→b∉cs:=fun {b o} ne e z=>by obtain ⟨ob,q⟩:=hcs' b z;rw [e] at q;exact ne ob (Option.some.inj q)
 refine ⟨v,rtk H H1 cs,J.os,J.bare,⟨fun b o e n hb hx=>?_,fun b o e n hb hx=>?_,fun b o e n hx=>?_,fun b o e hx=>U.there b o e hx,fun b xs e=>?_,fun b o u e=>?_,fun b ps e=>?_⟩,fun b u e=>?_,rv,q1 hn1⟩
 ·exact U.keep b o e (nonU n) hb hx
 ·exact U.slot b o e (nonU n) hb hx
 ·rw [rtk_out (out n)];exact U.free b o e (nonU n) hx
 ·have hb:=got (fun ob z=>by cases z) e
  rw [rtk_out hb];exact U.tups b xs (by rw [utk_out hb];exact e)
 ·by_cases hb:b∈cs
  ·rw [rtk_in hb];exact e
  ·rw [rtk_out hb];exact U.frzs b o u (by rw [utk_out hb];exact e)
 ·have hb:=got (fun ob z=>by cases z) e
  obtain ⟨more,q⟩:=U.tbls b ps (by rw [utk_out hb];exact e)
  exact ⟨more,by rw [rtk_out hb];exact q⟩
 ·by_cases hb:b∈cs
  ·rw [rtk_in hb] at e
   obtain ⟨ob,q⟩:=hcs' b hb
   rw [q] at e
   have:=Option.some.inj e
   subst this
   refine frO_ok (U.keep b ob (frO_at e0.hok q) (hcu b hb) (fun z=>?_) (by simp))
   have:=e0.frf b z
   rw [q] at this
   cases this
  ·rw [rtk_out hb] at e
   refine (J.hok b u e).stay (fun _ _ _ q=>q) (fun c q=>?_) fun c xs q=>?_
   ·exact Same.rtk' hn1 c _ q
   ·exact Same.rtk' hn1 c _ q
end L2

set_option Elab.async false
set_option linter.all false
set_option maxRecDepth 100000
set_option maxHeartbeats 4000000
namespace L2
open PySem PySem.Spec PyProof.Rows
def CallV (P:Program) (w:World) (K:PySem.W.Frag) (mg:Str→Option Value) (base:Heap) (CX:CXT) (k:Nat) (H:Hp) (f:Addr) (sp:List V→Hp→VK→Prop):Prop :=
 (∃ (o:Obj) (fd:FuncData),H f=some (frO o)∧o.data=.func fd) ∧
 ∀ (H':Hp),Same H H'→∀ (A:Around) (outer:List Env) (s:Shared) (us:List Value) (vs:List V) (Q:VK),Room k A→Env0 P w K mg base A outer s H'→Vals vs us→sp vs H' Q →
  codeAny (model P w) A (.call (.ref f) ⟨us,[]⟩) (CR CX outer P w H' s Q E0) s
theorem CallV.mono {P:Program} {w:World} {K:PySem.W.Frag} {mg:Str→Option Value} {base:Heap} {CX:CXT} {k:Nat} {H H1:Hp} {f:Addr} {sp:List V→Hp→VK→Prop} (h:CallV P w K mg base CX k H f sp) (s:Same H H1):CallV P w K mg base CX k H1 f sp:=by
 obtain ⟨⟨o,fd,e,d⟩,r⟩:=h
 exact ⟨⟨o,fd,s _ _ e,d⟩,fun H' s'=>r H' (s.trans s')⟩
def tCallV (P:Program) (w:World) (K:PySem.W.Frag) (mg:Str→Option Value) (base:Heap) (CX:CXT) (k:Nat) (i:Nat) (t:TA):TE:=fun σ H Q=>∃ (f:Addr) (sp:List V→Hp→VK→Prop),σ[i]?=some (some (.ref f))∧(∃ (o:Obj) (fd:FuncData),H f=some (frO o)∧o.data=.func fd) ∧
 t σ H fun vs H1=>CallV P w K mg base CX k H1 f sp∧sp vs H1 Q
section
variable {X:Cx} {CX:CXT} {k:Nat} {x:Str} {p pos:Pos} {e:Expr} {es:List Expr} {t:TA}
theorem pe_callV [N:NoE CX] (i:Nat) (hr:Room k X.A) (ha:PA X (e::es) t) (hN:X.N[i]?=some x:=by rfl) (hv:Vis X.env.scope x:=by first | exact Or.inl rfl | exact Or.inr (Or.inl rfl) | exact Or.inr (Or.inr rfl)) (hd:(x == ("__debug__":Str))=false:=by decide)
  (hcd:(x == ("__classdict__":Str))=false:=by decide) (he:starEach (e::es) X.env=(false,eval e X.env)::starEach es X.env:=by rfl) (hpl:(backTo pos (starEach es X.env)).any (·.1)=false:=by rfl) :
  PE X (.Call (.Name x p) (e::es) [] pos) (tCallV X.prog X.w X.K X.mg X.base CX k i t):=by
 intro pins s σ H Q I h
 obtain ⟨f,sp,ef,⟨o,fd,eo,od⟩,h⟩:=h
 refine wpAny_Call_Name_kw (thn (pe_var hN hv hd hcd pins s σ H (fun v H1=>v=.ref f∧H1=H) I ⟨_,ef,rfl,rfl⟩) fun u s1 ⟨v,H1,I1,r1,hv1,hH1⟩=>?_)
 subst hv1 hH1
 cases r1
 have h':=ha pos pins s1 σ H1 _ I1 h
 rw [he] at h' ⊢
 refine PySem.W.callWith_of (P:=fun hp=>hp.get? f=some o∨∃ o' fd',hp.get? f=some o'∧o'.data=.func fd') (by show ((false || (backTo pos (starEach es X.env)).any (·.1)) || false)=false;rw [hpl];rfl)
  (fun hp hX=>?_) (PySem.Calls.evalArgs_plain (thn h' fun us s2 ⟨vs,H2,I2,r,cv,q⟩=>?_))
 ·have hX':∃ o' fd',hp.get? f=some o'∧o'.data=.func fd':=hX.elim (fun z=>⟨o,fd,z,od⟩) id
  obtain ⟨o',fd',z,d'⟩:=hX'
  refine ⟨.frame,.inl rfl,?_⟩
  obtain ⟨cls,dd,data,sl⟩:=o'
  simp only at d'
  subst d'
  exact (PySem.W.Looks.ld (part:=none) z).andThen .now
 ·obtain ⟨⟨o',fd',z,d'⟩,run⟩:=cv
  refine ⟨.inr ⟨o',fd',frO_at I2.hok z,d'⟩,?_⟩
  refine wpAny_call (codeAny_mono (run H2 (Same.refl _) X.A X.stack s2 us vs Q hr I2.env0 r q) fun r s' hq=>?_)
  cases r with
  | error e=>exact absurd hq N.no
  | ok fl =>
   cases fl with
   | ret u=>exact I2.after hq
   | next=>exact False.elim hq
   | brk=>exact False.elim hq
   | cont=>exact False.elim hq
end
end L2

set_option Elab.async false
set_option linter.all false
set_option maxRecDepth 100000
set_option maxHeartbeats 4000000
namespace L2
open PySem PySem.Spec PyProof.Rows
/-! ### code tables: where a def's lambda lies,and the code that was made of it -/
structure Tb where
 at_:Addr
 pos:Pos
 qual:Str
def TabAt (T:Tb) (H:Hp):Prop:=H T.at_=some (.tbl #[])∨∃ (c':Addr) (oc:Obj) (vs:Array Value) (t:Tok),H T.at_=some (.tbl #[rawInt T.pos.line,rawInt T.pos.col,.ref c'])∧H c'=some (frO oc)∧oc.data=.fields vs∧vs[1]?=some (.str T.qual t)
def Tabs (Ts:List Tb) (H:Hp):Prop:=∀ T∈Ts,TabAt T H
structure SameL (Ts:List Tb) (H H':Hp):Prop where
 at_:∀ b o,(∀ ps,o≠.tbl ps)→H b=some o→H' b=some o
 tabs:Tabs Ts H→Tabs Ts H'
theorem TabAt.mono {T:Tb} {H H':Hp} (h:TabAt T H) (s:Same H H'):TabAt T H':=by
 rcases h with e | ⟨c',oc,vs,t,e1,e2,e3⟩
 ·exact .inl (s _ _ e)
 ·exact .inr ⟨c',oc,vs,t,s _ _ e1,s _ _ e2,e3⟩
theorem Same.l {Ts:List Tb} {H H':Hp} (s:Same H H'):SameL Ts H H':=⟨fun b o _ e=>s b o e,fun h T hT=>(h T hT).mono s⟩
theorem SameL.trans {Ts:List Tb} {H H1 H2:Hp} (a:SameL Ts H H1) (b:SameL Ts H1 H2):SameL Ts H H2:=⟨fun c o n e=>b.at_ c o n (a.at_ c o n e),fun h=>b.tabs (a.tabs h)⟩
class NT (o:HO):Prop where
 no:∀ ps,o≠.tbl ps
instance NT.lst {xs:List V}:NT (.lst xs):=⟨fun _ z=>by cases z⟩
instance NT.tup {xs:List V}:NT (.tup xs):=⟨fun _ z=>by cases z⟩
instance NT.dK {xs:List (Key × V)}:NT (.dK xs):=⟨fun _ z=>by cases z⟩
instance NT.ext {f:Heap→Prop}:NT (.ext f):=⟨fun _ z=>by cases z⟩
instance NT.frz {o:Obj} {u:HO}:NT (.frz o u):=⟨fun _ z=>by cases z⟩
theorem SameL.g {Ts:List Tb} {H H':Hp} (s:SameL Ts H H') {b:Addr} {o:HO} [n:NT o] (e:H b=some o):H' b=some o:=s.at_ b o n.no e
theorem SameL.seq {Ts:List Tb} {K:PySem.W.Frag} {H H':Hp} {a:Addr} {xs:List V} (s:SameL Ts H H') (h:SqL K H a xs):SqL K H' a xs:=by
 rcases h with (h | ⟨o,h⟩) | h
 ·exact .inl (.inl (s.g h))
 ·exact .inl (.inr ⟨o,s.g h⟩)
 ·exact .inr h
mutual
theorem Dr.monoL {Ts:List Tb} {K:PySem.W.Frag} {H H':Hp} (s:SameL Ts H H'):∀ {d:D} {v:V},Dr K H d v→Dr K H' d v
 | .non,_,h=>by simp only [Dr] at h ⊢;exact h
 | .bl _,_,h=>by simp only [Dr] at h ⊢;exact h
 | .int _,_,h=>by simp only [Dr] at h ⊢;exact h
 | .str _,_,h=>by simp only [Dr] at h ⊢;exact h
 | .tup ds,_,h=>by
  simp only [Dr] at h ⊢
  obtain ⟨a,vs,e,q,r⟩:=h
  exact ⟨a,vs,e,s.g q,DrL.monoL s r⟩
 | .lst ds,_,h=>by
  simp only [Dr] at h ⊢
  obtain ⟨a,vs,e,q,r⟩:=h
  exact ⟨a,vs,e,s.seq q,DrL.monoL s r⟩
theorem DrL.monoL {Ts:List Tb} {K:PySem.W.Frag} {H H':Hp} (s:SameL Ts H H'):∀ {ds:List D} {vs:List V},DrL K H ds vs→DrL K H' ds vs
 | [],_,h=>by simp only [DrL] at h ⊢;exact h
 | d::ds,_,h=>by
  simp only [DrL] at h ⊢
  obtain ⟨v,r,e,q,q'⟩:=h
  exact ⟨v,r,e,Dr.monoL s q,DrL.monoL s q'⟩
end
/-! ### a def is called with things tracked that the body around keeps to itself -/
def trkO (H:Hp) (cs:List Addr) (ob:Addr→Obj):Hp:=fun b=>if b∈cs then some (frO (ob b)) else H b
theorem trkO_in {H:Hp} {cs:List Addr} {ob:Addr→Obj} {b:Addr} (h:b∈cs):trkO H cs ob b=some (frO (ob b)):=if_pos h
theorem trkO_out {H:Hp} {cs:List Addr} {ob:Addr→Obj} {b:Addr} (h:b∉cs):trkO H cs ob b=H b:=if_neg h
section
variable {X:Cx} {pins:List (Addr × Obj)} {σ:St} {H:Hp} {s s':Shared} {cs:List Addr} {ob:Addr→Obj}
theorem Inv.cellFree (I:Inv X pins σ H s) {x:Str} {c:Addr} (hc:X.env.cells.lookup x=some c) (hge:X.s₀.heap.objs.size≤c):c∉frs X.stack∧X.base.get? c=none:=by
 refine ⟨fun z=>?_,Heap.get?_none_of_le (Nat.le_trans I.ok.bsz hge)⟩
 rcases List.mem_cons.mp (I.stkSub c z) with q | q
 ·exact I.cne x c hc q
 ·obtain ⟨_,o,ho,_⟩:=I.ok.funs.mem q
  exact absurd (Nat.lt_of_lt_of_le (Heap.lt_size ho) hge) (Nat.lt_irrefl _)
theorem Inv.env0T (I:Inv X pins σ H s) (h1:∀ c∈cs,s.heap.get? c=some (ob c)) (h2:∀ c∈cs,H c=none) (h3:∀ c∈cs,c∉frs X.stack∧X.base.get? c=none):Env0 X.prog X.w X.K X.mg X.base X.A X.stack s (trkO H cs ob):=by
 have E:=I.env0
 have out:∀ {b:Addr} {o:HO},H b=some o→b∉cs:=fun {b o} e z=>by rw [h2 b z] at e;cases e
 refine ⟨E.frames,E.mod,fun b o e=>⟨(E.bs b o e).1,?_⟩,E.bsz,E.funs,fun b hb=>?_,fun b u e=>?_,E.bare⟩
 ·have hb:b∉cs:=fun z=>by rw [(h3 b z).2] at e;cases e
  rw [trkO_out hb];exact (E.bs b o e).2
 ·have hb':b∉cs:=fun z=>(h3 b z).1 hb
  rw [trkO_out hb'];exact E.frf b hb
 ·by_cases hb:b∈cs
  ·rw [trkO_in hb] at e
   have:=Option.some.inj e
   subst this
   exact frO_ok (h1 b hb)
  ·rw [trkO_out hb] at e
   exact (I.hok b u e).stay (fun _ _ _ q=>q) (fun c q=>by rw [trkO_out (out q)];exact q) fun c xs q=>by rw [trkO_out (out q)];exact q
theorem unT {fr:List Addr} {H':Hp} {h h':Heap} {P:Program} {w:World} (h1:∀ c∈cs,h.get? c=some (ob c)) (h2:∀ c∈cs,H c=none) (h3:∀ c∈cs,c∉fr) (U:Un fr [] (trkO H cs ob) H' h h') (hok:HOk P w H' h') :
  Un fr [] H (utk H' cs) h h'∧HOk P w (utk H' cs) h':=by
 have out:∀ {b:Addr} {o:HO},H b=some o→b∉cs:=fun {b o} e z=>by rw [h2 b z] at e;cases e
 have at':∀ c∈cs,H' c=some (frO (ob c)):=fun c hc=>U.frzs c _ _ (trkO_in hc)
 have got:∀ {b:Addr} {o:HO},(∀ x,o≠frO x)→H' b=some o→b∉cs:=fun {b o} ne e z=>by rw [at' b z] at e;exact ne _ (Option.some.inj e).symm
 refine ⟨⟨fun b o e n hb hx=>?_,fun b o e n hb hx=>?_,fun b o e n hx=>?_,fun b o e hx=>U.there b o e hx,fun b xs e=>?_,fun b o u e=>?_,fun b ps e=>?_⟩,fun b u e=>?_⟩
 ·by_cases hc:b∈cs
  ·have q:=frO_at hok (at' b hc)
   have q':=h1 b hc
   rw [e] at q'
   rw [q,Option.some.inj q']
  ·exact U.keep b o e (by rw [trkO_out hc];exact n) hb hx
 ·have hc:b∉cs:=fun z=>h3 b z hb
  exact U.slot b o e (by rw [trkO_out hc];exact n) hb hx
 ·by_cases hc:b∈cs
  ·exact utk_in hc
  ·rw [utk_out hc];exact U.free b o e (by rw [trkO_out hc];exact n) hx
 ·rw [utk_out (out e)];exact U.tups b xs (by rw [trkO_out (out e)];exact e)
 ·rw [utk_out (out e)];exact U.frzs b o u (by rw [trkO_out (out e)];exact e)
 ·obtain ⟨more,q⟩:=U.tbls b ps (by rw [trkO_out (out e)];exact e)
  exact ⟨more,by rw [utk_out (out e)];exact q⟩
 ·have hc:b∉cs:=fun z=>by rw [utk_in z] at e;cases e
  rw [utk_out hc] at e
  refine (hok b u e).stay (fun _ _ _ q=>q) (fun c q=>?_) fun c xs q=>?_
  ·rw [utk_out (got (fun x z=>by cases z) q)];exact q
  ·rw [utk_out (got (fun x z=>by cases z) q)];exact q
theorem Inv.afterT {Q:VK} {u:Value} (I:Inv X pins σ H s) (h1:∀ c∈cs,s.heap.get? c=some (ob c)) (h2:∀ c∈cs,H c=none) (h3:∀ c∈cs,c∉frs X.stack∧X.base.get? c=none)
  (h:CE X.stack X.prog X.w (trkO H cs ob) s (fun v H'=>Q v (utk H' cs)) u s'):EP X pins σ Q u s':=by
 obtain ⟨v,H',os,bare,un,hok,r,q⟩:=h
 obtain ⟨un2,hok2⟩:=unT h1 h2 (fun c hc=>(h3 c hc).1) un hok
 exact I.after ⟨v,utk H' cs,os,bare,un2,hok2,r,q⟩
theorem cxxT {P:Program} {w:World} {outer:List Env} {E:XK} {e:Value} (h1:∀ c∈cs,s.heap.get? c=some (ob c)) (h2:∀ c∈cs,H c=none) (h3:∀ c∈cs,c∉frs outer) (h:CXx P w outer (trkO H cs ob) s (fun e C H'=>E e C (utk H' cs)) e s'):CXx P w outer H s E e s':=by
 obtain ⟨ea,C,H',e1,os,bare,un,hok,fly,q⟩:=h
 obtain ⟨un2,hok2⟩:=unT h1 h2 h3 un hok
 have no:∀ {b:Addr},H' b=none→utk H' cs b=none:=fun {b} z=>by
  by_cases hc:b∈cs
  ·exact utk_in hc
  ·rw [utk_out hc];exact z
 obtain ⟨f1,f2,a0,oe,vs,T,oT,ts,g1,g2,g3,g4,g5,g6,g7,g8⟩:=fly
 exact ⟨ea,C,utk H' cs,e1,os,bare,un2,hok2,⟨f1,no f2,a0,oe,vs,T,oT,ts,g1,g2,g3,g4,g5,g6,no g7,g8⟩,q⟩
end
end L2

set_option Elab.async false
set_option linter.all false
set_option maxRecDepth 100000
set_option maxHeartbeats 4000000
namespace L2
open PySem PySem.Spec PyProof.Rows
def BMain (base:Heap) (mg:Str→Option Value):Prop:=∃ bm o,mg "__builtins__"=some (.ref bm)∧bm≠builtinsNs∧bm≠mainGlobals∧base.get? bm=some o∧o.cls=.type "module"∧o.dict=some builtinsNs∧o.data=.plain
def LamMade (Ts:List Tb) (H H':Hp) (fa:Addr) (clos:List (Str × Addr)) (params:Arguments) (body:Expr) (scope:Scope) (qual:Str):Prop :=
 (∀ b o,(∀ ps,o≠.tbl ps)→H b=some o→H' b=some o)∧Tabs Ts H'∧∃ (pm:Value) (c':Addr) (ctv:Value) (oc:Obj) (vs:Array Value) (t:Tok),H' fa=some (frO (PySem.W.kla_obj "<lambda>" qual params body scope clos pm c' ctv))∧H' c'=some (frO oc)∧oc.data=.fields vs∧vs[1]?=some (.str qual t)
def tLam (Ts:List Tb) (clos:List (Str × Addr)) (params:Arguments) (body:Expr) (scope:Scope) (qual:Str):TE:=fun _ H Q=>Tabs Ts H∧∀ (fa:Addr) (H':Hp),LamMade Ts H H' fa clos params body scope qual→Q (.ref fa) H'
section
variable {X:Cx} {N:List Str} {ix:List (Option Nat)} {params:Arguments} {body:Expr} {lsc:Scope} {lpos:Pos} {c:Addr} {T:Tb} {Ts:List Tb}
theorem pe_lam (S:CompS X.N X.env.scope N ix lsc) (hcode:X.env.code=.ref c) (hC:PySem.W.CodeHd X.base c T.at_) (hB:BMain X.base X.mg) (hT:T∈Ts) (hTn:∀ T'∈Ts,T'.at_=T.at_→T'=T) (hTp:T.pos=lpos) (hTq:T.qual=X.env.qual++"<lambda>")
  (hdef:defaultsOf params X.env=([],[])):PE X (.Lambda params body lsc lpos) (tLam Ts (closeL X.env.cells lsc.names []) params body lsc T.qual):=by
 intro pins s σ H Q I h
 obtain ⟨ht,h⟩:=h
 subst hTp
 refine PySem.W.kla_eval hdef ?_
 rw [←hTq]
 have hcl:=closureFor_run (scope:=lsc) (env:=X.env) (comp_cells I S)
 have hns:s.heap.Ns mainGlobals X.mg:=I.mod.glob.keeps I.bk
 have C:PySem.W.CodeHd s.heap c T.at_:=hC.keeps I.bk
 obtain ⟨bm,ob,b1,b2,b3,b4,b5,b6,b7⟩:=hB
 have tP:∀ {ps:Array Value},H T.at_=some (.tbl ps)→s.heap.get? T.at_=some (PySem.W.tabObj ps):=fun e=>I.hok _ _ e
 have neP:∀ {ps:Array Value} {b:Addr},H T.at_=some (.tbl ps)→H b=none→b≠T.at_:=fun e n z=>by rw [z,e] at n;cases n
 rcases ht T hT with e | ⟨c',oc,vs,t,e,ec,d1,d2⟩
 ·have hbP:bm≠T.at_:=neP e (I.bs _ _ b4).2
  have hgP:mainGlobals≠T.at_:=fun z=>by
   obtain ⟨o,es,ep,q,qd,_⟩:=hns
   rw [z,tP e] at q
   cases q
   cases qd
  refine PySem.W.kla_makeFunction (mg:=X.mg) hcl I.ok.glob hns hcode C (tP e) trivial rfl hgP ⟨bm,ob,b1,b2,b3,hbP,I.bk _ _ b4,b5,b6,b7⟩ fun c' ctv h' tk hx hge hlt hrec htb=>?_
  obtain ⟨c2,oc,vs,t,ee,hoc,d1,d2⟩:=hrec
  cases ee
  have hPlt:T.at_ < s.heap.objs.size:=Heap.lt_size (tP e)
  have nPc:T.at_≠c':=Nat.ne_of_lt (Nat.lt_of_lt_of_le hPlt hge)
  have nPf:T.at_≠h'.objs.size:=Nat.ne_of_lt (Nat.lt_trans (Nat.lt_of_lt_of_le hPlt hge) hlt)
  have ncf:c'≠h'.objs.size:=Nat.ne_of_lt hlt
  have Hc:H c'=none:=I.hok.fresh hge
  have Hf:H h'.objs.size=none:=I.hok.fresh (Nat.le_trans hge (Nat.le_of_lt hlt))
  generalize hfo:PySem.W.kla_obj "<lambda>" T.qual params body lsc (closeL X.env.cells lsc.names []) ((X.mg "__name__").getD .none) c' ctv=fo
  have hfg:(h'.push fo).get? h'.objs.size=some fo:=Heap.get?_push_size _ (by rw [←hfo];rfl)
  let H':Hp:=upd (upd (upd H T.at_ (.tbl #[rawInt T.pos.line,rawInt T.pos.col,.ref c'])) c' (frO oc)) h'.objs.size (frO fo)
  have gP:H' T.at_=some (.tbl #[rawInt T.pos.line,rawInt T.pos.col,.ref c']):=by show upd _ _ _ _=_;rw [upd_ne nPf,upd_ne nPc,upd_same]
  have gc:H' c'=some (frO oc):=by show upd _ _ _ _=_;rw [upd_ne ncf,upd_same]
  have gf:H' h'.objs.size=some (frO fo):=upd_same
  have go:∀ {b:Addr},b≠T.at_→b≠c'→b≠h'.objs.size→H' b=H b:=fun {b} n1 n2 n3=>by show upd _ _ _ _=_;rw [upd_ne n3,upd_ne n2,upd_ne n1]
  have gt:∀ {b:Addr} {o:HO},b≠T.at_→H b=some o→H' b=some o:=fun {b o} n1 q=>by rw [go n1 (ne_of_none q Hc) (ne_of_none q Hf)];exact q
  have hk:∀ b o,b≠T.at_→s.heap.get? b=some o→(h'.push fo).get? b=some o:=fun b o n q=>Heap.get?_push_of_some _ (hx b o n q)
  have I':Inv X pins σ H' { s with heap:=h'.push fo,toks:=tk }:=by
   refine I.un ⟨fun b o q n _ _=>hk b o (neP e n) q,fun b o q n _ _=>⟨o.slots,hk b o (neP e n) q⟩,fun b o q n _=>?_,fun b o q _=>?_,fun b xs q=>?_,fun b o u q=>?_,fun b ps q=>?_⟩ (fun b u q=>?_)
   ·have hb:=Heap.lt_size q
    rw [go (neP e n) (Nat.ne_of_lt (Nat.lt_of_lt_of_le hb hge)) (Nat.ne_of_lt (Nat.lt_trans (Nat.lt_of_lt_of_le hb hge) hlt))];exact n
   ·by_cases hb:b=T.at_
    ·exact ⟨_,by rw [hb];exact Heap.get?_push_of_some _ htb⟩
    ·exact ⟨_,hk b o hb q⟩
   ·exact gt (fun z=>by rw [z,e] at q;cases q) q
   ·exact gt (fun z=>by rw [z,e] at q;cases q) q
   ·by_cases hb:b=T.at_
    ·subst hb
     rw [e] at q
     cases q
     exact ⟨#[rawInt T.pos.line,rawInt T.pos.col,.ref c'],by rw [gP];simp⟩
    ·exact ⟨#[],by rw [gt hb q];simp⟩
   ·by_cases hf:b=h'.objs.size
    ·subst hf
     rw [gf] at q
     cases q
     exact frO_ok hfg
    ·by_cases hc:b=c'
     ·subst hc
      rw [gc] at q
      cases q
      exact frO_ok (Heap.get?_push_of_some _ hoc)
     ·by_cases hb:b=T.at_
      ·subst hb
       rw [gP] at q
       cases q
       show (h'.push fo).get? T.at_=some (PySem.W.tabObj _)
       have:=Heap.get?_push_of_some fo htb
       simpa using this
      ·rw [go hb hc hf] at q
       refine (I.hok b u q).stay (fun d o hd q'=>hk d o ?_ q') (fun d q'=>gt (fun z=>by rw [z,e] at q';cases q') q') fun d xs q'=>gt (fun z=>by rw [z,e] at q';cases q') q'
       rcases hd with z | z
       ·rw [z];exact hb
       ·exact fun z'=>by rw [z',e] at z;cases z
  refine ⟨.ref h'.objs.size,H',I',rfl,h _ _ ⟨fun b o no q=>gt (fun z=>by rw [z,e] at q;exact no _ (Option.some.inj q).symm) q,fun T' hT'=>?_,_,c',ctv,oc,vs,t,by rw [hfo];exact gf,gc,d1,d2⟩⟩
  by_cases hb:T'.at_=T.at_
  ·have:=hTn T' hT' hb
   subst this
   exact .inr ⟨c',oc,vs,t,gP,gc,d1,d2⟩
  ·rcases ht T' hT' with q | ⟨c3,oc3,vs3,t3,q1,q2,q3⟩
   ·exact .inl (gt hb q)
   ·exact .inr ⟨c3,oc3,vs3,t3,gt hb q1,gt (fun z=>by rw [z,e] at q2;cases q2) q2,q3⟩
 ·have hbP:bm≠T.at_:=neP e (I.bs _ _ b4).2
  refine PySem.W.kla_makeFunctionHit (mg:=X.mg) (cv:=.ref c') hcl I.ok.glob hns hcode C (tP e) (by simp [TriplesOk,rawInt]) (by simp [codeAmong,rawInt]) ⟨bm,ob,b1,b2,b3,hbP,I.bk _ _ b4,b5,b6,b7⟩ fun ctv h' tk hk hsz=>?_
  have Hf:H h'.objs.size=none:=I.hok.fresh hsz
  have gt:∀ {b:Addr} {o:HO} {u:HO},H b=some o→upd H h'.objs.size u b=some o:=fun q=>by rw [upd_ne (ne_of_none q Hf)];exact q
  refine ⟨.ref h'.objs.size,_,I.laid (a:=h'.objs.size) (o:=frO (PySem.W.kla_obj "<lambda>" T.qual params body lsc (closeL X.env.cells lsc.names []) ((X.mg "__name__").getD .none) c' ctv)) (t':=tk) (fun b o q=>Heap.get?_push_of_some _ (hk b o q)) hsz (frO_ok (Heap.get?_push_size _ rfl)),rfl,h _ _ ⟨fun b o _ q=>gt q,fun T' hT'=>?_,_,c',ctv,oc,vs,t,upd_same,gt ec,d1,d2⟩⟩
  rcases ht T' hT' with q | ⟨c3,oc3,vs3,t3,q1,q2,q3⟩
  ·exact .inl (gt q)
  ·exact .inr ⟨c3,oc3,vs3,t3,gt q1,gt q2,q3⟩
/-! ### g(e,lambda ..) -/
def tCallL (Ts:List Tb) (params:Arguments) (body:Expr) (lsc:Scope) (qual:Str) (N:List Str) (ix:List (Option Nat)) (sp:Sp) (E:XK) (t0:TE):TE:=fun σ H Q=>t0 σ H fun v0 H1=>Tabs Ts H1∧∀ (fa:Addr) (H2:Hp) (cs:List Addr),(∀ b o,(∀ ps,o≠.tbl ps)→H1 b=some o→H2 b=some o) →
 (∀ H3,Same H2 H3→SameL Ts H1 (utk H3 cs))→(∀ c∈cs,∃ ob,H2 c=some (frO ob))→CloAt H2 fa params body lsc qual N (compSt ix σ)→sp [v0,.ref fa] H2 (fun v H3=>Q v (utk H3 cs)) (fun e C H3=>E e C (utk H3 cs))
variable {k:Nat} {g:Addr} {gd:FuncData} {ps:List Str} {sp:Sp} {E:XK} {x:Str} {p pos:Pos} {e0:Expr} {t0:TE}
theorem pe_callL (G:FnOk X.prog X.w X.K X.mg X.base (CXx X.prog X.w) k g gd ps sp) (hr:Room k X.A) (hg:Gl X x) (hm:X.mg x=some (.ref g)) (hk:PySem.W.keepIn X.K (.ref g)=true) (hb:Binds X.K gd ps []) (hx:Passes (CXx X.prog X.w) X E)
  (h0:PE X e0 t0) (m0:∀ σ H (Q Q':VK),(∀ v H1,Q v H1→Q' v H1)→t0 σ H Q→t0 σ H Q') (S:CompS X.N X.env.scope N ix lsc) (hcode:X.env.code=.ref c) (hC:PySem.W.CodeHd X.base c T.at_) (hB:BMain X.base X.mg) (hfn:∀ y,X.fn y=true) (hT:T∈Ts) (hTn:∀ T'∈Ts,T'.at_=T.at_→T'=T) (hTp:T.pos=lpos) (hTq:T.qual=X.env.qual++"<lambda>")
  (hdef:defaultsOf params X.env=([],[]):=by rfl) (hdb:(x == ("__debug__":Str))=false:=by decide)
  (he:starEach [e0,.Lambda params body lsc lpos] X.env=(false,eval e0 X.env)::starEach [.Lambda params body lsc lpos] X.env:=by rfl) (he2:starEach [.Lambda params body lsc lpos] X.env=(false,eval (.Lambda params body lsc lpos) X.env)::starEach [] X.env:=by rfl) (hpl:(backTo pos (starEach [.Lambda params body lsc lpos] X.env)).any (·.1)=false:=by rfl) :
  PE X (.Call (.Name x p) [e0,.Lambda params body lsc lpos] [] pos) (tCallL Ts params body lsc T.qual N ix sp E t0):=by
 intro pins s σ H Q I h
 refine wpAny_Call_Name_kw (ld_glob I hg hm ?_ hdb)
 have hPA:PA X [e0,.Lambda params body lsc lpos] (tCons t0 (tCons (tLam Ts (closeL X.env.cells lsc.names []) params body lsc T.qual) tNil)):=pa_cons h0 (pa_cons (pe_lam S hcode hC hB hT hTn hTp hTq hdef) pa_nil he2) he
 refine PySem.W.callWith_K (h₀:=X.base) I.ok.mod.kin hk (thn (hPA pos pins s σ H (fun us H2=>∃ (v0:V) (fa:Addr) (H1:Hp),us=[v0,.ref fa]∧(Tabs Ts H1∧∀ (fa:Addr) (H2:Hp) (cs:List Addr),(∀ b o,(∀ ps,o≠.tbl ps)→H1 b=some o→H2 b=some o) →
 (∀ H3,Same H2 H3→SameL Ts H1 (utk H3 cs))→(∀ c∈cs,∃ ob,H2 c=some (frO ob))→CloAt H2 fa params body lsc T.qual N (compSt ix σ)→sp [v0,.ref fa] H2 (fun v H3=>Q v (utk H3 cs)) (fun e C H3=>E e C (utk H3 cs)))∧LamMade Ts H1 H2 fa (closeL X.env.cells lsc.names []) params body lsc T.qual) I ?_) fun us s2 ⟨vs,H2,I2,r,q⟩=>⟨I2.kIn,?_⟩) he hpl
 ·exact m0 σ H _ _ (fun v0 H1 ⟨ht,hq⟩=>⟨ht,fun fa H' made=>⟨v0,fa,H1,rfl,⟨ht,hq⟩,made⟩⟩) h
 ·obtain ⟨v0,fa,H1,rfl,⟨ht,hq⟩,mfr,mtb,pm,c',ctv,oc,vsc,t,m1,m2,m3,m4⟩:=q
  let clos:=closeL X.env.cells lsc.names []
  let cs:List Addr:=(lsc.names.map (·.1)).filterMap (fun y=>List.lookup y clos)
  let ob:Addr→Obj:=fun c=>(s2.heap.get? c).getD { cls:=.none,data:=.plain }
  have lk:∀ {y:Str} {c:Addr},clos.lookup y=some c→X.env.cells.lookup y=some c:=fun e=>comp_look I2 S e
  have mem:∀ {c:Addr},c∈cs→∃ y,clos.lookup y=some c:=fun {c} hc=>by
   obtain ⟨y,_,e⟩:=List.mem_filterMap.mp hc
   exact ⟨y,e⟩
  have inn:∀ y c,clos.lookup y=some c→c∈cs:=fun y c e=>by
   refine List.mem_filterMap.mpr ⟨y,?_,e⟩
   by_cases hm':(y,NameKind.free)∈lsc.names
   ·exact List.mem_map.mpr ⟨_,hm',rfl⟩
   ·have:=closeL_out (cells:=X.env.cells) lsc.names [] y hm'
    rw [show (closeL X.env.cells lsc.names []).lookup y=some c from e] at this
    cases this
  have h1:∀ c∈cs,s2.heap.get? c=some (ob c):=fun c hc=>by
   obtain ⟨y,e⟩:=mem hc
   obtain ⟨v,o,ho,_⟩:=I2.cell y c (lk e)
   show _=some ((s2.heap.get? c).getD _)
   rw [ho];rfl
  have h2:∀ c∈cs,H2 c=none:=fun c hc=>by
   obtain ⟨y,e⟩:=mem hc
   exact I2.freeC y c (lk e)
  have h3:∀ c∈cs,c∉frs X.stack∧X.base.get? c=none:=fun c hc=>by
   obtain ⟨y,e⟩:=mem hc
   exact I2.cellFree (lk e) (I2.ok.cab y c (hfn y) (lk e))
  have out:∀ {b:Addr} {o:HO},H2 b=some o→b∉cs:=fun {b o} e z=>by rw [h2 b z] at e;cases e
  have tr:∀ {b:Addr} {o:HO},H2 b=some o→trkO H2 cs ob b=some o:=fun e=>by rw [trkO_out (out e)];exact e
  have spq:=hq fa (trkO H2 cs ob) cs (fun b o no e=>tr (mfr b o no e)) (fun H3 s3=>?_) (fun c hc=>⟨ob c,trkO_in hc⟩) ?_
  ·refine wpAny_call (codeAny_mono (G.run X.A X.stack s2 (trkO H2 cs ob) ⟨us,[]⟩ us [v0,.ref fa] _ _ hr (I2.env0T h1 h2 h3) (by have:=hb s2 us I2.kIn (by rw [List.append_nil,←r.length];exact G.len _ _ _ _ spq);rw [List.append_nil] at this;exact this) r spq) fun r s' hq=>?_)
   cases r with
   | error e=>exact hx pins σ H2 s2 e s' I2 (cxxT h1 h2 (fun c hc=>(h3 c hc).1) hq)
   | ok fl =>
    cases fl with
    | ret u=>exact I2.afterT h1 h2 h3 hq
    | next=>exact False.elim hq
    | brk=>exact False.elim hq
    | cont=>exact False.elim hq
  ·have out3:∀ {b:Addr} {o:HO},H2 b=some o→utk H3 cs b=some o:=fun e=>by rw [utk_out (out e)];exact s3 _ _ (tr e)
   refine ⟨fun b o no e=>out3 (mfr b o no e),fun _ T' hT'=>?_⟩
   rcases mtb T' hT' with q | ⟨c3,oc3,vs3,t3,q1,q2,q3⟩
   ·exact .inl (out3 q)
   ·exact .inr ⟨c3,oc3,vs3,t3,out3 q1,out3 q2,q3⟩
  ·refine ⟨clos,cs,pm,c',ctv,oc,vsc,t,tr m1,tr m2,m3,m4,fun y z c e1 e2=>I2.ok.inj y z c (lk e1) (lk e2),inn,fun c hc=>⟨mem hc,?_⟩,fun y hy=>?_,fun i y v e1 e2=>?_⟩
   ·obtain ⟨y,e⟩:=mem hc
    obtain ⟨v,o,ho,hd⟩:=I2.cell y c (lk e)
    refine ⟨ob c,v,trkO_in hc,?_⟩
    have:=h1 c hc
    rw [ho] at this
    rw [←Option.some.inj this];exact hd
   ·have hm':(y,NameKind.free)∈lsc.names:=PySem.mem_of_lookup hy
    obtain ⟨c,e⟩:=comp_cells I2 S y hm'
    exact ⟨c,(closeL_in lsc.names [] y (comp_cells I2 S) (.inl hm')).trans e⟩
   ·obtain ⟨j,f1,f2,f3⟩:=S.at_ e1 e2
    have hm':(y,NameKind.free)∈lsc.names:=PySem.mem_of_lookup f2
    obtain ⟨m,hn,hl⟩:=I2.loc
    have hvis:=S.frees _ hm' rfl
    obtain ⟨u,ru,look⟩:=hl j y v f1 f3 (.inr hvis)
    rcases look with ⟨hk',_⟩ | ⟨_,c,ec,cell⟩
    ·have hk'':X.env.scope.names.lookup y=some .local:=hk'
     rcases hvis with z | z
     ·rw [z] at hk'';cases hk''
     ·rw [z] at hk'';cases hk''
    ·have hcl:clos.lookup y=some c:=(closeL_in lsc.names [] y (comp_cells I2 S) (.inl hm')).trans ec
     have hc:=inn y c hcl
     obtain ⟨o,ho,hd⟩:=cell
     refine ⟨c,ob c,u,hcl,trkO_in hc,?_,ru⟩
     have:=h1 c hc
     rw [ho] at this
     rw [←Option.some.inj this];exact hd
end
end L2

set_option Elab.async false
set_option linter.all false
set_option maxRecDepth 100000
set_option maxHeartbeats 4000000
namespace L2
open PySem PySem.Spec PyProof.Rows
/-! ### data stay where frozen things are hidden -/
def NFr (H H':Hp):Prop:=∀ b o,(∀ ob,o≠frO ob)→H b=some o→H' b=some o
theorem NFr.seq {K:PySem.W.Frag} {H H':Hp} {a:Addr} {xs:List V} (s:NFr H H') (h:SqL K H a xs):SqL K H' a xs:=by
 rcases h with (h | ⟨o,h⟩) | h
 ·exact .inl (.inl (s _ _ (fun _ z=>by cases z) h))
 ·exact .inl (.inr ⟨o,s _ _ (fun _ z=>by cases z) h⟩)
 ·exact .inr h
mutual
theorem Dr.nfr {K:PySem.W.Frag} {H H':Hp} (s:NFr H H'):∀ {d:D} {v:V},Dr K H d v→Dr K H' d v
 | .non,_,h=>by simp only [Dr] at h ⊢;exact h
 | .bl _,_,h=>by simp only [Dr] at h ⊢;exact h
 | .int _,_,h=>by simp only [Dr] at h ⊢;exact h
 | .str _,_,h=>by simp only [Dr] at h ⊢;exact h
 | .tup ds,_,h=>by
  simp only [Dr] at h ⊢
  obtain ⟨a,vs,e,q,r⟩:=h
  exact ⟨a,vs,e,s _ _ (fun _ z=>by cases z) q,DrL.nfr s r⟩
 | .lst ds,_,h=>by
  simp only [Dr] at h ⊢
  obtain ⟨a,vs,e,q,r⟩:=h
  exact ⟨a,vs,e,s.seq q,DrL.nfr s r⟩
theorem DrL.nfr {K:PySem.W.Frag} {H H':Hp} (s:NFr H H'):∀ {ds:List D} {vs:List V},DrL K H ds vs→DrL K H' ds vs
 | [],_,h=>by simp only [DrL] at h ⊢;exact h
 | d::ds,_,h=>by
  simp only [DrL] at h ⊢
  obtain ⟨v,r,e,q,q'⟩:=h
  exact ⟨v,r,e,Dr.nfr s q,DrL.nfr s q'⟩
end
theorem NFr.utk {H H3:Hp} {cs:List Addr} (hc:∀ c∈cs,∃ ob,H c=some (frO ob)) (s:Same H H3):NFr H3 (L2.utk H3 cs):=fun b o n e=>utk_get (fun c h=>let ⟨ob,q⟩:=hc c h;⟨ob,s _ _ q⟩) e n
theorem Fun.okL {CX:CXT} {P:Program} {w:World} {K:PySem.W.Frag} {mg:Str→Option Value} {base:Heap} {x qual:Str} {st:Stmt} {f c:Addr} {fd:FuncData} {N ps:List Str} {k:Nat} {sp:Sp} (F:Fun K x qual st f fd) (hc:fd.code=.ref c) (S:FnScope N ps (defScope st)) (len:∀ vs H Q E,sp vs H Q E→vs.length=ps.length)
  (hbody:∀ (A:Around) (outer:List Env) (s:Shared) (H:Hp) (vs:List V) (Q:VK) (E:XK),Room k (A.deeper (envOfC qual (defScope st) s.heap.objs.size f (.ref c)))→sp vs H Q E →
   ∃ t,PSs (cxOf CX P w K mg base N qual (defScope st) f (.ref c) A outer s H E) (defBody st) t∧t { nx:=fun _ H'=>Q .non H',rt:=Q } (start N vs) H):FnOk P w K mg base CX (k+1) f fd ps sp:=by
 obtain ⟨oc,od,kV,doc,pm,an,cdv,ct,osl,rfl,lk,hcd⟩:=F.ex
 have:cdv=.ref c:=hc
 subst this
 exact fn_of lk hcd S len fun A outer s H vs Q E hr hsp=>hbody A outer s H vs Q E hr hsp
theorem law_call2 {P:Program} {w:World} {K:PySem.W.Frag} {mg mb:Str→Option Value} {CX:CXT} {k:Nat} {fa a:Addr} {fd:FuncData} {x:Str} {sp:Sp} {s₁:Shared} {vs:List Value} {ns:List Int} {Ts:List Tb}
  (KX:K.In s₁.heap) (hns:s₁.heap.Ns mainGlobals mg) (hb:s₁.heap.Ns builtinsNs mb) (hbb:∀ x:Str,x≠"__name__"→mb x=bootBuiltins x) (hlim:s₁.heap.NoLimit) (hg:s₁.gens=#[])
  (ha:s₁.heap.get? a=some { cls:=.type "list",data:=.seq vs.toArray }) (hi:IntsAre vs ns) (hl:ns.length≤sizeLine) (hr:Room k callerA)
  (hT:∀ T∈Ts,s₁.heap.get? T.at_=some (PySem.W.tabObj #[])∧K.lookup T.at_=none∧∃ c,PySem.W.CodeHd s₁.heap c T.at_) (hbm:BMain s₁.heap mg)
  (F:∀ base:Heap,K.In base→base.Ns mainGlobals mg→BMain base mg→FnOk P w K mg base CX k fa fd [x] sp) (hbind:∀ (s:Shared) (u:Value),BindsTo s fd ⟨[u],[]⟩ [(x,u)])
  (hsp:∀ H:Hp,Tabs Ts H→SqL K H a (ns.map V.int)→sp [.ref a] H (fun v _=>v=.bl true) fun _ _ _=>False)
  (hCX:∀ H e s',CX [] H s₁ (fun _ _ _=>False) e s'→False) :
  codeAny (model P w) callerA (.call (.ref fa) ⟨[.ref a],[]⟩) (fun r s'=>r=.ok (.ret (.bool true))∧OldK s₁.heap s'.heap∧s'.os=s₁.os∧AllBare s'.gens) s₁:=by
 have rv:=vals_ints hi
 have lenV:=hi.length
 have isT:∀ b,(∃ T∈Ts,T.at_=b)→s₁.heap.get? b=some (PySem.W.tabObj #[])∧K.lookup b=none∧∃ c,PySem.W.CodeHd s₁.heap c b:=fun b ⟨T,hT1,e⟩=>e ▸ hT T hT1
 have core:∀ H:Hp,Tabs Ts H→SqL K H a (ns.map V.int)→HOk P w H s₁.heap→(∀ b,H b≠none→(b=a∧K.lookup a=none∧∃ o xs,H b=some (.frz o (.lst xs)))∨((∃ T∈Ts,T.at_=b)∧H b=some (.tbl #[]))) →
   codeAny (model P w) callerA (.call (.ref fa) ⟨[.ref a],[]⟩) (fun r s'=>r=.ok (.ret (.bool true))∧OldK s₁.heap s'.heap∧s'.os=s₁.os∧AllBare s'.gens) s₁:=by
  intro H hO hS hok hA
  have base_of:∀ {b:Addr} {o:Obj},s₁.heap.get? b=some o→H b=none→(hidT s₁.heap H).get? b=some o:=fun e n=>hidT_get e n
  have noA:∀ {b:Addr} {o:Obj},s₁.heap.get? b=some o→(∀ xs,o.data≠.seq xs)→(∀ xs,o.data≠.fields xs)→H b=none:=fun {b o} e d1 d2=>by
   cases q:H b with
   | none=>rfl
   | some u =>
    rcases hA b (by rw [q];simp) with ⟨e',_⟩ | ⟨e',_⟩
    ·subst e'
     rw [ha] at e;cases e
     exact absurd rfl (d1 _)
    ·rw [(isT b e').1] at e;cases e
     exact absurd rfl (d2 _)
  have nsK:∀ {b:Addr} {m:Str→Option Value},s₁.heap.Ns b m→(hidT s₁.heap H).Ns b m:=fun {b m} ⟨o,es,ep,e,d,r⟩=>⟨o,es,ep,base_of e (noA e (fun xs z=>by rw [z] at d;cases d) (fun xs z=>by rw [z] at d;cases d)),d,r⟩
  have hKb:K.In (hidT s₁.heap H):=fun b o e=>base_of (KX b o e) (by
   cases q:H b with
   | none=>rfl
   | some u =>
    rcases hA b (by rw [q];simp) with ⟨e',hk,_⟩ | ⟨e',_⟩
    ·subst e'
     rw [hk] at e;cases e
    ·rw [(isT b e').2.1] at e;cases e)
  have hM:Mod K mg (hidT s₁.heap H):=⟨hKb,nsK hns,⟨mb,nsK hb,hbb⟩,let ⟨mc,h1,h2⟩:=hlim;⟨mc,nsK h1,h2⟩⟩
  have hBM:BMain (hidT s₁.heap H) mg:=by
   obtain ⟨bm,o,b1,b2,b3,b4,b5,b6,b7⟩:=hbm
   exact ⟨bm,o,b1,b2,b3,base_of b4 (noA b4 (fun xs z=>by rw [z] at b7;cases b7) (fun xs z=>by rw [z] at b7;cases b7)),b5,b6,b7⟩
  have e0:Env0 P w K mg (hidT s₁.heap H) callerA [] s₁ H:=⟨rfl,hM,fun b o e=>of_hidT e,Nat.le_of_eq (hidT_size _ _),trivial,fun b hb=>absurd (show b∈([]:List Addr) from hb) (by simp),hok,.of_eq hg⟩
  refine codeAny_mono ((F _ hKb (nsK hns) hBM).run callerA [] s₁ H ⟨[.ref a],[]⟩ [.ref a] [.ref a] _ _ hr e0 (hbind s₁ (.ref a)) (.cons rfl .nil) (hsp H hO hS)) fun r s' h=>?_
  cases r with
  | error e=>exact (hCX H e s' h).elim
  | ok fl =>
   cases fl with
   | next=>exact False.elim h
   | brk=>exact False.elim h
   | cont=>exact False.elim h
   | ret u =>
    obtain ⟨v,H',os,bare,un,hok',r',q⟩:=h
    have q':v=.bl true:=q
    subst q'
    obtain rfl:u=Value.bool true:=r'
    have key:∀ b o,s₁.heap.get? b=some o→s'.heap.get? b=some o∨((∃ T∈Ts,T.at_=b)∧∃ more,s'.heap.get? b=some (PySem.W.tabObj (#[]++more))):=fun b o e=>by
     cases q:H b with
     | none=>exact .inl (un.keep b o e q (by intro z;exact absurd (show b∈([]:List Addr) from z) (by simp)) (by simp))
     | some u =>
      rcases hA b (by rw [q];simp) with ⟨_,_,ob,xs,z⟩ | ⟨e',z⟩
      ·have z2:=un.frzs b ob _ z
       obtain ⟨e1,_⟩:=hok b _ z
       obtain ⟨e2,_⟩:=hok' b _ z2
       rw [e] at e1;cases e1
       exact .inl e2
      ·obtain ⟨more,z2⟩:=un.tbls b #[] z
       exact .inr ⟨e',more,hok' b _ z2⟩
    refine ⟨rfl,⟨fun b o e=>?_,fun b o e=>?_⟩,os,bare⟩
    ·rcases key b o e with z | ⟨e',more,z⟩
     ·exact .inl z
     ·obtain ⟨h1,_,c,hc⟩:=isT b e'
      rw [e] at h1
      cases h1
      refine .inr (.inl ⟨?_,rfl,#[],more,rfl,z⟩)
      obtain ⟨o,vs,_,_,_,_,_,_,_,g1,g2,g3,g4,_⟩:=hc
      exact ⟨c,o,vs,g1,g2,g3,g4⟩
    ·rcases key b o e with z | ⟨e',more,z⟩
     ·exact ⟨_,z⟩
     ·exact ⟨_,z⟩
 have naT:∀ T∈Ts,T.at_≠a:=fun T h z=>by
  have:=(hT T h).1
  rw [z,ha] at this
  cases this
 open Classical in
 cases hk:K.lookup a with
 | some o =>
  have e:=KX a o hk
  rw [ha] at e
  cases e
  refine core (fun b=>if (∃ T∈Ts,T.at_=b) then some (.tbl #[]) else none) (fun T h=>.inl (if_pos ⟨T,h,rfl⟩)) (.inr ⟨_,vs.toArray,_,hk,rfl,rfl,rfl,by rw [List.size_toArray,lenV];exact hl,by simpa using rv⟩) (fun b u z=>?_) fun b z=>?_
  ·by_cases hb:∃ T∈Ts,T.at_=b
   ·have z':=(if_pos hb).symm.trans z
    cases z'
    exact (isT b hb).1
   ·have z':=(if_neg hb).symm.trans z
    cases z'
  ·by_cases hb:∃ T∈Ts,T.at_=b
   ·exact .inr ⟨hb,if_pos hb⟩
   ·exact absurd (if_neg hb) z
 | none =>
  have cA:∀ b,b=a→(if b=a then some (HO.frz { cls:=.type "list",data:=.seq vs.toArray } (.lst (ns.map V.int))) else if (∃ T∈Ts,T.at_=b) then some (.tbl #[]) else none)=some (HO.frz { cls:=.type "list",data:=.seq vs.toArray } (.lst (ns.map V.int))):=fun b e=>if_pos e
  have cT:∀ b,b≠a→(∃ T∈Ts,T.at_=b)→(if b=a then some (HO.frz { cls:=.type "list",data:=.seq vs.toArray } (.lst (ns.map V.int))) else if (∃ T∈Ts,T.at_=b) then some (.tbl #[]) else none)=some (.tbl #[]):=fun b e h=>by rw [if_neg e,if_pos h]
  have cN:∀ b,b≠a→¬ (∃ T∈Ts,T.at_=b)→(if b=a then some (HO.frz { cls:=.type "list",data:=.seq vs.toArray } (.lst (ns.map V.int))) else if (∃ T∈Ts,T.at_=b) then some (.tbl #[]) else none)=none:=fun b e h=>by rw [if_neg e,if_neg h]
  refine core (fun b=>if b=a then some (.frz { cls:=.type "list",data:=.seq vs.toArray } (.lst (ns.map V.int))) else if (∃ T∈Ts,T.at_=b) then some (.tbl #[]) else none) (fun T h=>.inl (cT _ (naT T h) ⟨T,h,rfl⟩)) (.inl (.inr ⟨{ cls:=.type "list",data:=.seq vs.toArray },if_pos rfl⟩)) (fun b u z=>?_) (fun b z=>?_)
  ·by_cases hb:b=a
   ·have z':=(cA b hb).symm.trans z
    cases z'
    subst hb
    exact ⟨ha,by rw [List.length_map];exact hl,vs,_,rv,ha⟩
   ·by_cases hb2:∃ T∈Ts,T.at_=b
    ·have z':=(cT b hb hb2).symm.trans z
     cases z'
     exact (isT b hb2).1
    ·have z':=(cN b hb hb2).symm.trans z
     cases z'
  ·by_cases hb:b=a
   ·exact .inl ⟨hb,hk,_,_,cA b hb⟩
   ·by_cases hb2:∃ T∈Ts,T.at_=b
    ·exact .inr ⟨hb2,cT b hb hb2⟩
    ·exact absurd (cN b hb hb2) z
theorem walk_of2 {l:PySem.W.OpenLaw} {n k:Nat} {q:Program} {loose:List Str} {XP:(Str→Option Value)→Heap→Prop} {YP:World→Heap→Prop} {d:DefRec} {K:Params→PySem.W.Frag} {CX:World→CXT} {sp:World→Sp} {x:Str} {Ts:List Tb}
  (hn:l.most=some n) (hn2:n≤sizeLine) (hdf:d.params.defaults=[]) (hr:Room k callerA)
  (hY:∀ (w:World) (h:Heap),YP w h→(K w.params).In h∧∀ P∈Ts.map (·.at_),h.get? P=some (PySem.W.tabObj #[]))
  (F:∀ (w:World) (mg:Str→Option Value) (fa:Addr) (h:Heap),(K w.params).In h→h.Ns mainGlobals mg→mg d.name=some (.ref fa) →
   ∃ fd:FuncData,(∀ (s:Shared) (u:Value),BindsTo s fd ⟨[u],[]⟩ [(x,u)])∧(∀ T∈Ts,(K w.params).lookup T.at_=none∧∃ c,PySem.W.codeHdIn (K w.params) c T.at_=true) ∧
    ∀ base:Heap,(K w.params).In base→base.Ns mainGlobals mg→BMain base mg→FnOk l.prog w (K w.params) mg base (CX w) k fa fd [x] (sp w))
  (hsp:∀ (w:World) (H:Hp) (a:Addr) (ns:List Int),ns.length≤n→Tabs Ts H→SqL (K w.params) H a (ns.map V.int)→sp w [.ref a] H (fun v _=>v=.bl true) fun _ _ _=>False)
  (hCX:∀ (w:World) (H:Hp) (s:Shared) (e:Value) (s':Shared),CX w [] H s (fun _ _ _=>False) e s'→False) :
  PySem.W.WalkO q loose XP YP l.row.toRowW d [] (fun f vs=>PySem.call f vs):=by
 refine Att.attach_call hn hdf fun w s₀ s₁ mg mb fa o pm cd doc a vs ns G Y ho hd hcd hmg hobj hints hlen hg=>?_
 obtain ⟨KX,hTb⟩:=hY w _ Y
 obtain ⟨fd,hb,hT,hF⟩:=F w mg fa _ KX G.T.g hmg
 refine law_call2 (Ts:=Ts) KX G.T.g G.T.b G.T.builtins G.T.nolimit hg hobj hints (Nat.le_trans hlen hn2) hr (fun T h=>⟨hTb _ (List.mem_map.mpr ⟨T,h,rfl⟩),(hT T h).1,?_⟩) ?_ hF hb (fun H hO hS=>hsp w H a ns hlen hO hS) fun H e s'=>hCX w H s₁ e s'
 ·obtain ⟨c,e⟩:=(hT T h).2
  exact ⟨c,PySem.W.codeHd_of_K KX e⟩
 ·obtain ⟨bm,ob,b1,b2,b3,b4,b5,b6⟩:=G.T.bmain
  refine ⟨bm,ob,b1,b2,fun z=>?_,b3,b4,b5,b6⟩
  obtain ⟨o,es,ep,e,d,_⟩:=G.T.g
  rw [z] at b3
  rw [b3] at e
  cases e
  rw [b6] at d
  cases d
theorem tb_uniq {Ts:List Tb} {T:Tb} (h:(Ts.map (·.at_)).Nodup) (hT:T∈Ts):∀ T'∈Ts,T'.at_=T.at_→T'=T:=by
 induction Ts with
 | nil=>cases hT
 | cons a r ih =>
  rw [List.map_cons,List.nodup_cons] at h
  intro T' hT' e
  rcases List.mem_cons.mp hT with z | z
  ·rcases List.mem_cons.mp hT' with y | y
   ·rw [y,z]
   ·exact absurd (List.mem_map.mpr ⟨T',y,by rw [e,z]⟩) h.1
  ·rcases List.mem_cons.mp hT' with y | y
   ·exact absurd (List.mem_map.mpr ⟨T,z,by rw [←e,y]⟩) h.1
   ·exact ih h.2 z T' y e
end L2

set_option Elab.async false
set_option linter.all false
set_option maxRecDepth 100000
set_option maxHeartbeats 4000000
namespace Gu
open PySem L2
/-! ### machines whose rows are told by a function,under names -/
abbrev nV (nm:Int→Int) (i:Int):V:=.int (nm i)
abbrev kN (nm:Int→Int) (i:Int):Key:=Sum.inl (nm i)
theorem kN_inj {nm:Int→Int} (h:∀ x y,nm x=nm y→x=y) (x y:Int) (e:kN nm x=kN nm y):x=y:=h x y (Sum.inl.inj e)
def rowN (nm:Int→Int) (r:Row):Row:=(r.1,r.2.map nm)
theorem rowN_id (r:Row):rowN (fun i=>i) r=r:=by unfold rowN;rw [List.map_id']
def spRow (K:PySem.W.Frag) (rows:List Row) (nm:Int→Int):List V→Hp→VK→Prop:=fun vs H Q=>∃ i:Int,vs=[.int (nm i)]∧0≤i∧i < (rows.length:Int)∧Gives K H Q (rowD (rowN nm (row rows i)))
section
variable (P:Program) (w:World) (K:PySem.W.Frag) (mg:Str→Option Value) (base:Heap) (CX:CXT) (k:Nat)
def spComeF:Sp:=fun vs H Q _=>∃ (f:Addr) (n:Nat) (rows:List Row) (nm:Int→Int),vs=[.int (nm 0),.ref f]∧(∀ x y,nm x=nm y→x=y)∧CallV P w K mg base CX k H f (spRow K rows nm)∧GoodM n rows∧n≤60∧∀ (r:Addr) (H':Hp),Same H H'→RowsAt K H' r (found rows)→Q (.ref r) H'
def spLeastF (Ct:Addr):Sp:=fun vs H Q E=>∃ (f:Addr) (n:Nat) (rows:List Row) (nm:Int→Int),vs=[.int (nm 0),.ref f]∧(∀ x y,nm x=nm y→x=y)∧CallV P w K mg base CX k H f (spRow K rows nm)∧GoodM n rows∧n≤60 ∧
 ((shr rows).length≤60→Gives K H Q (D.tup (rowsD (shr rows))))∧(60 < (shr rows).length→TMx Ct E H)
end
/-! ### what a def hands back that makes lambdas -/
def GivesL (Ts:List Tb) (K:PySem.W.Frag) (H:Hp) (Q:VK) (d:D):Prop:=∀ v H',SameL Ts H H'→Dr K H' d v→Q v H'
def spLawL (Ts:List Tb) (K:PySem.W.Frag):Sp:=fun vs H Q _=>∃ (a:Addr) (ns:List Int),vs=[.ref a]∧SqL K H a (ns.map V.int)∧ns.length≤63∧Tabs Ts H∧∀ H',Q (.bl true) H'
theorem Tabs.mono {Ts:List Tb} {H H':Hp} (h:Tabs Ts H) (s:Same H H'):Tabs Ts H':=(Same.l s).tabs h
def lamPos:List Stmt→Pos
 | [.Return (some (.Call _ [_,.Lambda _ _ _ p] _ _)) _]=>p
 | _::r=>lamPos r
 | []=>⟨0,0,0,0⟩
end Gu

set_option Elab.async false
set_option linter.all false
set_option maxRecDepth 100000
set_option maxHeartbeats 4000000
namespace L2
open PySem PySem.Spec PyProof.Rows
theorem CallV.lam {CX:CXT} {P:Program} {w:World} {K:PySem.W.Frag} {mg:Str→Option Value} {base:Heap} {k:Nat} {H:Hp} {f:Addr} {params:Arguments} {body:Expr} {scope:Scope} {qual:Str} {N ps:List Str} {fv:St} {sp:List V→Hp→VK→Prop} (C:CloAt H f params body scope qual N fv) (S:LamS N ps scope)
  (hbind:∀ (cl:List (Str × Addr)) (pm cdv ct:Value) (us:List Value),us.length=ps.length→bindArgs (PySem.W.kla_fn "<lambda>" qual params body scope cl pm cdv ct) ⟨us,[]⟩=pure (ps.zip us)) (hfv:fv.length=N.length)
  (len:∀ vs H Q,sp vs H Q→vs.length=ps.length)
  (hbody:∀ (H':Hp),Same H H'→∀ (A:Around) (outer:List Env) (s:Shared) (cd:Value) (clos:List (Str × Addr)) (cs:List Addr) (vs:List V) (Q:VK),Room k (A.deeper (PySem.W.envX qual scope s.heap.objs.size f cd clos))→NFr H' (utk H' cs)→sp vs H' Q →
   ∃ t,PE (cxLam P w K mg base N qual scope f cd clos A outer s (utk H' cs)) body t∧t (lamSt vs fv) (utk H' cs) fun v H1=>(∀ c∈cs,H1 c=none)→Q v (rtk H' H1 cs)):CallV P w K mg base CX (k+1) H f sp:=by
 obtain ⟨clos,cs,pm,c',ctv,oc,vs',t,e1,_⟩:=id C
 refine ⟨⟨_,_,e1,rfl⟩,fun H' s' A outer s us vs Q hr e0 r hsp=>?_⟩
 exact clo_run (C.mono s') S hbind hfv hr e0 r (len _ _ _ hsp) fun cd clos cs hr' hcs=>hbody H' s' A outer s cd clos cs vs Q hr' (NFr.utk hcs (Same.refl _)) hsp
theorem Tabs.over {Ts:List Tb} {H:Hp} {a:Addr} {xs:List V} {o:HO} (h:Tabs Ts H) (e:H a=some (.lst xs)):Tabs Ts (upd H a o):=fun T hT=>by
 have ne:∀ {b:Addr} {u:HO},H b=some u→(∀ xs,u≠.lst xs)→upd H a o b=some u:=fun {b u} q n=>by
  have:b≠a:=fun z=>by rw [z,e] at q;exact n xs (Option.some.inj q).symm
  rw [upd_ne this];exact q
 rcases h T hT with q | ⟨c',oc,vs,t,q1,q2,q3⟩
 ·exact .inl (ne q (fun _ z=>by cases z))
 ·exact .inr ⟨c',oc,vs,t,ne q1 (fun _ z=>by cases z),ne q2 (fun _ z=>by cases z),q3⟩
end L2

set_option Elab.async false
set_option linter.all false
set_option maxRecDepth 100000
set_option maxHeartbeats 4000000
namespace L2
open PySem PySem.Spec PyProof.Rows
/-! ### a list or a tuple -/
def SqS (K:PySem.W.Frag) (H:Hp) (a:Addr) (xs:List V):Prop:=SqL K H a xs∨SqT K H a xs
theorem SqS.mono {K:PySem.W.Frag} {H H':Hp} {a:Addr} {xs:List V} (h:SqS K H a xs) (s:Same H H'):SqS K H' a xs:=by
 rcases h with h | h
 ·exact .inl (s.seq h)
 ·refine .inr ?_
  rcases h with (h | ⟨o,h⟩) | h
  ·exact .inl (.inl (s _ _ h))
  ·exact .inl (.inr ⟨o,s _ _ h⟩)
  ·exact .inr h
def rIxQ (K:PySem.W.Frag):R2:=fun x y H Q=>∃ p xs i v,x=.ref p∧y=.int i∧SqS K H p xs∧atI xs i=some v∧Q v H
theorem ixQ {X:Cx} (K:PySem.W.Frag) (h:X.K=K):IxR X (rIxQ K):=by
 subst h
 intro value slice pins s σ H x y v u Q I rx ry q hs
 obtain ⟨p,xs,i,z,e1,e2,hq,e3,q⟩:=q
 rcases hq with hq | hq
 ·exact ix_list value slice pins s σ H x y v u Q I rx ry ⟨p,xs,i,z,e1,e2,hq,e3,q⟩ hs
 ·exact ix_tup value slice pins s σ H x y v u Q I rx ry ⟨p,xs,i,z,e1,e2,hq,e3,q⟩ hs
end L2
namespace Gu
open PySem L2
def RowsN (K:PySem.W.Frag) (H:Hp) (us:List V) (rows:List Row) (nm:Int→Int):Prop:=∀ i:Int,0≤i→i < (rows.length:Int)→0≤nm i∧∃ v,us[(nm i).toNat]?=some v∧Dr K H (rowD (rowN nm (row rows i))) v
theorem RowsN.mono {K:PySem.W.Frag} {H H':Hp} {us:List V} {rows:List Row} {nm:Int→Int} (h:RowsN K H us rows nm) (s:Same H H'):RowsN K H' us rows nm:=fun i h0 h1=>by
 obtain ⟨a,v,e,d⟩:=h i h0 h1
 exact ⟨a,v,e,d.mono s⟩
theorem RowsN.of {K:PySem.W.Frag} {H:Hp} {us:List V} {rows:List Row} (h:DrL K H (rowsD rows) us):RowsN K H us rows (fun i=>i):=fun i h0 h1=>by
 obtain ⟨v,ev,dv⟩:=rows_at h (row_get h0 h1)
 exact ⟨h0,v,ev,by rw [rowN_id];exact dv⟩
/-! ### a dict from named rows to data -/
section
variable {K:PySem.W.Frag} {H H':Hp} {f:Int→D} {r:Int} {nm:Int→Int}
def MkN (nm:Int→Int) (K:PySem.W.Frag) (H:Hp) (o:List Int) (f:Int→D) (kvs:List (Key × V)):Prop:=∃ vs,kvs=mk (o.map nm) vs∧DrL K H (o.map f) vs
theorem MkN.nil:MkN nm K H [] f []:=⟨[],rfl,DrL.nil⟩
theorem MkN.get (ni:∀ x y,nm x=nm y→x=y):∀ {o:List Int} {kvs:List (Key × V)},MkN nm K H o f kvs→r∈o→∃ v,valV kvs (kN nm r)=some v∧Dr K H (f r) v
 | [],_,_,h=>by simp at h
 | b::o,_,⟨vs,rfl,d⟩,h=>by
  rw [List.map_cons] at d
  simp only [DrL] at d
  obtain ⟨v,r',rfl,d1,d2⟩:=d
  by_cases e:b=r
  ·subst e
   exact ⟨v,valV_pos (p:=(kN nm b,v)) rfl,d1⟩
  ·obtain ⟨v',h1,h2⟩:=MkN.get ni (o:=o) ⟨r',rfl,d2⟩ (by rcases List.mem_cons.mp h with z | z;exact absurd z.symm e;exact z)
   refine ⟨v',?_,h2⟩
   show valV ((kN nm b,v)::mk (o.map nm) r') (kN nm r)=_
   rw [valV_neg (p:=(kN nm b,v)) (fun z=>e (ni _ _ (Sum.inl.inj z)))]
   exact h1
theorem MkN.no (ni:∀ x y,nm x=nm y→x=y):∀ {o:List Int} {kvs:List (Key × V)},MkN nm K H o f kvs→r∉o→valV kvs (kN nm r)=none
 | [],_,⟨vs,rfl,d⟩,_=>rfl
 | b::o,_,⟨vs,rfl,d⟩,h=>by
  rw [List.map_cons] at d
  simp only [DrL] at d
  obtain ⟨v,r',rfl,d1,d2⟩:=d
  show valV ((kN nm b,v)::mk (o.map nm) r') (kN nm r)=_
  rw [valV_neg (p:=(kN nm b,v)) (fun z=>h (by rw [ni _ _ (Sum.inl.inj z)];simp))]
  exact MkN.no ni (o:=o) ⟨r',rfl,d2⟩ (fun z=>h (List.mem_cons_of_mem _ z))
theorem MkN.len {o:List Int} {kvs:List (Key × V)} (h:MkN nm K H o f kvs):kvs.length=o.length:=by
 obtain ⟨vs,rfl,d⟩:=h
 have:=d.length
 rw [List.length_map] at this
 unfold mk
 rw [List.length_map,List.length_zip,List.length_map];omega
theorem MkN.put (ni:∀ x y,nm x=nm y→x=y) {v:V} {o:List Int} {kvs:List (Key × V)} (h:MkN nm K H o f kvs) (hr:r∉o) (h':MkN nm K H' o f kvs) (dv:Dr K H' (f r) v):MkN nm K H' (o++[r]) f (putK kvs (kN nm r) v):=by
 rw [putK_new _ (h.no ni hr)]
 obtain ⟨vs,rfl,d⟩:=h'
 have hl:=d.length
 rw [List.length_map] at hl
 refine ⟨vs++[v],?_,by rw [List.map_append];exact DrL.append d (DrL.one dv)⟩
 unfold mk
 rw [List.map_append,List.zip_append (by rw [List.length_map];exact hl),List.map_append]
 rfl
theorem MkN.mono {o:List Int} {kvs:List (Key × V)} (h:MkN nm K H o f kvs) (s:Same H H'):MkN nm K H' o f kvs:=by
 obtain ⟨vs,e,d⟩:=h
 exact ⟨vs,e,d.mono s⟩
theorem MkN.keyed {o:List Int} {kvs:List (Key × V)} (h:MkN nm K H o f kvs) (k:TupK H H') (hf:FK f):MkN nm K H' o f kvs:=by
 obtain ⟨vs,e,d⟩:=h
 exact ⟨vs,e,d.keyed k (hf.keyL o)⟩
end
def spInLineN (K:PySem.W.Frag):Sp:=fun vs H Q _=>∃ (a l m:Addr) (n:Nat) (rows:List Row) (nm:Int→Int) (us:List V) (o:List Int) (k:Int→Int) (kvs:List (Key × V)),vs=[.ref a,.ref l,.ref m]∧SqS K H a us∧RowsN K H us rows nm∧(∀ x y,nm x=nm y→x=y)∧GoodM n rows∧n≤60∧H l=some (.lst (o.map (nV nm)))∧H m=some (.dK kvs) ∧
 MkN nm K H o (fun r=>D.int (k r)) kvs∧Line rows o∧(∀ r∈o,∀ g∈(row rows r).2,g∈o)∧Gives K H Q (D.tup (rowsD (inLine rows k o)))
def spShrunkN (K:PySem.W.Frag):Sp:=fun vs H Q _=>∃ (a:Addr) (n:Nat) (rows:List Row) (nm:Int→Int) (us:List V),vs=[.ref a,.int (nm 0)]∧SqS K H a us∧RowsN K H us rows nm∧(∀ x y,nm x=nm y→x=y)∧GoodM n rows∧n≤60∧Gives K H Q (D.tup (rowsD (shr rows)))
end Gu

set_option Elab.async false
set_option linter.all false
set_option maxRecDepth 100000
set_option maxHeartbeats 4000000
namespace Gu
open PySem L2
/-! ### the form and its machine -/
theorem shr_quot {n:Nat} {rows:List Row} (G:GoodM n rows):∃ h:Int→Int,h 0=0∧Mor rows (shr rows) (order rows) h:=by
 obtain ⟨L,cl⟩:=order_line G
 have C:=order_cl G
 have R:=kOf_right G
 obtain ⟨h1,h2,h3⟩:=heads_has (kOf rows) (order rows)
 obtain ⟨t,et⟩:=L.hd
 refine ⟨fun x=>((((heads (kOf rows) (order rows)).map (kOf rows)).idxOf (kOf rows x):Nat):Int),?_,fun x hx=>?_⟩
 ·obtain ⟨t',et'⟩:=heads_hd (kOf rows) 0 t
  show ((((heads (kOf rows) (order rows)).map (kOf rows)).idxOf (kOf rows 0):Nat):Int)=0
  rw [et,et',List.map_cons,List.idxOf_cons]
  simp
 ·have hy:∃ y,(heads (kOf rows) (order rows))[((heads (kOf rows) (order rows)).map (kOf rows)).idxOf (kOf rows x)]?=some y∧kOf rows y=kOf rows x:=by
   have hlt:=List.idxOf_lt_length_of_mem (h1 x hx)
   have hg:=List.getElem_idxOf hlt
   rw [List.length_map] at hlt
   rw [List.getElem_map] at hg
   exact ⟨_,List.getElem?_eq_getElem hlt,hg⟩
  show row (shr rows) ((((heads (kOf rows) (order rows)).map (kOf rows)).idxOf (kOf rows x):Nat):Int)=_
  generalize ((heads (kOf rows) (order rows)).map (kOf rows)).idxOf (kOf rows x)=j at hy ⊢
  obtain ⟨y,ey,hg⟩:=hy
  have hhd:y∈order rows:=h2 _ (List.mem_of_getElem? ey)
  have eb:=(R _ hhd x hx).mp hg
  have er:row (shr rows) ((j:Nat):Int)=((row rows y).1,(row rows y).2.map fun g=>((((heads (kOf rows) (order rows)).map (kOf rows)).idxOf (kOf rows g):Nat):Int)):=by
   unfold row shr inLine
   have:((j:Nat):Int).toNat=j:=by omega
   rw [this,List.getD_eq_getElem?_getD,List.getElem?_map,ey]
   rfl
  rw [er]
  refine Prod.ext ?_ ?_
  ·exact congrFun eb []
  ·show List.map _ _=List.map _ _
   refine List.ext_getElem (by rw [List.length_map,List.length_map,C.len y hhd,C.len x hx]) fun i i1 i2=>?_
   rw [List.length_map] at i1 i2
   rw [List.getElem_map,List.getElem_map]
   have b1:(row rows y).2.getD i 0=(row rows y).2[i]:=by rw [List.getD_eq_getElem?_getD,List.getElem?_eq_getElem i1];rfl
   have b2:(row rows x).2.getD i 0=(row rows x).2[i]:=by rw [List.getD_eq_getElem?_getD,List.getElem?_eq_getElem i2];rfl
   have a1:=C.go hhd i
   have a2:=C.go hx i
   rw [b1] at a1
   rw [b2] at a2
   have hb:beh rows (row rows y).2[i]=beh rows (row rows x).2[i]:=by
    rw [←b1,←b2]
    exact funext fun w=>congrFun eb (i::w)
   rw [(R _ a1 _ a2).mpr hb]
/-! ### a machine begun at another row -/
def sw (s i:Int):Int:=if i=0 then s else if i=s then 0 else i
theorem sw_zero (s:Int):sw s 0=s:=if_pos rfl
theorem sw_self (s:Int):sw s s=0:=by
 unfold sw
 by_cases h:s=0
 ·rw [if_pos h];exact h
 ·rw [if_neg h,if_pos rfl]
theorem sw_sw (s i:Int):sw s (sw s i)=i:=by
 by_cases h:i=0
 ·rw [h,sw_zero,sw_self]
 ·by_cases h2:i=s
  ·rw [h2,sw_self,sw_zero]
  ·have e:sw s i=i:=by unfold sw;rw [if_neg h,if_neg h2]
   rw [e,e]
theorem sw_inj (s:Int) (x y:Int) (e:sw s x=sw s y):x=y:=by rw [←sw_sw s x,e,sw_sw]
theorem sw_rg {s i:Int} {L:Nat} (h0:0≤s) (h1:s < (L:Int)) (i0:0≤i) (i1:i < (L:Int)):0≤sw s i∧sw s i < (L:Int):=by
 unfold sw
 by_cases h:i=0
 ·rw [if_pos h];exact ⟨h0,h1⟩
 ·by_cases h2:i=s
  ·rw [if_neg h,if_pos h2];omega
  ·rw [if_neg h,if_neg h2];exact ⟨i0,i1⟩
theorem sw_id (i:Int):sw 0 i=i:=by
 unfold sw
 by_cases h:i=0
 ·rw [if_pos h,h]
 ·rw [if_neg h,if_neg h]
def swM (rows:List Row) (s:Int):List Row:=(iota rows.length).map fun i=>rowN (sw s) (row rows (sw s i))
theorem swM_len (rows:List Row) (s:Int):(swM rows s).length=rows.length:=by unfold swM;rw [List.length_map,iota_len]
theorem iota_getI {L:Nat} {i:Int} (h0:0≤i) (h1:i < (L:Int)):(iota L)[i.toNat]?=some i:=by
 unfold iota
 rw [List.getElem?_map,List.getElem?_range (by omega)]
 show some ((i.toNat:Nat):Int)=some i
 congr 1;omega
theorem swM_row {rows:List Row} {s i:Int} (h0:0≤i) (h1:i < (rows.length:Int)):row (swM rows s) i=rowN (sw s) (row rows (sw s i)):=by
 unfold row swM
 rw [List.getD_eq_getElem?_getD,List.getElem?_map,iota_getI h0 h1]
 rfl
theorem rowN_rowN {s:Int} (r:Row):rowN (sw s) (rowN (sw s) r)=r:=by
 unfold rowN
 rw [List.map_map]
 have:(sw s ∘ sw s)=id:=funext fun x=>sw_sw s x
 rw [this,List.map_id]
theorem swM_back {rows:List Row} {s i:Int} (h0:0≤i) (h1:i < (rows.length:Int)):row rows (sw s i)=rowN (sw s) (row (swM rows s) i):=by
 rw [swM_row h0 h1,rowN_rowN]
theorem swM_good {n:Nat} {rows:List Row} {s:Int} (G:GoodM n rows) (h0:0≤s) (h1:s < (rows.length:Int)):GoodM n (swM rows s):=by
 have hm:∀ r∈swM rows s,∃ q∈rows,r=rowN (sw s) q:=fun r hr=>by
  unfold swM at hr
  obtain ⟨i,hi,e⟩:=List.mem_map.mp hr
  obtain ⟨i0,i1⟩:=mem_iota.mp hi
  obtain ⟨j0,j1⟩:=sw_rg h0 h1 i0 i1
  exact ⟨_,row_mem j0 j1,e.symm⟩
 refine ⟨by rw [swM_len];exact G.few,by rw [swM_len];exact G.some,fun r hr=>?_,fun r hr=>?_,fun r hr g hg=>?_⟩
 ·obtain ⟨q,hq,rfl⟩:=hm r hr
  exact G.perm q hq
 ·obtain ⟨q,hq,rfl⟩:=hm r hr
  show (q.2.map _).length=n
  rw [List.length_map];exact G.len q hq
 ·obtain ⟨q,hq,rfl⟩:=hm r hr
  obtain ⟨y,hy,rfl⟩:=List.mem_map.mp hg
  obtain ⟨y0,y1⟩:=G.go q hq y hy
  rw [swM_len]
  exact sw_rg h0 h1 y0 y1
theorem swM_rowsN {K:PySem.W.Frag} {H:Hp} {us:List V} {rows:List Row} {s:Int} (h0:0≤s) (h1:s < (rows.length:Int)) (h:DrL K H (rowsD rows) us):RowsN K H us (swM rows s) (sw s):=fun i i0 i1=>by
 rw [swM_len] at i1
 obtain ⟨j0,j1⟩:=sw_rg h0 h1 i0 i1
 obtain ⟨v,ev,dv⟩:=rows_at h (row_get j0 j1)
 refine ⟨j0,v,ev,?_⟩
 rw [swM_row i0 i1,rowN_rowN]
 exact dv
theorem swM_zero {n:Nat} {rows:List Row} (G:GoodM n rows):shr (swM rows 0)=shr rows:=by
 have h1:=G.some
 have G':=swM_good (s:=0) G (by omega) (by omega)
 refine shr_mor (h:=fun x=>x) G' G rfl fun x hx=>?_
 obtain ⟨x0,x1⟩:=(order_line G').1.rg x hx
 rw [swM_len] at x1
 have e:=swM_back (s:=0) x0 x1
 rw [sw_id] at e
 rw [e]
 unfold rowN
 have:(sw 0)=fun x=>x:=funext sw_id
 rw [this]
/-! ### words -/
def goW (M:List Row):Int→List Int→Int
 | x,[]=>x
 | x,l::w=>goW M ((row M x).2.getD l.toNat 0) w
theorem goW_app (M:List Row):∀ (w w':List Int) (x:Int),goW M x (w++w')=goW M (goW M x w) w'
 | [],_,_=>rfl
 | l::w,w',x=>goW_app M w w' _
def LW (n:Nat) (w:List Int):Prop:=∀ l∈w,0≤l∧l < (n:Int)
theorem LW.tail {n:Nat} {l:Int} {w:List Int} (h:LW n (l::w)):LW n w:=fun x hx=>h x (List.mem_cons_of_mem _ hx)
theorem goW_all {n:Nat} {M:List Row} {C:Int→Prop} (hl:∀ x,C x→(row M x).2.length=n) (hc:∀ x,C x→∀ g∈(row M x).2,C g):∀ (w:List Int) (x:Int),LW n w→C x→C (goW M x w)
 | [],_,_,h=>h
 | l::w,x,hw,h=>by
  obtain ⟨l0,l1⟩:=hw l List.mem_cons_self
  have hi:l.toNat < (row M x).2.length:=by rw [hl x h];omega
  refine goW_all hl hc w _ hw.tail ?_
  rw [List.getD_eq_getElem?_getD,List.getElem?_eq_getElem hi]
  exact hc x h _ (List.getElem_mem hi)
theorem goW_map {n:Nat} {M' M:List Row} {h:Int→Int} {C:Int→Prop} (hl:∀ x,C x→(row M' x).2.length=n) (hc:∀ x,C x→∀ g∈(row M' x).2,C g) (mo:∀ x,C x→row M (h x)=rowN h (row M' x)):∀ (w:List Int) (x:Int),LW n w→C x→goW M (h x) w=h (goW M' x w)
 | [],_,_,_=>rfl
 | l::w,x,hw,hx=>by
  obtain ⟨l0,l1⟩:=hw l List.mem_cons_self
  have hi:l.toNat < (row M' x).2.length:=by rw [hl x hx];omega
  have e:(row M (h x)).2.getD l.toNat 0=h ((row M' x).2.getD l.toNat 0):=by
   rw [mo x hx]
   show ((row M' x).2.map h).getD l.toNat 0=_
   rw [List.getD_eq_getElem?_getD,List.getD_eq_getElem?_getD,List.getElem?_map,List.getElem?_eq_getElem hi]
   rfl
  show goW M ((row M (h x)).2.getD l.toNat 0) w=h (goW M' ((row M' x).2.getD l.toNat 0) w)
  rw [e]
  refine goW_map hl hc mo w _ hw.tail ?_
  rw [List.getD_eq_getElem?_getD,List.getElem?_eq_getElem hi]
  exact hc x hx _ (List.getElem_mem hi)
theorem goW_rg {n:Nat} {M:List Row} (G:GoodM n M) {w:List Int} {x:Int} (hw:LW n w) (h0:0≤x) (h1:x < (M.length:Int)):0≤goW M x w∧goW M x w < (M.length:Int) :=
 goW_all (n:=n) (C:=fun x=>0≤x∧x < (M.length:Int)) (fun x hx=>G.len _ (row_mem hx.1 hx.2)) (fun x hx=>G.go _ (row_mem hx.1 hx.2)) w x hw ⟨h0,h1⟩
end Gu

set_option Elab.async false
set_option linter.all false
set_option maxRecDepth 100000
set_option maxHeartbeats 4000000
namespace L2
open PySem PySem.Spec PyProof.Rows
theorem FnOk.sub {P:Program} {w:World} {K:PySem.W.Frag} {mg:Str→Option Value} {base:Heap} {CX:CXT} {k:Nat} {f:Addr} {fd:FuncData} {ps:List Str} {sp sp':Sp} (h:FnOk P w K mg base CX k f fd ps sp) (i:∀ vs H Q E,sp' vs H Q E→sp vs H Q E):FnOk P w K mg base CX k f fd ps sp' :=
 { h with len:=fun vs H Q E q=>h.len vs H Q E (i vs H Q E q),run:=fun A outer s H args us vs Q E hr e0 b r q=>h.run A outer s H args us vs Q E hr e0 b r (i vs H Q E q) }
end L2
namespace Gu
open PySem L2
theorem shrunk_sub {K:PySem.W.Frag} (vs:List V) (H:Hp) (Q:VK) (E:XK) (h:spShrunk K vs H Q E):spShrunkN K vs H Q E:=by
 obtain ⟨a,n,rows,rfl,⟨us,ea,da⟩,GM,hn,q⟩:=h
 exact ⟨a,n,rows,fun i=>i,us,rfl,.inl (SqL.of ea),RowsN.of da,fun _ _ e=>e,GM,hn,q⟩
instance LW.dec (n:Nat) (w:List Int):Decidable (LW n w):=by unfold LW;infer_instance
end Gu

set_option Elab.async false
set_option linter.all false
set_option maxRecDepth 100000
set_option maxHeartbeats 4000000
namespace Gu
open PySem L2
/-! ### branches put together -/
def hds:Nat→List (List Row)→List Int
 | _,[]=>[]
 | o,g::gs=>(o:Int)::hds (o+g.length) gs
theorem gs_key:∀ gs:List (List Row),D.keyL (gs.map fun g=>D.tup (rowsD g))
 | []=>by simp only [List.map_nil,D.keyL]
 | g::gs=>by simp only [List.map_cons,D.keyL,D.key];exact ⟨rows_key g,gs_key gs⟩
theorem SameL.over {Ts:List Tb} {H H':Hp} {l:Addr} {xs:List V} {o:HO} (s:SameL Ts H H') (h:H l=none) (e:H' l=some (.lst xs)):SameL Ts H (upd H' l o) :=
 ⟨fun b u n q=>by rw [upd_ne (ne_of_none q h)];exact s.at_ b u n q,fun t=>Tabs.over (s.tabs t) e⟩
end Gu

set_option Elab.async false
set_option linter.all false
set_option maxRecDepth 100000
set_option maxHeartbeats 4000000
namespace L2
open PySem PySem.Spec PyProof.Rows
section
variable {X:Cx} {K:PySem.W.Frag} {k v:Expr} {tk tv:TE} {pos:Pos}
end
end L2

set_option Elab.async false
set_option linter.all false
set_option maxRecDepth 100000
set_option maxHeartbeats 4000000
namespace L2
open PySem PySem.Spec PyProof.Rows
/-! ### zip over any two things that are drawn from -/
section
variable {prog:Program} {w:World} {A:Around} {E:Value→Shared→Prop} {s:Shared} {z TI TO i1 i2:Addr} {fp1 fp2:List Addr} {n1 n2:Nat} {P1 P2:Nat→Value→Prop} {S1 S2:Nat→Heap→Prop}
end
end L2

set_option Elab.async false
set_option linter.all false
set_option maxRecDepth 100000
set_option maxHeartbeats 4000000
namespace L2
open PySem PySem.Spec PyProof.Rows
section
variable {prog:Program} {w:World} {A:Around} {E:Value→Shared→Prop} {s:Shared}
end
/-! ### zip over two tuples -/
section
variable {X:Cx} {elts:List Expr} {tk:Nat} {tp:Pos}
end
end L2

set_option Elab.async false
set_option linter.all false
set_option maxRecDepth 100000
set_option maxHeartbeats 4000000
namespace Gu
open PySem L2
/-! ### rows under pairs of numbers -/
section
variable (P:Program) (w:World) (K:PySem.W.Frag) (mg:Str→Option Value) (base:Heap) (CX:CXT) (k:Nat)
end
end Gu

set_option Elab.async false
set_option linter.all false
set_option maxRecDepth 100000
set_option maxHeartbeats 4000000
namespace Gu
open PySem L2
/-! ### the one and then the other -/
def prow (m:Nat) (R S:Row):Row:=(turn R.1 S.1,(List.range R.1.length).map fun k=>R.2.getD k 0*(m:Int)+S.2.getD (R.1.getD k 0).toNat 0)
def prodM (one other:List Row):List Row:=(iota (one.length*other.length)).map fun i=>prow other.length (row one (i / (other.length:Int))) (row other (i % (other.length:Int)))
theorem prodM_len (one other:List Row):(prodM one other).length=one.length*other.length:=by unfold prodM;rw [List.length_map,iota_len]
theorem pix {one other:List Row} {i:Int} (h0:0≤i) (h1:i < ((one.length*other.length:Nat):Int)):(0≤i / (other.length:Int)∧i / (other.length:Int) < (one.length:Int))∧0≤i % (other.length:Int)∧i % (other.length:Int) < (other.length:Int):=by
 have hm:(0:Int) < (other.length:Int):=by
  rcases Nat.eq_zero_or_pos other.length with z | z
  ·rw [z,Nat.mul_zero] at h1;omega
  ·omega
 refine ⟨⟨Int.ediv_nonneg h0 (by omega),?_⟩,Int.emod_nonneg _ (by omega),Int.emod_lt_of_pos _ hm⟩
 refine Int.ediv_lt_of_lt_mul hm ?_
 rw [Int.natCast_mul] at h1
 exact h1
theorem prodM_row {one other:List Row} {i:Int} (h0:0≤i) (h1:i < ((one.length*other.length:Nat):Int)):row (prodM one other) i=prow other.length (row one (i / (other.length:Int))) (row other (i % (other.length:Int))):=by
 unfold prodM
 show (List.map _ _).getD _ _=_
 rw [List.getD_eq_getElem?_getD,List.getElem?_map,iota_getI h0 h1]
 rfl
theorem turn_isP {n:Nat} {p q:List Int} (hp:IsP n p) (hq:IsP n q):IsP n (turn p q):=by
 have h1:(turn p q).Perm (turn (iota n) q):=by
  unfold turn
  exact List.Perm.map _ hp
 have h2:turn (iota n) q=q:=by
  unfold turn iota
  rw [List.map_map]
  refine List.ext_getElem (by rw [List.length_map,List.length_range,hq.len]) fun i i1 i2=>?_
  rw [List.getElem_map,List.getElem_range]
  show q.getD ((i:Int)).toNat 0=q[i]
  rw [show ((i:Int)).toNat=i by omega,List.getD_eq_getElem?_getD,List.getElem?_eq_getElem i2]
  rfl
 rw [h2] at h1
 exact h1.trans hq
theorem prow_go {n m:Nat} {R S:Row} {N:Nat} (hR:IsP n R.1) (hRl:R.2.length=n) (hRg:∀ g∈R.2,0≤g∧g < (N:Int)) (hSl:S.2.length=n) (hSg:∀ g∈S.2,0≤g∧g < (m:Int)) {k:Nat} (hk:k < n) :
  ∃ (l:Nat) (g e:Int),R.1[k]?=some (l:Int)∧l < n∧R.2[k]?=some g∧S.2[l]?=some e∧R.2.getD k 0=g∧S.2.getD (R.1.getD k 0).toNat 0=e∧0≤g∧g < (N:Int)∧0≤e∧e < (m:Int):=by
 have hl:=hR.len
 have e1:R.1[k]?=some R.1[k]:=List.getElem?_eq_getElem (by omega)
 obtain ⟨l0,l1⟩:=mem_iota.mp (hR.mem_iff.mp (List.getElem_mem (show k < R.1.length by omega)))
 obtain ⟨l,hl'⟩:=nat_of l0
 have e2:R.2[k]?=some R.2[k]:=List.getElem?_eq_getElem (by omega)
 have ll:l < n:=by omega
 have e3:S.2[l]?=some S.2[l]:=List.getElem?_eq_getElem (by omega)
 obtain ⟨g0,g1⟩:=hRg _ (List.getElem_mem (show k < R.2.length by omega))
 obtain ⟨s0,s1⟩:=hSg _ (List.getElem_mem (show l < S.2.length by omega))
 refine ⟨l,R.2[k],S.2[l],by rw [e1,hl'],ll,e2,e3,?_,?_,g0,g1,s0,s1⟩
 ·rw [List.getD_eq_getElem?_getD,e2];rfl
 ·rw [List.getD_eq_getElem?_getD (l:=R.1),e1]
  show S.2.getD (R.1[k]).toNat 0=_
  rw [hl',show ((l:Int)).toNat=l by omega,List.getD_eq_getElem?_getD,e3];rfl
theorem mul_rg {g e:Int} {N m:Nat} (g0:0≤g) (g1:g < (N:Int)) (e0:0≤e) (e1:e < (m:Int)):0≤g*(m:Int)+e∧g*(m:Int)+e < ((N*m:Nat):Int):=by
 have h1:0≤g*(m:Int):=Int.mul_nonneg g0 (by omega)
 have h2:(g+1)*(m:Int)≤(N:Int)*(m:Int):=Int.mul_le_mul_of_nonneg_right (by omega) (by omega)
 rw [Int.add_mul,Int.one_mul] at h2
 rw [Int.natCast_mul]
 omega
theorem prodM_good {n:Nat} {one other:List Row} (G:GoodM n one) (G':GoodM n other) (h4:one.length*other.length≤4000):GoodM n (prodM one other):=by
 have h1:=G.some
 have h2:=G'.some
 have hm:∀ r∈prodM one other,∃ R∈one,∃ S∈other,r=prow other.length R S:=fun r hr=>by
  unfold prodM at hr
  obtain ⟨i,hi,e⟩:=List.mem_map.mp hr
  obtain ⟨i0,i1⟩:=mem_iota.mp hi
  obtain ⟨⟨a0,a1⟩,b0,b1⟩:=pix (one:=one) (other:=other) i0 i1
  exact ⟨_,row_mem a0 a1,_,row_mem b0 b1,e.symm⟩
 refine ⟨by rw [prodM_len];exact h4,by rw [prodM_len];exact Nat.mul_pos h1 h2,fun r hr=>?_,fun r hr=>?_,fun r hr g hg=>?_⟩
 ·obtain ⟨R,hR,S,hS,rfl⟩:=hm r hr
  exact turn_isP (G.perm R hR) (G'.perm S hS)
 ·obtain ⟨R,hR,S,hS,rfl⟩:=hm r hr
  show (List.map _ _).length=n
  rw [List.length_map,List.length_range,(G.perm R hR).len]
 ·obtain ⟨R,hR,S,hS,rfl⟩:=hm r hr
  obtain ⟨k,hk,rfl⟩:=List.mem_map.mp (show g∈(List.range R.1.length).map _ from hg)
  have hk':k < n:=by have:=List.mem_range.mp hk;rw [(G.perm R hR).len] at this;exact this
  obtain ⟨l,g',e,_,_,_,_,q1,q2,g0,g1,e0,e1⟩:=prow_go (m:=other.length) (N:=one.length) (G.perm R hR) (G.len R hR) (G.go R hR) (G'.len S hS) (G'.go S hS) hk'
  rw [q1,q2,prodM_len]
  exact mul_rg g0 g1 e0 e1
def spPairsL (K:PySem.W.Frag):Sp:=fun vs H Q _=>∃ (v1 v2:V) (n:Nat) (one other:List Row),vs=[v1,v2]∧Dr K H (D.tup (rowsD one)) v1∧Dr K H (D.tup (rowsD other)) v2∧GoodM n one∧GoodM n other∧n≤60∧one.length≤60∧other.length≤60∧∀ (r:Addr) (H':Hp),Same H H'→RowsAt K H' r (prodM one other)→Q (.ref r) H'
end Gu

set_option Elab.async false
set_option linter.all false
set_option maxRecDepth 100000
set_option maxHeartbeats 4000000
namespace Gu
open PySem L2
/-! ### the way back -/
/-! ### joined with the way back -/
end Gu

set_option Elab.async false
set_option linter.all false
set_option maxRecDepth 100000
set_option maxHeartbeats 4000000
namespace Gu
open PySem L2
end Gu

set_option Elab.async false
set_option linter.all false
set_option maxRecDepth 100000
set_option maxHeartbeats 4000000
namespace Gu
open PySem L2
/-! ### what is made of a word -/
def spSect (Ts:List Tb) (K:PySem.W.Frag):Sp:=fun vs H Q _=>∃ (v:V) (rows:List Row) (n:Nat) (g:Int),vs=[v,.int g]∧Tabs Ts H∧Dr K H (D.tup (rowsD rows)) v∧GoodM n rows∧n≤60∧rows.length≤60∧0≤g∧g < (rows.length:Int)∧GivesL Ts K H Q (D.tup (rowsD (shr (swM rows g))))
end Gu

set_option Elab.async false
set_option linter.all false
set_option maxRecDepth 100000
set_option maxHeartbeats 4000000
namespace L2
open PySem PySem.Spec PyProof.Rows
section
variable {M:Model} {A:Around} {E:Value→Shared→Prop}
variable {nm q:Str} {C N:Addr} {bs bm:List Value} {hdct:Bool} {sn:List Str} {sub:List Value} {ab:Bool} {col:Option Bool} {dd:Option Addr} {k0 k1 k2 k3 k5:Option Value} {newId:String}
variable {nm' q':Str} {C' N':Addr} {bs' bm':List Value} {hdct':Bool} {sn':List Str} {sub':List Value} {ab':Bool} {col':Option Bool} {dd':Option Addr} {k0' k1' k2' k3' k5':Option Value} {newId':String}
end
end L2

set_option Elab.async false
set_option linter.all false
set_option maxRecDepth 100000
set_option maxHeartbeats 4000000
namespace Gu
open PySem L2
theorem go_get {n:Nat} {M:List Row} (G:GoodM n M) {x:Int} (x0:0≤x) (x1:x < (M.length:Int)) {k:Nat} (hk:k < n):0≤(row M x).2.getD k 0∧(row M x).2.getD k 0 < (M.length:Int)∧(row M x).2.getD k 0∈(row M x).2:=by
 have hm:=row_mem x0 x1
 have hl:=G.len _ hm
 rw [List.getD_eq_getElem?_getD,List.getElem?_eq_getElem (by omega)]
 have:=List.getElem_mem (show k < (row M x).2.length by omega)
 exact ⟨(G.go _ hm _ this).1,(G.go _ hm _ this).2,this⟩
def stillM (n:Nat):List Row:=[(iota n,List.replicate n 0)]
end Gu

set_option Elab.async false
set_option linter.all false
set_option maxRecDepth 100000
set_option maxHeartbeats 4000000
namespace Gu
open PySem L2
theorem rowD_inj (r q:Row) (e:rowD r=rowD q):r=q:=by
 unfold rowD at e
 injection e with e
 injection e with e1 e2
 injection e2 with e2 _
 exact Prod.ext (its_inj e1) (its_inj e2)
theorem rowsD_inj:∀ (X Y:List Row),rowsD X=rowsD Y→X=Y
 | [],[],_=>rfl
 | [],_::_,e=>by simp [rowsD] at e
 | _::_,[],e=>by simp [rowsD] at e
 | r::X,q::Y,e=>by
  simp only [rowsD,List.map_cons,List.cons.injEq] at e
  rw [rowD_inj r q e.1,rowsD_inj X Y e.2]
theorem rows_okL:∀ (X Y:List Row),D.okL (rowsD X) (rowsD Y)
 | [],[]=>by simp [rowsD,D.okL]
 | [],_::_=>by simp [rowsD,D.okL]
 | _::_,[]=>by simp [rowsD,D.okL]
 | r::X,q::Y=>by
  simp only [rowsD,List.map_cons,D.okL]
  refine ⟨?_,rows_okL X Y⟩
  unfold rowD
  simp only [D.ok,D.okL]
  exact ⟨okL_ints _ _,okL_ints _ _,trivial⟩
theorem rows_eq (X Y:List Row):D.eq (.tup (rowsD X)) (.tup (rowsD Y))=decide (X=Y):=by
 by_cases h:X=Y
 ·subst h
  rw [decide_eq_true rfl]
  exact D.eq_refl _
 ·rw [decide_eq_false h]
  cases e:D.eq (.tup (rowsD X)) (.tup (rowsD Y)) with
  | false=>rfl
  | true =>
   have:=D.eq_of e
   injection this with this
   exact absurd (rowsD_inj X Y this) h
/-! ### so many times -/
def pw (n:Nat) (one:List Row):Nat→List Row
 | 0=>stillM n
 | j+1=>shr (prodM (pw n one j) one)
end Gu

set_option Elab.async false
set_option linter.all false
set_option maxRecDepth 100000
set_option maxHeartbeats 4000000
namespace L2
open PySem PySem.Spec PyProof.Rows
/-! ### xs[::-1] of a list -/
section
variable {X:Cx} {e st:Expr} {te ts:TE} {pos p2:Pos}
end
end L2

set_option Elab.async false
set_option linter.all false
set_option maxRecDepth 100000
set_option maxHeartbeats 4000000
namespace Gu
open PySem L2
/-! ### numbers of words -/
def lit (n:Int):Nat→Int→List Int
 | 0,_=>[]
 | k+1,x=>x % n::lit n k (x / n)
end Gu

set_option Elab.async false
set_option linter.all false
set_option maxRecDepth 100000
set_option maxHeartbeats 4000000
namespace Gu
open PySem L2
/-! ### floors -/
end Gu

set_option Elab.async false
set_option linter.all false
set_option maxRecDepth 100000
set_option maxHeartbeats 4000000
namespace Gu
open PySem L2
/-! ### rounds -/
end Gu

set_option Elab.async false
set_option linter.all false
set_option maxRecDepth 100000
set_option maxHeartbeats 4000000
namespace Gu
open PySem L2
/-! ### the way back of two joined -/
end Gu

set_option Elab.async false
set_option linter.all false
set_option maxRecDepth 100000
set_option maxHeartbeats 4000000
namespace Gu
open PySem L2
def fits (n:Nat) (one:List Row) (m:Nat):Prop:=∀ i,i≤m→(pw n one i).length≤60
end Gu

set_option Elab.async false
set_option linter.all false
set_option maxRecDepth 100000
set_option maxHeartbeats 4000000
namespace Gu
open PySem L2
/-! ### one promise for least_form,by numbers and by pairs -/
theorem len1 {α:Type} {us:List α} (h:us.length=1):∃ a,us=[a]:=by
 cases us with
 | nil=>cases h
 | cons a r =>
  cases r with
  | nil=>exact ⟨a,rfl⟩
  | cons _ _=>simp at h
theorem len2 {α:Type} {us:List α} (h:us.length=2):∃ a b,us=[a,b]:=by
 cases us with
 | nil=>cases h
 | cons a r =>
  obtain ⟨b,rfl⟩:=len1 (show r.length=1 by simpa using h)
  exact ⟨a,b,rfl⟩
theorem len3 {α:Type} {us:List α} (h:us.length=3):∃ a b c,us=[a,b,c]:=by
 cases us with
 | nil=>cases h
 | cons a r =>
  obtain ⟨b,c,rfl⟩:=len2 (show r.length=2 by simpa using h)
  exact ⟨a,b,c,rfl⟩
section
variable (P:Program) (w:World) (K:PySem.W.Frag) (mg:Str→Option Value) (base:Heap) (CX:CXT) (k:Nat)
def spComeG (Cm:V→Addr→Hp→List Row→Prop):Sp:=fun vs H Q _=>∃ (f:Addr) (v0:V) (n:Nat) (rows:List Row),vs=[v0,.ref f]∧Cm v0 f H rows∧GoodM n rows∧n≤60∧∀ (r:Addr) (H':Hp),Same H H'→RowsAt K H' r (found rows)→Q (.ref r) H'
def spLeastG (Cm:V→Addr→Hp→List Row→Prop) (Ct:Addr):Sp:=fun vs H Q E=>∃ (f:Addr) (v0:V) (n:Nat) (rows:List Row),vs=[v0,.ref f]∧Cm v0 f H rows∧GoodM n rows∧n≤60 ∧
 ((shr rows).length≤60→Gives K H Q (D.tup (rowsD (shr rows))))∧(60 < (shr rows).length→TMx Ct E H)
def CmF:V→Addr→Hp→List Row→Prop:=fun v0 f H rows=>∃ nm:Int→Int,v0=.int (nm 0)∧(∀ x y,nm x=nm y→x=y)∧CallV P w K mg base CX k H f (spRow K rows nm)
end
section
variable {P:Program} {w:World} {K:PySem.W.Frag} {mg:Str→Option Value} {base:Heap} {CX:CXT} {k:Nat} {Ct:Addr}
theorem come_F (vs:List V) (H:Hp) (Q:VK) (E:XK) (h:spComeG K (CmF P w K mg base CX k) vs H Q E):spComeF P w K mg base CX k vs H Q E:=by
 obtain ⟨f,v0,n,rows,rfl,⟨nm,rfl,ni,hV⟩,G,hn,q⟩:=h
 exact ⟨f,n,rows,nm,rfl,ni,hV,G,hn,q⟩
theorem least_F (vs:List V) (H:Hp) (Q:VK) (E:XK) (h:spLeastF P w K mg base CX k Ct vs H Q E):spLeastG K (CmF P w K mg base CX k) Ct vs H Q E:=by
 obtain ⟨f,n,rows,nm,rfl,ni,hV,G,hn,q⟩:=h
 exact ⟨f,_,n,rows,rfl,⟨nm,rfl,ni,hV⟩,G,hn,q⟩
end
end Gu

set_option Elab.async false
set_option linter.all false
set_option maxRecDepth 100000
set_option maxHeartbeats 4000000
namespace L2
open PySem PySem.Spec PyProof.Rows
/-! ### a comprehension of one clause and one test -/
section
variable {prog:Program} {w:World} {A:Around} {R:Result→Shared→Prop} {s:Shared}
theorem comp_turnsF {elt tg iter cx:Expr} {scope:Scope} {pos:Pos} {it acc:Value} {env:Env} (I:Nat→Shared→Prop)
  (turn:∀ n s,I n s→wpAny (model prog w) A (pyNext it) (fun r s1=>match r with
   | none=>R (.ok .next) s1
   | some v=>wpAny (model prog w) A (letOwnedTupleGo tg it v) (fun _ s2=>wpAny (model prog w) A (assign tg env v) (fun _ s3=>wpAny (model prog w) A (isTrue cx env (eval cx env)) (fun ok s35 =>
     match ok with
     | true=>wpAny (model prog w) A (eval elt env) (fun x s4=>wpAny (model prog w) A (call (.builtin "list.append") [acc,x]) (fun _ s5=>∃ m,m < n∧I m s5) noE s4) noE s35
     | false=>∃ m,m < n∧I m s35) noE s3) noE s2) noE s1) noE s)
  (n:Nat) (h:I n s):codeAny (model prog w) A (.compLoop (.ListComp elt [⟨tg,iter,[cx],0⟩] scope pos) 0 it acc env) R s:=by
 have no:∀ (P:Value→Shared→Prop) (a:Value) (b:Shared),noE a b→P a b:=fun _ _ _ z=>False.elim z
 refine codeAny_loop rfl I (fun n s hI=>?_) n h
 show wpAny _ _ ((compTurn (.ListComp elt [⟨tg,iter,[cx],0⟩] scope pos) 0 it acc env).onRaise
  (fun x=>do noteFrame x env;theTreesLotGoes x)) _ _ s
 refine wpAny_noted ?_
 rw [compTurn_list]
 refine wpAny_bind (wpAny_standAt (wpAny_bind (wpAny_mono (turn n s hI) (fun r s1 h1=>?_) (no _))))
 cases r with
 | none=>exact wpAny_pure h1
 | some v =>
  refine wpAny_bind (wpAny_mono h1 (fun _ s2 h2=>?_) (no _))
  refine wpAny_bind (wpAny_mono h2 (fun _ s3 h3=>wpAny_bind (wpAny_tests_one (wpAny_mono h3 (fun ok s35 h35=>?_) (no _)))) (no _))
  cases ok with
  | false=>exact wpAny_pure ⟨rfl,h35⟩
  | true=>exact wpAny_bind (wpAny_bind (wpAny_mono h35 (fun x s4 h4=>wpAny_bind (wpAny_mono h4 (fun _ s5 h5=>wpAny_pure (wpAny_pure ⟨rfl,h5⟩)) (no _))) (no _)))
end
def compWF (ix:List (Option Nat)) (J:It) (g:TG) (tt:TT) (te:TE) (σ:St) (l:Addr) (H0:Hp) (Qe:Hp→Prop):Prop :=
 ∃ W:Nat→Nat→List V→Hp→Prop,(∃ m,W 0 m [] H0)∧∀ i m ys H,W i m ys H→H l=some (.lst ys) →
  (J.stop i H∧Qe H)∨(J.go i H∧ys.length < sizeLine∧∃ N:List V→Hp→Prop,(∀ zs H',N zs H'→∃ m',m' < m∧W (i+1) m' zs H')∧∀ x H',J.yld i H x H'→g x (compSt ix σ) H' fun σ2 H2=>tt σ2 H2 fun b H3 =>
   match b with
   | true=>te σ2 H3 fun v H4=>H4 l=some (.lst ys)∧N (ys++[v]) (upd H4 l (.lst (ys++[v])))
   | false=>H3 l=some (.lst ys)∧N ys H3)
def tCompF (ix:List (Option Nat)) (wi:TI) (g:TG) (tt:TT) (te:TE):TE:=fun σ H Q=>wi σ H fun J H1=>∀ l,H1 l=none→compWF ix J g tt te σ l (upd H1 l (.lst [])) fun H'=>Q (.ref l) H'
section
variable {X:Cx} {pins:List (Addr × Obj)} {σ:St} {H:Hp} {s:Shared} {N:List Str} {ix:List (Option Nat)} {scope:Scope} {elt iter tg cx:Expr} {pos:Pos} {g:TG} {tt:TT} {te:TE} {E:Value→Shared→Prop}
theorem comp_blockF {it:Addr} {fp:List Addr} {tn:Nat→Heap→Prop} {J:It} {Qe:Addr→Hp→Prop} {RR:Value→Addr→Result→Shared→Prop} (hc:X.calm=true) (S:CompS X.N X.env.scope N ix scope)
  (hg:∀ cl C ex s H,PG (cxComp X N scope cl C ex s H) tg g) (ht:∀ cl C ex s H,PT (cxComp X N scope cl C ex s H) cx tt) (he:∀ cl C ex s H,PE (cxComp X N scope cl C ex s H) elt te)
  (I:Inv X pins σ H s) (T:Turn X.prog X.w X.K tg J fp it tn) (st:tn 0 s.heap) (hf:∀ b∈fp,FpOk X pins H b)
  (hw:∀ l,H l=none→compWF ix J g tt te σ l (upd H l (.lst [])) (Qe l))
  (hRR:∀ l C s' H' m,s'.heap.Ns C m→Inv X pins σ H' s'→FpOk X pins H' C→Qe l H'→RR (.ref l) C (.ok .next) s') :
  wpAny (model X.prog X.w) X.A (newList []) (fun acc s3=>wpAny (model X.prog X.w) X.A (newFunctionEnv scope X.env.globals (closeL X.env.cells scope.names []) [] X.env.qual none .none (some X.env)) (fun cenv s4 =>
   codeAny (model X.prog X.w) X.A (.compStart (.ListComp elt [⟨tg,iter,[cx],0⟩] scope pos) 0 (.ref it) acc { cenv with scope:=relabel scope X.env }) (RR acc cenv.locals) s4) E s3) E s:=by
 have hlt:∀ b∈fp,b < s.heap.objs.size:=fun b hb=>by
  obtain ⟨o,e,_⟩:=T.obj 0 s.heap st b hb
  exact Heap.lt_size e
 have hl0:H s.heap.objs.size=none:=I.fresh
 obtain ⟨W,⟨m0,w0⟩,turn⟩:=hw s.heap.objs.size hl0
 refine wpAny_newObj_type ?_
 generalize hs3:({ s with heap:=s.heap.push { cls:=.type "list",dict:=none,data:=.seq ([]:List Value).toArray } }:Shared)=s3
 have I3:Inv X pins σ (upd H s.heap.objs.size (.lst [])) s3:=by
  rw [←hs3]
  exact I.lnew (its:=[]) (t':=s.toks) .nil (Nat.zero_le _)
 have k3:∀ b o,s.heap.get? b=some o→s3.heap.get? b=some o:=fun b o e=>by
  rw [←hs3];exact Heap.get?_push_of_some _ e
 have sz3:s3.heap.objs.size=s.heap.objs.size+1:=by rw [←hs3];exact Heap.size_push ..
 have lnfp:s.heap.objs.size∉fp:=fun hb=>Nat.lt_irrefl _ (hlt _ hb)
 have st3:tn 0 s3.heap:=T.keep 0 _ _ st fun b _ o e=>k3 b o e
 have hf3:∀ b∈fp,FpOk X pins (upd H s.heap.objs.size (.lst [])) b:=fun b hb=>by
  obtain ⟨f0,f⟩:=hf b hb
  have nb:b≠s.heap.objs.size:=fun e=>lnfp (by rw [←e];exact hb)
  exact ⟨by rw [upd_ne nb];exact f0,f⟩
 have hlt3:∀ b∈fp,b < s3.heap.objs.size:=fun b hb=>by rw [sz3];exact Nat.lt_succ_of_lt (hlt b hb)
 clear hs3
 refine wpAny_newFunctionEnv S.nocell (by intro y hy;simp at hy) (fun h1 hn1 hb1=>?_) S.kind
 have hk1:∀ b o,s3.heap.get? b=some o→h1.get? b=some o:=fun b o e =>
  (hb1.2 b (Nat.ne_of_lt (Heap.lt_size e))).trans (Heap.get?_push_of_some _ e)
 have J0:Inv (cxComp X N scope (closeL X.env.cells scope.names []) s3.heap.objs.size fp s3 (upd H s.heap.objs.size (.lst []))) [] (compSt ix σ) (upd H s.heap.objs.size (.lst [])) { s3 with heap:=h1,toks:=s3.toks+([]:List (Str × Value)).length } :=
  comp_inv I3 S rfl hf3 hlt3 hn1 hk1
 have st1:tn 0 h1:=T.keep 0 _ _ st3 fun b _ o e=>hk1 b o e
 have fpY:∀ {Hc:Hp},(∀ b∈fp,Hc b=none)→∀ b∈fp,FpOk (cxComp X N scope (closeL X.env.cells scope.names []) s3.heap.objs.size fp s3 (upd H s.heap.objs.size (.lst []))) [] Hc b:=fun {Hc} hn b hb=>by
  obtain ⟨_,f1,f2,_,f4,_⟩:=hf3 b hb
  refine ⟨hn b hb,Nat.ne_of_lt (hlt3 b hb),fun hb2=>(List.mem_cons.mp (I3.stkSub b hb2)).elim f1 f2,.inl hb,fun x c e=>f4 x c (comp_look I3 S e),fun p hp=>absurd (show p∈([]:List (Addr × Obj)) from hp) (by simp)⟩
 have loop:∀ s4:Shared,s4=({ s3 with heap:=h1,toks:=s3.toks+([]:List (Str × Value)).length }:Shared)→codeAny (model X.prog X.w) X.A (.compLoop (.ListComp elt [⟨tg,iter,[cx],0⟩] scope pos) 0 (.ref it) (.ref s.heap.objs.size)
   (compEnvC scope (closeL X.env.cells scope.names []) s3.heap.objs.size X.env)) (RR (.ref s.heap.objs.size) s3.heap.objs.size) s4:=by
  intro s4 hs4
  subst hs4
  refine comp_turnsF (fun n s'=>∃ i ys Hc,Inv (cxComp X N scope (closeL X.env.cells scope.names []) s3.heap.objs.size fp s3 (upd H s.heap.objs.size (.lst []))) [] (compSt ix σ) Hc s'∧tn i s'.heap∧(∀ b∈fp,Hc b=none)∧Hc s.heap.objs.size=some (.lst ys)∧W i n ys Hc) ?_ m0 ⟨0,[],_,J0,st1,fun b hb=>(hf3 b hb).1,upd_same,w0⟩
  rintro n s5 ⟨i,ys,Hc,J5,st5,fr5,hl5,w5⟩
  rcases turn i n ys Hc w5 hl5 with ⟨stop,qe⟩ | ⟨go,hz,NN,hNN,step⟩
  ·refine thn (T.done (cxComp X N scope (closeL X.env.cells scope.names []) s3.heap.objs.size fp s3 (upd H s.heap.objs.size (.lst []))) rfl rfl rfl hc i [] s5 _ Hc noE J5 (fpY fr5) st5 stop) fun r s6 ⟨hr,J6⟩=>?_
   subst hr
   have I6:Inv X pins σ Hc s6:=I3.call' (ch:=fp) J6.os J6.base J6.hok J6.bare fun b hb=>by
    obtain ⟨_,f1,f2,f3,f4,f5⟩:=hf3 b hb
    exact ⟨f3,f1,f4,f5⟩
   obtain ⟨m6,hn6,_⟩:=J6.loc
   exact hRR _ _ s6 Hc m6 hn6 I6 (I3.fpOk (Nat.le_refl _) J6.free) qe
  ·refine thn (T.item (cxComp X N scope (closeL X.env.cells scope.names []) s3.heap.objs.size fp s3 (upd H s.heap.objs.size (.lst []))) rfl rfl rfl hc i [] s5 _ Hc noE J5 (fpY fr5) st5 go) fun r s6 ⟨u,hr,h6⟩=>?_
   subst hr
   refine thn h6 fun _ s7 ⟨x,H7,J7,r7,y7,st7,fr7⟩=>?_
   have J7':=J7.pinned (fpY fr7) (T.obj _ _ st7)
   refine thn (hg _ _ _ _ _ _ s7 _ H7 x u _ J7' r7 (step x H7 y7)) fun _ s8 ⟨σ8,H8,J8,q8⟩=>?_
   refine thn (ht _ _ _ _ _ _ s8 σ8 H8 _ J8 q8) fun ok s85 ⟨H85,J85,q85⟩=>?_
   cases ok with
   | false =>
    have q85':H85 s.heap.objs.size=some (.lst ys)∧NN ys H85:=q85
    obtain ⟨hl85,n85⟩:=q85'
    obtain ⟨m',hm',w9⟩:=hNN _ _ n85
    refine ⟨m',hm',i+1,ys,_,?_,T.keep _ _ _ st7 fun b hb o e=>(J85.pin (b,o) (List.mem_append_right _ (List.mem_append_right _ (mem_pinsAt hb e)))).1,fun b hb=>?_,hl85,w9⟩
    ·exact comp_again I3 S J85
    ·obtain ⟨o,e,d⟩:=T.obj _ _ st7 b hb
     exact (J85.pin (b,o) (List.mem_append_right _ (List.mem_append_right _ (mem_pinsAt hb e)))).2.1
   | true =>
    refine thn (he _ _ _ _ _ _ s85 σ8 H85 _ J85 q85) fun y s9 ⟨v,H9,J9,r9,hl9,n9⟩=>?_
    obtain ⟨m',hm',w9⟩:=hNN _ _ n9
    refine thn (mt_append (X:=cxComp X N scope (closeL X.env.cells scope.names []) s3.heap.objs.size fp s3 (upd H s.heap.objs.size (.lst []))) _ s9 σ8 H9 (.ref s.heap.objs.size) [v] (.ref s.heap.objs.size) [y]
     (fun z Hz=>z=.non∧Hz=upd H9 s.heap.objs.size (.lst (ys++[v]))) J9 rfl (.cons r9 .nil) ⟨_,ys,v,rfl,rfl,hl9,hz,rfl,rfl⟩) fun _ s10 ⟨_,H10,J10,_,_,e10⟩=>?_
    subst e10
    refine ⟨m',hm',i+1,ys++[v],_,?_,T.keep _ _ _ st7 fun b hb o e=>(J10.pin (b,o) (List.mem_append_right _ (List.mem_append_right _ (mem_pinsAt hb e)))).1,fun b hb=>?_,upd_same,w9⟩
    ·exact comp_again I3 S J10
    ·obtain ⟨o,e,d⟩:=T.obj _ _ st7 b hb
     exact (J10.pin (b,o) (List.mem_append_right _ (List.mem_append_right _ (mem_pinsAt hb e)))).2.1
 exact codeAny_compStart_list (loop _ rfl) (T.self _ 0 _ _ _ st1 (loop _ rfl))
theorem pe_compF {wi:TI} (hc:X.calm=true) (S:CompS X.N X.env.scope N ix scope) (hi:PI X tg iter wi)
  (hg:∀ cl C ex s H,PG (cxComp X N scope cl C ex s H) tg g) (ht:∀ cl C ex s H,PT (cxComp X N scope cl C ex s H) cx tt) (he:∀ cl C ex s H,PE (cxComp X N scope cl C ex s H) elt te)
  (hs:∀ x,foldedSetIterable iter X.env x=pure x:=by intro _;rfl):PE X (.ListComp elt [⟨tg,iter,[cx],0⟩] scope pos) (tCompF ix wi g tt te):=by
 intro pins s σ H Q I h
 rw [eval_ListComp]
 refine wpAny_comprehension_free (use:=none) rfl hs (closureFor_run (comp_cells I S)) S.kind S.names (thn (hi pins s σ H _ I h) fun v s1 h1=>thn h1 fun itv s2 h2=>?_)
 obtain ⟨it,fp,tn,J,H2,e,I2,T,st2,f2,hw⟩:=h2
 subst e
 refine comp_blockF (RR:=fun acc C=>compPost (model X.prog X.w) X.A X.xe none (EP X pins σ Q) acc C) hc S hg ht he I2 T st2 f2 hw fun l C s' H' m hn I' fC q=>⟨m,hn,fun h' hs'=>?_⟩
 obtain ⟨c0,c1,_,c3,c4,c5⟩:=fC
 exact ⟨.ref l,H',I'.turned (t':=s'.toks) (fun b o hb e=>(hs'.2 b hb).trans e) c0 c1 c3 c4 c5,rfl,q⟩
end
theorem compF_range {lo:Int} {n:Nat} {l:Addr} {ix:List (Option Nat)} {g:TG} {tt:TT} {te:TE} {σ:St} {H0:Hp} {Qe:Hp→Prop} (Pv:Nat→List V→Hp→Prop) (h0:Pv 0 [] H0) (hz:n≤sizeLine)
  (hn:∀ i ys H,Pv i ys H→ys.length≤i)
  (hs:∀ i ys H,i < n→Pv i ys H→H l=some (.lst ys)→g (.int (lo+i)) (compSt ix σ) H fun σ2 H2=>tt σ2 H2 fun b H3=>match b with
   | true=>te σ2 H3 fun v H4=>H4 l=some (.lst ys)∧Pv (i+1) (ys++[v]) (upd H4 l (.lst (ys++[v])))
   | false=>H3 l=some (.lst ys)∧Pv (i+1) ys H3)
  (hd:∀ ys H,Pv n ys H→H l=some (.lst ys)→Qe H):compWF ix (Itr lo n) g tt te σ l H0 Qe:=by
 refine ⟨fun i m ys H=>m=n - i∧i≤n∧Pv i ys H,⟨n,by simp,Nat.zero_le _,h0⟩,?_⟩
 rintro i m ys H ⟨rfl,hi,p⟩ hy
 by_cases hlt:i < n
 ·refine .inr ⟨hlt,Nat.lt_of_le_of_lt (hn i ys H p) (Nat.lt_of_lt_of_le hlt hz),Pv (i+1),fun zs H' r=>⟨n - (i+1),by omega,rfl,hlt,r⟩,fun x H' y=>?_⟩
  obtain ⟨e,y⟩:=y
  subst e y
  exact hs i ys _ hlt p hy
 ·have e:i=n:=by omega
  subst e
  exact .inl ⟨Nat.le_refl _,hd ys H p hy⟩
end L2

set_option Elab.async false
set_option linter.all false
set_option maxRecDepth 100000
set_option maxHeartbeats 4000000
namespace L2
open PySem PySem.Spec PyProof.Rows
/-! ### a comprehension over a dict without keys -/
section
variable {X:Cx} {pins:List (Addr × Obj)} {σ:St} {H:Hp} {s:Shared} {N:List Str} {ix:List (Option Nat)} {scope:Scope} {elt iter tg cx:Expr} {pos:Pos} {te:TE} {E:Value→Shared→Prop}
end
end L2

set_option Elab.async false
set_option linter.all false
set_option maxRecDepth 100000
set_option maxHeartbeats 4000000
namespace L2
open PySem PySem.Spec PyProof.Rows
/-! ### an exception that leaves the frame's values as they stood (a try whose body binds nothing) -/
section
variable {X:Cx} {CX:CXT} {k:Nat} {f C:Addr} {fd:FuncData} {ps:List Str} {sp:Sp} {dvs:List V} {ds:List Value} {E:XK} {x m:Str} {p pos apos:Pos} {e o:Expr} {es:List Expr} {ta:TE} {t:TA} {σ0:St}
end
end L2

set_option Elab.async false
set_option linter.all false
set_option maxRecDepth 100000
set_option maxHeartbeats 4000000
namespace L2
open PySem PySem.Spec PyProof.Rows PySem.SeqAt
open PySem.AutoSeq1 (wpAny_loadPart')
section
variable {X:Cx} (K:PySem.W.Frag)
end
end L2

set_option Elab.async false
set_option linter.all false
set_option maxRecDepth 100000
set_option maxHeartbeats 4000000
namespace Gu
open PySem L2
/-! ### loops whose ends stay closed while a turn is read (the terms stay small) -/
theorem listO {K:PySem.W.Frag} {a:Addr} {xs:List V} {g:TG} {tb:TS} {D:Ends} {σ:St} {H:Hp} (Pv:Nat→St→Hp→Prop) (h0:Pv 0 σ H) (hl:∀ i σ H,i≤xs.length→Pv i σ H→SqL K H a xs)
  (hs:∀ i x σ H,xs[i]?=some x→Pv i σ H→∀ Ed:Ends,(∀ σ' H',Pv (i+1) σ' H'→Ed.nx σ' H')→g x σ H fun σ2 H2=>tb Ed σ2 H2) (hd:∀ σ H,Pv xs.length σ H→D.nx σ H) :
  ∃ W:Nat→Nat→St→Hp→Prop,(∃ m,W 0 m σ H)∧∀ i m σ H,W i m σ H →
   ((Itl K a).stop i H∧D.nx σ H)∨((Itl K a).go i H∧∃ N:St→Hp→Prop,(∀ σ' H',N σ' H'→∃ m',m' < m∧W (i+1) m' σ' H')∧∀ x H',(Itl K a).yld i H x H'→g x σ H' fun σ2 H2=>tb { D with nx:=N,ct:=N,bk:=D.nx } σ2 H2) :=
 for_list Pv h0 hl (fun i x σ H hx p=>hs i x σ H hx p _ fun _ _ z=>z) hd
theorem tupO {K:PySem.W.Frag} {a:Addr} {xs:List V} {g:TG} {tb:TS} {D:Ends} {σ:St} {H:Hp} (Pv:Nat→St→Hp→Prop) (h0:Pv 0 σ H) (hl:∀ i σ H,i≤xs.length→Pv i σ H→SqT K H a xs)
  (hs:∀ i x σ H,xs[i]?=some x→Pv i σ H→∀ Ed:Ends,(∀ σ' H',Pv (i+1) σ' H'→Ed.nx σ' H')→g x σ H fun σ2 H2=>tb Ed σ2 H2) (hd:∀ σ H,Pv xs.length σ H→D.nx σ H) :
  ∃ W:Nat→Nat→St→Hp→Prop,(∃ m,W 0 m σ H)∧∀ i m σ H,W i m σ H →
   ((Itt K a).stop i H∧D.nx σ H)∨((Itt K a).go i H∧∃ N:St→Hp→Prop,(∀ σ' H',N σ' H'→∃ m',m' < m∧W (i+1) m' σ' H')∧∀ x H',(Itt K a).yld i H x H'→g x σ H' fun σ2 H2=>tb { D with nx:=N,ct:=N,bk:=D.nx } σ2 H2) :=
 for_tup Pv h0 hl (fun i x σ H hx p=>hs i x σ H hx p _ fun _ _ z=>z) hd
theorem cutN {W:Nat→St→Hp→Prop} {m:Nat} {T:(St→Hp→Prop)→Prop} (h:∀ N:St→Hp→Prop,(∀ m' σ' H',m' < m→W m' σ' H'→N σ' H')→T N):∃ N:St→Hp→Prop,(∀ σ' H',N σ' H'→∃ m',m' < m∧W m' σ' H')∧T N :=
 ⟨fun σ' H'=>∃ m',m' < m∧W m' σ' H',fun _ _ z=>z,h _ fun m' σ' H' a b=>⟨m',a,b⟩⟩
theorem rangeO {lo:Int} {n:Nat} {g:TG} {tb:TS} {D:Ends} {σ:St} {H:Hp} (Pv:Nat→St→Hp→Prop) (h0:Pv 0 σ H)
  (hs:∀ i σ H,i < n→Pv i σ H→∀ Ed:Ends,(∀ σ' H',Pv (i+1) σ' H'→Ed.nx σ' H')→g (.int (lo+i)) σ H fun σ2 H2=>tb Ed σ2 H2) (hd:∀ σ H,Pv n σ H→D.nx σ H) :
  ∃ W:Nat→Nat→St→Hp→Prop,(∃ m,W 0 m σ H)∧∀ i m σ H,W i m σ H →
   ((Itr lo n).stop i H∧D.nx σ H)∨((Itr lo n).go i H∧∃ N:St→Hp→Prop,(∀ σ' H',N σ' H'→∃ m',m' < m∧W (i+1) m' σ' H')∧∀ x H',(Itr lo n).yld i H x H'→g x σ H' fun σ2 H2=>tb { D with nx:=N,ct:=N,bk:=D.nx } σ2 H2) :=
 for_range Pv h0 (fun i σ H hi p=>hs i σ H hi p _ fun _ _ z=>z) hd
theorem cutW {c:TT} {tb:TS} {D:Ends} {σ:St} {H:Hp} (Post:St→Hp→Prop) (h1:∀ Ed:Ends,(∀ σ' H',Post σ' H'→Ed.nx σ' H')→tWhile c tb Ed σ H) (h2:∀ σ' H',Post σ' H'→D.nx σ' H'):tWhile c tb D σ H:=h1 D h2
theorem cutQ {t1 t2:TS} {D:Ends} {σ:St} {H:Hp} (Post:St→Hp→Prop) (h1:∀ Ed:Ends,(∀ σ' H',Post σ' H'→Ed.nx σ' H')→t1 Ed σ H) (h2:∀ σ' H',Post σ' H'→t2 D σ' H'):tSeq t1 t2 D σ H:=h1 _ h2
theorem cutS {t1 t2:TS} {D:Ends} {σ:St} {H:Hp} (h1:∀ Ed:Ends,Ed.nx σ H→t1 Ed σ H) (h2:t2 D σ H):tSeq t1 t2 D σ H:=h1 _ h2
theorem zipO {K:PySem.W.Frag} {a b:Addr} {xs ys:List V} {g:TG} {tb:TS} {D:Ends} {σ:St} {H:Hp} (hlen:xs.length=ys.length) (Pv:Nat→St→Hp→Prop) (h0:Pv 0 σ H) (hl:∀ i σ H,i≤xs.length→Pv i σ H→SqL K H a xs∧SqL K H b ys)
  (hs:∀ i x y p σ H,xs[i]?=some x→ys[i]?=some y→Pv i σ H→H p=none→∀ Ed:Ends,(∀ σ' H',Pv (i+1) σ' H'→Ed.nx σ' H')→g (.ref p) σ (upd H p (.tup [x,y])) fun σ2 H2=>tb Ed σ2 H2) (hd:∀ σ H,Pv xs.length σ H→D.nx σ H) :
  ∃ W:Nat→Nat→St→Hp→Prop,(∃ m,W 0 m σ H)∧∀ i m σ H,W i m σ H →
   ((Itz K a b).stop i H∧D.nx σ H)∨((Itz K a b).go i H∧∃ N:St→Hp→Prop,(∀ σ' H',N σ' H'→∃ m',m' < m∧W (i+1) m' σ' H')∧∀ x H',(Itz K a b).yld i H x H'→g x σ H' fun σ2 H2=>tb { D with nx:=N,ct:=N,bk:=D.nx } σ2 H2) :=
 for_zip hlen Pv h0 hl (fun i x y p σ H hx hy h hp=>hs i x y p σ H hx hy h hp _ fun _ _ z=>z) hd
end Gu

set_option Elab.async false
set_option linter.all false
set_option maxRecDepth 100000
set_option maxHeartbeats 4000000
namespace Gu
open PySem L2
/-! ### what stands behind a word in a joined guise -/
end Gu

set_option Elab.async false
set_option linter.all false
set_option maxRecDepth 100000
set_option maxHeartbeats 4000000
namespace L2
open PySem PySem.Spec PyProof.Rows PySem.SeqAt
section
variable {X:Cx} (K:PySem.W.Frag)
theorem op_neD (hK:X.K=K) (hu:X.A.units+64 < cLine):OpR X (compareOp .NotEq) (fun x y H Q=>∃ (ds es:List D),Dr K H (.tup ds) x∧Dr K H (.tup es) y∧D.okL ds es∧D.depL ds≤50∧Q (.bl (!D.eq (.tup ds) (.tup es))) H):=by
 subst hK
 intro pins s σ H x y v u Q I rx ry h
 obtain ⟨ds,es,hx,hy,o,hd,q⟩:=h
 simp only [Dr] at hx hy
 obtain ⟨l,vs,rfl,q1,r⟩:=hx
 obtain ⟨b,us,rfl,q2,r'⟩:=hy
 cases rx
 cases ry
 obtain ⟨its,rv,pl,_⟩:=I.tuple (SqT.of q1)
 obtain ⟨itt,rv',pl',_⟩:=I.tuple (SqT.of q2)
 have R:=RcNeAt.tuples (A:=X.A) (e:=D.at_ ds es) pl pl' (by omega) (fun j h1 h2=>by
  have l1:=rv.length
  have l2:=rv'.length
  have l3:=r.length
  have l4:=r'.length
  have h1':j < its.length:=by simpa using h1
  have h2':j < itt.length:=by simpa using h2
  have e1:ds[j]?=some ds[j]:=List.getElem?_eq_getElem (by omega)
  have e2:es[j]?=some es[j]:=List.getElem?_eq_getElem (by omega)
  obtain ⟨x1,g1,d1⟩:=r.get e1
  obtain ⟨x2,g2,d2⟩:=r'.get e2
  obtain ⟨u1,k1,z5⟩:=rv.get g1
  obtain ⟨u2,k2,z6⟩:=rv'.get g2
  have z1:u1=its.toArray[j]:=by
   rw [List.getElem?_eq_getElem h1'] at k1
   have:=Option.some.inj k1
   simpa using this.symm
  have z2:u2=itt.toArray[j]:=by
   rw [List.getElem?_eq_getElem h2'] at k2
   have:=Option.some.inj k2
   simpa using this.symm
  have z3:D.at_ ds es j=D.eq ds[j] es[j]:=by unfold D.at_;rw [e1,e2]
  rw [z3,←z1,←z2]
  exact (eqAtD I 50 X.A.in1 (Nat.le_trans (D.depL_get e1) hd) (by show X.A.units+1+50 < cLine;omega) d1 d2 (D.okL_get o e1 e2) z5 z6).1)
 have e1:its.toArray.size=ds.length:=by rw [r.length,rv.length];simp
 have e2:itt.toArray.size=es.length:=by rw [r'.length,rv'.length];simp
 rw [e1,e2,D.all_eqL] at R
 have e3:D.eq (.tup ds) (.tup es)=D.eqL ds es:=by simp only [D.eq]
 rw [e3] at q
 exact R _ _ _ _ ⟨.bl _,H,I,rfl,q⟩
end
end L2

set_option Elab.async false
set_option linter.all false
set_option maxRecDepth 100000
set_option maxHeartbeats 4000000
namespace Gu
open PySem L2
/-! ### whole joining -/
end Gu

set_option Elab.async false
set_option linter.all false
set_option maxRecDepth 100000
set_option maxHeartbeats 4000000
namespace Gu
open PySem L2
/-! ### where two guises part -/
def fuL:List Int→List Int→Nat
 | a::as,b::bs=>if a=b then fuL as bs+1 else 0
 | _,_=>0
def pgo (m:Nat) (R S:Row):List Int:=(List.range R.2.length).map fun k=>R.2.getD k 0*(m:Int)+S.2.getD k 0
def prM (one other:List Row):List Row:=(iota (one.length*other.length)).map fun c=>((row one (c / (other.length:Int))).1,pgo other.length (row one (c / (other.length:Int))) (row other (c % (other.length:Int))))
def addWs (w:List Int):List Int→List (List Int)→Nat→List Int→List (List Int)
 | _,ws,_,[]=>ws
 | o,ws,k,g::gs=>if g∈o then addWs w o ws (k+1) gs else addWs w (o++[g]) (ws++[w++[(k:Int)]]) (k+1) gs
def pb (one other:List Row):Nat→List Int→List (List Int)→Nat→Option (List Int)
 | 0,_,_,_=>none
 | f+1,o,ws,i=>match o[i]?,ws[i]? with
  | some c,some w=>if (row one (c / (other.length:Int))).1=(row other (c % (other.length:Int))).1 then pb one other f (addAll o (row (prM one other) c).2) (addWs w o ws 0 (row (prM one other) c).2) (i+1)
   else some (w++[((fuL (row one (c / (other.length:Int))).1 (row other (c % (other.length:Int))).1:Nat):Int)])
  | _,_=>none
def parting (one other:List Row):Option (List Int):=pb one other (one.length*other.length+1) [0] [[]] 0
/-! the other way round -/
/-! none parts what is one,and what nothing parts is one -/
end Gu

set_option Elab.async false
set_option linter.all false
set_option maxRecDepth 100000
set_option maxHeartbeats 4000000
namespace L2
open PySem PySem.Spec PyProof.Rows
/-! ### enumerate over a zip: the zip's own tuple is held by a name,so the zip hands out fresh ones -/
section
variable {prog:Program} {w:World} {A:Around} {E:Value→Shared→Prop} {s:Shared} {z TI TO i1 i2:Addr} {fp1 fp2:List Addr} {n1 n2:Nat} {P1 P2:Nat→Value→Prop} {S1 S2:Nat→Heap→Prop}
end
end L2

set_option Elab.async false
set_option linter.all false
set_option maxRecDepth 100000
set_option maxHeartbeats 4000000
namespace L2
open PySem PySem.Spec PyProof.Rows
section
variable {X:Cx} {elts:List Expr} {tk:Nat} {tp:Pos}
end
end L2

set_option Elab.async false
set_option linter.all false
set_option maxRecDepth 100000
set_option maxHeartbeats 4000000
namespace Gu
open PySem L2
/-! ### parting words: what is promised -/
end Gu

set_option Elab.async false
set_option linter.all false
set_option maxRecDepth 100000
set_option maxHeartbeats 4000000
namespace Gu
open PySem L2
/-! ### what the word that parts does -/
theorem lw_snoc {n:Nat} {v:List Int} {k:Nat} (h:LW n v) (hk:k < n):LW n (v++[(k:Int)]):=fun x hx=>by
 rcases List.mem_append.mp hx with z | z
 ·exact h x z
 ·have:x=(k:Int):=by simpa using z
  omega
end Gu

set_option Elab.async false
set_option linter.all false
set_option maxRecDepth 100000
set_option maxHeartbeats 4000000
namespace L2
open PySem PySem.Spec PyProof.Rows
variable {X:Cx}
end L2

set_option Elab.async false
set_option linter.all false
set_option maxRecDepth 100000
set_option maxHeartbeats 4000000
namespace Gu
open PySem L2
end Gu

set_option Elab.async false
set_option linter.all false
set_option maxRecDepth 100000
set_option maxHeartbeats 4000000
namespace L2
open PySem PySem.Spec PyProof.Rows
/-! ### a comprehension of two clauses and no test -/
section
variable {prog:Program} {w:World} {A:Around} {R:Result→Shared→Prop} {s:Shared}
end
section
variable {X:Cx} {pins:List (Addr × Obj)} {σ:St} {H:Hp} {s:Shared} {N:List Str} {ix:List (Option Nat)} {scope:Scope} {elt iter tg iter2 tg2:Expr} {pos:Pos} {g g2:TG} {wi2:TI} {te:TE} {E:Value→Shared→Prop}
end
end L2

set_option Elab.async false
set_option linter.all false
set_option maxRecDepth 100000
set_option maxHeartbeats 4000000
namespace Gu
open PySem L2
/-! ### an endless word,worn -/
def lapA (M:List Row) (e:Row):Nat→Int
 | 0=>goW M 0 e.1
 | t+1=>goW M (lapA M e t) e.2
/-! two endless words are unlike where what is made of them is -/
/-! how far two words go together -/
end Gu

set_option Elab.async false
set_option linter.all false
set_option maxRecDepth 100000
set_option maxHeartbeats 4000000
namespace Gu
open PySem L2
end Gu

set_option Elab.async false
set_option linter.all false
set_option maxRecDepth 100000
set_option maxHeartbeats 4000000
namespace L2
open PySem PySem.Spec PyProof.Rows PySem.SeqAt
/-! no list or tuple in it is very long -/
section
variable {X:Cx}
end
end L2

set_option Elab.async false
set_option linter.all false
set_option maxRecDepth 100000
set_option maxHeartbeats 4000000
namespace L2
open PySem PySem.Spec PyProof.Rows
open PySem.AutoSeq1 (wpAny_loadPart')
section
variable {X:Cx}
/-! ### t != u of ints -/
def rExtendT:V→List V→Hp→VK→Prop:=fun x vs H Q=>∃ l b xs zs,x=.ref l∧vs=[.ref b]∧H l=some (.lst xs)∧H b=some (.tup zs)∧xs.length+zs.length≤sizeLine∧Q .non (upd H l (.lst (xs++zs)))
theorem mt_extendT:MtM X "list.extend" rExtendT:=by
 intro pins s σ H x vs v us Q I rx rv h
 obtain ⟨l,b,xs,zs,rfl,rfl,hH,hB,hz,q⟩:=h
 cases rx
 obtain ⟨u,rfl,ru⟩:=rv.one
 cases ru
 obtain ⟨z,its,n,r,hl,e⟩:=I.lstM hH
 obtain ⟨z2,its2,n2,r2,e2⟩:=I.hok b _ hB
 have hl2:=r2.length
 have hsz:its.toArray.size+its2.toArray.size≤sizeLine:=by rw [List.size_toArray,List.size_toArray];omega
 have hlong:¬ (!its.toArray.isEmpty && Builtin.List.listTooLong (its.toArray.size+its2.toArray.size))=true:=by
  rw [notLongL hsz,Bool.and_false]
  exact Bool.false_ne_true
 refine call_meets F.slot_list_extend ⟨_,e,rfl⟩ F.entry_list_extend (F.args_list_extend_2 _ _)
  (AutoSeq1.list_extend_list_tuple_0 l its.toArray n b its2.toArray n2 hlong (by rw [List.size_toArray];omega) (by omega)) ⟨e,e2,?_⟩
 refine ⟨.non,_,I.lset (its':=its++its2) hH e (by simp) (r.append r2) ?_,rfl,q⟩
 rw [List.length_append]
 omega
end
end L2

set_option Elab.async false
set_option linter.all false
set_option maxRecDepth 100000
set_option maxHeartbeats 4000000
namespace Gu
open PySem L2
/-! ### endless words worn,of great length,and refused -/
def kI:Int→Key:=fun a=>Sum.inl a
def seen (M:List Row) (e:Row) (t:Nat):List Int:=(List.range t).map (lapA M e)
end Gu

set_option Elab.async false
set_option linter.all false
set_option maxRecDepth 100000
set_option maxHeartbeats 4000000
namespace Gu
open PySem L2
/-! ### what guises make of words: of least forms,joined,turned back -/
/-! ### the same of endless words -/
/-! ### the promises of endless words worn twice -/
end Gu
namespace Gu
open PySem L2
/-! the rest of a body,kept closed while a statement is read -/
theorem seqG {a b:TS} {D:Ends} {σ:St} {H:Hp} (h:∀ R:TS,R=b→tSeq a R D σ H):tSeq a b D σ H:=h b rfl
theorem atR {R b:TS} {D:Ends} {σ:St} {H:Hp} (e:R=b) (h:b D σ H):R D σ H:=by rw [e];exact h
end Gu

set_option Elab.async false
set_option linter.all false
set_option maxRecDepth 100000
set_option maxHeartbeats 4000000
namespace Gu
open PySem L2
/-! ### a guise worn so many times -/
end Gu

set_option Elab.async false
set_option linter.all false
set_option maxRecDepth 100000
set_option maxHeartbeats 4000000
namespace Gu
open PySem L2
/-! ### the rows of a form are unlike -/
theorem uniq_full {α:Type} [DecidableEq α]:∀ (l:List α),(uniq l.reverse).length=l.length→l.reverse.Nodup
 | [],_=>by simp
 | x::l,h=>by
  rw [List.reverse_cons,uniq_snoc] at h
  rw [List.reverse_cons]
  have hl:=uniq_le l.reverse
  rw [List.length_reverse] at hl
  by_cases hx:x∈uniq l.reverse
  ·rw [addN_mem hx] at h
   simp at h
   omega
  ·rw [addN_new hx] at h
   simp at h
   have ih:=uniq_full l h
   refine List.nodup_append.mpr ⟨ih,by simp,fun a ha b hb=>?_⟩
   rw [List.mem_singleton] at hb
   subst hb
   exact fun z=>hx (mem_uniq.mpr (by rw [←z];exact ha))
theorem uniq_nodup {α:Type} [DecidableEq α] {l:List α} (h:(uniq l).length=l.length):l.Nodup:=by
 have:=uniq_full l.reverse (by rw [List.reverse_reverse,List.length_reverse];exact h)
 rwa [List.reverse_reverse] at this
theorem form_order {n:Nat} {F:List Row} (G:GoodM n F) (hf:shr F=F):(∀ x,0≤x→x < (F.length:Int)→x∈order F)∧∀ x∈order F,∀ y∈order F,beh F x=beh F y→x=y:=by
 obtain ⟨L,cl⟩:=order_line G
 obtain ⟨h1,h2,h3⟩:=heads_has (kOf F) (order F)
 have e1:(heads (kOf F) (order F)).length=F.length:=by
  have:(shr F).length=(heads (kOf F) (order F)).length:=by unfold shr inLine;rw [List.length_map]
  rw [←this,hf]
 have e2:=L.len
 have e3:(uniq ((order F).map (kOf F))).length=((order F).map (kOf F)).length:=by
  rw [←heads_map_uniq,List.length_map,List.length_map]
  omega
 have nd:=uniq_nodup e3
 refine ⟨fun x x0 x1=>Classical.byContradiction fun z=>?_,fun x hx y hy e=>?_⟩
 ·have:=nodup_len (n:=F.length) (List.nodup_cons.mpr ⟨z,L.nd⟩) fun y hy=>by
   rcases List.mem_cons.mp hy with r | r
   ·rw [r];exact ⟨x0,x1⟩
   ·exact L.rg y r
  rw [List.length_cons] at this
  omega
 ·have ek:=(kOf_right G x hx y hy).mpr e
  obtain ⟨i,hi,rfl⟩:=List.mem_iff_getElem.mp hx
  obtain ⟨j,hj,rfl⟩:=List.mem_iff_getElem.mp hy
  have:i=j:=by
   refine (List.getElem_inj (h₀:=by rw [List.length_map];exact hi) (h₁:=by rw [List.length_map];exact hj) nd).mp ?_
   rw [List.getElem_map,List.getElem_map]
   exact ek
  subst this
  rfl
def Alk (n:Nat) (M:List Row) (x y:Int):Prop:=∀ w,LW n w→(row M (goW M x w)).1=(row M (goW M y w)).1
theorem alk_beh {n:Nat} {M:List Row} (G:GoodM n M):∀ (w:List Nat) (x y:Int),0≤x→x < (M.length:Int)→0≤y→y < (M.length:Int)→Alk n M x y→beh M x w=beh M y w
 | [],x,y,_,_,_,_,h=>h [] (fun _ z=>by simp at z)
 | i::w,x,y,x0,x1,y0,y1,h=>by
  show beh M ((row M x).2.getD i 0) w=beh M ((row M y).2.getD i 0) w
  by_cases hi:i < n
  ·obtain ⟨a0,a1,_⟩:=go_get G x0 x1 hi
   obtain ⟨b0,b1,_⟩:=go_get G y0 y1 hi
   refine alk_beh G w _ _ a0 a1 b0 b1 fun u hu=>?_
   have:=h ((i:Int)::u) (fun z hz=>by
    rcases List.mem_cons.mp hz with r | r
    ·rw [r];omega
    ·exact hu z r)
   simpa [goW] using this
  ·have hx:=G.len _ (row_mem x0 x1)
   have hy:=G.len _ (row_mem y0 y1)
   rw [List.getD_eq_getElem?_getD,List.getElem?_eq_none (by omega),List.getD_eq_getElem?_getD,List.getElem?_eq_none (by omega)]
theorem form_inj {n:Nat} {F:List Row} (G:GoodM n F) (hf:shr F=F) {x y:Int} (x0:0≤x) (x1:x < (F.length:Int)) (y0:0≤y) (y1:y < (F.length:Int)) (h:Alk n F x y):x=y:=by
 obtain ⟨c,i⟩:=form_order G hf
 exact i x (c x x0 x1) y (c y y0 y1) (funext fun w=>alk_beh G w x y x0 x1 y0 y1 h)
theorem sect_row {n:Nat} {M:List Row} (G:GoodM n M) {x:Int} (x0:0≤x) (x1:x < (M.length:Int)) {w:List Int} (hw:LW n w):(row (shr (swM M x)) (goW (shr (swM M x)) 0 w)).1=(row M (goW M x w)).1:=by
 have G1:=swM_good G x0 x1
 obtain ⟨h,h0,mo⟩:=shr_quot G1
 obtain ⟨L,cl⟩:=order_line G1
 have hz:(0:Int)∈order (swM M x):=by obtain ⟨t,ht⟩:=L.hd;rw [ht];exact List.mem_cons_self
 have e1:=goW_map (n:=n) (M':=swM M x) (M:=shr (swM M x)) (h:=h) (C:=fun z=>z∈order (swM M x)) (fun z hz=>G1.len _ (row_mem (L.rg z hz).1 (L.rg z hz).2)) (fun z hz g hg=>cl z hz g hg) (fun z hz=>mo z hz) w 0 hw hz
 have m1:=goW_all (n:=n) (M:=swM M x) (C:=fun z=>z∈order (swM M x)) (fun z hz=>G1.len _ (row_mem (L.rg z hz).1 (L.rg z hz).2)) (fun z hz g hg=>cl z hz g hg) w 0 hw hz
 rw [h0] at e1
 rw [e1,mo _ m1]
 have e2:=goW_map (n:=n) (M':=M) (M:=swM M x) (h:=sw x) (C:=fun z=>0≤z∧z < (M.length:Int)) (fun z hz=>G.len _ (row_mem hz.1 hz.2)) (fun z hz g hg=>G.go _ (row_mem hz.1 hz.2) g hg) (fun z hz=>by
  obtain ⟨s0,s1⟩:=sw_rg x0 x1 hz.1 hz.2
  rw [swM_row s0 s1,sw_sw]) w x hw ⟨x0,x1⟩
 rw [sw_self] at e2
 rw [e2]
 obtain ⟨t0,t1⟩:=goW_rg G hw x0 x1
 obtain ⟨s0,s1⟩:=sw_rg x0 x1 t0 t1
 rw [swM_row s0 s1,sw_sw]
 rfl
/-! ### rows that leave all that follows -/
def StR (n:Nat) (M:List Row) (r:Int):Prop:=row M r=(iota n,List.replicate n r)
instance (n:Nat) (M:List Row) (r:Int):Decidable (StR n M r):=inferInstanceAs (Decidable (_=_))
end Gu

set_option Elab.async false
set_option linter.all false
set_option maxRecDepth 100000
set_option maxHeartbeats 4000000
namespace Gu
open PySem L2
/-! ### how deep a guise goes -/
def goneTo (M:List Row) (rs:List Int):List Int:=uniq (rs.flatMap fun r=>(row M r).2)
theorem goneTo_mem {M:List Row} {rs:List Int} {x:Int}:x∈goneTo M rs↔∃ r∈rs,x∈(row M r).2:=by
 unfold goneTo
 rw [mem_uniq,List.mem_flatMap]
def mvF (n:Nat) (M:List Row) (rs:List Int):List Int:=rs.filter fun r=>!decide (StR n M r)
def mvs (n:Nat) (M:List Row):Nat→List Int
 | 0=>[0]
 | k+1=>goneTo M (mvF n M (mvs n M k))
def dlp (n:Nat) (M:List Row):Nat→Nat→Option Nat
 | 0,_=>none
 | f+1,k=>if mvF n M (mvs n M k)=[] then some k else dlp n M f (k+1)
def dep (n:Nat) (M:List Row):Option Nat:=dlp n M M.length 0
def Lp (n:Nat) (M:List Row) (r:Int):Prop:=∃ v,v≠[]∧LW n v∧goW M r v=r
end Gu

set_option Elab.async false
set_option linter.all false
set_option maxRecDepth 100000
set_option maxHeartbeats 4000000
namespace Gu
open PySem L2
/-! ### depths of sections,what lasts -/
noncomputable def lpB (n:Nat) (M:List Row) (j:Nat):Bool:=@decide (Lp n M (j:Int)) (Classical.propDecidable _)
theorem lpB_iff {n:Nat} {M:List Row} {j:Nat}:lpB n M j=true↔Lp n M (j:Int):=by
 unfold lpB
 exact @decide_eq_true_iff _ (Classical.propDecidable _)
noncomputable def lasts (n:Nat) (M:List Row) (i:Nat):List (List Row):=((List.range i).filter (lpB n M)).map fun (j:Nat)=>shr (swM M (j:Int))
theorem lasts_yes {n:Nat} {M:List Row} {i:Nat} (h:lpB n M i=true):lasts n M (i+1)=lasts n M i++[shr (swM M (i:Int))]:=by
 unfold lasts
 rw [List.range_succ,List.filter_append,List.map_append]
 simp [h]
theorem lasts_no {n:Nat} {M:List Row} {i:Nat} (h:lpB n M i=false):lasts n M (i+1)=lasts n M i:=by
 unfold lasts
 rw [List.range_succ,List.filter_append,List.map_append]
 simp [h]
theorem lasts_le (n:Nat) (M:List Row) (i:Nat):(lasts n M i).length≤i:=by
 unfold lasts
 rw [List.length_map]
 exact Nat.le_trans (List.length_filter_le _ _) (by rw [List.length_range];omega)
end Gu

set_option Elab.async false
set_option linter.all false
set_option maxRecDepth 100000
set_option maxHeartbeats 4000000
namespace L2
open PySem PySem.Spec PyProof.Rows
section
variable {X:Cx}
theorem vals_by:∀ {xs:List V} {us:List Value},us.length=xs.length→(∀ (i:Nat) (u:Value),us[i]?=some u→∃ x,xs[i]?=some x∧RelV x u)→Vals xs us
 | [],[],_,_=>.nil
 | [],_::_,h,_=>by cases h
 | _::_,[],h,_=>by cases h
 | x::xs,u::us,h,f=>by
  obtain ⟨y,e,r⟩:=f 0 u rfl
  have e':x=y:=Option.some.inj e
  subst e'
  exact .cons r (vals_by (Nat.succ.inj h) fun i v hv=>f (i+1) v hv)
theorem paired_at {α β:Type} {F:α→β→Prop}:∀ {l:List α} {r:List β} {i:Nat} {a:α} {b:β},Paired F l r→l[i]?=some a→r[i]?=some b→F a b
 | _,_,0,_,_,.cons q _,ha,hb=>by
  have e1:=Option.some.inj ha
  have e2:=Option.some.inj hb
  rw [←e1,←e2];exact q
 | _,_,_+1,_,_,.cons _ t,ha,hb=>paired_at t ha hb
theorem call_list_dK (hc:X.calm=true):CallR X (.type "list") (fun xs H Q=>∃ (p:Addr) (kvs:List (Key × V)),xs=[.ref p]∧H p=some (.dK kvs)∧∀ l,H l=none→Q (.ref l) (upd H l (.lst (kvs.map fun e=>kV e.1)))):=by
 intro pins s σ H xs us Q I r h
 obtain ⟨p,kvs,rfl,hp,q⟩:=h
 obtain ⟨u,rfl,ru⟩:=vals1 r
 cases ru
 obtain ⟨hz,hsm,vs,hkv,hd⟩:=I.hok p _ hp
 obtain ⟨ep,hat⟩:=hd.dictAt
 have hlen:vs.length=kvs.length:=hkv.length.symm
 refine PySem.W.kdl_call (PySem.W.kdl_dict (knd:=mixKind X.prog X.w) (kvs:=vs) (ep:=ep) hsm) (I.ok.hd hc) hat (by rw [hlen];exact hz) fun h' tk acc c' hk hl hacc=>?_
 have hv:Vals (kvs.map fun e=>kV e.1) acc.toList:=by
  refine vals_by (by rw [Array.length_toList,hacc.1,hlen,List.length_map]) fun i v hi=>?_
  obtain ⟨k,x,hx,hks⟩:=hacc.2 i v (by rw [←Array.getElem?_toList];exact hi)
  have hil:i < kvs.length:=by rw [←hlen];exact (List.getElem?_eq_some_iff.mp hx).1
  refine ⟨kV kvs[i].1,by rw [List.getElem?_map,List.getElem?_eq_getElem hil];rfl,?_⟩
  have hp2:=paired_at hkv (List.getElem?_eq_getElem hil) hx
  rw [hp2.1]
  rcases keyIs_shape hks with ⟨j,t,e1,rfl⟩ | ⟨y,t,e1,rfl⟩
  ·have:k=Sum.inl j:=e1
   rw [this]
   exact ⟨t,rfl⟩
  ·have:k=Sum.inr y:=e1
   rw [this]
   exact ⟨t,rfl⟩
 exact ⟨.ref _,_,I.laid (o:=.lst (kvs.map fun e=>kV e.1)) (fun b u e=>hk b u e) (Nat.le_refl _) ⟨by rw [List.length_map];exact hz,acc.toList,c',hv,by simpa using hl⟩,rfl,q _ I.fresh⟩
end
end L2

set_option Elab.async false
set_option linter.all false
set_option maxRecDepth 100000
set_option maxHeartbeats 4000000
namespace L2
open PySem PySem.Spec PyProof.Rows
/-! ### {k: v for x in ..} of one clause and no test,its keys whole numbers or texts -/
section
variable {prog:Program} {w:World} {A:Around} {R:Result→Shared→Prop} {s:Shared}
theorem comp_turnsD {kx vx tg iter:Expr} {scope:Scope} {pos:Pos} {it:Value} {d:Addr} {env:Env} (I:Nat→Shared→Prop)
  (turn:∀ n s,I n s→wpAny (model prog w) A (pyNext it) (fun r s1=>match r with
   | none=>R (.ok .next) s1
   | some v=>wpAny (model prog w) A (letOwnedTupleGo tg it v) (fun _ s2=>wpAny (model prog w) A (assign tg env v) (fun _ s3=>wpAny (model prog w) A (eval kx env) (fun x s4=>wpAny (model prog w) A (eval vx env) (fun y s5 =>
     wpAny (model prog w) A (dictSet d x y) (fun _ s6=>∃ m,m < n∧I m s6) noE s5) noE s4) noE s3) noE s2) noE s1) noE s)
  (n:Nat) (h:I n s):codeAny (model prog w) A (.compLoop (.DictComp kx vx [⟨tg,iter,[],0⟩] scope pos) 0 it (.ref d) env) R s:=by
 have no:∀ (P:Value→Shared→Prop) (a:Value) (b:Shared),noE a b→P a b:=fun _ _ _ z=>False.elim z
 refine codeAny_loop rfl I (fun n s hI=>?_) n h
 show wpAny _ _ ((compTurn (.DictComp kx vx [⟨tg,iter,[],0⟩] scope pos) 0 it (.ref d) env).onRaise
  (fun x=>do noteFrame x env;theTreesLotGoes x)) _ _ s
 refine wpAny_noted ?_
 rw [compTurn_dict]
 refine wpAny_bind (wpAny_standAt (wpAny_bind (wpAny_mono (turn n s hI) (fun r s1 h1=>?_) (no _))))
 cases r with
 | none=>exact wpAny_pure h1
 | some v =>
  refine wpAny_bind (wpAny_mono h1 (fun _ s2 h2=>?_) (no _))
  refine wpAny_bind (wpAny_mono h2 (fun _ s3 h3=>?_) (no _))
  refine wpAny_bind (wpAny_pure ?_)
  exact wpAny_bind (wpAny_bind (wpAny_mono h3 (fun x s4 h4=>wpAny_bind (wpAny_holding (wpAny_mono h4 (fun y s5 h5=>wpAny_bind (wpAny_standAt (wpAny_holding (wpAny_mono h5 (fun _ s6 h6=>wpAny_pure ⟨rfl,h6⟩) (no _))))) (no _)))) (no _)))
end
def compWD (ix:List (Option Nat)) (J:It) (g:TG) (tk tv:TE) (σ:St) (l:Addr) (H0:Hp) (Qe:Hp→Prop):Prop :=
 ∃ W:Nat→Nat→List (Key × V)→Hp→Prop,(∃ m,W 0 m [] H0)∧∀ i m ys H,W i m ys H→H l=some (.dK ys) →
  (J.stop i H∧Qe H)∨(J.go i H∧ys.length < sizeLine∧∃ N:List (Key × V)→Hp→Prop,(∀ zs H',N zs H'→∃ m',m' < m∧W (i+1) m' zs H')∧∀ x H',J.yld i H x H'→g x (compSt ix σ) H' fun σ2 H2=>tk σ2 H2 fun y H3=>tv σ2 H3 fun v H4 =>
   ∃ k,y=kV k∧H4 l=some (.dK ys)∧N (putK ys k v) (upd H4 l (.dK (putK ys k v))))
def tCompD (ix:List (Option Nat)) (wi:TI) (g:TG) (tk tv:TE):TE:=fun σ H Q=>wi σ H fun J H1=>∀ l,H1 l=none→compWD ix J g tk tv σ l (upd H1 l (.dK [])) fun H'=>Q (.ref l) H'
section
variable {X:Cx} {pins:List (Addr × Obj)} {σ:St} {H:Hp} {s:Shared} {N:List Str} {ix:List (Option Nat)} {scope:Scope} {kx vx iter tg:Expr} {pos:Pos} {g:TG} {tk tv:TE} {E:Value→Shared→Prop}
theorem d_dictSet {a:Addr} {kvs:List (Key × V)} {k:Key} {u r:Value} {v:V} {A:Around} {Q:Unit→Shared→Prop} (I:Inv X pins σ H s) (e:H a=some (.dK kvs)) (hl:kvs.length < sizeLine) (ry:RelV (kV k) u) (rv:RelV v r) (h:∀ s',Inv X pins σ (upd H a (.dK (putK kvs k v))) s'→Q () s') :
  wpAny (model X.prog X.w) A (dictSet a u r) Q E s:=by
 obtain ⟨z,hd,vs,rel,dd⟩:=dk_of I.hok e
 have hz:vs.length≤sizeLine:=by rw [←rel.length];exact z
 have hl:(putK kvs k v).length≤sizeLine:=by have:=length_putK kvs k v;omega
 refine wpAny_dictSet_pairs (hsz:=hz) (kV_is ry) dd fun h' dd' hs=>h _ ?_
 have he:∃ q,h'.get? a=some q:=let ⟨q,_,_,hq,_⟩:=dd';⟨q,hq⟩
 exact d_write I (by rw [e];exact True.intro) hs he (dk_new hl hd (rel.put k rv) dd')
theorem comp_blockD {it:Addr} {fp:List Addr} {tn:Nat→Heap→Prop} {J:It} {Qe:Addr→Hp→Prop} {RR:Value→Addr→Result→Shared→Prop} (hc:X.calm=true) (S:CompS X.N X.env.scope N ix scope)
  (hg:∀ cl C ex s H,PG (cxComp X N scope cl C ex s H) tg g) (hk:∀ cl C ex s H,PE (cxComp X N scope cl C ex s H) kx tk) (hv:∀ cl C ex s H,PE (cxComp X N scope cl C ex s H) vx tv)
  (I:Inv X pins σ H s) (T:Turn X.prog X.w X.K tg J fp it tn) (st:tn 0 s.heap) (hf:∀ b∈fp,FpOk X pins H b)
  (hw:∀ l,H l=none→compWD ix J g tk tv σ l (upd H l (.dK [])) (Qe l))
  (hRR:∀ l C s' H' m,s'.heap.Ns C m→Inv X pins σ H' s'→FpOk X pins H' C→Qe l H'→RR (.ref l) C (.ok .next) s') :
  wpAny (model X.prog X.w) X.A newDict (fun acc s3=>wpAny (model X.prog X.w) X.A (newFunctionEnv scope X.env.globals (closeL X.env.cells scope.names []) [] X.env.qual none .none (some X.env)) (fun cenv s4 =>
   codeAny (model X.prog X.w) X.A (.compStart (.DictComp kx vx [⟨tg,iter,[],0⟩] scope pos) 0 (.ref it) acc { cenv with scope:=relabel scope X.env }) (RR acc cenv.locals) s4) E s3) E s:=by
 have hlt:∀ b∈fp,b < s.heap.objs.size:=fun b hb=>by
  obtain ⟨o,e,_⟩:=T.obj 0 s.heap st b hb
  exact Heap.lt_size e
 have hl0:H s.heap.objs.size=none:=I.fresh
 obtain ⟨W,⟨m0,w0⟩,turn⟩:=hw s.heap.objs.size hl0
 refine wpAny_newObj_type ?_
 generalize hs3:({ s with heap:=s.heap.push { cls:=.type "dict",data:=.dict #[] } }:Shared)=s3
 have I3:Inv X pins σ (upd H s.heap.objs.size (.dK [])) s3:=by
  rw [←hs3]
  exact I.laid (a:=s.heap.objs.size) (o:=.dK []) (t':=s.toks) (fun _ _ q=>Heap.get?_push_of_some _ q) (Nat.le_refl _) (dk_empty s.heap I.big)
 have k3:∀ b o,s.heap.get? b=some o→s3.heap.get? b=some o:=fun b o e=>by
  rw [←hs3];exact Heap.get?_push_of_some _ e
 have sz3:s3.heap.objs.size=s.heap.objs.size+1:=by rw [←hs3];exact Heap.size_push ..
 have lnfp:s.heap.objs.size∉fp:=fun hb=>Nat.lt_irrefl _ (hlt _ hb)
 have st3:tn 0 s3.heap:=T.keep 0 _ _ st fun b _ o e=>k3 b o e
 have hf3:∀ b∈fp,FpOk X pins (upd H s.heap.objs.size (.dK [])) b:=fun b hb=>by
  obtain ⟨f0,f⟩:=hf b hb
  have nb:b≠s.heap.objs.size:=fun e=>lnfp (by rw [←e];exact hb)
  exact ⟨by rw [upd_ne nb];exact f0,f⟩
 have hlt3:∀ b∈fp,b < s3.heap.objs.size:=fun b hb=>by rw [sz3];exact Nat.lt_succ_of_lt (hlt b hb)
 clear hs3
 refine wpAny_newFunctionEnv S.nocell (by intro y hy;simp at hy) (fun h1 hn1 hb1=>?_) S.kind
 have hk1:∀ b o,s3.heap.get? b=some o→h1.get? b=some o:=fun b o e =>
  (hb1.2 b (Nat.ne_of_lt (Heap.lt_size e))).trans (Heap.get?_push_of_some _ e)
 have J0:Inv (cxComp X N scope (closeL X.env.cells scope.names []) s3.heap.objs.size fp s3 (upd H s.heap.objs.size (.dK []))) [] (compSt ix σ) (upd H s.heap.objs.size (.dK [])) { s3 with heap:=h1,toks:=s3.toks+([]:List (Str × Value)).length } :=
  comp_inv I3 S rfl hf3 hlt3 hn1 hk1
 have st1:tn 0 h1:=T.keep 0 _ _ st3 fun b _ o e=>hk1 b o e
 have fpY:∀ {Hc:Hp},(∀ b∈fp,Hc b=none)→∀ b∈fp,FpOk (cxComp X N scope (closeL X.env.cells scope.names []) s3.heap.objs.size fp s3 (upd H s.heap.objs.size (.dK []))) [] Hc b:=fun {Hc} hn b hb=>by
  obtain ⟨_,f1,f2,_,f4,_⟩:=hf3 b hb
  refine ⟨hn b hb,Nat.ne_of_lt (hlt3 b hb),fun hb2=>(List.mem_cons.mp (I3.stkSub b hb2)).elim f1 f2,.inl hb,fun x c e=>f4 x c (comp_look I3 S e),fun p hp=>absurd (show p∈([]:List (Addr × Obj)) from hp) (by simp)⟩
 have loop:∀ s4:Shared,s4=({ s3 with heap:=h1,toks:=s3.toks+([]:List (Str × Value)).length }:Shared)→codeAny (model X.prog X.w) X.A (.compLoop (.DictComp kx vx [⟨tg,iter,[],0⟩] scope pos) 0 (.ref it) (.ref s.heap.objs.size)
   (compEnvC scope (closeL X.env.cells scope.names []) s3.heap.objs.size X.env)) (RR (.ref s.heap.objs.size) s3.heap.objs.size) s4:=by
  intro s4 hs4
  subst hs4
  refine comp_turnsD (fun n s'=>∃ i ys Hc,Inv (cxComp X N scope (closeL X.env.cells scope.names []) s3.heap.objs.size fp s3 (upd H s.heap.objs.size (.dK []))) [] (compSt ix σ) Hc s'∧tn i s'.heap∧(∀ b∈fp,Hc b=none)∧Hc s.heap.objs.size=some (.dK ys)∧W i n ys Hc) ?_ m0 ⟨0,[],_,J0,st1,fun b hb=>(hf3 b hb).1,upd_same,w0⟩
  rintro n s5 ⟨i,ys,Hc,J5,st5,fr5,hl5,w5⟩
  rcases turn i n ys Hc w5 hl5 with ⟨stop,qe⟩ | ⟨go,hz,NN,hNN,step⟩
  ·refine thn (T.done (cxComp X N scope (closeL X.env.cells scope.names []) s3.heap.objs.size fp s3 (upd H s.heap.objs.size (.dK []))) rfl rfl rfl hc i [] s5 _ Hc noE J5 (fpY fr5) st5 stop) fun r s6 ⟨hr,J6⟩=>?_
   subst hr
   have I6:Inv X pins σ Hc s6:=I3.call' (ch:=fp) J6.os J6.base J6.hok J6.bare fun b hb=>by
    obtain ⟨_,f1,f2,f3,f4,f5⟩:=hf3 b hb
    exact ⟨f3,f1,f4,f5⟩
   obtain ⟨m6,hn6,_⟩:=J6.loc
   exact hRR _ _ s6 Hc m6 hn6 I6 (I3.fpOk (Nat.le_refl _) J6.free) qe
  ·refine thn (T.item (cxComp X N scope (closeL X.env.cells scope.names []) s3.heap.objs.size fp s3 (upd H s.heap.objs.size (.dK []))) rfl rfl rfl hc i [] s5 _ Hc noE J5 (fpY fr5) st5 go) fun r s6 ⟨u,hr,h6⟩=>?_
   subst hr
   refine thn h6 fun _ s7 ⟨x,H7,J7,r7,y7,st7,fr7⟩=>?_
   have J7':=J7.pinned (fpY fr7) (T.obj _ _ st7)
   refine thn (hg _ _ _ _ _ _ s7 _ H7 x u _ J7' r7 (step x H7 y7)) fun _ s8 ⟨σ8,H8,J8,q8⟩=>?_
   refine thn (hk _ _ _ _ _ _ s8 σ8 H8 _ J8 q8) fun yk s9 ⟨vk,H9,J9,r9,q9⟩=>?_
   refine thn (hv _ _ _ _ _ _ s9 σ8 H9 _ J9 q9) fun yv s95 ⟨v,H95,J95,r95,kk,ek,hl9,n9⟩=>?_
   obtain ⟨m',hm',w9⟩:=hNN _ _ n9
   subst ek
   refine d_dictSet (X:=cxComp X N scope (closeL X.env.cells scope.names []) s3.heap.objs.size fp s3 (upd H s.heap.objs.size (.dK []))) J95 hl9 hz r9 r95 fun s10 J10=>?_
   have len8:(compSt ix σ).length=σ8.length:=by
    rw [J10.len]
    unfold compSt
    rw [List.length_map]
    exact S.len
   refine ⟨m',hm',i+1,putK ys kk v,_,?_,T.keep _ _ _ st7 fun b hb o e=>(J10.pin (b,o) (List.mem_append_right _ (List.mem_append_right _ (mem_pinsAt hb e)))).1,fun b hb=>?_,upd_same,w9⟩
   ·exact comp_again I3 S J10
   ·obtain ⟨o,e,d⟩:=T.obj _ _ st7 b hb
    exact (J10.pin (b,o) (List.mem_append_right _ (List.mem_append_right _ (mem_pinsAt hb e)))).2.1
 exact codeAny_compStart_dict (loop _ rfl) (T.self _ 0 _ _ _ st1 (loop _ rfl))
theorem ps_compD {wi:TI} {i:Nat} {x:Str} {spos pos':Pos} (hc:X.calm=true) (S:CompS X.N X.env.scope N ix scope) (hi:PI X tg iter wi)
  (hg:∀ cl C ex s H,PG (cxComp X N scope cl C ex s H) tg g) (hk:∀ cl C ex s H,PE (cxComp X N scope cl C ex s H) kx tk) (hv:∀ cl C ex s H,PE (cxComp X N scope cl C ex s H) vx tv)
  (hN:X.N.Nodup) (hx:X.N[i]?=some x) (hl:X.env.scope.names.lookup x=some .local)
  (hsw:swapsWith (.DictComp kx vx [⟨tg,iter,[],0⟩] scope pos) (some (.Name x pos')) spos.line X.env=pure true:=by rfl)
  (hs:∀ x,foldedSetIterable iter X.env x=pure x:=by intro _;rfl):PS X (.Assign [.Name x pos'] (.DictComp kx vx [⟨tg,iter,[],0⟩] scope pos) spos) (tAsg (tCompD ix wi g tk tv) (gName i)):=by
 intro pins s σ H D I h
 rw [exec_Assign_Name_used _ _ _ _ hsw]
 refine wpAny_bind (wpAny_standAt (wpAny_bind ?_))
 show wpAny _ _ (comprehension (.DictComp kx vx [⟨tg,iter,[],0⟩] scope pos) scope X.env _ newDict false (eval iter X.env) (some (assign (.Name x pos') X.env)) >>= fun _=>pure ()) _ _ s
 refine wpAny_bind (wpAny_mono (wpAny_comprehension_free (use:=some (assign (.Name x pos') X.env)) (Q:=fun _ s'=>SP X pins D .next s') rfl hs (closureFor_run (comp_cells I S)) S.kind S.names
  (thn (hi pins s σ H _ I h) fun v s1 h1=>thn h1 fun itv s2 h2=>?_)) (fun _ s' q=>wpAny_pure (wpAny_pure q)) fun _ _ e=>e)
 obtain ⟨it,fp,tn,J,H2,e,I2,T,st2,f2,hw⟩:=h2
 subst e
 refine comp_blockD (RR:=fun acc C=>compPost (model X.prog X.w) X.A X.xe (some (assign (.Name x pos') X.env)) (fun _ s'=>SP X pins D .next s') acc C) hc S hg hk hv I2 T st2 f2 hw fun l C s' H' m hn I' fC q=>?_
 obtain ⟨c0,c1,c2,c3,c4,c5⟩:=fC
 show wpAny _ _ (assign (.Name x pos') X.env (.ref l)) _ _ _
 refine wpAny_assign_Name (store_ok2 I' hN hx (.inl hl) (v:=.ref l) rfl (fun s'' I'' ⟨a,sb,ha⟩=>?_) (.inr hl))
 have haC:C≠a:=by
  rcases ha with ha | ha
  ·rw [ha];exact c1
  ·exact fun z=>c4 x a ha z.symm
 refine ⟨m,hn.sameBut sb haC,fun h' hs'=>?_⟩
 exact ⟨_,H',I''.turned (t':=s''.toks) (fun b o hb e=>(hs'.2 b hb).trans e) c0 c1 c3 c4 c5,q⟩
end
section
variable {X:Cx} {pins:List (Addr × Obj)} {σ:St} {H:Hp} {s:Shared} {N:List Str} {ix:List (Option Nat)} {scope:Scope} {elt iter tg cx:Expr} {pos:Pos} {g:TG} {tt:TT} {te:TE} {E:Value→Shared→Prop}
theorem ps_compF {wi:TI} {i:Nat} {x:Str} {spos pos':Pos} (hc:X.calm=true) (S:CompS X.N X.env.scope N ix scope) (hi:PI X tg iter wi)
  (hg:∀ cl C ex s H,PG (cxComp X N scope cl C ex s H) tg g) (ht:∀ cl C ex s H,PT (cxComp X N scope cl C ex s H) cx tt) (he:∀ cl C ex s H,PE (cxComp X N scope cl C ex s H) elt te)
  (hN:X.N.Nodup) (hx:X.N[i]?=some x) (hl:X.env.scope.names.lookup x=some .local)
  (hsw:swapsWith (.ListComp elt [⟨tg,iter,[cx],0⟩] scope pos) (some (.Name x pos')) spos.line X.env=pure true:=by rfl)
  (hs:∀ x,foldedSetIterable iter X.env x=pure x:=by intro _;rfl):PS X (.Assign [.Name x pos'] (.ListComp elt [⟨tg,iter,[cx],0⟩] scope pos) spos) (tAsg (tCompF ix wi g tt te) (gName i)):=by
 intro pins s σ H D I h
 rw [exec_Assign_Name_used _ _ _ _ hsw]
 refine wpAny_bind (wpAny_standAt (wpAny_bind ?_))
 show wpAny _ _ (comprehension (.ListComp elt [⟨tg,iter,[cx],0⟩] scope pos) scope X.env _ (newList []) false (eval iter X.env) (some (assign (.Name x pos') X.env)) >>= fun _=>pure ()) _ _ s
 refine wpAny_bind (wpAny_mono (wpAny_comprehension_free (use:=some (assign (.Name x pos') X.env)) (Q:=fun _ s'=>SP X pins D .next s') rfl hs (closureFor_run (comp_cells I S)) S.kind S.names
  (thn (hi pins s σ H _ I h) fun v s1 h1=>thn h1 fun itv s2 h2=>?_)) (fun _ s' q=>wpAny_pure (wpAny_pure q)) fun _ _ e=>e)
 obtain ⟨it,fp,tn,J,H2,e,I2,T,st2,f2,hw⟩:=h2
 subst e
 refine comp_blockF (RR:=fun acc C=>compPost (model X.prog X.w) X.A X.xe (some (assign (.Name x pos') X.env)) (fun _ s'=>SP X pins D .next s') acc C) hc S hg ht he I2 T st2 f2 hw fun l C s' H' m hn I' fC q=>?_
 obtain ⟨c0,c1,c2,c3,c4,c5⟩:=fC
 show wpAny _ _ (assign (.Name x pos') X.env (.ref l)) _ _ _
 refine wpAny_assign_Name (store_ok2 I' hN hx (.inl hl) (v:=.ref l) rfl (fun s'' I'' ⟨a,sb,ha⟩=>?_) (.inr hl))
 have haC:C≠a:=by
  rcases ha with ha | ha
  ·rw [ha];exact c1
  ·exact fun z=>c4 x a ha z.symm
 refine ⟨m,hn.sameBut sb haC,fun h' hs'=>?_⟩
 exact ⟨_,H',I''.turned (t':=s''.toks) (fun b o hb e=>(hs'.2 b hb).trans e) c0 c1 c3 c4 c5,q⟩
end
theorem compD_list {K:PySem.W.Frag} {a l:Addr} {xs:List V} {ix:List (Option Nat)} {g:TG} {tk tv:TE} {σ:St} {H0:Hp} {Qe:Hp→Prop} (Pv:Nat→List (Key × V)→Hp→Prop) (h0:Pv 0 [] H0) (hl:∀ i ys H,i≤xs.length→Pv i ys H→SqL K H a xs)
  (hz:∀ i ys H,i < xs.length→Pv i ys H→ys.length < sizeLine)
  (hs:∀ i x ys H,xs[i]?=some x→Pv i ys H→H l=some (.dK ys)→g x (compSt ix σ) H fun σ2 H2=>tk σ2 H2 fun y H3=>tv σ2 H3 fun v H4=>∃ k,y=kV k∧H4 l=some (.dK ys)∧Pv (i+1) (putK ys k v) (upd H4 l (.dK (putK ys k v))))
  (hd:∀ ys H,Pv xs.length ys H→H l=some (.dK ys)→Qe H):compWD ix (Itl K a) g tk tv σ l H0 Qe:=by
 refine ⟨fun i m ys H=>m=xs.length - i∧i≤xs.length∧Pv i ys H,⟨_,rfl,Nat.zero_le _,h0⟩,fun i m ys H w hy=>?_⟩
 obtain ⟨rfl,hi,p⟩:=w
 have q:=hl i ys H hi p
 by_cases e:i=xs.length
 ·subst e
  exact .inl ⟨⟨xs,q,Nat.le_refl _⟩,hd ys H p hy⟩
 ·have hi':i < xs.length:=by omega
  refine .inr ⟨⟨xs,xs[i],q,by simp [hi']⟩,hz i ys H hi' p,fun zs H'=>Pv (i+1) zs H',fun zs H' z=>⟨xs.length - (i+1),by omega,rfl,by omega,z⟩,fun x H' y=>?_⟩
  obtain ⟨e',y⟩:=y
  subst e'
  exact hs i x ys _ (y xs q) p hy
end L2
namespace L2
open PySem PySem.Spec PyProof.Rows PySem.SeqAt
section
variable {X:Cx} (K:PySem.W.Frag)
end
end L2

set_option Elab.async false
set_option linter.all false
set_option maxRecDepth 100000
set_option maxHeartbeats 4000000
namespace Gu
open PySem L2
def secs (rows:List Row) (i:Nat):List (List Row):=(List.range i).map fun (j:Nat)=>shr (swM rows (j:Int))
theorem secs_snoc (rows:List Row) (i:Nat):secs rows (i+1)=secs rows i++[shr (swM rows (i:Int))]:=by
 unfold secs
 rw [List.range_succ,List.map_append]
 rfl
theorem secs_len (rows:List Row) (i:Nat):(secs rows i).length=i:=by
 unfold secs
 rw [List.length_map,List.length_range]
def fmD (gs:List (List Row)):List D:=gs.map fun g=>D.tup (rowsD g)
theorem fmD_snoc (gs:List (List Row)) (g:List Row):fmD (gs++[g])=fmD gs++[D.tup (rowsD g)]:=by
 unfold fmD
 rw [List.map_append]
 rfl
theorem fmD_len (gs:List (List Row)):(fmD gs).length=gs.length:=List.length_map _
theorem D.depL_le {k:Nat}:∀ {ds:List D},(∀ d∈ds,D.dep d≤k)→D.depL ds≤k
 | [],_=>by simp only [D.depL];omega
 | d::ds,h=>by
  have h1:=h d (by simp)
  have h2:=D.depL_le (ds:=ds) fun x hx=>h x (by simp [hx])
  simp only [D.depL]
  omega
theorem D.fewL_of:∀ {ds:List D},(∀ d∈ds,D.few d)→D.fewL ds
 | [],_=>by simp only [D.fewL]
 | d::ds,h=>by
  simp only [D.fewL]
  exact ⟨h d (by simp),D.fewL_of fun x hx=>h x (by simp [hx])⟩
theorem secs_small {n:Nat} {rows:List Row} (G:GoodM n rows) (hn:n≤60) (hl:rows.length≤60):D.dep (D.lst (fmD (secs rows rows.length))) < 5∧D.few (D.lst (fmD (secs rows rows.length))):=by
 have h:∀ d∈fmD (secs rows rows.length),D.dep d≤3∧D.few d:=fun d hd=>by
  obtain ⟨g,hg,rfl⟩:=List.mem_map.mp hd
  obtain ⟨j,hj,rfl⟩:=List.mem_map.mp hg
  have hj':=List.mem_range.mp hj
  obtain ⟨a,b⟩:=shr_small (swM_good G (s:=(j:Int)) (by omega) (by omega)) hn
  exact ⟨by omega,b⟩
 have h1:=D.depL_le fun d hd=>(h d hd).1
 refine ⟨by simp only [D.dep];omega,?_⟩
 simp only [D.few]
 exact ⟨by rw [fmD_len,secs_len];omega,D.fewL_of fun d hd=>(h d hd).2⟩
theorem tup_over {H:Hp} {l:Addr} {ys:List V} {o:HO} (e:H l=some (.lst ys)):∀ b xs,H b=some (.tup xs)→upd H l o b=some (.tup xs):=fun b xs h=>by
 rw [upd_ne (fun z=>by subst z;rw [e] at h;cases h)]
 exact h
end Gu

set_option Elab.async false
set_option linter.all false
set_option maxRecDepth 100000
set_option maxHeartbeats 4000000
namespace Gu
open PySem L2
/-! ### rows gone to,rows that come again,depths: their promises -/
def kvT (o:List Int):List (Key × V):=o.map fun r=>(Sum.inl r,V.bl true)
theorem kvT_len (o:List Int):(kvT o).length=o.length:=List.length_map _
theorem kvT_keys (o:List Int):(kvT o).map (fun e=>kV e.1)=o.map V.int:=by
 unfold kvT
 rw [List.map_map]
 rfl
theorem kvT_any (o:List Int) (g:Int):((kvT o).any fun kv=>decide (kv.1=Sum.inl g))=decide (g∈o):=by
 unfold kvT
 rw [List.any_map,Bool.eq_iff_iff]
 simp only [List.any_eq_true,Function.comp,decide_eq_true_eq]
 constructor
 ·rintro ⟨x,hx,e⟩
  rw [←Sum.inl.inj e];exact hx
 ·intro h
  exact ⟨g,h,rfl⟩
theorem kvT_put (o:List Int) (g:Int):putK (kvT o) (Sum.inl g) (V.bl true)=kvT (addN o g):=by
 unfold putK
 rw [kvT_any]
 by_cases h:g∈o
 ·rw [if_pos (decide_eq_true h),addN_mem h]
  unfold kvT
  rw [List.map_map]
  refine List.map_congr_left fun x _=>?_
  simp
 ·rw [if_neg (by simp [h]),addN_new h]
  unfold kvT
  rw [List.map_append]
  rfl
theorem kvT_val (o:List Int) (g:Int):(valV (kvT o) (Sum.inl g)).isSome=decide (g∈o):=by
 unfold valV
 rw [Option.isSome_map,←kvT_any,Bool.eq_iff_iff,List.find?_isSome,List.any_eq_true]
theorem uniq_take {l:List Int} {i:Nat} {x:Int} (h:l[i]?=some x) (o:List Int):addAll o (l.take (i+1))=addN (addAll o (l.take i)) x:=by
 rw [List.take_add_one,h]
 exact addAll_snoc _ _ _
def spGoneTo (K:PySem.W.Frag):Sp:=fun vs H Q _=>∃ (v:V) (a:Addr) (rows:List Row) (n:Nat) (rs:List Int),vs=[v,.ref a]∧Dr K H (D.tup (rowsD rows)) v∧H a=some (.lst (rs.map V.int))∧GoodM n rows∧rows.length≤60∧(∀ r∈rs,0≤r∧r < (rows.length:Int))∧∀ (b:Addr) (H':Hp),Same H H'→H b=none→H' b=some (.lst ((goneTo rows rs).map V.int))→Q (.ref b) H'
def spComesA (K:PySem.W.Frag):Sp:=fun vs H Q _=>∃ (v:V) (rows:List Row) (n:Nat) (r:Int),vs=[v,.int r]∧Dr K H (D.tup (rowsD rows)) v∧GoodM n rows∧2≤n∧rows.length≤60∧0≤r∧r < (rows.length:Int)∧∀ b:Bool,(b=true↔Lp n rows r)→∀ H',Same H H'→Q (.bl b) H'
theorem goneTo_one (M:List Row) (r:Int):goneTo M [r]=uniq (row M r).2:=by
 unfold goneTo
 simp
theorem goneTo_rg {n:Nat} {M:List Row} (G:GoodM n M) {rs:List Int} (h:∀ r∈rs,0≤r∧r < (M.length:Int)):∀ x∈goneTo M rs,0≤x∧x < (M.length:Int):=fun x hx=>by
 obtain ⟨r,hr,hg⟩:=goneTo_mem.mp hx
 obtain ⟨a,b⟩:=h r hr
 exact G.go _ (row_mem a b) x hg
end Gu

set_option Elab.async false
set_option linter.all false
set_option maxRecDepth 100000
set_option maxHeartbeats 4000000
namespace L2
open PySem PySem.Spec PyProof.Rows
/-! ### the table of a set: its places rise,the walk goes through all of them -/
def Ris (xs:Array Nat):Prop:=xs.toList.Pairwise (· < ·)
theorem Ris.lt {xs:Array Nat} (h:Ris xs) {i k v u:Nat} (hik:i < k) (hi:xs[i]?=some v) (hk:xs[k]?=some u):v < u:=by
 obtain ⟨hk',e'⟩:=Array.getElem?_eq_some_iff.mp hk
 obtain ⟨hi',e⟩:=Array.getElem?_eq_some_iff.mp hi
 have:=List.pairwise_iff_getElem.mp h i k (by simpa using hi') (by simpa using hk') hik
 simpa [e,e'] using this
def Cut (xs:Array Nat) (j p:Nat):Prop:=p≤xs.size∧(∀ i,i < p→∀ v,xs[i]?=some v→v < j)∧∀ i,p≤i→∀ v,xs[i]?=some v→j≤v
theorem below_go {xs:Array Nat} {j:Nat} (hr:Ris xs):∀ (fuel lo hi:Nat),hi - lo≤fuel→lo≤hi→hi≤xs.size →
  (∀ i,i < lo→∀ v,xs[i]?=some v→v < j)→(∀ i,hi≤i→∀ v,xs[i]?=some v→j≤v)→Cut xs j (SetTable.below.go xs j fuel lo hi)
 | 0,lo,hi,hf,hl,hh,h1,h2=>by
  have e:lo=hi:=by omega
  subst e
  exact ⟨hh,h1,h2⟩
 | fuel+1,lo,hi,hf,hl,hh,h1,h2=>by
  unfold SetTable.below.go
  by_cases hlt:lo < hi
  ·rw [if_pos hlt]
   have hm:(lo+hi) / 2 < xs.size:=by omega
   have e:xs[(lo+hi) / 2]?=some xs[(lo+hi) / 2]:=Array.getElem?_eq_getElem hm
   have e2:xs.getD ((lo+hi) / 2) j=xs[(lo+hi) / 2]:=by simp [Array.getD,hm]
   simp only [e2]
   by_cases c:xs[(lo+hi) / 2] < j
   ·rw [if_pos c]
    refine below_go hr fuel _ _ (by omega) (by omega) hh (fun i hi' v hv=>?_) h2
    rcases Nat.lt_or_ge i ((lo+hi) / 2) with q | q
    ·exact Nat.lt_trans (hr.lt q hv e) c
    ·have:i=(lo+hi) / 2:=by omega
     subst this
     rw [e] at hv
     cases hv
     exact c
   ·rw [if_neg c]
    refine below_go hr fuel _ _ (by omega) (by omega) (by omega) h1 (fun i hi' v hv=>?_)
    rcases Nat.lt_or_ge ((lo+hi) / 2) i with q | q
    ·have:=hr.lt q e hv;omega
    ·have:i=(lo+hi) / 2:=by omega
     subst this
     rw [e] at hv
     cases hv
     omega
  ·rw [if_neg hlt]
   have e:lo=hi:=by omega
   subst e
   exact ⟨hh,h1,h2⟩
theorem below_cut {xs:Array Nat} (hr:Ris xs) (j:Nat):Cut xs j (SetTable.below xs j) :=
 below_go hr _ _ _ (by omega) (by omega) (Nat.le_refl _) (fun i h=>by omega) (fun i h v hv=>by rw [Array.getElem?_eq_none h] at hv;cases hv)
theorem ris_insert {xs:Array Nat} (hr:Ris xs) {j:Nat} (hn:xs[SetTable.below xs j]?≠some j):Ris (SetTable.insertAt xs (SetTable.below xs j) j):=by
 obtain ⟨h0,h1,h2⟩:=below_cut hr j
 generalize SetTable.below xs j=p at *
 unfold Ris
 rw [SetTable.toList_insertAt]
 have hr':xs.toList.Pairwise (· < ·):=hr
 have gt:∀ v∈xs.toList.drop p,j < v:=fun v hv=>by
  obtain ⟨i,hi,e⟩:=List.mem_iff_getElem.mp hv
  rw [List.getElem_drop] at e
  have hi':p+i < xs.size:=by simp at hi;omega
  have e1:xs[p+i]?=some v:=by rw [Array.getElem?_eq_getElem hi',←e];simp
  have h3:=h2 (p+i) (by omega) v e1
  rcases Nat.lt_or_ge j v with q | q
  ·exact q
  ·have hv':v=j:=by omega
   subst hv'
   rcases Nat.eq_zero_or_pos i with z | z
   ·subst z;exact absurd e1 hn
   ·have e2:=Array.getElem?_eq_getElem (xs:=xs) (i:=p) (by omega)
    have:=hr.lt (by omega:p < p+i) e2 e1
    have:=h2 p (Nat.le_refl _) _ e2
    omega
 have lt:∀ v∈xs.toList.take p,v < j:=fun v hv=>by
  obtain ⟨i,hi,e⟩:=List.mem_iff_getElem.mp hv
  rw [List.getElem_take] at e
  have hi':i < p∧i < xs.size:=by simp at hi;omega
  exact h1 i hi'.1 v (by rw [Array.getElem?_eq_getElem hi'.2,←e];simp)
 refine List.pairwise_append.mpr ⟨hr'.sublist (List.take_sublist _ _),List.pairwise_cons.mpr ⟨gt,hr'.sublist (List.drop_sublist _ _)⟩,fun a ha b hb=>?_⟩
 have:=lt a ha
 rcases List.mem_cons.mp hb with rfl | hb
 ·exact this
 ·have:=gt b hb;omega
def NotLive (t:SetTable) (d:Nat):Prop:=t.place[SetTable.below t.place d]?≠some d
theorem slot_notLive {t:SetTable} {j:Nat} (h:t.slot j=.empty∨t.slot j=.dummy):NotLive t j:=by
 intro e
 have:t.slot j=.live (SetTable.below t.place j):=by unfold SetTable.slot;simp [e]
 rw [this] at h
 rcases h with h | h<;>cases h
theorem relaid_ris {t t':SetTable} {hs:Array Int} {wanted:Nat} {o:Array Nat} (e:t.relaid hs wanted=some (t',o)):Ris t'.place∧t'.led=t.led:=by
 unfold SetTable.relaid SetTable.laid at e
 generalize SetTable.sizeAbove wanted - 1=m at e
 cases hl:SetTable.layClean m hs with
 | none=>rw [hl] at e;cases e
 | some owner =>
  rw [hl] at e
  simp only [Option.bind_eq_bind,Option.bind_some,Option.pure_def,Option.some.injEq,Prod.mk.injEq] at e
  obtain ⟨rfl,_⟩:=e
  refine ⟨?_,rfl⟩
  unfold Ris
  dsimp only
  rw [List.pairwise_map]
  refine List.Pairwise.filterMap (R:=(· < ·)) _ (fun a b hab p hp q hq=>?_) List.pairwise_lt_range
  cases ha:owner.getD a none with
  | none=>rw [ha] at hp;cases hp
  | some u =>
   cases hb:owner.getD b none with
   | none=>rw [hb] at hq;cases hq
   | some v =>
    rw [ha] at hp
    rw [hb] at hq
    cases hp
    cases hq
    exact hab
section
variable {M:Model} {A:Around} {E:Value→Shared→Prop}
end
end L2

set_option Elab.async false
set_option linter.all false
set_option maxRecDepth 100000
set_option maxHeartbeats 4000000
namespace L2
open PySem PySem.Spec PyProof.Rows
/-! ### a set of ints by the list of its members -/
def led0 (w:World):Bool:=!w.params.followText "set-order"
structure Sit (prog:Program) (w:World) (es:Array (Int × Value)) (t:SetTable) (ks:List Int):Prop where
 elems:ElemsOf (intKind prog w) es.toList
 keysI:IntsAre (es.toList.map (·.2)) ks
 fits:t.fits es.size=true
 led:t.led=led0 w
 ris:Ris t.place
def SetI (prog:Program) (w:World) (h:Heap) (a:Addr) (ks:List Int):Prop :=
 ∃ o es ep t,h.get? a=some o∧o.ExactSet∧o.data=.set es ep t∧Sit prog w es t ks
section
variable {prog:Program} {w:World} {A:Around} {E:Value→Shared→Prop} {s:Shared}
end
section
variable {prog:Program} {w:World} {A:Around} {R:Result→Shared→Prop} {I:Addr} {fp wr:List Addr} {G:Array GenState→Array GenState→Prop} {n:Nat} {P:Nat→Value→Prop} {St:Nat→Shared→Prop}
end
section
variable {prog:Program} {w:World} {A:Around} {E:Value→Shared→Prop} {s:Shared}
theorem set_new_1 (a:Value) {Q₁:Value→Shared→Prop}
  (h:Q₁ (.ref s.heap.objs.size) { s with heap:=s.heap.push { cls:=.type "set",dict:=none,data:=.set #[] 0 (.fresh 0 0 (led0 w)) } }) :
  codeAny (model prog w) A (.call (.builtin "set.__new__") ⟨[.type "set",a],[]⟩) (wants Q₁ E) s:=by
 refine codeAny_of_tree ?_
 show wpAny _ A.in1 (do checkBuiltinCall "set.__new__" ⟨[.type "set",a],[]⟩;again (.builtin "set.__new__" ⟨[.type "set",a],[]⟩)) _ _ s
 refine wpAny_bind (wpAny_of_eq (F.newCall_set_1 a) (wpAny_pure ⟨plainId_quiet F.plain_set_new _,codeAny_builtin F.entry_set_new ?_⟩))
 rw [Around.under_plainId F.plain_set_new _]
 unfold Builtin.«set.__new__» Builtin.Frozenset.newClass
 have hsub:=sub_set_self
 obtain ⟨hp,g,d,tk,os⟩:=s
 dsimp only
 wp_walk
 refine wpAny_askSetting (wpAny_pure ?_)
 dsimp only
 simp only [newObj]
 refine wpAny_bind (wpAny_alloc (wpAny_pure ?_))
 exact wpAny_pure h
end
end L2

set_option Elab.async false
set_option linter.all false
set_option maxRecDepth 100000
set_option maxHeartbeats 4000000
namespace L2
open PySem PySem.Spec PyProof.Rows
/-! ### a set is walked through -/
namespace SF
end SF
section
variable {prog:Program} {w:World} {A:Around} {E:Value→Shared→Prop} {s:Shared} {it a:Addr} {es:Array (Int × Value)} {ep:Nat} {t:SetTable} {i:Nat}
end
end L2

set_option Elab.async false
set_option linter.all false
set_option maxRecDepth 100000
set_option maxHeartbeats 4000000
namespace L2
open PySem PySem.Spec PyProof.Rows
section
variable {prog:Program} {w:World} {A:Around} {E:Value→Shared→Prop} {s:Shared} {it a:Addr} {es:Array (Int × Value)} {ep:Nat} {t:SetTable} {i:Nat}
end
/-! the iteration of a set,by its roads -/
section
variable {prog:Program} {w:World} {A:Around} {es:Array (Int × Value)} {ep:Nat} {t:SetTable}
end
section
variable {prog:Program} {w:World} {A:Around} {E:Value→Shared→Prop} {s:Shared} {it a:Addr} {es:Array (Int × Value)} {ep:Nat} {t:SetTable} {i:Nat}
end
end L2

set_option Elab.async false
set_option linter.all false
set_option maxRecDepth 100000
set_option maxHeartbeats 4000000
namespace L2
open PySem PySem.Spec PyProof.Rows
section
variable {prog:Program} {w:World} {A:Around} {E:Value→Shared→Prop} {s:Shared} {a:Nat} {es:Array (Int × Value)} {ep:Nat} {t:SetTable}
end
end L2

set_option Elab.async false
set_option linter.all false
set_option maxRecDepth 100000
set_option maxHeartbeats 4000000
namespace L2
open PySem PySem.Spec PyProof.Rows PySem.SeqAt
open PySem.AutoSeq1 (wpAny_loadPart')
/-! ### set(list of ints),sorted(set) -/
def SetO (P:Program) (w:World) (a:Addr) (ks:List Int):HO:=.ext fun h=>SetI P w h a ks
section
variable {X:Cx} (K:PySem.W.Frag)
end
end L2

set_option Elab.async false
set_option linter.all false
set_option maxRecDepth 100000
set_option maxHeartbeats 4000000
namespace Gu
open PySem L2
/-! ### machines that go round;the rows behind all words of a length -/
/-! promises -/
end Gu
namespace L2
open PySem PySem.Spec PyProof.Rows
end L2
namespace L2
open PySem PySem.Spec PyProof.Rows
theorem inV_int (x:Int) (qs:List Int):inV (V.int x) (qs.map V.int)=decide (x∈qs):=by
 unfold inV
 induction qs with
 | nil=>rfl
 | cons q qs ih =>
  rw [List.map_cons,List.any_cons,ih]
  have:eqV (V.int q) (V.int x)=decide (q=x):=rfl
  rw [this]
  by_cases h:q=x
  ·simp [h]
  ·have h':¬ x=q:=fun e=>h e.symm
   simp [h,h']
theorem flat_ints (qs:List Int):(qs.map V.int).all flatV=true:=by
 rw [List.all_map,List.all_eq_true]
 intro x _
 rfl
end L2
namespace Gu
open PySem L2
end Gu

set_option Elab.async false
set_option linter.all false
set_option maxRecDepth 100000
set_option maxHeartbeats 4000000
namespace L2
open PySem PySem.Spec PyProof.Rows
/-! ### the table of a set of tuples: a free place is found -/
def leapN (m:Nat):Nat→Nat × Nat→Nat × Nat
 | 0,q=>q
 | r+1,q=>leapN m r (SetTable.leap m q.1 q.2)
theorem leapN_add (m a b:Nat) (q:Nat × Nat):leapN m (a+b) q=leapN m b (leapN m a q):=by
 induction a generalizing q with
 | zero=>rw [Nat.zero_add];rfl
 | succ a ih=>rw [Nat.succ_add];exact ih _
theorem leapN_per (m:Nat):∀ (r:Nat) (q:Nat × Nat),(leapN m r q).2=q.2 / 32 ^ r
 | 0,q=>by simp [leapN]
 | r+1,q=>by
  show (leapN m r (SetTable.leap m q.1 q.2)).2=_
  rw [leapN_per m r,Nat.pow_succ,Nat.mul_comm,←Nat.div_div_eq_div_mul]
  rfl
theorem leap_le (m i p:Nat):(SetTable.leap m i p).1≤m:=Nat.le_of_lt_succ (Nat.mod_lt _ (Nat.succ_pos m))
theorem leapN_le (m:Nat):∀ (r:Nat) (q:Nat × Nat),q.1≤m→(leapN m r q).1≤m
 | 0,q,h=>h
 | r+1,q,_=>leapN_le m r _ (leap_le m _ _)
def mGood (m:Nat):Prop:=m=7∨m=31∨m=127
def covers (m:Nat):Bool:=(List.range (m+1)).all fun e=>(List.range (m+1)).any fun r=>(leapN m r (0,0)).1 == e
theorem covers_good {m:Nat} (h:mGood m):covers m=true∧leapN m (m+1) (0,0)=(0,0):=by
 rcases h with rfl | rfl | rfl
 ·exact ⟨by decide +kernel,by decide +kernel⟩
 ·exact ⟨by decide +kernel,by decide +kernel⟩
 ·exact ⟨by decide +kernel,by decide +kernel⟩
theorem cover0 {m:Nat} (h:mGood m) {i e:Nat} (hi:i≤m) (he:e≤m):∃ r,r≤m∧(leapN m r (i,0)).1=e:=by
 obtain ⟨hc,hz⟩:=covers_good h
 have reach:∀ x,x≤m→∃ r,r≤m∧(leapN m r (0,0)).1=x:=fun x hx=>by
  have:=(List.all_eq_true.mp hc) x (List.mem_range.mpr (by omega))
  obtain ⟨r,hr,e⟩:=List.any_eq_true.mp this
  exact ⟨r,by have:=List.mem_range.mp hr;omega,by simpa using e⟩
 have zp:∀ r,leapN m r (0,0)=((leapN m r (0,0)).1,0):=fun r=>by
  have:=leapN_per m r (0,0)
  simp at this
  exact Prod.ext rfl this
 obtain ⟨a,ha,ea⟩:=reach i hi
 obtain ⟨b,hb,eb⟩:=reach e he
 have ei:leapN m a (0,0)=(i,0):=by rw [zp,ea]
 rcases Nat.lt_or_ge b a with q | q
 ·refine ⟨m+1 - a+b,by omega,?_⟩
  rw [←ei,←leapN_add,show a+(m+1 - a+b)=(m+1)+b by omega,leapN_add,hz,eb]
 ·refine ⟨b - a,by omega,?_⟩
  rw [←ei,←leapN_add,show a+(b - a)=b by omega,eb]
theorem cover {m:Nat} (h:mGood m) {i p e:Nat} (hi:i≤m) (hp:p < 2 ^ 64) (he:e≤m):∃ r,r≤m+13∧(leapN m r (i,p)).1=e:=by
 have h13:leapN m 13 (i,p)=((leapN m 13 (i,p)).1,0):=Prod.ext rfl (by
  rw [leapN_per]
  exact Nat.div_eq_of_lt (Nat.lt_of_lt_of_le hp (by decide)))
 obtain ⟨r,hr,e'⟩:=cover0 h (leapN_le m 13 (i,p) hi) he
 refine ⟨13+r,by omega,?_⟩
 rw [leapN_add,h13]
 exact e'
theorem bits_lt (h:Int):SetTable.bits h < 2 ^ 64:=by
 unfold SetTable.bits
 have h1:=Int.emod_nonneg h (show (2 ^ 64:Int)≠0 by decide)
 have h2:=Int.emod_lt_of_pos h (show (0:Int) < 2 ^ 64 by decide)
 omega
structure TabOk (t:SetTable) (n:Nat):Prop where
 good:mGood t.mask
 ris:Ris t.place
 size:t.place.size=n
 le:∀ v∈t.place.toList,v≤t.mask
 dum:t.dummies=#[]
 room:n*5 < t.mask*3
theorem TabOk.fits {t:SetTable} {n:Nat} (h:TabOk t n):t.fits n=true:=by
 have hd:=h.dum
 have hr:=h.room
 simp [SetTable.fits,SetTable.fill,h.size,hd]
 omega
theorem TabOk.hole {t:SetTable} {n:Nat} (h:TabOk t n):∃ e,e≤t.mask∧e∉t.place.toList:=by
 refine Classical.byContradiction fun hno=>?_
 have all:∀ e,e≤t.mask→e∈t.place.toList:=fun e he=>Classical.byContradiction fun z=>hno ⟨e,he,z⟩
 have key:∀ k,k≤t.mask→t.place[k]?=some k:=by
  intro k
  induction k using Nat.strongRecOn with
  | ind k ih =>
   intro hk
   obtain ⟨m,hm,em⟩:=List.mem_iff_getElem.mp (all k hk)
   have em':t.place[m]?=some k:=by
    rw [←em,Array.getElem?_eq_getElem (by simpa using hm)];simp
   rcases Nat.lt_trichotomy m k with q | q | q
   ·have:=ih m q (by omega)
    rw [em'] at this
    simp at this
    omega
   ·rw [←q] at em';rw [←q];exact em'
   ·have hmm:m < t.place.size:=by simpa using hm
    have hkm:k < t.place.size:=by omega
    have ek:=Array.getElem?_eq_getElem hkm
    have h1:=h.ris.lt q ek em'
    rcases Nat.eq_zero_or_pos k with z | z
    ·omega
    ·have h2:=h.ris.lt (by omega:k - 1 < k) (ih (k - 1) (by omega) (by omega)) ek
     omega
 have:=key t.mask (Nat.le_refl _)
 have hs:=(Array.getElem?_eq_some_iff.mp this).1
 have:=h.room
 have:=h.size
 omega
theorem slot_empty {t:SetTable} (hd:t.dummies=#[]) {e:Nat} (he:e∉t.place.toList):t.slot e=.empty:=by
 unfold SetTable.slot
 have h1:t.place[SetTable.below t.place e]?≠some e:=fun z=>he (by
  obtain ⟨hi,ei⟩:=Array.getElem?_eq_some_iff.mp z
  rw [←ei]
  simp)
 have h2:SetTable.has t.dummies e=false:=by rw [hd];simp [SetTable.has]
 simp [h1,h2]
theorem slot_not_dummy {t:SetTable} (hd:t.dummies=#[]) (e:Nat):t.slot e≠.dummy:=by
 unfold SetTable.slot
 have h2:SetTable.has t.dummies e=false:=by rw [hd];simp [SetTable.has]
 dsimp only
 split
 ·intro z;cases z
 ·rw [h2];simp
def advN (t:SetTable):Nat→SetTable.Probe→SetTable.Probe
 | 0,p=>p
 | k+1,p=>advN t k (t.advance p)
theorem advN_add (t:SetTable) (a b:Nat) (p:SetTable.Probe):advN t (a+b) p=advN t b (advN t a p):=by
 induction a generalizing p with
 | zero=>rw [Nat.zero_add];rfl
 | succ a ih=>rw [Nat.succ_add];exact ih _
def base (m:Nat) (q:Nat × Nat) (d:Option Nat):SetTable.Probe:={ j:=q.1,more:=SetTable.runEnd m q.1 - q.1,i:=q.1,perturb:=q.2,dummy:=d }
theorem runEnd_more (m i:Nat):SetTable.runEnd m i - i≤9:=by unfold SetTable.runEnd;split<;>omega
theorem adv_run (t:SetTable):∀ (k:Nat) (p:SetTable.Probe),k≤p.more→advN t k p={ p with j:=p.j+k,more:=p.more - k }
 | 0,p,_=>rfl
 | k+1,p,h=>by
  show advN t k (t.advance p)=_
  have e:t.advance p={ p with j:=p.j+1,more:=p.more - 1 }:=by unfold SetTable.advance;rw [if_pos (by omega)]
  rw [e,adv_run t k _ (show k≤p.more - 1 by omega)]
  have h1:p.j+1+k=p.j+(k+1):=by omega
  have h2:p.more - 1 - k=p.more - (k+1):=by omega
  simp only [h1,h2]
theorem adv_base (t:SetTable) (q:Nat × Nat) (d:Option Nat):∃ s,s≤10∧advN t s (base t.mask q d)=base t.mask (SetTable.leap t.mask q.1 q.2) d:=by
 have hm:=runEnd_more t.mask q.1
 refine ⟨(SetTable.runEnd t.mask q.1 - q.1)+1,by omega,?_⟩
 rw [advN_add,adv_run t _ _ (show SetTable.runEnd t.mask q.1 - q.1≤(base t.mask q d).more from Nat.le_refl _)]
 show t.advance _=_
 unfold SetTable.advance
 rw [if_neg (by simp [base])]
 rfl
theorem adv_leaps (t:SetTable) (d:Option Nat):∀ (r:Nat) (q:Nat × Nat),∃ s,s≤10*r∧advN t s (base t.mask q d)=base t.mask (leapN t.mask r q) d
 | 0,q=>⟨0,by omega,rfl⟩
 | r+1,q=>by
  obtain ⟨s,hs,e⟩:=adv_base t q d
  obtain ⟨s',hs',e'⟩:=adv_leaps t d r (SetTable.leap t.mask q.1 q.2)
  refine ⟨s+s',by omega,?_⟩
  rw [advN_add,e,e']
  rfl
theorem found_free {t:SetTable} {n:Nat} (h:TabOk t n) (hs:Int):∃ k,k≤10*(t.mask+13)∧t.slot (advN t k (t.probeStart hs)).j=.empty:=by
 obtain ⟨e,he,hn⟩:=h.hole
 have hi:SetTable.bits hs % (t.mask+1)≤t.mask:=Nat.le_of_lt_succ (Nat.mod_lt _ (Nat.succ_pos _))
 obtain ⟨r,hr,er⟩:=cover h.good hi (bits_lt hs) he
 obtain ⟨s,h1,h2⟩:=adv_leaps t none r (SetTable.bits hs % (t.mask+1),SetTable.bits hs)
 refine ⟨s,by omega,?_⟩
 have e1:t.probeStart hs=base t.mask (SetTable.bits hs % (t.mask+1),SetTable.bits hs) none:=rfl
 rw [e1,h2]
 show t.slot (leapN t.mask r _).1=_
 rw [er]
 exact slot_empty h.dum hn
def Within (t:SetTable) (p:SetTable.Probe):Prop:=p.j+p.more≤t.mask∧p.dummy=none
theorem within_base {t:SetTable} {q:Nat × Nat} (h:q.1≤t.mask):Within t (base t.mask q none):=by
 refine ⟨?_,rfl⟩
 show q.1+(SetTable.runEnd t.mask q.1 - q.1)≤t.mask
 unfold SetTable.runEnd
 split<;>omega
theorem within_adv {t:SetTable} {p:SetTable.Probe} (h:Within t p):Within t (t.advance p):=by
 unfold SetTable.advance
 split
 ·exact ⟨by have:=h.1;show p.j+1+(p.more - 1)≤t.mask;omega,h.2⟩
 ·have:=within_base (t:=t) (q:=SetTable.leap t.mask p.i p.perturb) (leap_le _ _ _)
  exact ⟨this.1,h.2⟩
theorem go_spec {t:SetTable} (hd:t.dummies=#[]) {f:Nat→Int} {h:Int}:∀ (fuel K:Nat) (p:SetTable.Probe),K < fuel→t.slot (advN t K p).j=.empty→Within t p →
  (∃ j,SetTable.probe.go t f h fuel p=some (.empty j none)∧t.slot j=.empty∧j≤t.mask) ∨
  ∃ j i q k,SetTable.probe.go t f h fuel p=some (.candidate j i q)∧t.slot j=.live i∧f i=h∧Within t q∧k < K∧t.slot (advN t k q).j=.empty
 | 0,K,p,hk,_,_=>by omega
 | fuel+1,K,p,hk,he,hw=>by
  unfold SetTable.probe.go
  cases hs:t.slot p.j with
  | empty=>exact .inl ⟨p.j,by rw [hw.2],hs,by have:=hw.1;omega⟩
  | dummy=>exact absurd hs (slot_not_dummy hd _)
  | live i =>
   dsimp only
   cases K with
   | zero=>rw [show advN t 0 p=p from rfl,hs] at he;cases he
   | succ K =>
    by_cases e:f i=h
    ·rw [if_pos (by simp [e])]
     exact .inr ⟨p.j,i,t.advance p,K,rfl,hs,e,within_adv hw,by omega,he⟩
    ·rw [if_neg (by simp [e])]
     rcases go_spec hd fuel K (t.advance p) (by omega) he (within_adv hw) with ⟨j,a,b,c⟩ | ⟨j,i',q,k,a,b,c,d,e',g⟩
     ·exact .inl ⟨j,a,b,c⟩
     ·exact .inr ⟨j,i',q,k,a,b,c,d,by omega,g⟩
theorem put_ok {t:SetTable} {n j:Nat} (h:TabOk t n) (hs:t.slot j=.empty) (hj:j≤t.mask):(t.put j).1.place.size=n+1∧Ris (t.put j).1.place∧(∀ v∈(t.put j).1.place.toList,v≤t.mask)∧(t.put j).1.dummies=#[]∧(t.put j).1.mask=t.mask∧(t.put j).2=SetTable.below t.place j:=by
 have hnl:NotLive t j:=slot_notLive (.inl hs)
 have hd:SetTable.has t.dummies j=false:=by rw [h.dum];simp [SetTable.has]
 refine ⟨?_,ris_insert h.ris hnl,fun v hv=>?_,?_,rfl,rfl⟩
 ·show (SetTable.insertAt t.place (SetTable.below t.place j) j).size=n+1
  rw [←Array.length_toList,(SetTable.insertAt_perm _ _ _).length_eq]
  simp [h.size]
 ·have:=(SetTable.insertAt_perm t.place (SetTable.below t.place j) j).mem_iff.mp hv
  rw [Array.toList_push,List.mem_append,List.mem_singleton] at this
  rcases this with z | rfl
  ·exact h.le v z
  ·exact hj
 ·show (if SetTable.has t.dummies j then SetTable.eraseAt t.dummies (SetTable.below t.dummies j) else t.dummies)=#[]
  rw [hd]
  exact h.dum
end L2

set_option Elab.async false
set_option linter.all false
set_option maxRecDepth 100000
set_option maxHeartbeats 4000000
namespace L2
open PySem PySem.Spec PyProof.Rows
theorem countP_upd {p p':Nat→Bool} {j0:Nat} (h:∀ j,j≠j0→p' j=p j) (h0:p j0=false) (h1:p' j0=true):∀ N,(List.range N).countP p'=(List.range N).countP p+(if j0 < N then 1 else 0)
 | 0=>by simp
 | N+1=>by
  rw [List.range_succ,List.countP_append,List.countP_append,countP_upd h h0 h1 N]
  by_cases e:N=j0
  ·subst e
   simp [h0,h1]
  ·have hh:p' N=p N:=h N e
   by_cases q:j0 < N
   ·rw [if_pos q,if_pos (by omega)]
    simp [hh,List.countP_cons]
    omega
   ·rw [if_neg q,if_neg (by omega)]
    simp [hh,List.countP_cons]
def cntO (m:Nat) (owner:Array (Option Nat)):Nat:=(List.range (m+1)).countP fun j=>(owner.getD j none).isSome
structure OwnOk (m k:Nat) (owner:Array (Option Nat)):Prop where
 size:owner.size=m+1
 cnt:cntO m owner=k
 lt:∀ j v,owner.getD j none=some v→v < k
theorem getD_swap {owner:Array (Option Nat)} {j:Nat} (hj:j < owner.size) (d e:Option Nat):owner.getD j d=owner.getD j e:=by simp [Array.getD,hj]
theorem OwnOk.hole {m k:Nat} {owner:Array (Option Nat)} (h:OwnOk m k owner) (hk:k≤m):∃ e,e≤m∧owner.getD e (some 0)=none:=by
 refine Classical.byContradiction fun hno=>?_
 have all:∀ e∈List.range (m+1),(owner.getD e none).isSome=true:=fun e he=>by
  have he':=List.mem_range.mp he
  rw [getD_swap (d:=none) (e:=some 0) (by rw [h.size];exact he')]
  cases hq:owner.getD e (some 0) with
  | none=>exact absurd ⟨e,by omega,hq⟩ hno
  | some v=>rfl
 have:=List.countP_eq_length.mpr all
 have hc:(List.range (m+1)).countP (fun j=>(owner.getD j none).isSome)=k:=h.cnt
 rw [hc,List.length_range] at this
 omega
theorem free_some {m:Nat} {owner:Array (Option Nat)}:∀ (r fuel i p e:Nat),r < fuel→(leapN m r (i,p)).1=e→owner.getD e (some 0)=none→∃ j,SetTable.layClean.free m owner fuel i p=some j∧owner.getD j (some 0)=none
 | r,0,i,p,e,h,_,_=>by omega
 | r,fuel+1,i,p,e,h,he,hn=>by
  unfold SetTable.layClean.free
  cases hf:(List.range (SetTable.runEnd m i+1 - i)).find? fun k=>(owner.getD (i+k) (some 0)).isNone with
  | some k =>
   have:=List.find?_some hf
   exact ⟨i+k,rfl,by simpa using this⟩
  | none =>
   dsimp only
   cases r with
   | zero =>
    have hi:i=e:=he
    have:=List.find?_eq_none.mp hf 0 (List.mem_range.mpr (by unfold SetTable.runEnd;split<;>omega))
    rw [Nat.add_zero,hi,hn] at this
    simp at this
   | succ r=>exact free_some r fuel _ _ e (by omega) he hn
theorem OwnOk.set {m k j:Nat} {owner:Array (Option Nat)} (h:OwnOk m k owner) (hj:owner.getD j (some 0)=none):OwnOk m (k+1) (owner.setIfInBounds j (some k)):=by
 have hlt:j < owner.size:=by
  rcases Nat.lt_or_ge j owner.size with q | q
  ·exact q
  ·simp [Array.getD,Nat.not_lt.mpr q] at hj
 have other:∀ i,i≠j→(owner.setIfInBounds j (some k)).getD i none=owner.getD i none:=fun i hi=>by
  simp only [Array.getD_eq_getD_getElem?,Array.getElem?_setIfInBounds]
  rw [if_neg (fun z=>hi z.symm)]
 have self:(owner.setIfInBounds j (some k)).getD j none=some k:=by
  simp only [Array.getD_eq_getD_getElem?,Array.getElem?_setIfInBounds]
  simp [hlt]
 refine ⟨by simp [h.size],?_,fun i v hv=>?_⟩
 ·unfold cntO
  rw [countP_upd (p:=fun j=>(owner.getD j none).isSome) (j0:=j) (fun i hi=>by simp only [other i hi]) (by rw [getD_swap (e:=some 0) hlt,hj];rfl) (by simp only [self];rfl)]
  rw [if_pos (by rw [←h.size];exact hlt)]
  rw [show (List.range (m+1)).countP (fun j=>(owner.getD j none).isSome)=k from h.cnt]
 ·by_cases e:i=j
  ·subst e
   rw [self] at hv
   cases hv
   omega
  ·rw [other i e] at hv
   have:=h.lt i v hv
   omega
theorem lay_list {m:Nat} (hm:mGood m):∀ (hs:List Int) (k:Nat) (owner:Array (Option Nat)),OwnOk m k owner→k+hs.length≤m →
  ∃ owner',(hs.foldl (fun (acc:Option (Array (Option Nat) × Nat)) h=>do
   let (owner,k) ←acc
   let j ←SetTable.layClean.free m owner (SetTable.turns m) (SetTable.bits h % (m+1)) (SetTable.bits h)
   pure (owner.setIfInBounds j (some k),k+1)) (some (owner,k)))=some (owner',k+hs.length)∧OwnOk m (k+hs.length) owner'
 | [],k,owner,h,_=>⟨owner,rfl,h⟩
 | x::hs,k,owner,h,hk=>by
  rw [List.length_cons] at hk
  obtain ⟨e,he,hn⟩:=h.hole (by omega)
  have hi:SetTable.bits x % (m+1)≤m:=Nat.le_of_lt_succ (Nat.mod_lt _ (Nat.succ_pos _))
  obtain ⟨r,hr,er⟩:=cover hm hi (bits_lt x) he
  obtain ⟨j,hf,hj⟩:=free_some (m:=m) r (SetTable.turns m) _ _ e (by unfold SetTable.turns;omega) er hn
  obtain ⟨o',e1,e2⟩:=lay_list hm hs (k+1) (owner.setIfInBounds j (some k)) (h.set hj) (by omega)
  refine ⟨o',?_,by rw [List.length_cons];rw [show k+(hs.length+1)=k+1+hs.length by omega];exact e2⟩
  rw [List.foldl_cons,List.length_cons,show k+(hs.length+1)=k+1+hs.length by omega,←e1]
  simp only [Option.bind_eq_bind,Option.bind_some,hf,Option.pure_def]
theorem own_new (m:Nat):OwnOk m 0 (Array.replicate (m+1) none):=by
 have g:∀ j,(Array.replicate (m+1) (none:Option Nat)).getD j none=none:=fun j=>by
  simp only [Array.getD_eq_getD_getElem?,Array.getElem?_replicate]
  split<;>rfl
 refine ⟨by simp,?_,fun j v hv=>by rw [g] at hv;cases hv⟩
 unfold cntO
 rw [List.countP_eq_zero]
 intro j _
 rw [g]
 simp
theorem relaid_ok {t:SetTable} {hs:Array Int} {wanted n:Nat} (hn:hs.size=n) (hm:mGood (SetTable.sizeAbove wanted - 1)) (hr:n*5 < (SetTable.sizeAbove wanted - 1)*3) :
  ∃ t' order,t.relaid hs wanted=some (t',order)∧TabOk t' n∧t'.led=t.led∧order.size=n∧∀ v∈order.toList,v < n:=by
 generalize hmm:SetTable.sizeAbove wanted - 1=m at *
 obtain ⟨owner,e1,e2⟩:=lay_list hm hs.toList 0 _ (own_new m) (by rw [Array.length_toList];omega)
 rw [Nat.zero_add,Array.length_toList,hn] at e1 e2
 have hl:SetTable.layClean m hs=some owner:=by
  unfold SetTable.layClean
  rw [←Array.foldl_toList]
  rw [e1]
  rfl
 have hlen:((List.range (m+1)).filterMap fun j=>(owner.getD j none).map (j,·)).length=n:=by
  rw [List.length_filterMap_eq_countP]
  rw [←e2.cnt]
  unfold cntO
  congr 1
  funext j
  cases owner.getD j none<;>rfl
 have hmem:∀ x∈(List.range (m+1)).filterMap (fun j=>(owner.getD j none).map (j,·)),x.1≤m∧x.2 < n:=fun x hx=>by
  obtain ⟨j,hj,ex⟩:=List.mem_filterMap.mp hx
  have hj':=List.mem_range.mp hj
  obtain ⟨v,ev,rfl⟩:=Option.map_eq_some_iff.mp ex
  exact ⟨by show j≤m;omega,e2.lt j v ev⟩
 have er:t.relaid hs wanted=some ({ mask:=m,place:=(((List.range (m+1)).filterMap fun j=>(owner.getD j none).map (j,·)).map (·.1)).toArray,dummies:=#[],finger:=t.finger,led:=t.led,moves:=t.movedTo m,plain:=t.plain },(((List.range (m+1)).filterMap fun j=>(owner.getD j none).map (j,·)).map (·.2)).toArray):=by
  unfold SetTable.relaid SetTable.laid
  rw [hmm,hl]
  rfl
 refine ⟨_,_,er,⟨hm,(relaid_ris er).1,by rw [List.size_toArray,List.length_map];exact hlen,fun v hv=>?_,rfl,hr⟩,rfl,by rw [List.size_toArray,List.length_map];exact hlen,fun v hv=>?_⟩
 ·have hv':v∈((List.range (m+1)).filterMap fun j=>(owner.getD j none).map (j,·)).map (·.1):=by simpa using hv
  obtain ⟨x,hx,rfl⟩:=List.mem_map.mp hv'
  exact (hmem x hx).1
 ·have hv':v∈((List.range (m+1)).filterMap fun j=>(owner.getD j none).map (j,·)).map (·.2):=by simpa using hv
  obtain ⟨x,hx,rfl⟩:=List.mem_map.mp hv'
  exact (hmem x hx).2
theorem filterMap_full {α:Type} {es:Array α} {order:Array Nat} (h:∀ v∈order.toList,v < es.size):(order.filterMap fun i=>es[i]?).size=order.size∧∀ e∈(order.filterMap fun i=>es[i]?).toList,e∈es.toList:=by
 constructor
 ·rw [←Array.length_toList,Array.toList_filterMap,List.length_filterMap_eq_countP,←Array.length_toList (xs:=order)]
  refine List.countP_eq_length.mpr fun v hv=>?_
  rw [Array.getElem?_eq_getElem (h v hv)]
  rfl
 ·intro e he
  rw [Array.toList_filterMap] at he
  obtain ⟨v,hv,ev⟩:=List.mem_filterMap.mp he
  obtain ⟨hi,rfl⟩:=Array.getElem?_eq_some_iff.mp ev
  simp
end L2

set_option Elab.async false
set_option linter.all false
set_option maxRecDepth 100000
set_option maxHeartbeats 4000000
namespace L2
open PySem PySem.Spec PyProof.Rows
section
variable {prog:Program} {w:World} {A:Around} {E:Value→Shared→Prop} {s:Shared}
theorem class_data:∀ (n:Nat) {d:D} {v:Value} {Q:Bool→Shared→Prop},D.dep d≤n→Hd s.heap d v→Q false s→wpAny (model prog w) A (ofAClassStatement n v) Q E s:=by
 intro n
 induction n with
 | zero =>
  intro d v Q hd hv h
  cases d with
  | int i =>
   simp only [Hd] at hv
   obtain ⟨t,rfl⟩:=hv
   unfold ofAClassStatement
   exact wpAny_pure h
  | tup ds=>simp only [D.dep] at hd;omega
  | non=>simp only [Hd] at hv
  | bl _=>simp only [Hd] at hv
  | str _=>simp only [Hd] at hv
  | lst _=>simp only [Hd] at hv
 | succ n ih =>
  intro d v Q hd hv h
  cases d with
  | int i =>
   simp only [Hd] at hv
   obtain ⟨t,rfl⟩:=hv
   unfold ofAClassStatement
   exact wpAny_pure h
  | tup ds =>
   simp only [Hd] at hv
   simp only [D.dep] at hd
   obtain ⟨a,o,its,m,rfl,ho,hc,hdd,hi⟩:=hv
   have hT:s.TypeIs (.ref a) "tuple":=⟨o,ho,hc⟩
   unfold ofAClassStatement
   refine wpAny_bind (wpAny_typeOf hT ?_)
   dsimp only
   simp only [beq_self_eq_true,if_true]
   refine wpAny_bind (wpAny_pure ?_)
   simp only [Bool.not_true,Bool.false_eq_true,if_false]
   refine wpAny_bind (wpAny_seqItems ho hdd (wpAny_bind ?_))
   show wpAny _ _ (forIn its _ _) _ _ s
   rw [←Array.forIn_toList]
   refine wpAny_forIn_list _ (fun rest r s'=>r.1=none∧s'=s∧∃ left,HdL s.heap left rest∧D.depL left≤n) _ ?_ ?_ _ _ ⟨rfl,rfl,ds,hi,by omega⟩
   ·rintro x rest r s' ⟨hr,rfl,left,hl,hdl⟩
    cases left with
    | nil=>simp only [HdL] at hl;cases hl
    | cons k ks =>
     simp only [HdL] at hl
     simp only [D.depL] at hdl
     obtain ⟨v',q,ev,q1,q2⟩:=hl
     cases ev
     refine wpAny_bind (ih (by omega) q1 ?_)
     simp only [Bool.false_eq_true,if_false]
     exact wpAny_pure ⟨rfl,rfl,ks,q2,by omega⟩
   ·rintro ⟨r1,r2⟩ s' ⟨hr,rfl,_⟩
    simp only at hr
    subst hr
    exact wpAny_pure h
  | non=>simp only [Hd] at hv
  | bl _=>simp only [Hd] at hv
  | str _=>simp only [Hd] at hv
  | lst _=>simp only [Hd] at hv
theorem byval_data:∀ (n:Nat) {d:D} {v:Value} {Q:Bool→Shared→Prop},D.dep d≤n→Hd s.heap d v→(∀ b,Q b s)→wpAny (model prog w) A (hashByValue n v) Q E s:=by
 intro n
 induction n with
 | zero =>
  intro d v Q hd hv h
  cases d with
  | int i =>
   simp only [Hd] at hv
   obtain ⟨t,rfl⟩:=hv
   unfold hashByValue
   exact wpAny_pure (h _)
  | tup ds=>simp only [D.dep] at hd;omega
  | non=>simp only [Hd] at hv
  | bl _=>simp only [Hd] at hv
  | str _=>simp only [Hd] at hv
  | lst _=>simp only [Hd] at hv
 | succ n ih =>
  intro d v Q hd hv h
  cases d with
  | int i =>
   simp only [Hd] at hv
   obtain ⟨t,rfl⟩:=hv
   unfold hashByValue
   exact wpAny_pure (h _)
  | tup ds =>
   simp only [Hd] at hv
   simp only [D.dep] at hd
   obtain ⟨a,o,its,m,rfl,ho,hc,hdd,hi⟩:=hv
   have hT:s.TypeIs (.ref a) "tuple":=⟨o,ho,hc⟩
   unfold hashByValue
   refine wpAny_bind (wpAny_specialOf hT F.slot_tuple_hash.lookup ?_)
   show wpAny _ _ (seqItems? (.ref a) >>= _) _ _ s
   refine wpAny_bind (wpAny_seqItems ho hdd (wpAny_bind ?_))
   show wpAny _ _ (forIn its _ _) _ _ s
   rw [←Array.forIn_toList]
   refine wpAny_forIn_list _ (fun rest r s'=>r.1=none∧s'=s∧∃ left,HdL s.heap left rest∧D.depL left≤n) _ ?_ ?_ _ _ ⟨rfl,rfl,ds,hi,by omega⟩
   ·rintro x rest r s' ⟨hr,rfl,left,hl,hdl⟩
    cases left with
    | nil=>simp only [HdL] at hl;cases hl
    | cons k ks =>
     simp only [HdL] at hl
     simp only [D.depL] at hdl
     obtain ⟨v',q,ev,q1,q2⟩:=hl
     cases ev
     refine wpAny_bind (ih (by omega) q1 fun b=>?_)
     cases b with
     | true =>
      simp only [Bool.not_true,Bool.false_eq_true,if_false]
      exact wpAny_pure ⟨rfl,rfl,ks,q2,by omega⟩
     | false =>
      simp only [Bool.not_false,if_true]
      exact wpAny_pure (wpAny_pure (h _))
   ·rintro ⟨r1,r2⟩ s' ⟨hr,rfl,_⟩
    simp only at hr
    subst hr
    exact wpAny_pure (h _)
  | non=>simp only [Hd] at hv
  | bl _=>simp only [Hd] at hv
  | str _=>simp only [Hd] at hv
  | lst _=>simp only [Hd] at hv
end
end L2

set_option Elab.async false
set_option linter.all false
set_option maxRecDepth 100000
set_option maxHeartbeats 4000000
namespace L2
open PySem PySem.Spec PyProof.Rows
def El (h:Heap) (seen:List D) (es:Array (Int × Value)):Prop:=∀ e∈es.toList,∃ d∈seen,∃ b,e.1=D.hash d∧e.2=.ref b∧Hd h d (.ref b)∧D.dep d≤8
section
variable {prog:Program} {w:World} {A:Around} {E:Value→Shared→Prop} {s:Shared} {a x:Addr} {es:Array (Int × Value)} {ep:Nat} {t:SetTable} {seen:List D} {d:D}
theorem seen_data (hx:Hd s.heap d (.ref x)) (hd8:D.dep d≤8) {Q:Bool→Shared→Prop} (h:Q false s):∀ (l:List Value),(∀ y∈l,∃ d' b,y=.ref b∧Hd s.heap d' (.ref b)∧D.dep d'≤8) →
  wpAny (model prog w) A (searchCouldBeSeen (.ref x) l) Q E s:=by
 intro l hl
 unfold searchCouldBeSeen
 refine wpAny_bind (wpAny_forIn_list _ (fun rest r s'=>r.1=none∧s'=s∧∀ y∈rest,∃ d' b,y=.ref b∧Hd s.heap d' (.ref b)∧D.dep d'≤8) _ ?_ ?_ _ _ ⟨rfl,rfl,hl⟩)
 ·rintro y rest r s' ⟨hr,rfl,hall⟩
  obtain ⟨d',b,rfl,hb,hb8⟩:=hall y List.mem_cons_self
  have rest':∀ y∈rest,∃ d' b,y=.ref b∧Hd s'.heap d' (.ref b)∧D.dep d'≤8:=fun y hy=>hall y (List.mem_cons_of_mem _ hy)
  dsimp only
  refine wpAny_ite_split (fun _=>wpAny_pure ⟨rfl,rfl,rest'⟩) fun _=>?_
  refine wpAny_bind ((dataKind prog w).quiet ⟨hx,hd8⟩ ?_)
  simp only [Bool.not_true,Bool.false_eq_true,if_false]
  refine wpAny_bind ((dataKind prog w).quiet ⟨hb,hb8⟩ ?_)
  simp only [Bool.not_true,Bool.false_eq_true,if_false]
  refine wpAny_bind (class_data 8 hd8 hx ?_)
  simp only [Bool.false_eq_true,if_false]
  refine wpAny_bind (class_data 8 hb8 hb ?_)
  simp only [Bool.false_eq_true,if_false]
  exact wpAny_pure ⟨rfl,rfl,rest'⟩
 ·rintro ⟨r1,r2⟩ s' ⟨hr,rfl,_⟩
  simp only at hr
  subst hr
  exact wpAny_pure h
theorem search_new {o:Obj} (hu:A.units+8 < cLine) (ho:s.heap.get? a=some o) (hdt:o.data=.set es ep t) (hT:TabOk t es.size) (hel:El s.heap seen es) (hnew:d∉seen) (hx:Hd s.heap d (.ref x)) (hd8:D.dep d≤8) {Q:SetFound→Shared→Prop}
  (hq:∀ j,t.slot j=.empty→j≤t.mask→Q (.free j false) s):∀ (fuel K:Nat) (stand:Option SetTable.Probe),K < fuel→K < 10*SetTable.turns t.mask→t.slot (advN t K (stand.getD (t.probeStart (D.hash d)))).j=.empty→Within t (stand.getD (t.probeStart (D.hash d))) →
  wpAny (model prog w) A (setSearchFrom a (.ref x) (D.hash d) true fuel stand) Q E s
 | 0,K,stand,hk,_,_,_=>by omega
 | fuel+1,K,stand,hk,hk2,he,hw=>by
  unfold setSearchFrom
  refine wpAny_bind (wpAny_setState_of ho hdt hT.fits ?_)
  dsimp only
  have hg:t.gaveWay=false:=by
   unfold SetTable.gaveWay
   rcases hT.good with e | e | e<;>rw [e]<;>rfl
  rw [hg]
  simp only [Bool.false_eq_true,if_false]
  have sp:=go_spec (f:=fun i=>(es[i]?.map (·.1)).getD 0) (h:=D.hash d) hT.dum (10*SetTable.turns t.mask) K _ hk2 he hw
  split
  ·rename_i met hmet
   rcases sp with ⟨j,e,hs,hj⟩ | ⟨j,i,q,k,e,hs,_,hwq,hkK,hek⟩
   ·have:=Option.some.inj (hmet.symm.trans e)
    subst this
    dsimp only
    exact wpAny_pure (hq j hs hj)
   ·have:=Option.some.inj (hmet.symm.trans e)
    subst this
    dsimp only
    have hpi:t.place[i]?=some j:=by
     unfold SetTable.slot at hs
     dsimp only at hs
     split at hs
     ·rename_i hb
      cases hs
      simpa using hb
     ·split at hs<;>cases hs
    have hi:i < es.size:=by have:=(Array.getElem?_eq_some_iff.mp hpi).1;have:=hT.size;omega
    have hei:es[i]?=some es[i]:=Array.getElem?_eq_getElem hi
    obtain ⟨d',hd',b,e1,e2,hb,hb8⟩:=hel es[i] (by simp)
    have go:wpAny (model prog w) A (do
      let __discr:=es[i]?
      match __discr with
       | some (_,y)=>do
        let equal ←holding [y] (eqBool y (.ref x))
        let __discr ←setState a
        match __discr with
         | (es',_,t') =>
          if (true && equal)=true then pure (SetFound.there none)
          else do
           let __discr:=t'.sameMemory t.moves t.mask
           match __discr with
            | some same=>do
             let still ←match (if same=true then t'.slot j else SetTable.Slot.empty) with
              | .live i'=>match es'[i']? with
               | some (_,y')=>do
                let __do_lift ←isSame y' y
                pure (if __do_lift=true then some i' else none)
               | none=>pure none
              | _=>pure none
             match still with
              | none=>do
               rule "set.search.anew"
               setSearchFrom a (.ref x) (D.hash d) true fuel none
              | some i'=>if equal=true then pure (SetFound.there (some i')) else setSearchFrom a (.ref x) (D.hash d) true fuel (some q)
            | _=>unsupported "set.changed-during-lookup:is-the-new-block-at-the-old-address"
       | _=>unsupported "internal:set-entry") Q E s:=by
     rw [hei]
     dsimp only
     rw [e2]
     refine wpAny_bind (wpAny_holding ((dataKind prog w).eqBool (x:=d') (y:=d) hu ⟨hb,hb8⟩ ⟨hx,hd8⟩ ?_))
     have hne:decide (d'=d)=false:=decide_eq_false fun z=>hnew (z ▸ hd')
     rw [hne]
     refine wpAny_bind (wpAny_setState_of ho hdt hT.fits ?_)
     dsimp only
     simp only [Bool.and_false,Bool.false_eq_true,if_false]
     have hsm:t.sameMemory t.moves t.mask=some true:=by unfold SetTable.sameMemory;simp
     rw [hsm]
     dsimp only
     simp only [if_true,hs,hei]
     rw [e2]
     refine wpAny_bind (wpAny_isSame_ref_self (wpAny_bind (wpAny_pure ?_)))
     simp only [if_true]
     exact search_new hu ho hdt hT hel hnew hx hd8 hq fuel k (some q) (by omega) (by omega) hek hwq
    refine wpAny_ite_split (fun hl=>?_) fun hl=>?_
    ·refine wpAny_bind (seen_data hx hd8 ?_ _ fun y hy=>?_)
     ·simp only [Bool.false_eq_true,if_false]
      exact go
     ·obtain ⟨e',he',rfl⟩:=List.mem_map.mp hy
      have he'':e'∈es.toList:=by
       have:=Array.mem_toList_iff.mp he'
       exact Array.mem_toList_iff.mpr (Array.mem_filter.mp this).1
      obtain ⟨d2,_,b2,_,z2,z3,z4⟩:=hel e' he''
      exact ⟨d2,b2,z2,z3,z4⟩
    ·exact go
  ·rename_i hmet
   rcases sp with ⟨j,e,_,_⟩ | ⟨j,i,q,k,e,_⟩
   ·exact absurd e (hmet _)
   ·exact absurd e (hmet _)
end
end L2

set_option Elab.async false
set_option linter.all false
set_option maxRecDepth 100000
set_option maxHeartbeats 4000000
namespace L2
open PySem PySem.Spec PyProof.Rows
theorem El.mono {h h':Heap} {seen:List D} {es:Array (Int × Value)} (x:El h seen es) (k:∀ b o its n,h.get? b=some o→o.cls=.type "tuple"→o.data=.seq its n→h'.get? b=some o):El h' seen es:=fun e he=>by
 obtain ⟨d,hd,b,e1,e2,q,q8⟩:=x e he
 exact ⟨d,hd,b,e1,e2,Hd.keep k q,q8⟩
def SetB (w:World) (h0 h:Heap) (a:Addr) (seen:List D):Prop:=∃ o es ep t,h.get? a=some o∧o.ExactSet∧o.data=.set es ep t∧TabOk t es.size∧t.led=led0 w∧es.size=seen.length∧El h0 seen es
theorem relay_wanted {m n:Nat} (hm:mGood m) (h1:n*5 < m*3) (h2:(n+1)*5 ≥ m*3) (h60:n+1≤60):mGood (SetTable.sizeAbove (SetTable.grown (n+1)) - 1)∧(n+1)*5 < (SetTable.sizeAbove (SetTable.grown (n+1)) - 1)*3∧SetTable.sizeAbove (SetTable.grown (n+1))≤128:=by
 rcases hm with rfl | rfl | rfl
 ·have:n=4:=by omega
  subst this
  exact ⟨.inr (.inl (by decide)),by decide,by decide⟩
 ·have:n=18:=by omega
  subst this
  exact ⟨.inr (.inr (by decide)),by decide,by decide⟩
 ·omega
section
variable {prog:Program} {w:World} {A:Around} {E:Value→Shared→Prop} {s:Shared} {a x:Addr} {seen:List D} {d:D}
theorem setAdd_T {h0:Heap} (hu:A.units+8 < cLine) (k0:∀ b o,h0.get? b=some o→s.heap.get? b=some o) (hS:SetB w h0 s.heap a seen) (hnew:d∉seen) (hx0:Hd h0 d (.ref x)) (hd8:D.dep d≤8) (h60:seen.length+1≤60) {Q:Bool→Shared→Prop}
  (h:∀ h',Heap.SameBut a s.heap h'→SetB w h0 h' a (seen++[d])→Q true { s with heap:=h' }) :
  wpAny (model prog w) A (setAddHashed a (.ref x) (D.hash d)) Q E s:=by
 obtain ⟨o,es,ep,t,ho,hex,hdt,hT,hled,hsz,hel0⟩:=hS
 have hel:El s.heap seen es:=hel0.mono fun b o _ _ e _ _=>k0 b o e
 have hx:Hd s.heap d (.ref x):=Hd.keep (fun b o _ _ e _ _=>k0 b o e) hx0
 have line:∀ n,n≤128→n≤sizeLine:=fun n hn=>by rw [sizeLine_eq];omega
 unfold setAddHashed setAddHashedIn
 refine wpAny_holding (wpAny_bind (wpAny_setState_of ho hdt hT.fits ?_))
 dsimp only
 have hsc:byScan (.ref x) es=false:=by simp [byScan,Value.scannable]
 rw [hsc]
 simp only [Bool.false_eq_true,if_false]
 obtain ⟨K,hK,eK⟩:=found_free hT (D.hash d)
 have hm:t.mask≤127:=by rcases hT.good with e | e | e<;>omega
 have hi:SetTable.bits (D.hash d) % (t.mask+1)≤t.mask:=Nat.le_of_lt_succ (Nat.mod_lt _ (Nat.succ_pos _))
 unfold setSearch
 refine wpAny_bind (search_new hu ho hdt hT hel hnew hx hd8 (fun j hs hj=>?_) 100000 K none (by omega) (by unfold SetTable.turns;omega) eK (within_base (t:=t) (q:=(SetTable.bits (D.hash d) % (t.mask+1),SetTable.bits (D.hash d))) hi))
 dsimp only
 refine wpAny_bind (wpAny_setState_of ho hdt hT.fits ?_)
 dsimp only
 obtain ⟨p1,p2,p3,p4,p5,p6⟩:=put_ok hT hs hj
 have pled:(t.put j).1.led=t.led:=rfl
 generalize hput:t.put j=tp at p1 p2 p3 p4 p5 p6 pled
 obtain ⟨t1,pl⟩:=tp
 dsimp only at p1 p2 p3 p4 p5 p6 pled ⊢
 -- behind the question whether it is carried by its value
 have key:∀ t2:SetTable,t2.place=t1.place→t2.dummies=t1.dummies→t2.mask=t1.mask→t2.led=t1.led→wpAny (model prog w) A (do
   storeSet a (SetTable.insertAt es pl (D.hash d,.ref x)) t2
   if (!false && t2.tooFull)=true then do
     setRelay a (SetTable.grown (es.size+1))
     pure true
    else pure true) Q E s:=fun t2 q1 q2 q3 q4=>by
  have hperm:=SetTable.insertAt_perm es pl (D.hash d,Value.ref x)
  have hsz2:(SetTable.insertAt es pl (D.hash d,Value.ref x)).size=es.size+1:=by rw [←Array.length_toList,hperm.length_eq];simp
  generalize SetTable.insertAt es pl (D.hash d,Value.ref x)=es2 at hperm hsz2
  have hel2:El h0 (seen++[d]) es2:=fun e he=>by
   have:=hperm.mem_iff.mp he
   rw [Array.toList_push,List.mem_append,List.mem_singleton] at this
   rcases this with z | rfl
   ·obtain ⟨d',hd',r⟩:=hel0 e z
    exact ⟨d',List.mem_append_left _ hd',r⟩
   ·exact ⟨d,by simp,x,rfl,rfl,hx0,hd8⟩
  refine wpAny_bind (wpAny_storeSet_of ho hdt ?_ (line _ (by omega)))
  have put:∀ (h0:Heap) (o0:Obj) (es0:Array (Int × Value)) (ep0:Nat) (t0:SetTable),h0.get? a=some o0→o0.data=.set es0 ep0 t0→∀ es' t',(h0.update a (Obj.putSet es' t')).get? a=some { o0 with data:=.set es' (ep0+1) t' }:=fun h0 o0 es0 ep0 t0 ho0 hd0 es' t'=>by
   have:=Heap.get?_update_self (Obj.putSet es' t') ho0 (by rw [putSet_of es' t' hd0];rfl)
   rw [putSet_of es' t' hd0] at this;exact this
  have ho1:=put s.heap o es ep t ho hdt es2 t2
  have sb1:=Heap.SameBut.update s.heap a (Obj.putSet es2 t2)
  have hf2:t2.fits es2.size=true:=by
   have:=hT.room
   simp [SetTable.fits,SetTable.fill,q1,q2,q3,p1,p4,p5,hsz2]
   omega
  have hful:t2.fill=es.size+1:=by simp [SetTable.fill,q1,q2,p1,p4]
  by_cases c:t2.tooFull=true
  ·rw [c]
   simp only [Bool.not_false,Bool.true_and,if_true]
   have c':(es.size+1)*5 ≥ t.mask*3:=by
    unfold SetTable.tooFull at c
    rw [hful,q3,p5] at c
    simpa using c
   obtain ⟨w1,w2,w3⟩:=relay_wanted hT.good hT.room c' (by omega)
   obtain ⟨t3,order,er,hT3,hl3,hos,hov⟩:=relaid_ok (t:=t2) (hs:=es2.map (·.1)) (wanted:=SetTable.grown (es.size+1)) (n:=es.size+1) (by simp [hsz2]) w1 w2
   refine wpAny_bind ?_
   unfold setRelay
   refine wpAny_bind (wpAny_setState_of ho1 rfl hf2 ?_)
   dsimp only
   rw [if_neg (Nat.not_lt.mpr (line _ w3))]
   rw [er]
   obtain ⟨f1,f2⟩:=filterMap_full (es:=es2) (order:=order) (fun v hv=>by rw [hsz2];exact hov v hv)
   refine wpAny_bind ?_
   show wpAny _ _ (if ((order.filterMap fun i=>es2[i]?).size != es2.size)=true then unsupported "internal:set-table-lost-an-element" else pure ((order.filterMap fun i=>es2[i]?),t3)) _ _ _
   have hne:¬ ((order.filterMap fun i=>es2[i]?).size != es2.size)=true:=by rw [f1,hos,hsz2];simp
   rw [if_neg hne]
   refine wpAny_pure ?_
   dsimp only
   clear hne
   generalize (order.filterMap fun i=>es2[i]?)=es3 at f1 f2 ⊢
   refine wpAny_storeSet_of ho1 rfl ?_ (line _ (by omega))
   have ho3:=put _ _ es2 (ep+1) t2 ho1 rfl es3 t3
   have sb2:=Heap.SameBut.update (s.heap.update a (Obj.putSet es2 t2)) a (Obj.putSet es3 t3)
   refine wpAny_pure (h _ (sb1.trans sb2) ⟨_,es3,_,t3,ho3,hex,rfl,by rw [f1,hos];exact hT3,hl3.trans (q4.trans (pled.trans hled)),by rw [f1,hos,List.length_append,hsz];rfl,fun e he=>hel2 e (f2 e he)⟩)
  ·have c':t2.tooFull=false:=by simpa using c
   rw [c']
   simp only [Bool.and_false,Bool.false_eq_true,if_false]
   have hT2:TabOk t2 es2.size:=by
    refine ⟨by rw [q3,p5];exact hT.good,by rw [q1];exact p2,by rw [q1,p1,hsz2],fun v hv=>?_,by rw [q2];exact p4,?_⟩
    ·rw [q1] at hv;rw [q3,p5];exact p3 v hv
    ·unfold SetTable.tooFull at c'
     rw [hful,q3,p5] at c'
     rw [q3,p5,hsz2]
     simpa using c'
   exact wpAny_pure (h _ sb1 ⟨_,es2,_,t2,ho1,hex,rfl,hT2,q4.trans (pled.trans hled),by rw [hsz2,List.length_append,hsz];rfl,hel2⟩)
 split
 ·refine wpAny_bind (byval_data 8 hd8 hx fun b=>?_)
  exact key _ (by split<;>rfl) (by split<;>rfl) (by split<;>rfl) (by split<;>rfl)
 ·refine wpAny_bind (wpAny_pure ?_)
  exact key _ rfl rfl rfl rfl
theorem SetB.at {h0 h h':Heap} (x:SetB w h0 h a seen) (k:∀ o,h.get? a=some o→h'.get? a=some o):SetB w h0 h' a seen:=by
 obtain ⟨o,es,ep,t,ho,r⟩:=x
 exact ⟨o,es,ep,t,k _ ho,r⟩
end
end L2
namespace L2
open PySem PySem.Spec PyProof.Rows
section
variable {prog:Program} {w:World} {A:Around} {R:Result→Shared→Prop} {I:Addr} {fp wr:List Addr} {G:Array GenState→Array GenState→Prop} {n:Nat} {P:Nat→Value→Prop} {St:Nat→Shared→Prop}
theorem set_loopT (hu:A.in1.units+8 < cLine) (W:WalksS prog w A.in1 I fp wr G n P St) (S:Addr) (hSf:S∉fp) (h0:Heap) (hS0:h0.get? S=none) (hwr:∀ b∈wr,h0.get? b=none)
  (ds:List D) (hval:∀ i v,P i v→∃ d b,ds[i]?=some d∧v=.ref b∧Hd h0 d (.ref b)∧D.dep d≤8) (hln:ds.length=n) (hnd:ds.Nodup) (hb:n≤60) :
  ∀ (k i:Nat) (s:Shared),n - i=k→i≤n→St i s→(∀ b o,h0.get? b=some o→s.heap.get? b=some o)→SetB w h0 s.heap S (ds.take i) →
   (∀ s',Moved (S::wr) G s s'→SetB w h0 s'.heap S ds→R (.ok (.ret .none)) s') →
   codeAny (model prog w) A (.builtin "set.update.loop" ⟨[.ref S,.ref I],[]⟩) R s:=by
 have hSw:S∉wr:=fun h=>hSf (W.sub _ h)
 have hsub:∀ b∈wr,b∈S::wr:=fun b hb=>List.mem_cons_of_mem _ hb
 intro k
 induction k with
 | zero =>
  intro i s hk hi hst hk0 hS hR
  have hin:i=n:=by omega
  subst hin
  refine codeAny_builtin F.entry_set_update_loop ?_
  rw [Around.under_plainId F.plain_set_update_loop _]
  show wpAny _ A.in1 (pyNext (.ref I) >>= _) _ _ s
  refine wpAny_bind (W.done s _ _ hst fun s' hm=>?_)
  show wpAny _ A.in1 (ret Value.none) _ _ s'
  rw [List.take_of_length_le (by omega)] at hS
  exact wpAny_pure (hR s' (hm.mono hsub) (hS.at fun o e=>hm.heap S _ hSw e))
 | succ k ih =>
  intro i s hk hi hst hk0 hS hR
  have hlt:i < n:=by omega
  refine codeAny_builtin F.entry_set_update_loop ?_
  rw [Around.under_plainId F.plain_set_update_loop _]
  show wpAny _ A.in1 (pyNext (.ref I) >>= _) _ _ s
  refine wpAny_bind (W.item i s _ _ hlt hst fun v s' hP hst' hm=>?_)
  obtain ⟨d,x,hx,rfl,hHd,hd8⟩:=hval i v hP
  have k1:∀ b o,h0.get? b=some o→s'.heap.get? b=some o:=fun b o e=>hm.heap b o (fun z=>by rw [hwr b z] at e;cases e) (hk0 b o e)
  have hS':SetB w h0 s'.heap S (ds.take i):=hS.at fun o e=>hm.heap S _ hSw e
  show wpAny _ A.in1 (holding [Value.ref x] (setAdd S (.ref x)) >>= _) _ _ s'
  refine wpAny_bind (wpAny_holding ?_)
  unfold setAdd
  refine wpAny_holding ?_
  have hHd':Hd s'.heap d (.ref x):=Hd.keep (fun b o _ _ e _ _=>k1 b o e) hHd
  refine wpAny_bind ((dataKind prog w).pyHash (k:=d) hu ⟨hHd',hd8⟩ ?_)
  have hnew:d∉ds.take i:=fun z=>by
   obtain ⟨m,hm',em⟩:=List.mem_iff_getElem.mp z
   rw [List.getElem_take] at em
   have hm2:m < i:=by rw [List.length_take] at hm';omega
   have e1:ds[m]?=some d:=by rw [List.getElem?_eq_getElem (by omega),em]
   have:=(List.getElem?_inj (List.getElem?_eq_some_iff.mp e1).1 hnd).mp (e1.trans hx.symm)
   omega
  have hl:(ds.take i).length+1≤60:=by rw [List.length_take];omega
  refine setAdd_T (s:={ s' with toks:=s'.toks+(dataKind prog w).draws d }) hu k1 hS' hnew hHd hd8 hl fun h' hsb hS2=>?_
  have e:ds.take (i+1)=ds.take i++[d]:=by rw [List.take_add_one,hx];rfl
  have k2:∀ b o,h0.get? b=some o→h'.get? b=some o:=fun b o e=>by
   rw [hsb.2 b (fun z=>by rw [z,hS0] at e;cases e)]
   exact k1 b o e
  refine wpAny_pure ⟨plainId_quiet F.plain_set_update_loop _,ih (i+1) _ (by omega) hlt (W.frame _ s' _ _ hst' (Nat.le_add_right _ _) fun b hb o e=>?_) k2 (by rw [e];exact hS2) fun s'' hm'' hS''=>?_⟩
  ·rw [hsb.2 b (fun h:b=S=>hSf (by rw [←h];exact hb))];exact e
  ·refine hR s'' (Moved.trans W.gtrans ((hm.mono hsub).then_heap (Nat.le_add_right _ _) fun b o hb e=>?_) hm'') hS''
   rw [hsb.2 b (fun h:b=S=>hb (by rw [h];exact List.mem_cons_self))];exact e
end
section
variable {prog:Program} {w:World} {A:Around} {E:Value→Shared→Prop} {s:Shared}
theorem tab_fresh (f m:Nat) (l:Bool):TabOk (SetTable.fresh f m l) 0:=⟨.inl rfl,List.Pairwise.nil,rfl,fun v hv=>by simp [SetTable.fresh] at hv,rfl,by show 0*5 < 7*3;decide⟩
set_option maxHeartbeats 3200000 in
theorem call_set_T {l:Addr} {items:Array Value} {ds:List D} {Q:Value→Shared→Prop}
  (hh:A.handled=none) (hu:A.units+20 < cLine) (hl:s.heap.IsList l items) (hln:ds.length=items.size) (hnd:ds.Nodup) (hb:items.size≤60)
  (hit:∀ (i:Nat) (v:Value),items[i]?=some v→∃ d b,ds[i]?=some d∧v=.ref b∧Hd s.heap d (.ref b)∧D.dep d≤8)
  (h:∀ (h':Heap) (tk:Nat),SetB w s.heap h' s.heap.objs.size ds →
   (∀ b o,b < s.heap.objs.size→s.heap.get? b=some o→h'.get? b=some o)→Q (.ref s.heap.objs.size) { s with heap:=h',toks:=tk }) :
  wpAny (model prog w) A (call (.type "set") [.ref l]) Q E s:=by
 obtain ⟨c,tl,hmro⟩:=F.called_set.mro
 have hmade:=F.called_set.made
 have hsub:=F.called_set.sub
 refine wpAny_call (codeAny_of_tree ?_)
 show wpAny _ _ (callAny (.type "set") _) _ _ _
 refine wpAny_pure ⟨Code.quiet_builtin _ (by decide +kernel),codeAny_builtin F.entry_type_call ?_⟩
 rw [Around.under_plain (weight_type_call_type "set" [.ref l] []) rfl]
 have h1:=F.called_set.notType
 have h2:=F.called_set.canCreate
 have hct:=F.typeCall_set_1 (.ref l)
 repeat (any_goals (first | assumption | wp_step))
 refine codeAny_mono (set_new_1 (.ref l) (E:=E) (Q₁:=fun obj s₁=>obj=.ref s.heap.objs.size∧s₁={ s with heap:=s.heap.push { cls:=.type "set",dict:=none,data:=.set #[] 0 (.fresh 0 0 (led0 w)) } }) ⟨rfl,rfl⟩) fun r s₁ hr=>?_
 cases r with
 | error e=>exact hr
 | ok fl =>
  cases fl with
  | ret obj =>
   obtain ⟨rfl,rfl⟩:=hr
   generalize hled:led0 w=led
   have hS:(s.heap.push { cls:=.type "set",dict:=none,data:=.set #[] 0 (.fresh 0 0 led) }).get? s.heap.objs.size=some { cls:=.type "set",dict:=none,data:=.set #[] 0 (.fresh 0 0 led) }:=Heap.get?_push_size _ rfl
   have hT:Shared.TypeIs { s with heap:=s.heap.push { cls:=.type "set",dict:=none,data:=.set #[] 0 (.fresh 0 0 led) } } (.ref s.heap.objs.size) "set":=⟨_,hS,rfl⟩
   have hli:=F.called_set.init.lookup
   have hbi:=F.called_set.init.bind (.ref s.heap.objs.size)
   repeat (any_goals (first | assumption | wp_step))
   refine codeAny_mono (codeAny_call_builtin (R:=wants (fun r s₂=>r=.none∧∃ h' tk,s₂={ s with heap:=h',toks:=tk } ∧
     SetB w s.heap h' s.heap.objs.size ds ∧
     (∀ b o,b < s.heap.objs.size→s.heap.get? b=some o→h'.get? b=some o)) E) F.called_set.init.plain F.entry_set_init (check_set_init_1 hT ?_)) fun r₂ s₂ hr₂=>?_
   ·obtain ⟨ol,hol,hcl,nl,hdl⟩:=hl
    obtain ⟨ocls,odict,odata,oslots⟩:=ol
    simp only at hcl hdl
    subst hcl;subst hdl
    have hol':(s.heap.push { cls:=.type "set",dict:=none,data:=.set #[] 0 (.fresh 0 0 led) }).get? l=some { cls:=.type "list",dict:=odict,data:=.seq items nl,slots:=oslots }:=Heap.get?_push_of_some _ hol
    have hsls:=F.sub_list_set
    have hslf:=F.sub_list_frozenset
    have hne:(Value.type "list" == Value.type "dict")=false:=by decide
    have hl1:(s.heap.push { cls:=.type "set",dict:=none,data:=.set #[] 0 (.fresh 0 0 led) }).IsList l items:=⟨_,hol',rfl,nl,rfl⟩
    unfold Builtin.«set.__init__» noKeywords Builtin.Frozenset.updateFrom
    generalize hPI:pyIter=PI
    wp_walk
    subst hPI
    refine wpAny_pyIter_list hl1 ?_
    refine wpAny_bind (wpAny_runValue ?_)
    have hlS:l < s.heap.objs.size:=Heap.lt_size hol
    have hh3:A.in1.in1.in1.handled=none:=by simp [hh]
    have hneI:l≠(s.heap.push { cls:=.type "set",dict:=none,data:=.set #[] 0 (.fresh 0 0 led) }).objs.size:=by
     rw [Heap.size_push];exact Nat.ne_of_lt (Nat.lt_succ_of_lt hlS)
    have hSf:s.heap.objs.size∉[(s.heap.push { cls:=.type "set",dict:=none,data:=.set #[] 0 (.fresh 0 0 led) }).objs.size,l]:=by
     rw [Heap.size_push];simp only [List.mem_cons,List.mem_singleton,List.not_mem_nil,or_false,not_or]
     exact ⟨Nat.ne_of_lt (Nat.lt_succ_self _),Nat.ne_of_gt hlS⟩
    have none_at:∀ b:Nat,s.heap.objs.size≤b→s.heap.get? b=none:=fun b hb'=>by
     cases e:s.heap.get? b with
     | none=>rfl
     | some o=>exact absurd (Heap.lt_size e) (Nat.not_lt.mpr hb')
    refine set_loopT (by simp only [Around.in1_units];omega) ((Walks.list hh3 _ l hneI items).toS) s.heap.objs.size
     hSf s.heap (none_at _ (Nat.le_refl _)) (fun b hb'=>none_at b (by rw [List.mem_singleton.mp hb',Heap.size_push];exact Nat.le_succ _)) ds hit hln hnd hb (items.size - 0) 0 _ (by omega) (Nat.zero_le _)
     ⟨⟨_,Heap.get?_push_size _ rfl,rfl,rfl⟩,(hl1.push _)⟩ (fun b o e=>Heap.get?_push_of_some _ (Heap.get?_push_of_some _ e)) ?hS0 ?hR
    case hS0 =>
     have hget:((s.heap.push { cls:=.type "set",dict:=none,data:=.set #[] 0 (.fresh 0 0 led) }).push { cls:=.type "list_iterator",data:=.fields #[.ref l,.int 0 0] }).get? s.heap.objs.size
       = some { cls:=.type "set",dict:=none,data:=.set #[] 0 (.fresh 0 0 led) }:=Heap.get?_push_of_some _ hS
     exact ⟨_,#[],0,_,hget,⟨rfl,rfl,rfl⟩,rfl,tab_fresh 0 0 led,hled.symm,rfl,fun e he=>by simp at he⟩
    case hR =>
     intro s' hm hS'
     obtain ⟨h',g',d',tk',os'⟩:=s'
     have eg:g'=s.gens:=hm.gens
     have ed:d'=s.drawn:=hm.drawn
     have eo:os'=s.os:=hm.os
     subst eg;subst ed;subst eo
     show wpAny _ _ _ _ _ _
     refine wpAny_pure ?_
     show wpAny _ _ (ret Value.none) _ _ _
     refine wpAny_pure ⟨rfl,h',tk',rfl,hS',fun b o hb e=>?_⟩
     have hb1:b≠s.heap.objs.size:=Nat.ne_of_lt hb
     have hb2:b≠(s.heap.push { cls:=.type "set",dict:=none,data:=.set #[] 0 (.fresh 0 0 led) }).objs.size:=by
      rw [Heap.size_push];exact Nat.ne_of_lt (Nat.lt_succ_of_lt hb)
     exact hm.heap b o (by simp only [List.mem_cons,List.mem_singleton,List.not_mem_nil,or_false,not_or];exact ⟨hb1,hb2⟩) (Heap.get?_push_of_some _ (Heap.get?_push_of_some _ e))
   ·cases r₂ with
    | error e=>exact hr₂
    | ok fl₂ =>
     cases fl₂ with
     | ret r =>
      obtain ⟨rfl,h',tk,rfl,hS',hk'⟩:=hr₂
      repeat (any_goals (first | assumption | wp_step))
      exact h _ _ hS' hk'
     | _=>exact hr₂.elim
  | _=>exact hr.elim
end
end L2

set_option Elab.async false
set_option linter.all false
set_option maxRecDepth 100000
set_option maxHeartbeats 4000000
namespace L2
open PySem PySem.Spec PyProof.Rows PySem.SeqAt
/-! ### len(set(list of unlike nested tuples)) -/
def LenAt (h:Heap) (a:Addr) (n:Nat):Prop:=∃ o es ep t,h.get? a=some o∧o.ExactSet∧o.data=.set es ep t∧t.fits es.size=true∧es.size=n
def LenO (a:Addr) (n:Nat):HO:=.ext fun h=>LenAt h a n
theorem rel_ref {b:Addr} {v:Value} (h:RelV (.ref b) v):v=.ref b:=by cases h;rfl
section
variable {X:Cx} (K:PySem.W.Frag)
theorem cSetT (hK:X.K=K) (hc:X.calm=true) (hu:X.A.units+64 < cLine):CallR X (.type "set") (fun xs H Q=>∃ (p:Addr) (vs:List V) (ds:List D),xs=[.ref p]∧SqL K H p vs∧DrL K H ds vs ∧
  (∀ d∈ds,D.key d∧D.dep d≤8∧∃ l,d=D.tup l)∧ds.Nodup∧ds.length≤60∧∀ S,H S=none→Q (.ref S) (upd H S (LenO S ds.length))):=by
 subst hK
 intro pins s σ H xs us Q I r h
 obtain ⟨p,vs,ds,rfl,hp,hds,hall,hnd,h60,q⟩:=h
 obtain ⟨u,rfl,ru⟩:=vals1 r
 cases ru
 obtain ⟨its,rv,⟨o,n,ho,hcl,_,hd⟩,hz⟩:=I.list hp
 have hl1:ds.length=vs.length:=hds.length
 have hl2:vs.length=its.length:=rv.length
 refine call_set_T (ds:=ds) (items:=its.toArray) (I.ok.hd hc) (by omega) ⟨o,ho,hcl,n,hd⟩ (by simp;omega) hnd (by simp;omega) (fun i v hv=>?_) fun h' tk hS hk=>?_
 ·have hv':its[i]?=some v:=by simpa using hv
  have hi:i < ds.length:=by have:=(List.getElem?_eq_some_iff.mp hv').1;omega
  have ed:ds[i]?=some ds[i]:=List.getElem?_eq_getElem hi
  obtain ⟨x,ex,dx⟩:=hds.get ed
  obtain ⟨k1,k2,l,e3⟩:=hall ds[i] (List.getElem_mem _)
  have dx':=dx
  rw [e3] at dx'
  simp only [Dr] at dx'
  obtain ⟨b,_,rfl,_⟩:=dx'
  obtain ⟨u0,eu,r0⟩:=Vals.get rv ex
  rw [hv'] at eu
  cases eu
  have hb:=rel_ref r0
  subst hb
  exact ⟨ds[i],b,ed,rfl,Dr.hd I.hok k1 dx rfl,k2⟩
 ·obtain ⟨o',es,ep,t,e1,e2,e3,e4,_,e5,_⟩:=hS
  refine ⟨.ref _,_,I.laid (o:=LenO s.heap.objs.size ds.length) (t':=tk) (fun b u e=>hk b u (Heap.lt_size e) e) (Nat.le_refl _) ⟨⟨o',es,ep,t,e1,e2,e3,e4.fits,e5⟩,⟨o',e1⟩,fun h1 h2 x e=>?_⟩,rfl,q _ I.fresh⟩
  obtain ⟨o2,es2,ep2,t2,z,zz⟩:=x
  exact ⟨o2,es2,ep2,t2,e _ z,zz⟩
theorem cLenS:CallR X (.builtin "len") (fun xs H Q=>∃ (p:Addr) (n:Nat),xs=[.ref p]∧H p=some (LenO p n)∧n≤1000∧Q (.int n) H):=by
 intro pins s σ H xs us Q I r h
 obtain ⟨p,n,rfl,hp,hn,q⟩:=h
 obtain ⟨u,rfl,ru⟩:=vals1 r
 cases ru
 obtain ⟨o,es,ep,t,e1,e2,e3,e4,rfl⟩:=(I.hok p _ hp).1
 refine call_len_set e1 e2 e3 e4 (by omega) ?_
 exact ⟨.int es.size,H,I.tok _,⟨_,rfl⟩,q⟩
end
end L2

set_option Elab.async false
set_option linter.all false
set_option maxRecDepth 100000
set_option maxHeartbeats 4000000
namespace Gu
open PySem L2
def spComesL (K:PySem.W.Frag):Sp:=fun vs H Q _=>∃ (v:V) (rows:List Row) (n:Nat) (r:Int),vs=[v,.int r]∧Dr K H (D.tup (rowsD rows)) v∧GoodM n rows∧n≤5∧rows.length≤60∧0≤r∧r < (rows.length:Int)∧∀ b:Bool,(b=true↔Lp n rows r)→∀ H',Same H H'→Q (.bl b) H'
def spRight26 (Ts:List Tb) (K:PySem.W.Frag):Sp:=fun vs H Q _=>∃ (v:V) (rows:List Row) (n:Nat),vs=[v]∧Tabs Ts H∧Dr K H (D.tup (rowsD rows)) v∧GoodM n rows∧shr rows=rows∧2≤n∧n≤5∧rows.length≤48∧∀ H',SameL Ts H H'→Q (.bl true) H'
structure Dfs (n:Nat) (M:List Row) (r:Int) (seen line:List Int):Prop where
 nd:seen.Nodup
 rg:∀ x,x∈seen∨x∈line→0≤x∧x < (M.length:Int)
 st:∀ g∈(row M r).2,g∈seen∨g∈line
 re:∀ x,x∈seen∨x∈line→∃ u,u≠[]∧LW n u∧goW M r u=x
 cl:∀ x∈seen,∀ g∈(row M x).2,g∈seen∨g∈line
theorem mem_drop_last {l:List Int} {x g:Int} (hx:l[l.length - 1]?=some x):g∈l↔g∈l.dropLast∨g=x:=by
 have hne:l≠[]:=fun z=>by rw [z] at hx;simp at hx
 have e:l.dropLast++[l.getLast hne]=l:=List.dropLast_concat_getLast hne
 have ex:l.getLast hne=x:=by
  rw [List.getLast_eq_getElem]
  have:=(List.getElem?_eq_some_iff.mp hx).2
  exact this
 constructor
 ·intro z
  rw [←e,ex] at z
  rcases List.mem_append.mp z with z | z
  ·exact .inl z
  ·exact .inr (List.mem_singleton.mp z)
 ·intro z
  rw [←e,ex]
  rcases z with z | z
  ·exact List.mem_append_left _ z
  ·exact List.mem_append_right _ (List.mem_singleton.mpr z)
theorem go_stepB {n:Nat} {M:List Row} (G:GoodM n M) {r x g:Int} {v:List Int} (lv:LW n v) (r0:0≤r) (r1:r < (M.length:Int)) (e:goW M r v=x) (hg:g∈(row M x).2):∃ u,u≠[]∧LW n u∧goW M r u=g:=by
 obtain ⟨a,b⟩:=goW_rg G lv r0 r1
 rw [e] at a b
 obtain ⟨i,hi,ei⟩:=List.mem_iff_getElem.mp hg
 have hn:=G.len _ (row_mem a b)
 refine ⟨v++[(i:Int)],by simp,lw_snoc lv (by omega),?_⟩
 rw [goW_app,e]
 show (row M x).2.getD ((i:Int)).toNat 0=g
 rw [Int.toNat_natCast,List.getD_eq_getElem?_getD,List.getElem?_eq_getElem hi]
 exact ei
theorem Dfs.old {n:Nat} {M:List Row} {r x:Int} {seen line:List Int} (h:Dfs n M r seen line) (hx:line[line.length - 1]?=some x) (hs:x∈seen):Dfs n M r seen line.dropLast:=by
 have sub:∀ g,g∈seen∨g∈line→g∈seen∨g∈line.dropLast:=fun g z=>by
  rcases z with z | z
  ·exact .inl z
  ·rcases (mem_drop_last hx).mp z with z | z
   ·exact .inr z
   ·rw [z];exact .inl hs
 have sup:∀ g,g∈seen∨g∈line.dropLast→g∈seen∨g∈line:=fun g z=>z.imp id fun z=>(mem_drop_last hx).mpr (.inl z)
 exact ⟨h.nd,fun y hy=>h.rg y (sup y hy),fun g hg=>sub g (h.st g hg),fun y hy=>h.re y (sup y hy),fun y hy g hg=>sub g (h.cl y hy g hg)⟩
theorem Dfs.new {n:Nat} {M:List Row} (G:GoodM n M) {r x:Int} (r0:0≤r) (r1:r < (M.length:Int)) {seen line:List Int} (h:Dfs n M r seen line) (hx:line[line.length - 1]?=some x) (hs:x∉seen):Dfs n M r (seen++[x]) (line.dropLast++(row M x).2):=by
 have hxl:x∈line:=List.mem_of_getElem? hx
 obtain ⟨a,b⟩:=h.rg x (.inr hxl)
 obtain ⟨u,une,lu,eu⟩:=h.re x (.inr hxl)
 have sub:∀ g,g∈seen∨g∈line→g∈seen++[x]∨g∈line.dropLast++(row M x).2:=fun g z=>by
  rcases z with z | z
  ·exact .inl (List.mem_append_left _ z)
  ·rcases (mem_drop_last hx).mp z with z | z
   ·exact .inr (List.mem_append_left _ z)
   ·rw [z];exact .inl (by simp)
 have inv:∀ g,g∈seen++[x]∨g∈line.dropLast++(row M x).2→(g∈seen∨g∈line)∨g∈(row M x).2:=fun g z=>by
  rcases z with z | z
  ·rcases List.mem_append.mp z with z | z
   ·exact .inl (.inl z)
   ·rw [List.mem_singleton.mp z];exact .inl (.inr hxl)
  ·rcases List.mem_append.mp z with z | z
   ·exact .inl (.inr ((mem_drop_last hx).mpr (.inl z)))
   ·exact .inr z
 refine ⟨List.nodup_append.mpr ⟨h.nd,List.nodup_cons.mpr ⟨by simp,List.nodup_nil⟩,fun c hc d hd=>?_⟩,fun y hy=>?_,fun g hg=>sub g (h.st g hg),fun y hy=>?_,fun y hy g hg=>?_⟩
 ·rw [List.mem_singleton] at hd
  subst hd
  exact fun e=>hs (e ▸ hc)
 ·rcases inv y hy with z | z
  ·exact h.rg y z
  ·exact G.go _ (row_mem a b) y z
 ·rcases inv y hy with z | z
  ·exact h.re y z
  ·exact go_stepB G lu r0 r1 eu z
 ·rcases List.mem_append.mp hy with z | z
  ·exact sub g (h.cl y z g hg)
  ·rw [List.mem_singleton.mp z] at hg
   exact .inr (List.mem_append_right _ hg)
theorem dfs_end {n:Nat} {M:List Row} (G:GoodM n M) {r:Int} (r0:0≤r) (r1:r < (M.length:Int)) {o:List Int} (h:Dfs n M r o []):decide (r∈o)=true↔Lp n M r:=by
 have st:∀ g∈(row M r).2,g∈o:=fun g hg=>(h.st g hg).elim id fun z=>by simp at z
 have cl:∀ x∈o,∀ g∈(row M x).2,g∈o:=fun x hx g hg=>(h.cl x hx g hg).elim id fun z=>by simp at z
 rw [decide_eq_true_iff]
 constructor
 ·exact fun hr=>h.re r (.inl hr)
 ·rintro ⟨v,vne,lv,e⟩
  cases v with
  | nil=>exact absurd rfl vne
  | cons l v =>
   obtain ⟨l0,l1⟩:=lv l List.mem_cons_self
   obtain ⟨_,_,g2⟩:=go_get G r0 r1 (show l.toNat < n by omega)
   have:=goW_all (n:=n) (M:=M) (C:=fun z=>z∈o) (fun z hz=>G.len _ (row_mem (h.rg z (.inl hz)).1 (h.rg z (.inl hz)).2)) (fun z hz g hg=>cl z hz g hg) v _ lv.tail (st _ g2)
   have e':goW M ((row M r).2.getD l.toNat 0) v=r:=e
   rw [e'] at this
   exact this
theorem secs_nodup {n:Nat} {F:List Row} (G:GoodM n F) (hf:shr F=F):∀ i,i≤F.length→(secs F i).Nodup:=fun i hi=>by
 unfold secs
 rw [List.nodup_iff_pairwise_ne,List.pairwise_map]
 refine List.Pairwise.imp_of_mem (fun {a b} ha hb hab e=>?_) List.pairwise_lt_range
 have ha':=List.mem_range.mp ha
 have hb':=List.mem_range.mp hb
 have alk:Alk n F (a:Int) (b:Int):=fun w lw=>by
  rw [←sect_row G (by omega) (by omega) lw,←sect_row G (by omega) (by omega) lw,e]
 have:=form_inj G hf (by omega) (by omega) (by omega) (by omega) alk
 omega
end Gu
namespace Gu
open PySem L2
def NewFm (Ts:List Tb) (K:PySem.W.Frag) (H:Hp) (Q:VK) (ds:List D):Prop:=∀ (l:Addr) (H':Hp) (us:List V),H l=none→SameL Ts H H'→H' l=some (.lst us)→DrL K H' ds us→Q (.ref l) H'
def spSectionsN (Ts:List Tb) (K:PySem.W.Frag):Sp:=fun vs H Q _=>∃ (v:V) (rows:List Row) (n:Nat),vs=[v]∧Tabs Ts H∧Dr K H (D.tup (rowsD rows)) v∧GoodM n rows∧n≤60∧rows.length≤60∧NewFm Ts K H Q (fmD (secs rows rows.length))
def spLastingN (Ts:List Tb) (K:PySem.W.Frag):Sp:=fun vs H Q _=>∃ (v:V) (rows:List Row) (n:Nat),vs=[v]∧Tabs Ts H∧Dr K H (D.tup (rowsD rows)) v∧GoodM n rows∧2≤n∧n≤60∧rows.length≤60∧NewFm Ts K H Q (fmD (lasts n rows rows.length))
theorem lasts_small {n:Nat} {rows:List Row} (G:GoodM n rows) (hn:n≤60) (hl:rows.length≤60):D.dep (D.lst (fmD (lasts n rows rows.length))) < 5∧D.few (D.lst (fmD (lasts n rows rows.length))):=by
 have h:∀ d∈fmD (lasts n rows rows.length),D.dep d≤3∧D.few d:=fun d hd=>by
  obtain ⟨g,hg,rfl⟩:=List.mem_map.mp hd
  obtain ⟨j,hj,rfl⟩:=List.mem_map.mp hg
  have hj':=List.mem_range.mp (List.mem_filter.mp hj).1
  obtain ⟨a,b⟩:=shr_small (swM_good G (s:=(j:Int)) (by omega) (by omega)) hn
  exact ⟨by omega,b⟩
 have h1:=D.depL_le fun d hd=>(h d hd).1
 have h2:=lasts_le n rows rows.length
 refine ⟨by simp only [D.dep];omega,?_⟩
 simp only [D.few]
 exact ⟨by rw [fmD_len];omega,D.fewL_of fun d hd=>(h d hd).2⟩
theorem secs_key {n:Nat} {rows:List Row} (G:GoodM n rows) (hn:n≤60):∀ d∈fmD (secs rows rows.length),D.key d∧D.dep d≤8∧∃ l,d=D.tup l:=fun d hd=>by
 obtain ⟨g,hg,rfl⟩:=List.mem_map.mp hd
 obtain ⟨j,hj,rfl⟩:=List.mem_map.mp hg
 have hj':=List.mem_range.mp hj
 obtain ⟨a,b⟩:=shr_small (swM_good G (s:=(j:Int)) (by omega) (by omega)) hn
 have:=gs_key [shr (swM rows (j:Int))]
 simp only [List.map_cons,List.map_nil,D.keyL] at this
 exact ⟨this.1,by omega,_,rfl⟩
theorem fm_nodup {gs:List (List Row)} (h:gs.Nodup):(fmD gs).Nodup:=by
 unfold fmD
 rw [List.nodup_iff_pairwise_ne,List.pairwise_map]
 refine List.Pairwise.imp (fun {a b} hab e=>hab ?_) (List.nodup_iff_pairwise_ne.mp h)
 have:=rows_eq a b
 rw [e,D.eq_refl] at this
 exact of_decide_eq_true this.symm
end Gu
namespace L2
open PySem
theorem SameL.free2 {Ts:List Tb} {H H':Hp} {l:Addr} (s:SameL Ts H H') (h:H' l=none):H l=none∨∃ ps,H l=some (.tbl ps):=by
 cases e:H l with
 | none=>exact .inl rfl
 | some o =>
  by_cases c:∃ ps,o=.tbl ps
  ·obtain ⟨ps,rfl⟩:=c
   exact .inr ⟨ps,rfl⟩
  ·have:=s.at_ l o (fun ps z=>c ⟨ps,z⟩) e
   rw [h] at this
   cases this
theorem SameL.over2 {Ts:List Tb} {H H':Hp} {l:Addr} {xs:List V} {o:HO} (s:SameL Ts H H') (h:H l=none∨∃ ps,H l=some (.tbl ps)) (e:H' l=some (.lst xs)):SameL Ts H (upd H' l o) :=
 ⟨fun b u n q=>by
  have hb:b≠l:=fun z=>by
   subst z
   rcases h with h | ⟨ps,h⟩
   ·rw [h] at q;cases q
   ·rw [h] at q;cases q;exact n ps rfl
  rw [upd_ne hb];exact s.at_ b u n q,fun t=>Tabs.over (s.tabs t) e⟩
end L2

set_option Elab.async false
set_option linter.all false
set_option maxRecDepth 100000
set_option maxHeartbeats 4000000
namespace Gu
open PySem L2
section
variable {P:Program} {w:World} {K:PySem.W.Frag} {mg:Str→Option Value} {base:Heap} {f g:Addr} {fd gd:FuncData} {CX:CXT} [NoE CX]
abbrev nGt:List Str:=["guise","rows","seen","row","rearranging","goings","going"]
theorem scGt:FnScope nGt ["guise","rows"] (defScope sGoneTo):=⟨rfl,rfl,rfl,by decide +kernel,rfl,by decide +kernel,by decide +kernel⟩
theorem ok_goneto (mli:mg "list"=none) (F:Fun K "gone_to" "gone_to" sGoneTo f fd):FnOk P w K mg base CX 1 f fd ["guise","rows"] (spGoneTo K):=by
 refine F.okc scGt (fun vs H Q E h=>?_) (fun cdv A outer s H vs Q E hr h=>?_)
 ·obtain ⟨v,a,rows,n,rs,rfl,_⟩:=h
  rfl
 obtain ⟨v,a,rows,n,rs,rfl,dv,ea,GM,h60,hrs,q⟩:=h
 have hu:=hu_of hr
 refine ⟨_,pss_cons (ps_set (i:=2) scGt.nd rfl (Or.inl rfl) pe_dnewK)
  (pss_cons (ps_for PassesOwn.never rfl (pi_list (pv 1)) (pg_name (i:=3) scGt.nd rfl (Or.inl rfl))
   (pss_cons (ps_asg (pe_ix ix_tup (pv 0) (pv 3) (fun _ _=>rfl)) (pg_tup rfl (pgs_cons (pg_name (i:=4) scGt.nd rfl (Or.inl rfl)) (pgs_cons (pg_name (i:=5) scGt.nd rfl (Or.inl rfl)) pgs_nil))))
   (pss_one (ps_for PassesOwn.never rfl (pi_tup (pv 5)) (pg_name (i:=6) scGt.nd rfl (Or.inl rfl))
    (pss_one (ps_dput hu (pv 2) (pv 6) pe_bl rfl))))))
  (pss_one (ps_ret (pe_callTy (call_list_dK rfl) rfl mli PyProof.Rows.boot_list (pa_cons (pv 2) pa_nil))))),?_⟩
 obtain ⟨av,us,rfl,eav,dus⟩:∃ (av:Addr) (us:List V),v=.ref av∧H av=some (.tup us)∧DrL K H (rowsD rows) us:=by
  simp only [Dr] at dv
  exact dv
 intro d hd0
 have s0:Same H (upd H d (.dK [])):=same_up (Same.refl H) hd0
 have few:∀ o:List Int,o.Nodup→(∀ x∈o,0≤x∧x < (rows.length:Int))→o.length≤60:=fun o h1 h2=>Nat.le_trans (nodup_len h1 h2) h60
 refine ⟨_,rfl,a,rfl,⟨_,SqL.of (s0 _ _ ea)⟩,listO (xs:=rs.map V.int) (fun i σ H2=>∃ u3 u4 u5 u6:Option V,σ=[some (.ref av),some (.ref a),some (.ref d),u3,u4,u5,u6]∧Same H H2∧H2 d=some (.dK (kvT (goneTo rows (rs.take i)))))
  ⟨none,none,none,none,rfl,s0,upd_same⟩ (fun i σ H2 _ h=>by obtain ⟨_,_,_,_,_,s2,_⟩:=h;exact SqL.of (s2 _ _ ea)) (fun i x σ H2 hx h Ed nx=>?_) (fun σ H2 h=>?_)⟩
 ·obtain ⟨u3,u4,u5,u6,rfl,s2,ed⟩:=h
  rw [List.getElem?_map] at hx
  obtain ⟨r,er,rfl⟩:=Option.map_eq_some_iff.mp hx
  have hrm:r∈rs:=List.mem_of_getElem? er
  obtain ⟨r0,r1⟩:=hrs r hrm
  have hti:∀ y∈rs.take i,0≤y∧y < (rows.length:Int):=fun y hy=>hrs y (List.mem_of_mem_take hy)
  obtain ⟨x0,ex0,dx0⟩:=rows_at dus (row_get r0 r1)
  obtain ⟨t,b,c,rfl,et,eb,ec⟩:=rowD_inv dx0
  refine ⟨_,rfl,_,rfl,av,_,_,.ref t,rfl,rfl,SqT.of (s2 _ _ eav),(by have:=atI_nat (j:=r.toNat) ex0;rw [Int.toNat_of_nonneg r0] at this;exact this),t,_,rfl,SqT.of (s2 _ _ et),rfl,_,_,rfl,_,_,rfl,rfl,?_⟩
  refine ⟨_,rfl,c,rfl,⟨_,SqT.of (s2 _ _ ec)⟩,tupO (xs:=(row rows r).2.map V.int) (fun j σ H3=>∃ u:Option V,σ=[some (.ref av),some (.ref a),some (.ref d),some (.int r),some (.ref b),some (.ref c),u]∧Same H H3∧H3 d=some (.dK (kvT (addAll (goneTo rows (rs.take i)) ((row rows r).2.take j)))))
   ⟨_,rfl,s2,ed⟩ (fun j σ H3 _ h=>by obtain ⟨_,_,s3,_⟩:=h;exact SqT.of (s3 _ _ ec)) (fun j x σ H3 hx h Ed2 nx2=>?_) (fun σ H3 h=>?_)⟩
  ·obtain ⟨u,rfl,s3,ed3⟩:=h
   rw [List.getElem?_map] at hx
   obtain ⟨g,eg,rfl⟩:=Option.map_eq_some_iff.mp hx
   have hl:(addAll (goneTo rows (rs.take i)) ((row rows r).2.take j)).length≤60:=few _ (addAll_nodup _ _ (uniq_nd _)) fun y hy=>by
    rcases addAll_mem.mp hy with z | z
    ·exact goneTo_rg GM hti y z
    ·exact GM.go _ (row_mem r0 r1) y (List.mem_of_mem_take z)
   refine ⟨_,rfl,_,rfl,d,_,rfl,DPut.k (k:=Sum.inl g) ed3 (by rw [kvT_len];exact small5 (by omega)),?_⟩
   refine nx2 _ _ ⟨_,rfl,same_over s3 hd0,?_⟩
   rw [uniq_take eg,←kvT_put]
   exact upd_same
  ·obtain ⟨u,rfl,s3,ed3⟩:=h
   refine nx _ _ ⟨_,_,_,_,rfl,s3,?_⟩
   rw [List.length_map,List.take_length] at ed3
   rw [ed3]
   unfold goneTo
   rw [List.take_add_one,er,List.flatMap_append,uniq_app]
   simp
 ·obtain ⟨u3,u4,u5,u6,rfl,s2,ed⟩:=h
  rw [List.length_map,List.take_length] at ed
  refine ⟨_,rfl,d,_,rfl,ed,fun l hl=>?_⟩
  rw [kvT_keys]
  exact q l _ (same_up s2 hl) (s2.free hl) upd_same
abbrev lcSec:Scope:=csc [("at",.local),("guise",.free)]
theorem scSec:FnScope ["guise","row"] ["guise","row"] (defScope sSect):=⟨rfl,rfl,rfl,by decide +kernel,rfl,by decide +kernel,by decide +kernel⟩
theorem csSec:CompS ["guise","row"] (defScope sSect) ["at","guise"] [none,some 0] lcSec:=⟨rfl,by decide +kernel,by decide +kernel,by decide +kernel,rfl,by decide +kernel,by decide +kernel⟩
theorem lsSec:LamS ["at","guise"] ["at"] lcSec:=⟨rfl,rfl,rfl,by decide +kernel,rfl,by decide +kernel,by decide +kernel,by decide +kernel⟩
theorem ok_sect {k Ct cc:Addr} {kd:FuncData} {Ts:List Tb} {T0:Tb} (F:Fun K "section_at" "section_at" sSect f fd) (hcd:fd.code=.ref cc) (hC:PySem.W.CodeHd base cc T0.at_) (hB:BMain base mg) (hT:T0∈Ts) (hTn:∀ T'∈Ts,T'.at_=T0.at_→T'=T0) (hTp:T0.pos=lamPos (defBody sSect)) (hTq:T0.qual=("section_at.<locals>."++"<lambda>":Str))
  (T:FnOk P w K mg base (CXx P w) 6 k kd ["first","row_at"] (spLeastF P w K mg base (CXx P w) 4 Ct)) (bT:Binds K kd ["first","row_at"] []) (kT:PySem.W.keepIn K (.ref k)=true) (mT:mg "least_form"=some (.ref k)):FnOk P w K mg base (CXx P w) 7 f fd ["guise","row"] (spSect Ts K):=by
 refine F.okL hcd scSec (fun vs H Q E h=>?_) (fun A outer s H vs Q E hr h=>?_)
 ·obtain ⟨v,rows,n,g,rfl,_⟩:=h
  rfl
 obtain ⟨v,rows,n,g,rfl,hTb,dv,GM,hn,h60,g0,g1,gv⟩:=h
 refine ⟨_,pss_one (ps_ret (pe_callL (Ts:=Ts) (T:=T0) T hr rfl mT kT bT (passX fun _ _ _ z=>z) (pv 1) (fun σ H Q Q' h ⟨v,e,q⟩=>⟨v,e,h _ _ q⟩) csSec rfl hC hB (fun _=>rfl) hT hTn hTp hTq)),?_⟩
 obtain ⟨av,us,rfl,eav,dus⟩:∃ (av:Addr) (us:List V),v=.ref av∧H av=some (.tup us)∧DrL K H (rowsD rows) us:=by
  simp only [Dr] at dv
  exact dv
 have G2:=swM_good GM g0 g1
 refine ⟨_,rfl,hTb,fun fa H4 cs f1 f2 f3 C=>?_⟩
 have fin:∀ {H5:Hp},Same H4 H5→SameL Ts H (utk H5 cs):=fun s5=>(Same.l (Same.refl H)).trans (f2 _ s5)
 have eav4:=f1 _ _ (fun _ z=>by cases z) ((Same.refl H) _ _ eav)
 have dus4:DrL K H4 (rowsD rows) us:=(dus.mono (Same.refl H)).monoL (Ts:=[]) ⟨f1,fun _ _ h=>absurd h (by simp)⟩
 have RN:=swM_rowsN (s:=g) g0 g1 dus4
 refine ⟨fa,n,swM rows g,sw g,(by rw [sw_zero]),sw_inj g,?_,G2,hn,fun h6 v H5 s5 d=>gv v _ (fin s5) (d.nfr (NFr.utk f3 s5)),fun h6=>absurd h6 (by have:=shr_le G2;rw [swM_len] at this;omega)⟩
 refine CallV.lam (k:=3) C lsSec (fun _ _ _ _ us hl=>by obtain ⟨a9,rfl⟩:=len1 hl;rfl) rfl (fun vs H Q h=>?_) (fun H' s' A outer s cd clos cs vs Q hr nf h=>?_)
 ·obtain ⟨i,rfl,_⟩:=h
  rfl
 obtain ⟨i,rfl,h0,h1',gq⟩:=h
 obtain ⟨j0,v,ev,dv'⟩:=RN i h0 h1'
 refine ⟨_,pe_ix ix_tup (pv 1) (pv 0) (fun _ _=>rfl),?_⟩
 refine ⟨_,rfl,_,rfl,av,us,sw g i,v,rfl,rfl,SqT.of (nf _ _ (fun _ z=>by cases z) (s' _ _ eav4)),atI_of j0 ev,fun hc=>?_⟩
 have sr:=Same.rtk (H:=H') (H1:=utk H' cs) (cs:=cs) (Same.refl _)
 exact gq v _ sr ((dv'.mono s').mono sr)
end
end Gu

set_option Elab.async false
set_option linter.all false
set_option maxRecDepth 100000
set_option maxHeartbeats 4000000
namespace Gu
open PySem L2
section
variable {P:Program} {w:World} {K:PySem.W.Frag} {mg:Str→Option Value} {base:Heap} {f g:Addr} {fd gd:FuncData} {CX:CXT} [NoE CX]
abbrev nCa:List Str:=["guise","row","found","seen","at","going"]
theorem scCa:FnScope nCa ["guise","row"] (defScope sComesA):=⟨rfl,rfl,rfl,by decide +kernel,rfl,by decide +kernel,by decide +kernel⟩
theorem csCa:CompS nCa (defScope sComesA) ["going"] [none] (csc [(".0",.local),("going",.local)]):=⟨rfl,by decide +kernel,by decide +kernel,by decide +kernel,rfl,by decide +kernel,by decide +kernel⟩
theorem go_step {n:Nat} {M:List Row} (G:GoodM n M) {r x g:Int} {v:List Int} (lv:LW n v) (r0:0≤r) (r1:r < (M.length:Int)) (e:goW M r v=x) (hg:g∈(row M x).2):∃ u,u≠[]∧LW n u∧goW M r u=g:=by
 obtain ⟨a,b⟩:=goW_rg G lv r0 r1
 rw [e] at a b
 obtain ⟨i,hi,ei⟩:=List.mem_iff_getElem.mp hg
 have hn:=G.len _ (row_mem a b)
 refine ⟨v++[(i:Int)],by simp,lw_snoc lv (by omega),?_⟩
 rw [goW_app,e]
 show (row M x).2.getD ((i:Int)).toNat 0=g
 rw [Int.toNat_natCast,List.getD_eq_getElem?_getD,List.getElem?_eq_getElem hi]
 exact ei
structure Fnd (n:Nat) (M:List Row) (r:Int) (o:List Int):Prop where
 nd:o.Nodup
 rg:∀ x∈o,0≤x∧x < (M.length:Int)
 st:∀ g∈(row M r).2,g∈o
 re:∀ x∈o,∃ u,u≠[]∧LW n u∧goW M r u=x
theorem Fnd.add {n:Nat} {M:List Row} (G:GoodM n M) {r:Int} (r0:0≤r) (r1:r < (M.length:Int)) {o:List Int} (h:Fnd n M r o) {x g:Int} (hx:x∈o) (hg:g∈(row M x).2):Fnd n M r (addN o g):=by
 obtain ⟨a,b⟩:=h.rg x hx
 obtain ⟨u,une,lu,eu⟩:=h.re x hx
 refine ⟨addN_nodup h.nd,fun y hy=>?_,fun y hy=>addN_mem_iff.mpr (.inl (h.st y hy)),fun y hy=>?_⟩
 ·rcases addN_mem_iff.mp hy with z | z
  ·exact h.rg y z
  ·rw [z];exact G.go _ (row_mem a b) g hg
 ·rcases addN_mem_iff.mp hy with z | z
  ·exact h.re y z
  ·rw [z];exact go_step G lu r0 r1 eu hg
theorem Fnd.all {n:Nat} {M:List Row} (G:GoodM n M) {r:Int} (r0:0≤r) (r1:r < (M.length:Int)) {x:Int}:∀ (gs:List Int) (o:List Int),Fnd n M r o→x∈o→(∀ g∈gs,g∈(row M x).2)→Fnd n M r (addAll o gs)
 | [],_,h,_,_=>h
 | g::gs,o,h,hx,hg=>Fnd.all G r0 r1 gs (addN o g) (h.add G r0 r1 hx (hg g List.mem_cons_self)) (addN_mem_iff.mpr (.inl hx)) fun y hy=>hg y (List.mem_cons_of_mem _ hy)
theorem fnd_end {n:Nat} {M:List Row} (G:GoodM n M) {r:Int} (r0:0≤r) (r1:r < (M.length:Int)) {o:List Int} (h:Fnd n M r o) (cl:∀ x∈o,∀ g∈(row M x).2,g∈o):decide (r∈o)=true↔Lp n M r:=by
 rw [decide_eq_true_iff]
 constructor
 ·exact fun hr=>h.re r hr
 ·rintro ⟨v,vne,lv,e⟩
  cases v with
  | nil=>exact absurd rfl vne
  | cons l v =>
   obtain ⟨l0,l1⟩:=lv l List.mem_cons_self
   obtain ⟨_,_,g2⟩:=go_get G r0 r1 (show l.toNat < n by omega)
   have:=goW_all (n:=n) (M:=M) (C:=fun z=>z∈o) (fun z hz=>G.len _ (row_mem (h.rg z hz).1 (h.rg z hz).2)) (fun z hz g hg=>cl z hz g hg) v _ lv.tail (h.st _ g2)
   have e':goW M ((row M r).2.getD l.toNat 0) v=r:=e
   rw [e'] at this
   exact this
theorem ok_comesa (ml:mg "len"=none) (F:Fun K "comes_again" "comes_again" sComesA f fd)
  {aG:Addr} {dG:FuncData} (G:FnOk P w K mg base CX 1 aG dG ["guise","rows"] (spGoneTo K)) (bG:Binds K dG ["guise","rows"] []) (kG:PySem.W.keepIn K (.ref aG)=true) (mG:mg "gone_to"=some (.ref aG)):FnOk P w K mg base CX 2 f fd ["guise","row"] (spComesA K):=by
 refine F.okc scCa (fun vs H Q E h=>?_) (fun cdv A outer s H vs Q E hr h=>?_)
 ·obtain ⟨v,rows,n,r,rfl,_⟩:=h
  rfl
 obtain ⟨v,rows,n,r,rfl,dv,GM,n2,h60,r0,r1,q⟩:=h
 have hu:=hu_of hr
 refine ⟨_,pss_cons (ps_set (i:=2) scCa.nd rfl (Or.inl rfl) (pe_call G hr rfl mG kG bG .nil passN (pa_cons (pv 0) (pa_cons (pe_lst (pa_cons (pv 1) pa_nil)) pa_nil))))
  (pss_cons (ps_compD (i:=3) rfl csCa (pi_list (pv 2)) (fun _ _ _ _ _=>pg_name (i:=0) csCa.nd rfl (Or.inl rfl)) (fun _ _ _ _ _=>pv 0) (fun _ _ _ _ _=>pe_bl) scCa.nd rfl rfl)
  (pss_cons (ps_set (i:=4) scCa.nd rfl (Or.inl rfl) pe_int)
  (pss_cons (ps_while PassesOwn.never (pt_cmpR op_lt (pv 4) (pe_callB call_len_seq rfl ml PySem.boot_len (pa_cons (pv 2) pa_nil)) (nomark _))
   (pss_cons (ps_for PassesOwn.never rfl (pi_list (pe_call G hr rfl mG kG bG .nil passN (pa_cons (pv 0) (pa_cons (pe_lst (pa_cons (pe_ix ix_list (pv 2) (pv 4) (fun _ _=>rfl)) pa_nil)) pa_nil)))) (pg_name (i:=5) scCa.nd rfl (Or.inl rfl))
    (pss_one (ps_if (pt_cmp (pc_dnotin hu (pv 5) (pv 3))) (pss_cons (ps_dput hu (pv 3) (pv 5) pe_bl rfl)
     (pss_one (ps_expr (pe_bm PySem.F.plainAttrs_list PySem.F.slot_list_append PySem.F.type_list_append mt_append (pv 2) (pa_cons (pv 5) pa_nil))))) pss_nil)))
   (pss_one (ps_aug (i:=4) scCa.nd rfl (Or.inl rfl) pe_int ip_add))))
  (pss_one (ps_ret (pe_cmp (pc_din hu (pv 1) (pv 3)))))))),?_⟩
 have hrow:=row_mem r0 r1
 have hgo:=GM.go _ hrow
 have few:∀ o,Fnd n rows r o→o.length≤60:=fun o h=>Nat.le_trans (nodup_len h.nd h.rg) h60
 refine ⟨_,rfl,_,rfl,by show 1≤sizeLine;decide,fun l0 hl0=>?_⟩
 have s0:=same_up (o:=HO.lst [V.int r]) (Same.refl H) hl0
 refine ⟨v,l0,rows,n,[r],rfl,dv.mono s0,upd_same,GM,h60,fun x hx=>by rw [List.mem_singleton.mp hx];exact ⟨r0,r1⟩,fun lf H1 s1 hlf0 ef=>?_⟩
 have s01:=s0.trans s1
 have hlf:H lf=none:=s0.free hlf0
 rw [goneTo_one] at ef
 have F0:Fnd n rows r (uniq (row rows r).2):=⟨uniq_nd _,fun x hx=>hgo x (mem_uniq.mp hx),fun g hg=>mem_uniq.mpr hg,fun x hx=>go_step GM (v:=[]) (fun _ z=>by simp at z) r0 r1 rfl (mem_uniq.mp hx)⟩
 refine ⟨_,rfl,lf,rfl,⟨_,SqL.of ef⟩,fun ld hld=>compD_list (xs:=(uniq (row rows r).2).map V.int) (fun j ys H2=>ys=kvT ((uniq (row rows r).2).take j)∧j≤(uniq (row rows r).2).length∧Same H1 H2) ⟨rfl,Nat.zero_le _,same_up (Same.refl H1) hld⟩ (fun j ys H2 _ h=>SqL.of (h.2.2 _ _ ef)) (fun j ys H2 hj h=>?_) (fun j x ys H2 hx h hy=>?_) (fun ys H2 h hy=>?_)⟩
 ·rw [h.1,kvT_len,List.length_take]
  exact small5 (by have:=few _ F0;omega)
 ·obtain ⟨rfl,hj,s2⟩:=h
  rw [List.getElem?_map] at hx
  obtain ⟨g,eg,rfl⟩:=Option.map_eq_some_iff.mp hx
  have hjl:j < (uniq (row rows r).2).length:=(List.getElem?_eq_some_iff.mp eg).1
  have ep:putK (kvT ((uniq (row rows r).2).take j)) (Sum.inl g) (V.bl true)=kvT ((uniq (row rows r).2).take (j+1)):=by
   rw [kvT_put,List.take_add_one,eg]
   rw [addN_new (nd_take (uniq_nd _) eg)]
   rfl
  refine ⟨_,rfl,Sum.inl g,rfl,hy,?_⟩
  rw [ep]
  exact ⟨rfl,by omega,same_over s2 hld⟩
 obtain ⟨rfl,_,s2⟩:=h
 rw [List.length_map,List.take_length] at hy
 have hld0:H ld=none:=s01.free hld
 have nfd:lf≠ld:=ne_of_none ef hld
 have s02:=s01.trans s2
 have ef2:=s2 _ _ ef
 generalize uniq (row rows r).2=o0 at *
 refine ⟨fun m σ H3=>∃ (i:Nat) (o:List Int) (u5:Option V),m=rows.length+1 - i∧σ=[some v,some (.int r),some (.ref lf),some (.ref ld),some (.int (i:Int)),u5]∧Same H H3∧H3 lf=some (.lst (o.map V.int))∧H3 ld=some (.dK (kvT o))∧Fnd n rows r o∧i≤o.length∧∀ (j:Nat) (x:Int),j < i→o[j]?=some x→∀ g∈(row rows x).2,g∈o,
  ⟨_,0,o0,none,rfl,rfl,s02,ef2,hy,F0,Nat.zero_le _,fun j x hj=>absurd hj (by omega)⟩,?_⟩
 rintro m σ H3 ⟨i,o,u5,rfl,rfl,s3,e1,e2,Fo,hi,cl⟩
 have hol:(o.map V.int).length=o.length:=List.length_map _
 have ho60:=Nat.le_trans (nodup_len Fo.nd Fo.rg) (Nat.le_refl _)
 refine ⟨_,rfl,_,rfl,lf,_,rfl,.inl (SqL.of e1),_,_,rfl,rfl,_,rfl,?_⟩
 refine ite2 (fun c=>?_) (fun c=>?_)
 ·have c':=of_decide_eq_true c
  rw [hol] at c'
  have hio:i < o.length:=by omega
  have eo:o[i]?=some o[i]:=List.getElem?_eq_getElem hio
  have hxo:o[i]∈o:=List.getElem_mem hio
  generalize o[i]=x at eo hxo
  obtain ⟨x0,x1⟩:=Fo.rg x hxo
  refine cutN fun N nx=>?_
  refine ⟨_,rfl,_,rfl,_,rfl,lf,_,_,V.int x,rfl,rfl,SqL.of e1,atI_nat (by rw [List.getElem?_map,eo];rfl),by show 1≤sizeLine;decide,fun l4 hl4=>?_⟩
  have s4:=same_up (o:=HO.lst [V.int x]) (Same.refl H3) hl4
  refine ⟨v,l4,rows,n,[x],rfl,dv.mono (s3.trans s4),upd_same,GM,h60,fun y hy=>by rw [List.mem_singleton.mp hy];exact ⟨x0,x1⟩,fun lg H5 s5 hlg eg5=>?_⟩
  rw [goneTo_one] at eg5
  have s35:=s4.trans s5
  have e1':=s35 _ _ e1
  have e2':=s35 _ _ e2
  have ngf:lg≠lf:=fun z=>by rw [z,s4 _ _ e1] at hlg;cases hlg
  have ngd:lg≠ld:=fun z=>by rw [z,s4 _ _ e2] at hlg;cases hlg
  refine ⟨lg,rfl,⟨_,SqL.of eg5⟩,listO (xs:=(uniq (row rows x).2).map V.int) (fun j σ H6=>∃ u:Option V,σ=[some v,some (.int r),some (.ref lf),some (.ref ld),some (.int (i:Int)),u]∧Same H H6∧H6 lg=some (.lst ((uniq (row rows x).2).map V.int))∧H6 lf=some (.lst ((addAll o ((uniq (row rows x).2).take j)).map V.int))∧H6 ld=some (.dK (kvT (addAll o ((uniq (row rows x).2).take j)))))
   ⟨_,rfl,s3.trans s35,eg5,e1',e2'⟩ (fun j σ H6 _ h=>by obtain ⟨_,_,_,e,_⟩:=h;exact SqL.of e) (fun j y σ H6 hy6 h Ed nx3=>?_) (fun σ H6 h=>?_)⟩
  ·obtain ⟨u,rfl,s6,eg6,e16,e26⟩:=h
   rw [List.getElem?_map] at hy6
   obtain ⟨g,egj,rfl⟩:=Option.map_eq_some_iff.mp hy6
   have hgm:g∈(row rows x).2:=mem_uniq.mp (List.mem_of_getElem? egj)
   have Fj:=Fnd.all GM r0 r1 ((uniq (row rows x).2).take j) o Fo hxo fun y hy=>mem_uniq.mp (List.mem_of_mem_take hy)
   have hlj:=few _ Fj
   have et:=uniq_take egj o
   refine ⟨_,rfl,_,rfl,ld,_,rfl,DGet.k (k:=Sum.inl g) e26,_,rfl,?_⟩
   rw [kvT_val]
   by_cases hm:g∈addAll o ((uniq (row rows x).2).take j)
   ·rw [decide_eq_true hm]
    refine iteF (nx3 _ _ ⟨_,rfl,s6,eg6,?_,?_⟩)
    ·rw [et,addN_mem hm];exact e16
    ·rw [et,addN_mem hm];exact e26
   ·rw [decide_eq_false hm]
    refine iteT ⟨_,rfl,_,rfl,ld,_,rfl,DPut.k (k:=Sum.inl g) e26 (by rw [kvT_len];exact small5 (by omega)),?_⟩
    rw [kvT_put,←et]
    have e17:upd H6 ld (HO.dK (kvT (addAll o ((uniq (row rows x).2).take (j+1))))) lf=some (.lst ((addAll o ((uniq (row rows x).2).take j)).map V.int)):=by rw [upd_ne nfd];exact e16
    have s67:Same H (upd H6 ld (HO.dK (kvT (addAll o ((uniq (row rows x).2).take (j+1)))))):=same_over s6 hld0
    refine ⟨_,rfl,.inl ⟨rfl,_,SqL.of e17⟩,_,rfl,lf,_,_,rfl,rfl,e17,by rw [List.length_map];exact small5 (by omega),?_⟩
    refine nx3 _ _ ⟨_,rfl,same_over s67 hlf,?_,?_,?_⟩
    ·rw [upd_ne ngf,upd_ne ngd];exact eg6
    ·rw [et,addN_new hm,List.map_append];exact upd_same
    ·rw [upd_ne (Ne.symm nfd)];exact upd_same
  ·obtain ⟨u,rfl,s6,eg6,e16,e26⟩:=h
   rw [List.length_map,List.take_length] at e16 e26
   have Fj:=Fnd.all GM r0 r1 (uniq (row rows x).2) o Fo hxo fun y hy=>mem_uniq.mp hy
   obtain ⟨mm,emm⟩:=addAll_sub (uniq (row rows x).2) o
   have ni:i < rows.length:=by have:=nodup_len Fo.nd Fo.rg;omega
   refine ⟨_,rfl,_,_,rfl,rfl,?_⟩
   refine nx (rows.length+1 - (i+1)) _ _ (by omega) ⟨i+1,_,_,rfl,(by rw [show ((i+1:Nat):Int)=(i:Int)+1 by omega];rfl),s6,e16,e26,Fj,by rw [emm,List.length_append];omega,fun j y hj ey g hg=>?_⟩
   rw [emm,List.getElem?_append_left (by omega)] at ey
   by_cases ej:j=i
   ·rw [ej,eo] at ey
    cases ey
    exact addAll_mem.mpr (.inr (mem_uniq.mpr hg))
   ·exact addAll_mem.mpr (.inl (cl j y (by omega) ey g hg))
 ·have c':¬ ((i:Int) < (((o.map V.int).length:Nat):Int)):=fun z=>c (decide_eq_true z)
  rw [hol] at c'
  refine ⟨_,rfl,_,rfl,ld,_,rfl,DGet.k (k:=Sum.inl r) e2,?_⟩
  rw [kvT_val]
  refine q _ (fnd_end GM r0 r1 Fo fun x hx=>?_) H3 s3
  obtain ⟨j,hj,rfl⟩:=List.mem_iff_getElem.mp hx
  exact cl j _ (by omega) (List.getElem?_eq_getElem hj)
end
end Gu

set_option Elab.async false
set_option linter.all false
set_option maxRecDepth 100000
set_option maxHeartbeats 4000000
namespace Gu
open PySem L2
section
variable {P:Program} {w:World} {K:PySem.W.Frag} {mg:Str→Option Value} {base:Heap} {f g:Addr} {fd gd:FuncData} {CX:CXT} [NoE CX]
abbrev nL26:List Str:=["_law_script","_law_letters_here","_law_one","_law_other","_law_both"]
theorem scL26:FnScope nL26 ["_law_script"] (defScope sLaw):=⟨rfl,rfl,rfl,by decide +kernel,rfl,by decide +kernel,by decide +kernel⟩
theorem ok_law {Ts:List Tb} (ml:mg "len"=none) (F:Fun K "law" "law" sLaw f fd)
  {aC:Addr} {dC:FuncData} (C:FnOk P w K mg base (CXx P w) 9 aC dC ["_law_script","_law_at"] (spCell K)) (bC:Binds K dC ["_law_script","_law_at"] []) (kC:PySem.W.keepIn K (.ref aC)=true) (mC:mg "_law_cell"=some (.ref aC))
  {aL:Addr} {dL:FuncData} (L:FnOk P w K mg base (CXx P w) 9 aL dL ["_law_script","_law_at"] (spLetters K)) (bL:Binds K dL ["_law_script","_law_at"] []) (kL:PySem.W.keepIn K (.ref aL)=true) (mL:mg "_law_letters"=some (.ref aL))
  {aG:Addr} {dG:FuncData} (G:FnOk P w K mg base (CXx P w) 9 aG dG ["_law_letters_here","_law_cell_here"] (spGuise K)) (bG:Binds K dG ["_law_letters_here","_law_cell_here"] []) (kG:PySem.W.keepIn K (.ref aG)=true) (mG:mg "_law_guise"=some (.ref aG))
  {aA0:Addr} {dA0:FuncData} (A0:FnOk P w K mg base (CXx P w) 9 aA0 dA0 ["_law_letters_here","_law_cell_here"] (spAmple K)) (bA0:Binds K dA0 ["_law_letters_here","_law_cell_here"] []) (kA0:PySem.W.keepIn K (.ref aA0)=true) (mA0:mg "_law_ample"=some (.ref aA0))
  {aZ:Addr} {dZ:FuncData} (Z:FnOk P w K mg base (CXx P w) 9 aZ dZ ["_law_rows_here","_law_start"] (spShrunk K)) (bZ:Binds K dZ ["_law_rows_here","_law_start"] []) (kZ:PySem.W.keepIn K (.ref aZ)=true) (mZ:mg "_law_shrunk"=some (.ref aZ))
  {aPq:Addr} {dPq:FuncData} (Pq:FnOk P w K mg base (CXx P w) 9 aPq dPq ["_law_one","_law_other"] (spPairsL K)) (bPq:Binds K dPq ["_law_one","_law_other"] []) (kPq:PySem.W.keepIn K (.ref aPq)=true) (mPq:mg "_law_pairs"=some (.ref aPq))
  {aR:Addr} {dR:FuncData} (R:FnOk P w K mg base (CXx P w) 9 aR dR ["_law_one"] (spRight26 Ts K)) (bR:Binds K dR ["_law_one"] []) (kR:PySem.W.keepIn K (.ref aR)=true) (mR:mg "_law_right"=some (.ref aR)):FnOk P w K mg base (CXx P w) 10 f fd ["_law_script"] (spLawL Ts K):=by
 refine F.okc scL26 (fun vs H Q E h=>?_) (fun cdv A' outer s H vs Q E' hr h=>?_)
 ·obtain ⟨a,ns,rfl,_⟩:=h
  rfl
 obtain ⟨a,ns,rfl,hS,h63,hTb,q⟩:=h
 have n2:=letN_ge ns 0
 have n5:=letN_le ns 0
 refine ⟨_,pss_cons (ps_set (i:=1) scL26.nd rfl (Or.inl rfl) (pe_call L hr rfl mL kL bL .nil passN (pa_cons (pv 0) (pa_cons pe_int pa_nil))))
  (pss_cons (ps_set (i:=2) scL26.nd rfl (Or.inl rfl) (pe_call A0 hr rfl mA0 kA0 bA0 .nil passN (pa_cons (pv 1) (pa_cons (pe_call C hr rfl mC kC bC .nil passN (pa_cons (pv 0) (pa_cons pe_int pa_nil))) pa_nil))))
  (pss_cons (ps_set (i:=3) scL26.nd rfl (Or.inl rfl) (pe_call G hr rfl mG kG bG .nil passN (pa_cons (pv 1) (pa_cons (pe_call C hr rfl mC kC bC .nil passN (pa_cons (pv 0) (pa_cons pe_int pa_nil))) pa_nil))))
  (pss_cons (ps_set (i:=4) scL26.nd rfl (Or.inl rfl) (pe_call Z hr rfl mZ kZ bZ .nil passN (pa_cons (pe_call Pq hr rfl mPq kPq bPq .nil passN (pa_cons (pv 2) (pa_cons (pv 3) pa_nil))) (pa_cons pe_int pa_nil))))
  (pss_cons (ps_if (PW.pt (pw_and (pt_cmp (pc_eqI (pe_op op_mod (pe_call C hr rfl mC kC bC .nil passN (pa_cons (pv 0) (pa_cons pe_int pa_nil))) pe_int) pe_int)) (pw_and1 (pt_cmpR op_le (pe_callB call_len_seq rfl ml PySem.boot_len (pa_cons (pv 4) pa_nil)) pe_int (nomark _))))) (pss_one (ps_set (i:=2) scL26.nd rfl (Or.inl rfl) (pv 4))) pss_nil)
  (pss_one (ps_ret (pe_and (pe_call R hr rfl mR kR bR .nil passN (pa_cons (pv 2) pa_nil)) (pe_and (pe_call R hr rfl mR kR bR .nil passN (pa_cons (pv 3) pa_nil)) (pe_one (pe_call R hr rfl mR kR bR .nil passN (pa_cons (pv 2) pa_nil))))))))))),?_⟩
 generalize hn:letN ns 0=n at *
 refine seqG fun R1 hR1=>?_
 refine ⟨_,rfl,a,ns,0,rfl,hS,h63,by omega,?_⟩
 rw [hn]
 refine atR (R:=R1) hR1 ?_
 refine seqG fun R2 hR2=>?_
 refine ⟨_,rfl,_,rfl,a,ns,1,rfl,hS,h63,by omega,n,_,rfl,n2,n5,fun v1 H1 r1 s1 G1 l1 d1=>?_⟩
 have GA:=shr_good G1
 have fA:=shr_shr G1
 have hA:(shr r1).length≤48:=by have:=shr_le G1;omega
 generalize shr r1=RA at *
 refine atR (R:=R2) hR2 ?_
 refine seqG fun R3 hR3=>?_
 refine ⟨_,rfl,_,rfl,a,ns,2,rfl,s1.seq hS,h63,by omega,n,_,rfl,n2,n5,fun v2 H2 r2 s2 G2 l2 d2=>?_⟩
 have GB:=shr_good G2
 have fB:=shr_shr G2
 have hB:(shr r2).length≤8:=by have:=shr_le G2;omega
 generalize shr r2=RB at *
 have s02:=s1.trans s2
 replace d1:=d1.mono s2
 refine atR (R:=R3) hR3 ?_
 refine seqG fun R4 hR4=>?_
 have GP:=prodM_good GA GB (Nat.le_trans (Nat.mul_le_mul hA hB) (by omega))
 refine ⟨_,rfl,_,rfl,v1,v2,n,RA,RB,rfl,d1,d2,GA,GB,by omega,by omega,by omega,fun lp H3 s3 rp=>?_⟩
 refine ⟨lp,n,prodM RA RB,rfl,rp,GP,by omega,fun v3 H4 s4 d4=>?_⟩
 have GC:=shr_good GP
 have fC:=shr_shr GP
 generalize shr (prodM RA RB)=RC at *
 have s04:=s02.trans (s3.trans s4)
 replace d1:=d1.mono (s3.trans s4)
 replace d2:=d2.mono (s3.trans s4)
 obtain ⟨a3,u3,rfl,ea3,du3⟩:∃ (av:Addr) (us:List V),v3=.ref av∧H4 av=some (.tup us)∧DrL K H4 (rowsD RC) us:=by
  simp only [Dr] at d4
  exact d4
 have hl3:u3.length=RC.length:=by rw [←du3.length];unfold rowsD;rw [List.length_map]
 refine atR (R:=R4) hR4 ?_
 refine cutQ (fun σ' H'=>∃ (v:V) (RD:List Row),σ'=[some (.ref a),some (.int n),some v,some v2,some (.ref a3)]∧H'=H4∧Dr K H4 (D.tup (rowsD RD)) v∧GoodM n RD∧shr RD=RD∧RD.length≤48) (fun Ed nx=>?_) (fun σ' H5 h=>?_)
 ·refine ⟨_,rfl,a,ns,3,rfl,s04.seq hS,h63,by omega,_,_,rfl,rfl,pmod,_,_,rfl,rfl,_,rfl,ite2 (fun _=>?_) (fun _=>?_)⟩
  ·refine ⟨_,rfl,a3,_,rfl,.inr (SqT.of ea3),_,_,rfl,rfl,_,rfl,?_⟩
   rw [hl3]
   refine ite2 (fun c=>?_) (fun _=>nx _ _ ⟨v1,RA,rfl,rfl,d1,GA,fA,hA⟩)
   have c':=of_decide_eq_true c
   exact ⟨_,rfl,nx _ _ ⟨.ref a3,RC,rfl,rfl,d4,GC,fC,by omega⟩⟩
  ·exact nx _ _ ⟨v1,RA,rfl,rfl,d1,GA,fA,hA⟩
 ·obtain ⟨v,RD,rfl,rfl,dD,GD,fD,hD⟩:=h
  refine ⟨_,rfl,v,RD,n,rfl,Tabs.mono hTb s04,dD,GD,fD,n2,n5,hD,fun H5 s5=>⟨true,rfl,iteT ?_⟩⟩
  refine ⟨_,rfl,v2,RB,n,rfl,s5.tabs (Tabs.mono hTb s04),d2.monoL s5,GB,fB,n2,n5,by omega,fun H6 s6=>⟨true,rfl,iteT ?_⟩⟩
  have s56:=s5.trans s6
  exact ⟨_,rfl,v,RD,n,rfl,s56.tabs (Tabs.mono hTb s04),dD.monoL s56,GD,fD,n2,n5,hD,fun H7 s7=>q _⟩
end
end Gu

set_option Elab.async false
set_option linter.all false
set_option maxRecDepth 100000
set_option maxHeartbeats 4000000
namespace Gu
open PySem L2
section
variable {P:Program} {w:World} {K:PySem.W.Frag} {mg:Str→Option Value} {base:Heap} {f g:Addr} {fd gd:FuncData} {CX:CXT} [NoE CX]
abbrev nR26:List Str:=["_law_one","_law_due","_law_found","_law_kept","_law_late"]
theorem scR26:FnScope nR26 ["_law_one"] (defScope sRight):=⟨rfl,rfl,rfl,by decide +kernel,rfl,by decide +kernel,by decide +kernel⟩
theorem csR26:CompS nR26 (defScope sRight) ["_law_at","_law_due","_law_one"] [none,some 1,some 0] (csc [(".0",.local),("_law_at",.local),("_law_comes_again",.globalImplicit),("_law_due",.free),("_law_one",.free)]):=⟨rfl,by decide +kernel,by decide +kernel,by decide +kernel,rfl,by decide +kernel,by decide +kernel⟩
theorem csR262:CompS nR26 (defScope sRight) ["_law_at","_law_one"] [none,some 0] (csc [(".0",.local),("_law_at",.local),("_law_shrunk",.globalImplicit),("_law_one",.free)]):=⟨rfl,by decide +kernel,by decide +kernel,by decide +kernel,rfl,by decide +kernel,by decide +kernel⟩
theorem ok_right26 {Ts:List Tb} (ml:mg "len"=none) (mr:mg "range"=none) (mset:mg "set"=none) (F:Fun K "_law_right" "_law_right" sRight f fd)
  {aZ:Addr} {dZ:FuncData} (Z:FnOk P w K mg base (CXx P w) 8 aZ dZ ["_law_rows_here","_law_start"] (spShrunkN K)) (bZ:Binds K dZ ["_law_rows_here","_law_start"] []) (kZ:PySem.W.keepIn K (.ref aZ)=true) (mZ:mg "_law_shrunk"=some (.ref aZ))
  {aX0:Addr} {dX0:FuncData} (X0:FnOk P w K mg base (CXx P w) 8 aX0 dX0 ["guise"] (spSectionsN Ts K)) (bX0:Binds K dX0 ["guise"] []) (kX0:PySem.W.keepIn K (.ref aX0)=true) (mX0:mg "sections"=some (.ref aX0))
  {aI:Addr} {dI:FuncData} (I:FnOk P w K mg base (CXx P w) 8 aI dI ["_law_found","_law_due"] (spLike K 5)) (bI:Binds K dI ["_law_found","_law_due"] []) (kI:PySem.W.keepIn K (.ref aI)=true) (mI:mg "_law_like"=some (.ref aI))
  {aC:Addr} {dC:FuncData} (C:FnOk P w K mg base (CXx P w) 8 aC dC ["_law_one","_law_start"] (spComesL K)) (bC:Binds K dC ["_law_one","_law_start"] []) (kC:PySem.W.keepIn K (.ref aC)=true) (mC:mg "_law_comes_again"=some (.ref aC))
  {aLa:Addr} {dLa:FuncData} (La:FnOk P w K mg base (CXx P w) 8 aLa dLa ["guise"] (spLastingN Ts K)) (bLa:Binds K dLa ["guise"] []) (kLa:PySem.W.keepIn K (.ref aLa)=true) (mLa:mg "lasting"=some (.ref aLa)):FnOk P w K mg base (CXx P w) 9 f fd ["_law_one"] (spRight26 Ts K):=by
 refine F.okc scR26 (fun vs H Q E h=>?_) (fun cdv A outer s H vs Q E hr h=>?_)
 ·obtain ⟨v,rows,n,rfl,_⟩:=h
  rfl
 obtain ⟨v,rows,n,rfl,hTb,dv,GM,hf,n2,n5,h48,gv⟩:=h
 have hu:=hr.units
 refine ⟨_,pss_cons (ps_set (i:=1) scR26.nd rfl (Or.inr rfl) (pe_comp rfl csR262 (pi_range1 rfl mr (pa_cons (pe_callB call_len_seq rfl ml PySem.boot_len (pa_cons (pv 0) pa_nil)) pa_nil)) (fun _ _ _ _ _=>pg_name (i:=0) csR262.nd rfl (Or.inl rfl)) (fun _ _ _ _ _=>pe_call Z hr rfl mZ kZ bZ .nil passN (pa_cons (pv 1) (pa_cons (pv 0) pa_nil)))))
  (pss_cons (ps_set (i:=2) scR26.nd rfl (Or.inl rfl) (pe_call X0 hr rfl mX0 kX0 bX0 .nil passN (pa_cons (pv 0) pa_nil)))
  (pss_cons (ps_if (PW.pt (pw_or (pt_not (pt_val (pe_call I hr rfl mI kI bI .nil passN (pa_cons (pv 2) (pa_cons (pv 1) pa_nil))))) (pw_or (pt_cmpR (op_neD K rfl hu) (pe_ix ix_list (pv 2) pe_int (fun _ _=>rfl)) (pv 0) (nomark _)) (pw_or1 (pt_cmp (pc_neI (pe_callB cLenS rfl ml PySem.boot_len (pa_cons (pe_callTy (cSetT K rfl rfl hu) rfl mset PyProof.Rows.boot_set (pa_cons (pv 2) pa_nil)) pa_nil)) (pe_callB call_len_seq rfl ml PySem.boot_len (pa_cons (pv 2) pa_nil)))))))) (pss_one (ps_ret pe_bl)) pss_nil)
  (pss_cons (ps_compF (i:=3) rfl csR26 (pi_range1 rfl mr (pa_cons (pe_callB call_len_seq rfl ml PySem.boot_len (pa_cons (pv 0) pa_nil)) pa_nil)) (fun _ _ _ _ _=>pg_name (i:=0) csR26.nd rfl (Or.inl rfl)) (fun _ _ _ _ _=>pt_val (pe_call C hr rfl mC kC bC .nil passN (pa_cons (pv 2) (pa_cons (pv 0) pa_nil)))) (fun _ _ _ _ _=>pe_ix (ixL K rfl) (pv 1) (pv 0) (fun _ _=>rfl)) scR26.nd rfl rfl)
  (pss_cons (ps_set (i:=4) scR26.nd rfl (Or.inl rfl) (pe_call La hr rfl mLa kLa bLa .nil passN (pa_cons (pv 0) pa_nil)))
  (pss_cons (ps_if (pt_not (pt_val (pe_call I hr rfl mI kI bI .nil passN (pa_cons (pv 4) (pa_cons (pv 3) pa_nil))))) (pss_one (ps_ret pe_bl)) pss_nil)
  (pss_cons (ps_expr (pe_bm0 PySem.F.plainAttrs_list PySem.F.slot_list_pop PySem.F.type_list_pop mt_pop (pv 2)))
  (pss_cons (ps_expr (pe_bm PySem.F.plainAttrs_list PySem.F.slot_list_append PySem.F.type_list_append mt_append (pv 4) (pa_cons (pv 0) pa_nil)))
  (pss_one (ps_ret (pe_and (pe_call I hr rfl mI kI bI .nil passN (pa_cons (pe_call X0 hr rfl mX0 kX0 bX0 .nil passN (pa_cons (pv 0) pa_nil)) (pa_cons (pv 1) pa_nil))) (pe_one (pe_call I hr rfl mI kI bI .nil passN (pa_cons (pe_call La hr rfl mLa kLa bLa .nil passN (pa_cons (pv 0) pa_nil)) (pa_cons (pv 3) pa_nil)))))))))))))),?_⟩
 have h1:=GM.some
 obtain ⟨av,us,rfl,eav,dus⟩:∃ (av:Addr) (us:List V),v=.ref av∧H av=some (.tup us)∧DrL K H (rowsD rows) us:=by
  simp only [Dr] at dv
  exact dv
 have hlu:us.length=rows.length:=by rw [←dus.length];unfold rowsD;rw [List.length_map]
 obtain ⟨sd1,sf1⟩:=secs_small GM (by omega) (by omega)
 obtain ⟨sd2,sf2⟩:=lasts_small GM (by omega) (by omega)
 refine ⟨_,rfl,av,_,rfl,.inr (SqT.of eav),?_⟩
 rw [hlu]
 refine ⟨((rows.length:Nat):Int),rfl,by omega,by omega,fun ld hld=>comp_range (n:=((rows.length:Nat):Int).toNat) (fun i ys H2=>ys.length=i∧i≤rows.length∧Same H H2∧DrL K H2 (fmD (secs rows i)) ys) ⟨rfl,Nat.zero_le _,same_up (Same.refl H) hld,DrL.nil⟩ (by rw [Int.toNat_natCast];exact line_le (by omega)) (fun i ys H2 h=>h.1) (fun i ys H2 hi h hy=>?_) (fun ud H2 h hy=>?_)⟩
 ·obtain ⟨hyl,_,s2',d2'⟩:=h
  have hi':i < rows.length:=by omega
  have G2:=swM_good GM (s:=(i:Int)) (by omega) (by omega)
  refine ⟨_,rfl,_,rfl,av,n,swM rows i,sw i,us,(by rw [sw_zero,Int.zero_add];rfl),.inr (SqT.of (s2' _ _ eav)),swM_rowsN (by omega) (by omega) (dus.mono s2'),sw_inj i,G2,by omega,fun x H3 s3 d3=>?_⟩
  have e3:=s3 _ _ hy
  refine ⟨e3,by rw [List.length_append,hyl];rfl,by omega,same_over (s2'.trans s3) hld,?_⟩
  rw [secs_snoc,fmD_snoc]
  refine DrL.append ((d2'.mono s3).keyed (tup_over e3) (gs_key _)) (DrL.one (d3.keyed (tup_over e3) ?_))
  have:=gs_key [shr (swM rows (i:Int))]
  simp only [List.map_cons,List.map_nil,D.keyL] at this
  exact this.1
 obtain ⟨hyl,_,s2,dd⟩:=h
 rw [Int.toNat_natCast] at dd
 have t2:SameL Ts H H2:=Same.l s2
 refine ⟨_,rfl,.ref av,rows,n,rfl,t2.tabs hTb,dv.monoL t2,GM,by omega,by omega,fun lf H3 uf hlf s3 ef df=>?_⟩
 have t3:=t2.trans s3
 have ed3:=s3.g hy
 have dd3:=dd.monoL s3
 have hlfH:=t2.free2 hlf
 have nfd:lf≠ld:=fun z=>by rw [z,hy] at hlf;cases hlf
 have e0:(secs rows rows.length)[0]?=some rows:=by
  unfold secs
  rw [List.getElem?_map,List.getElem?_range (by omega)]
  show some (shr (swM rows ((0:Nat):Int)))=some rows
  rw [show ((0:Nat):Int)=0 from rfl,swM_zero GM,hf]
 obtain ⟨x0,ex0,dx0⟩:=df.get (show (fmD (secs rows rows.length))[0]?=some (D.tup (rowsD rows)) by unfold fmD;rw [List.getElem?_map,e0];rfl)
 refine ⟨_,rfl,_,rfl,_,_,D.lst (fmD (secs rows rows.length)),rfl,Dr.lst ef df,Dr.lst ed3 dd3,sd1,sf1,fun H4 s4=>⟨true,rfl,iteF ?_⟩⟩
 have t4:=t3.trans (Same.l s4)
 have ef4:=s4 _ _ ef
 have hluf:uf.length=rows.length:=by rw [←df.length,fmD_len,secs_len]
 refine ⟨_,rfl,lf,_,_,x0,rfl,rfl,SqL.of ef4,atI_nat (j:=0) ex0,_,rfl,rowsD rows,rowsD rows,dx0.mono s4,dv.monoL t4,rows_okL _ _,(by have:=rows_dep rows;omega),?_⟩
 rw [D.eq_refl]
 refine ⟨false,rfl,iteF ?_⟩
 refine ⟨_,rfl,lf,uf,fmD (secs rows rows.length),rfl,SqL.of ef4,df.mono s4,secs_key GM (by omega),fm_nodup (secs_nodup GM hf _ (Nat.le_refl _)),by rw [fmD_len,secs_len];omega,fun S hS=>?_⟩
 rw [fmD_len,secs_len]
 refine ⟨S,rows.length,rfl,upd_same,by omega,_,rfl,lf,_,rfl,.inl (SqL.of (same_up (Same.refl H4) hS _ _ ef4)),?_⟩
 rw [hluf]
 refine ⟨_,_,rfl,rfl,_,rfl,ite2 (fun c=>absurd c (by simp)) (fun _=>?_)⟩
 have s5:=same_up (o:=LenO S rows.length) (Same.refl H4) hS
 have t5:=t4.trans (Same.l s5)
 have ef5:=s5 _ _ ef4
 have ed5:=s5 _ _ (s4 _ _ ed3)
 have dd5:=(dd3.mono s4).mono s5
 have df5:=(df.mono s4).mono s5
 generalize upd H4 S (LenO S rows.length)=H5 at s5 t5 ef5 ed5 dd5 df5
 refine ⟨_,rfl,av,_,rfl,.inr (SqT.of (t5.g eav)),?_⟩
 rw [hlu]
 refine ⟨((rows.length:Nat):Int),rfl,by omega,by omega,fun lk hlk=>compF_range (n:=((rows.length:Nat):Int).toNat) (fun i ys H6=>ys.length≤i∧i≤rows.length∧Same H5 H6∧DrL K H6 (fmD (lasts n rows i)) ys) ⟨Nat.le_refl _,Nat.zero_le _,same_up (Same.refl H5) hlk,DrL.nil⟩ (by rw [Int.toNat_natCast];exact line_le (by omega)) (fun i ys H6 h=>h.1) (fun i ys H6 hi h hy6=>?_) (fun uk H6 h hy6=>?_)⟩
 ·obtain ⟨hyl6,_,s6,d6⟩:=h
  have hi':i < rows.length:=by omega
  refine ⟨_,rfl,_,rfl,.ref av,rows,n,(i:Int),(by rw [Int.zero_add];rfl),dv.monoL (t5.trans (Same.l s6)),GM,n5,by omega,by omega,by omega,fun b hb H7 s7=>⟨_,rfl,?_⟩⟩
  have e7:=s7 _ _ hy6
  have s67:=s6.trans s7
  cases b with
  | false =>
   have eb:lpB n rows i=false:=by
    cases z:lpB n rows i with
    | false=>rfl
    | true=>exact absurd (hb.mpr (lpB_iff.mp z)) (by simp)
   exact ⟨e7,by omega,by omega,s67,by rw [lasts_no eb];exact d6.mono s7⟩
  | true =>
   have eb:lpB n rows i=true:=lpB_iff.mpr (hb.mp rfl)
   have ei:(secs rows rows.length)[i]?=some (shr (swM rows (i:Int))):=by
    unfold secs
    rw [List.getElem?_map,List.getElem?_range hi']
    rfl
   obtain ⟨xi,exi,dxi⟩:=(dd5.mono s67).get (show (fmD (secs rows rows.length))[i]?=some (D.tup (rowsD (shr (swM rows (i:Int))))) by unfold fmD;rw [List.getElem?_map,ei];rfl)
   refine ⟨_,rfl,_,rfl,ld,_,_,xi,rfl,rfl,SqL.of (s67 _ _ ed5),(by rw [Int.zero_add];exact atI_nat exi),e7,by rw [List.length_append];simp;omega,by omega,same_over s67 hlk,?_⟩
   rw [lasts_yes eb,fmD_snoc]
   refine DrL.append ((d6.mono s7).keyed (tup_over e7) (gs_key _)) (DrL.one (dxi.keyed (tup_over e7) ?_))
   have:=gs_key [shr (swM rows (i:Int))]
   simp only [List.map_cons,List.map_nil,D.keyL] at this
   exact this.1
 obtain ⟨_,_,s6,dk⟩:=h
 rw [Int.toNat_natCast] at dk
 have t6:=t5.trans (Same.l s6)
 refine ⟨_,rfl,.ref av,rows,n,rfl,t6.tabs hTb,dv.monoL t6,GM,n2,by omega,by omega,fun ll H7 ul hll s7 el dl=>?_⟩
 have t7:=t6.trans s7
 have hllH:=t6.free2 hll
 have ek7:=s7.g hy6
 have dk7:=dk.monoL s7
 have ef7:=s7.g (s6 _ _ ef5)
 have ed7:=s7.g (s6 _ _ ed5)
 have dd7:=(dd5.mono s6).monoL s7
 have df7:=(df5.mono s6).monoL s7
 have nlf:ll≠lf:=fun z=>by rw [z,s6 _ _ ef5] at hll;cases hll
 have nld:ll≠ld:=fun z=>by rw [z,s6 _ _ ed5] at hll;cases hll
 have nlk:ll≠lk:=fun z=>by rw [z,hy6] at hll;cases hll
 have nkf:lk≠lf:=fun z=>by rw [z,ef5] at hlk;cases hlk
 refine ⟨_,rfl,_,rfl,_,_,D.lst (fmD (lasts n rows rows.length)),rfl,Dr.lst el dl,Dr.lst ek7 dk7,sd2,sf2,fun H8 s8=>⟨_,rfl,iteF ?_⟩⟩
 have t8:=t7.trans (Same.l s8)
 have ef8:=s8 _ _ ef7
 have el8:=s8 _ _ el
 have hp:0 < uf.length:=by omega
 have exl:uf[uf.length - 1]?=some uf[uf.length - 1]:=List.getElem?_eq_getElem (by omega)
 refine ⟨_,rfl,.inl ⟨rfl,_,SqL.of ef8⟩,lf,uf,_,rfl,rfl,ef8,exl,?_⟩
 have t9:SameL Ts H (upd H8 lf (.lst uf.dropLast)):=t8.over2 hlfH ef8
 have el9:upd H8 lf (.lst uf.dropLast) ll=some (.lst ul):=by rw [upd_ne nlf];exact el8
 have ek9:upd H8 lf (.lst uf.dropLast) lk=some (.lst uk):=by rw [upd_ne nkf];exact s8 _ _ ek7
 have ed9:upd H8 lf (.lst uf.dropLast) ld=some (.lst ud):=by rw [upd_ne (Ne.symm nfd)];exact s8 _ _ ed7
 have dk9:DrL K (upd H8 lf (.lst uf.dropLast)) (fmD (lasts n rows rows.length)) uk:=(dk7.mono s8).keyed (tup_over ef8) (gs_key _)
 have dd9:DrL K (upd H8 lf (.lst uf.dropLast)) (fmD (secs rows rows.length)) ud:=(dd7.mono s8).keyed (tup_over ef8) (gs_key _)
 generalize upd H8 lf (.lst uf.dropLast)=H9 at t9 el9 ek9 ed9 dk9 dd9
 have hlul:ul.length≤60:=by rw [←dl.length,fmD_len];have:=lasts_le n rows rows.length;omega
 refine ⟨_,rfl,.inl ⟨rfl,_,SqL.of el9⟩,_,rfl,ll,ul,.ref av,rfl,rfl,el9,small1000 (by omega),?_⟩
 have t10:SameL Ts H (upd H9 ll (.lst (ul++[.ref av]))):=t9.over2 hllH el9
 have ek10:upd H9 ll (.lst (ul++[.ref av])) lk=some (.lst uk):=by rw [upd_ne (Ne.symm nlk)];exact ek9
 have ed10:upd H9 ll (.lst (ul++[.ref av])) ld=some (.lst ud):=by rw [upd_ne (Ne.symm nld)];exact ed9
 have dk10:DrL K (upd H9 ll (.lst (ul++[.ref av]))) (fmD (lasts n rows rows.length)) uk:=dk9.keyed (tup_over el9) (gs_key _)
 have dd10:DrL K (upd H9 ll (.lst (ul++[.ref av]))) (fmD (secs rows rows.length)) ud:=dd9.keyed (tup_over el9) (gs_key _)
 generalize upd H9 ll (.lst (ul++[.ref av]))=H10 at t10 ek10 ed10 dk10 dd10
 refine ⟨_,rfl,.ref av,rows,n,rfl,t10.tabs hTb,dv.monoL t10,GM,by omega,by omega,fun l11 H11 u11 _ s11 e11 d11=>?_⟩
 refine ⟨_,rfl,_,_,D.lst (fmD (secs rows rows.length)),rfl,Dr.lst e11 d11,Dr.lst (s11.g ed10) (dd10.monoL s11),sd1,sf1,fun H12 s12=>⟨true,rfl,iteT ?_⟩⟩
 have r12:=s11.trans (Same.l s12)
 have t12:=t10.trans r12
 refine ⟨_,rfl,.ref av,rows,n,rfl,t12.tabs hTb,dv.monoL t12,GM,n2,by omega,by omega,fun l13 H13 u13 _ s13 e13 d13=>?_⟩
 refine ⟨_,rfl,_,_,D.lst (fmD (lasts n rows rows.length)),rfl,Dr.lst e13 d13,Dr.lst (s13.g (r12.g ek10)) ((dk10.monoL r12).monoL s13),sd2,sf2,fun H14 s14=>gv H14 (t12.trans (s13.trans (Same.l s14)))⟩
end
end Gu

set_option Elab.async false
set_option linter.all false
set_option maxRecDepth 100000
set_option maxHeartbeats 4000000
namespace Gu
open PySem L2
section
variable {P:Program} {w:World} {K:PySem.W.Frag} {mg:Str→Option Value} {base:Heap} {f g:Addr} {fd gd:FuncData} {CX:CXT} [NoE CX]
abbrev nAm:List Str:=["_law_letters_here","_law_cell_here","_law_nums","_law_many","_law_rows_here","_law_at","_law_goings"]
theorem scAm:FnScope nAm ["_law_letters_here","_law_cell_here"] (defScope sAmple):=⟨rfl,rfl,rfl,by decide +kernel,rfl,by decide +kernel,by decide +kernel⟩
theorem csAm:CompS nAm (defScope sAmple) ["_law_k","_law_at","_law_letters_here","_law_many","_law_nums"] [none,some 5,some 0,some 3,some 2] (csc [(".0",.local),("_law_k",.local),("_law_at",.free),("_law_letters_here",.free),("_law_many",.free),("_law_nums",.free)]):=⟨rfl,by decide +kernel,by decide +kernel,by decide +kernel,rfl,by decide +kernel,by decide +kernel⟩
theorem ok_ample {k u v:Addr} {kd ud vd:FuncData} (F:Fun K "_law_ample" "_law_ample" sAmple f fd) (mr:mg "range"=none) (mt:mg "tuple"=none)
  (G:FnOk P w K mg base CX 3 g gd ["_law_cell_here","_law_many"] (spNumbers K)) (bG:Binds K gd ["_law_cell_here","_law_many"] []) (kG:PySem.W.keepIn K (.ref g)=true) (mG:mg "_law_numbers"=some (.ref g))
  (T:FnOk P w K mg base CX 3 k kd ["_law_pick","_law_letters_here"] (spRear K)) (bT:Binds K kd ["_law_pick","_law_letters_here"] []) (kT:PySem.W.keepIn K (.ref k)=true) (mT:mg "_law_rearranged"=some (.ref k))
  (U:FnOk P w K mg base CX 3 u ud ["_law_rows_here","_law_start"] (spShrunk K)) (bU:Binds K ud ["_law_rows_here","_law_start"] []) (kU:PySem.W.keepIn K (.ref u)=true) (mU:mg "_law_shrunk"=some (.ref u))
  (V':FnOk P w K mg base CX 3 v vd ["_law_letters_here","_law_cell_here"] (spGuise K)) (bV:Binds K vd ["_law_letters_here","_law_cell_here"] []) (kV':PySem.W.keepIn K (.ref v)=true) (mV:mg "_law_guise"=some (.ref v)):FnOk P w K mg base CX 4 f fd ["_law_letters_here","_law_cell_here"] (spAmple K):=by
 refine F.okc scAm (fun vs H Q E h=>?_) (fun cdv A outer s H vs Q E hr h=>?_)
 ·obtain ⟨n,c,rfl,_⟩:=h
  rfl
 obtain ⟨n,c,rfl,hn2,hn5,q⟩:=h
 refine ⟨_,pss_cons (ps_if (pt_cmp (pc_neI (pe_op op_mod (pv 1) pe_int) pe_int)) (pss_one (ps_ret (pe_call V' hr rfl mV kV' bV .nil passN (pa_cons (pv 0) (pa_cons (pv 1) pa_nil))))) pss_nil)
  (pss_cons (ps_set (i:=2) scAm.nd rfl (Or.inr rfl) (pe_call G hr rfl mG kG bG .nil passN (pa_cons (pv 1) (pa_cons pe_int pa_nil))))
  (pss_cons (ps_set (i:=3) scAm.nd rfl (Or.inr rfl) (pe_op op_add pe_int (pe_op op_mod (pe_ix ix_list (pv 2) pe_int (fun _ _=>rfl)) pe_int)))
  (pss_cons (ps_set (i:=4) scAm.nd rfl (Or.inl rfl) (pe_lst pa_nil))
  (pss_cons (ps_for PassesOwn.never rfl (pi_range1 rfl mr (pa_cons (pv 3) pa_nil)) (pg_name (i:=5) scAm.nd rfl (Or.inr rfl))
   (pss_cons (ps_comp (i:=6) rfl csAm (pi_range1 rfl mr (pa_cons (pv 0) pa_nil)) (fun _ _ _ _ _=>pg_name (i:=0) csAm.nd rfl (Or.inl rfl))
    (fun _ _ _ _ _=>pe_op op_mod (pe_op op_add (pe_ix (ixL K rfl) (pv 4) (pe_op op_add pe_int (pe_op op_mod (pe_op op_add (pe_op op_mul (pv 1) (pv 2)) (pv 0)) pe_int)) (fun _ _=>rfl)) (pe_op op_mul (pv 1) (pv 0))) (pv 3)) scAm.nd rfl rfl)
   (pss_cons (ps_asg (pe_op op_mod (pe_op op_add (pv 5) pe_int) (pv 3)) (pg_sub (pv 6) (pe_op op_mod (pv 5) (pv 0)) set_list))
   (pss_one (ps_expr (pe_bm PySem.F.plainAttrs_list PySem.F.slot_list_append PySem.F.type_list_append mt_append (pv 4) (pa_cons (pe_tup (pa_cons (pe_call T hr rfl mT kT bT .nil passN (pa_cons (pe_ix ix_list (pv 2) (pe_op op_add pe_int (pe_op op_mod (pe_op op_add (pe_op op_mul pe_int (pv 5)) (pe_ix ix_list (pv 2) pe_int (fun _ _=>rfl))) pe_int)) (fun _ _=>rfl)) (pa_cons (pv 0) pa_nil)))
    (pa_cons (pe_callTy call_tuple_of rfl mt PyProof.Rows.boot_tuple (pa_cons (pv 6) pa_nil)) pa_nil))) pa_nil)))))))
  (pss_one (ps_ret (pe_call U hr rfl mU kU bU .nil passN (pa_cons (pv 4) (pa_cons pe_int pa_nil))))))))),?_⟩
 refine ⟨_,rfl,_,_,rfl,rfl,pmod,_,_,rfl,rfl,_,rfl,ite2 (fun _=>⟨_,rfl,_,rfl,n,c,rfl,hn2,hn5,fun v H1 rows s1 G1 h8 d=>q v H1 rows s1 G1 (by omega) d⟩) (fun _=>?_)⟩
 refine ⟨_,rfl,c,131,rfl,by omega,fun ln H1 nn s1 e1 hnn=>?_⟩
 have hnl:=hnn.1
 have gn:∀ k,k < 131→∃ x:Int,nn[k]?=some x∧0≤x∧x < 1009:=fun k hk=>⟨nn[k]'(by omega),List.getElem?_eq_getElem (by omega),hnn.2 _ (List.getElem_mem _)⟩
 have gi:∀ {k:Nat} {x:Int},nn[k]?=some x→atI (nn.map V.int) (k:Int)=some (V.int x):=fun e=>atI_nat (by rw [List.getElem?_map,e];rfl)
 obtain ⟨z0,ez0,z00,z01⟩:=gn 0 (by omega)
 obtain ⟨z130,ez130,y0,y1⟩:=gn 130 (by omega)
 obtain ⟨m,hm⟩:=nat_of (x:=(9:Int)+z0 % 40) (by omega)
 refine ⟨_,rfl,ln,_,_,V.int z0,rfl,rfl,SqL.of e1,gi (k:=0) ez0,_,_,rfl,rfl,pmod,_,_,rfl,rfl,by show 0≤sizeLine;decide,fun lr hlr=>?_⟩
 have s3:=same_up (o:=HO.lst []) (Same.refl H1) hlr
 refine ⟨_,rfl,(m:Int),(by rw [←hm]),by omega,by omega,for_range (n:=(m:Int).toNat) (fun i σ H3=>∃ (u5 u6:Option V) (us:List V) (rs:List Row),σ=[some (.int n),some (.int c),some (.ref ln),some (.int m),some (.ref lr),u5,u6]∧Same H1 H3∧H3 lr=some (.lst us)∧DrL K H3 (rowsD rs) us∧rs.length=i∧GR n m rs)
  ⟨_,_,[],[],(by rw [←hm];rfl),s3,upd_same,DrL.nil,rfl,fun r hr=>by simp at hr⟩ (fun i σ H3 hi h=>?_) (fun σ H3 h=>?_)⟩
 ·obtain ⟨u5,u6,us,rs,rfl,t3,elr,drs,hrl,gr⟩:=h
  have e0:(0:Int)+(i:Int)=(i:Int):=by omega
  rw [e0]
  have hnn3:=t3 _ _ e1
  have hil:(i:Int) < 2 ^ 64:=by omega
  refine ⟨_,rfl,(n:Int),rfl,by omega,by omega,fun lg hlg=>comp_range (n:=(n:Int).toNat) (GI m H3) (GI.nil hlg) (line_le (by omega)) (fun j ys H h=>h.len) (fun j ys H4 hj h hy=>?_) (fun ys H4 h hy=>?_)⟩
  ·have e0:(0:Int)+(j:Int)=(j:Int):=by omega
   rw [e0]
   obtain ⟨_,_,_,_,s4⟩:=id h
   obtain ⟨ix,hix⟩:=nat_of (x:=(1:Int)+((i:Int)*(n:Int)+(j:Int)) % 127) (by omega)
   obtain ⟨x,ex,x0,x1⟩:=gn ix (by omega)
   refine ⟨_,rfl,_,rfl,_,rfl,_,_,rfl,rfl,.inl ⟨by omega,hil⟩,_,rfl,_,_,rfl,rfl,_,_,rfl,rfl,pmod,_,_,rfl,rfl,ln,_,_,V.int x,rfl,rfl,SqL.of (s4 _ _ hnn3),(by rw [hix];exact gi ex),_,rfl,_,rfl,_,_,rfl,rfl,.inl ⟨by omega,hil⟩,_,_,rfl,rfl,_,rfl,_,_,rfl,rfl,by omega,hy,h.snoc hlg ⟨Int.emod_nonneg _ (by omega),Int.emod_lt_of_pos _ (by omega)⟩⟩
  obtain ⟨gs,rfl,hgl,hgr,s4⟩:=h
  have hgn:gs.length=n:=by omega
  obtain ⟨jx,hjx⟩:=nat_of (x:=(i:Int) % (n:Int)) (Int.emod_nonneg _ (by omega))
  have hjl:jx < n:=by have:=Int.emod_lt_of_pos (i:Int) (show (0:Int) < (n:Int) by omega);omega
  have ixj:ixN (gs.map V.int).length ((i:Int) % (n:Int))=some jx:=by
   rw [hjx,List.length_map,hgn]
   unfold ixN
   rw [if_pos (by omega),if_pos (by omega)]
   congr 1
  have hlg4:H4 lg=some (.lst (gs.map V.int)):=hy
  refine ⟨_,rfl,_,_,rfl,rfl,_,rfl,_,_,rfl,rfl,by omega,_,rfl,_,rfl,_,rfl,_,_,rfl,rfl,by omega,lg,_,_,jx,rfl,rfl,hlg4,ixj,?_⟩
  have hgr':∀ g∈gs.set jx (((i:Int)+1) % (m:Int)),0≤g∧g < (m:Int):=fun g hg=>by
   rcases List.mem_or_eq_of_mem_set hg with hg | hg
   ·exact hgr g hg
   ·rw [hg]
    exact ⟨Int.emod_nonneg _ (by omega),Int.emod_lt_of_pos _ (by omega)⟩
  have hgl':(gs.set jx (((i:Int)+1) % (m:Int))).length=n:=by rw [List.length_set];exact hgn
  have s5:Same H3 (upd H4 lg (.lst ((gs.map V.int).set jx (V.int (((i:Int)+1) % (m:Int)))))):=same_over s4 hlg
  have elg:upd H4 lg (.lst ((gs.map V.int).set jx (V.int (((i:Int)+1) % (m:Int))))) lg=some (.lst ((gs.set jx (((i:Int)+1) % (m:Int))).map V.int)):=by rw [upd_same,List.map_set]
  generalize gs.set jx (((i:Int)+1) % (m:Int))=gs' at hgr' hgl' elg
  generalize upd H4 lg (.lst ((gs.map V.int).set jx (V.int (((i:Int)+1) % (m:Int)))))=H5 at s5 elg
  have elr5:=s5 _ _ elr
  obtain ⟨ix,hix⟩:=nat_of (x:=(1:Int)+(3*(i:Int)+z130) % 127) (by omega)
  obtain ⟨x,ex,x0,x1⟩:=gn ix (by omega)
  have hnn5:=s5 _ _ hnn3
  refine ⟨_,rfl,.inl ⟨rfl,_,SqL.of elr5⟩,_,rfl,_,rfl,_,_,rfl,rfl,.inl ⟨by decide,by decide⟩,_,rfl,ln,_,_,V.int z130,rfl,rfl,SqL.of hnn5,gi (k:=130) ez130,_,_,rfl,rfl,_,_,rfl,rfl,pmod,_,_,rfl,rfl,ln,_,_,V.int x,rfl,rfl,SqL.of hnn5,(by rw [hix];exact gi ex),_,rfl,x,n,rfl,by omega,fun vf H6 s6 df=>?_⟩
  refine ⟨_,rfl,lg,_,rfl,.inl ⟨SqL.of (s6 _ _ elg),fun t4 ht4=>⟨by show 2≤sizeLine;decide,fun t5' ht5=>?_⟩⟩⟩
  obtain ⟨b0,rfl,eb0⟩:=Dr.its_inv df
  have s9:=same_up (o:=HO.tup (gs'.map V.int)) (Same.refl H6) ht4
  have s10:=same_up (o:=HO.tup [.ref b0,.ref t4]) s9 ht5
  have elr10:=s10 _ _ (s6 _ _ elr5)
  have hul:us.length=i:=by have:=drs.length;unfold rowsD at this;rw [List.length_map] at this;omega
  refine ⟨lr,us,.ref t5',rfl,rfl,elr10,small1000 (by omega),?_⟩
  have kk:TupK H6 (upd (upd (upd H6 t4 (.tup (gs'.map V.int))) t5' (.tup [.ref b0,.ref t4])) lr (.lst (us++[.ref t5']))):=TupK.up (TupK.of s10) elr10 (fun _ z=>by cases z)
  have nt5:t5'≠lr:=ne_of upd_same elr10 (by intro z;cases z)
  have nt4:t4≠t5':=ne_of_none upd_same ht5
  have nt4f:t4≠lr:=ne_of (show upd (upd H6 t4 (.tup (gs'.map V.int))) t5' (.tup [.ref b0,.ref t4]) t4=some (.tup (gs'.map V.int)) by rw [upd_ne nt4];exact upd_same) elr10 (by intro z;cases z)
  refine ⟨_,_,us++[.ref t5'],rs++[(rearr x n,gs')],rfl,same_over (t3.trans (s5.trans (s6.trans s10))) hlr,upd_same,?_,by rw [List.length_append,hrl];rfl,gr.snoc ⟨rearr_perm x n,hgl',hgr'⟩⟩
  unfold rowsD
  rw [List.map_append]
  refine DrL.append ((drs.mono (s5.trans s6)).keyed kk (rows_key _)) (DrL.one (rowD_mk (r:=(rearr x n,gs')) (b:=b0) (c:=t4) ?_ (kk _ _ eb0) ?_))
  ·rw [upd_ne nt5];exact upd_same
  ·rw [upd_ne nt4f,upd_ne nt4];exact upd_same
 ·obtain ⟨u5,u6,us,rs,rfl,t3,elr,drs,hrl,gr⟩:=h
  have G':GoodM n rs:=gr.good (by omega) (by omega) (by omega)
  exact ⟨_,rfl,lr,n,rs,rfl,⟨us,elr,drs⟩,G',by omega,fun v H4 s4 d=>q v H4 rs (s1.trans (t3.trans s4)) G' (by omega) d⟩
end
end Gu

set_option Elab.async false
set_option linter.all false
set_option maxRecDepth 100000
set_option maxHeartbeats 4000000
namespace Gu
open PySem L2
section
variable {P:Program} {w:World} {K:PySem.W.Frag} {mg:Str→Option Value} {base:Heap} {f g:Addr} {fd gd:FuncData} {CX:CXT} [NoE CX]
abbrev nScs:List Str:=["guise"]
theorem scScs:FnScope nScs ["guise"] (defScope sSections):=⟨rfl,rfl,rfl,by decide +kernel,rfl,by decide +kernel,by decide +kernel⟩
theorem csScs:CompS nScs (defScope sSections) ["row","guise"] [none,some 0] (csc [(".0",.local),("row",.local),("section_at",.globalImplicit),("guise",.free)]):=⟨rfl,by decide +kernel,by decide +kernel,by decide +kernel,rfl,by decide +kernel,by decide +kernel⟩
theorem ok_sectionsN {k:Addr} {kd:FuncData} {Ts:List Tb} (ml:mg "len"=none) (mr:mg "range"=none) (F:Fun K "sections" "sections" sSections f fd)
  (T:FnOk P w K mg base (CXx P w) 7 k kd ["guise","row"] (spSect Ts K)) (bT:Binds K kd ["guise","row"] []) (kT:PySem.W.keepIn K (.ref k)=true) (mT:mg "section_at"=some (.ref k)):FnOk P w K mg base (CXx P w) 8 f fd ["guise"] (spSectionsN Ts K):=by
 refine F.okc scScs (fun vs H Q E h=>?_) (fun cdv A outer s H vs Q E hr h=>?_)
 ·obtain ⟨v,rows,n,rfl,_⟩:=h
  rfl
 obtain ⟨v,rows,n,rfl,hTb,dv,GM,hn,h60,gv⟩:=h
 refine ⟨_,pss_one (ps_ret (pe_comp rfl csScs (pi_range1 rfl mr (pa_cons (pe_callB call_len_seq rfl ml PySem.boot_len (pa_cons (pv 0) pa_nil)) pa_nil)) (fun _ _ _ _ _=>pg_name (i:=0) csScs.nd rfl (Or.inl rfl)) (fun _ _ _ _ _=>pe_call T hr rfl mT kT bT .nil passN (pa_cons (pv 1) (pa_cons (pv 0) pa_nil))))),?_⟩
 obtain ⟨av,us,rfl,eav,dus⟩:∃ (av:Addr) (us:List V),v=.ref av∧H av=some (.tup us)∧DrL K H (rowsD rows) us:=by
  simp only [Dr] at dv
  exact dv
 have hlu:us.length=rows.length:=by rw [←dus.length];unfold rowsD;rw [List.length_map]
 refine ⟨_,rfl,av,_,rfl,.inr (SqT.of eav),?_⟩
 rw [hlu]
 refine ⟨((rows.length:Nat):Int),rfl,by omega,by omega,fun l hl=>comp_range (n:=((rows.length:Nat):Int).toNat) (fun i ys H2=>ys.length=i∧i≤rows.length∧SameL Ts H H2∧DrL K H2 (fmD (secs rows i)) ys) ⟨rfl,Nat.zero_le _,Same.l (same_up (Same.refl H) hl),DrL.nil⟩ (by rw [Int.toNat_natCast];exact line_le (by omega)) (fun i ys H2 h=>h.1) (fun i ys H2 hi h hy=>?_) (fun ys H2 h hy=>?_)⟩
 ·obtain ⟨hyl,_,s2,d2⟩:=h
  have hi':i < rows.length:=by omega
  refine ⟨_,rfl,_,rfl,.ref av,rows,n,(i:Int),(by rw [Int.zero_add];rfl),s2.tabs hTb,dv.monoL s2,GM,hn,h60,by omega,by omega,fun x H3 s3 d3=>?_⟩
  have e3:=s3.g hy
  refine ⟨e3,by rw [List.length_append,hyl];rfl,by omega,SameL.over (s2.trans s3) hl e3,?_⟩
  rw [secs_snoc,fmD_snoc]
  refine DrL.append ((d2.monoL s3).keyed (tup_over e3) (gs_key _)) (DrL.one (d3.keyed (tup_over e3) ?_))
  have:=gs_key [shr (swM rows (i:Int))]
  simp only [List.map_cons,List.map_nil,D.keyL] at this
  exact this.1
 ·obtain ⟨hyl,_,s2,d2⟩:=h
  rw [Int.toNat_natCast] at d2
  exact gv l _ _ hl s2 hy d2
abbrev nLs:List Str:=["guise"]
theorem scLs:FnScope nLs ["guise"] (defScope sLasting):=⟨rfl,rfl,rfl,by decide +kernel,rfl,by decide +kernel,by decide +kernel⟩
theorem csLs:CompS nLs (defScope sLasting) ["row","guise"] [none,some 0] (csc [(".0",.local),("row",.local),("comes_again",.globalImplicit),("section_at",.globalImplicit),("guise",.free)]):=⟨rfl,by decide +kernel,by decide +kernel,by decide +kernel,rfl,by decide +kernel,by decide +kernel⟩
theorem ok_lastingN {Ts:List Tb} (ml:mg "len"=none) (mr:mg "range"=none) (F:Fun K "lasting" "lasting" sLasting f fd)
  {aT:Addr} {dT:FuncData} (T:FnOk P w K mg base (CXx P w) 7 aT dT ["guise","row"] (spSect Ts K)) (bT:Binds K dT ["guise","row"] []) (kT:PySem.W.keepIn K (.ref aT)=true) (mT:mg "section_at"=some (.ref aT))
  {aC:Addr} {dC:FuncData} (C:FnOk P w K mg base (CXx P w) 7 aC dC ["guise","row"] (spComesA K)) (bC:Binds K dC ["guise","row"] []) (kC:PySem.W.keepIn K (.ref aC)=true) (mC:mg "comes_again"=some (.ref aC)):FnOk P w K mg base (CXx P w) 8 f fd ["guise"] (spLastingN Ts K):=by
 refine F.okc scLs (fun vs H Q E h=>?_) (fun cdv A outer s H vs Q E hr h=>?_)
 ·obtain ⟨v,rows,n,rfl,_⟩:=h
  rfl
 obtain ⟨v,rows,n,rfl,hTb,dv,GM,n2,hn,h60,gv⟩:=h
 refine ⟨_,pss_one (ps_ret (pe_compF rfl csLs (pi_range1 rfl mr (pa_cons (pe_callB call_len_seq rfl ml PySem.boot_len (pa_cons (pv 0) pa_nil)) pa_nil)) (fun _ _ _ _ _=>pg_name (i:=0) csLs.nd rfl (Or.inl rfl)) (fun _ _ _ _ _=>pt_val (pe_call C hr rfl mC kC bC .nil passN (pa_cons (pv 1) (pa_cons (pv 0) pa_nil)))) (fun _ _ _ _ _=>pe_call T hr rfl mT kT bT .nil passN (pa_cons (pv 1) (pa_cons (pv 0) pa_nil))))),?_⟩
 obtain ⟨av,us,rfl,eav,dus⟩:∃ (av:Addr) (us:List V),v=.ref av∧H av=some (.tup us)∧DrL K H (rowsD rows) us:=by
  simp only [Dr] at dv
  exact dv
 have hlu:us.length=rows.length:=by rw [←dus.length];unfold rowsD;rw [List.length_map]
 refine ⟨_,rfl,av,_,rfl,.inr (SqT.of eav),?_⟩
 rw [hlu]
 refine ⟨((rows.length:Nat):Int),rfl,by omega,by omega,fun l hl=>compF_range (n:=((rows.length:Nat):Int).toNat) (fun i ys H2=>ys.length≤i∧i≤rows.length∧SameL Ts H H2∧DrL K H2 (fmD (lasts n rows i)) ys) ⟨Nat.le_refl _,Nat.zero_le _,Same.l (same_up (Same.refl H) hl),DrL.nil⟩ (by rw [Int.toNat_natCast];exact line_le (by omega)) (fun i ys H2 h=>h.1) (fun i ys H2 hi h hy=>?_) (fun ys H2 h hy=>?_)⟩
 ·obtain ⟨hyl,_,s2,d2⟩:=h
  have hi':i < rows.length:=by omega
  refine ⟨_,rfl,_,rfl,.ref av,rows,n,(i:Int),(by rw [Int.zero_add];rfl),dv.monoL s2,GM,n2,h60,by omega,by omega,fun b hb H3 s3=>⟨_,rfl,?_⟩⟩
  have e3:=s3 _ _ hy
  have s23:=s2.trans (Same.l s3)
  cases b with
  | false =>
   have eb:lpB n rows i=false:=by
    cases z:lpB n rows i with
    | false=>rfl
    | true=>exact absurd (hb.mpr (lpB_iff.mp z)) (by simp)
   exact ⟨e3,by omega,by omega,s23,by rw [lasts_no eb];exact d2.mono s3⟩
  | true =>
   have eb:lpB n rows i=true:=lpB_iff.mpr (hb.mp rfl)
   refine ⟨_,rfl,_,rfl,.ref av,rows,n,(i:Int),(by rw [Int.zero_add];rfl),s23.tabs hTb,dv.monoL s23,GM,hn,h60,by omega,by omega,fun x H4 s4 d4=>?_⟩
   have e4:=s4.g e3
   refine ⟨e4,by rw [List.length_append];simp;omega,by omega,SameL.over (s23.trans s4) hl e4,?_⟩
   rw [lasts_yes eb,fmD_snoc]
   refine DrL.append (((d2.mono s3).monoL s4).keyed (tup_over e4) (gs_key _)) (DrL.one (d4.keyed (tup_over e4) ?_))
   have:=gs_key [shr (swM rows (i:Int))]
   simp only [List.map_cons,List.map_nil,D.keyL] at this
   exact this.1
 ·obtain ⟨hyl,_,s2,d2⟩:=h
  rw [Int.toNat_natCast] at d2
  exact gv l _ _ hl s2 hy d2
end
end Gu

set_option Elab.async false
set_option linter.all false
set_option maxRecDepth 100000
set_option maxHeartbeats 4000000
namespace Gu
open PySem L2
section
variable {P:Program} {w:World} {K:PySem.W.Frag} {mg:Str→Option Value} {base:Heap} {f g:Addr} {fd gd:FuncData} {CX:CXT} [NoE CX]
abbrev nComeF:List Str:=["first","row_at","order","places","found","rearranging","goings","going"]
theorem scComeF:FnScope nComeF ["first","row_at"] (defScope sCome):=⟨rfl,rfl,rfl,by decide +kernel,rfl,by decide +kernel,by decide +kernel⟩
theorem csComeF:CompS nComeF (defScope sCome) ["going","places"] [none,some 3] (csc [(".0",.local),("going",.local),("places",.free)]):=⟨rfl,by decide +kernel,by decide +kernel,by decide +kernel,rfl,by decide +kernel,by decide +kernel⟩
theorem ok_comeF (F:Fun K "rows_come_to" "rows_come_to" sCome f fd) (ml:mg "len"=none) (mt:mg "tuple"=none):FnOk P w K mg base CX 5 f fd ["first","row_at"] (spComeF P w K mg base CX 4):=by
 refine F.okc scComeF (fun vs H Q E h=>?_) (fun cdv A outer s H vs Q E hr h=>?_)
 ·obtain ⟨a,n,rows,nm,rfl,_⟩:=h
  rfl
 obtain ⟨fa,n,rows,nm,rfl,ni,hV,G,hn,q⟩:=h
 have hu:=hu_of hr
 refine ⟨_,pss_cons (ps_set (i:=2) scComeF.nd rfl (Or.inl rfl) (pe_lst (pa_cons (pv 0) pa_nil)))
  (pss_cons (ps_set (i:=3) scComeF.nd rfl (Or.inr rfl) (pe_disp (pps_cons (pv 0) pe_int pps_nil) rfl rfl (by simp) (by decide)))
  (pss_cons (ps_set (i:=4) scComeF.nd rfl (Or.inl rfl) (pe_lst pa_nil))
  (pss_cons (ps_while PassesOwn.never (pt_cmpR op_lt (pe_callB call_len_seq rfl ml PySem.boot_len (pa_cons (pv 4) pa_nil)) (pe_callB call_len_seq rfl ml PySem.boot_len (pa_cons (pv 2) pa_nil)) (nomark _))
   (pss_cons (ps_asg (pe_callV (CX:=CX) 1 hr (pa_cons (pe_ix ix_list (pv 2) (pe_callB call_len_seq rfl ml PySem.boot_len (pa_cons (pv 4) pa_nil)) (fun _ _=>rfl)) pa_nil)) (pg_tup rfl (pgs_cons (pg_name (i:=5) scComeF.nd rfl (Or.inl rfl)) (pgs_cons (pg_name (i:=6) scComeF.nd rfl (Or.inl rfl)) pgs_nil))))
   (pss_cons (ps_for PassesOwn.never rfl (pi_tup (pv 6)) (pg_name (i:=7) scComeF.nd rfl (Or.inl rfl))
    (pss_one (ps_if (pt_cmp (pc_dnotin hu (pv 7) (pv 3)))
     (pss_cons (ps_dput hu (pv 3) (pv 7) (pe_callB call_len_seq rfl ml PySem.boot_len (pa_cons (pv 2) pa_nil)) rfl)
     (pss_one (ps_expr (pe_bm PySem.F.plainAttrs_list PySem.F.slot_list_append PySem.F.type_list_append mt_append (pv 2) (pa_cons (pv 7) pa_nil))))) pss_nil)))
   (pss_one (ps_expr (pe_bm PySem.F.plainAttrs_list PySem.F.slot_list_append PySem.F.type_list_append mt_append (pv 4) (pa_cons (pe_tup (pa_cons (pv 5) (pa_cons (pe_callTy call_tuple_of rfl mt PyProof.Rows.boot_tuple
    (pa_cons (pe_comp rfl csComeF (pi_tup (pv 6)) (fun _ _ _ _ _=>pg_name (i:=0) csComeF.nd rfl (Or.inl rfl)) (fun _ _ _ _ _=>pe_dget hu (pv 1) (pv 0) (fun _ _=>rfl))) pa_nil)) pa_nil))) pa_nil)))))))
  (pss_one (ps_ret (pv 4)))))),?_⟩
 refine ⟨_,rfl,by show 1≤sizeLine;decide,fun lo hlo=>fun lp hlp=>⟨_,rfl,upd_same,[(Sum.inl (nm 0),V.int 0)],rfl,by simp,by show 0≤sizeLine;decide,fun lf hlf=>?_⟩⟩
 have s1:Same H (upd H lo (.lst [.int (nm 0)])):=same_up (Same.refl H) hlo
 have hlp0:H lp=none:=s1.free hlp
 have nlo:lo≠lp:=ne_of_none upd_same hlp
 have s2:Same H (upd (upd (upd H lo (.lst [.int (nm 0)])) lp (.dK [])) lp (.dK (mergeK [] [(Sum.inl (nm 0),V.int 0)]))):=same_over (same_up s1 hlp) hlp0
 have hlf0:H lf=none:=s2.free hlf
 have nlf:lo≠lf:=ne_of_none (show upd (upd (upd H lo (.lst [.int (nm 0)])) lp (.dK [])) lp (.dK (mergeK [] [(Sum.inl (nm 0),V.int 0)])) lo=_ by rw [upd_ne nlo,upd_ne nlo];exact upd_same) hlf
 have nlpf:lp≠lf:=ne_of_none upd_same hlf
 have s3:=same_up (o:=HO.lst []) s2 hlf
 have OL:=order_line G
 have hol:=OL.1.len
 have h400:=G.few
 refine ⟨fun m σ H2=>∃ (i:Nat) (o:List Int) (u1 u2 u3:Option V) (fs:List V),m=rows.length+1 - i∧σ=[some (.int (nm 0)),some (.ref fa),some (.ref lo),some (.ref lp),some (.ref lf),u1,u2,u3]∧Same H H2∧H2 lo=some (.lst (o.map (nV nm)))∧H2 lp=some (.dK (prs (kN nm) o))∧H2 lf=some (.lst fs) ∧
   DrL K H2 (rowsD ((found rows).take i)) fs∧Line rows o∧i≤o.length∧bfs rows (rows.length+1 - i) i o=order rows,⟨_,0,[0],none,none,none,[],rfl,rfl,s3,?_,?_,upd_same,DrL.nil,line0 G,by simp,rfl⟩,?_⟩
 ·rw [upd_ne nlf,upd_ne nlo,upd_ne nlo];exact upd_same
 ·rw [upd_ne nlpf];exact upd_same
 rintro m σ H2 ⟨i,o,u1,u2,u3,fs,rfl,rfl,t2,glo,glp,glf,df,L,hi,hb⟩
 have hfl:fs.length=i:=by
  have:=df.length
  unfold rowsD at this
  rw [List.length_map,List.length_take] at this
  obtain ⟨mm,em⟩:=bfs_sub rows (rows.length+1 - i) i o
  rw [hb] at em
  have:(found rows).length=(order rows).length:=by unfold found foundOf;rw [List.length_map]
  have:o.length≤(order rows).length:=by rw [em,List.length_append];omega
  omega
 refine ⟨_,rfl,lf,_,rfl,.inl (SqL.of glf),_,rfl,lo,_,rfl,.inl (SqL.of glo),_,_,rfl,rfl,_,rfl,?_⟩
 have hol2:(o.map (nV nm)).length=o.length:=List.length_map _
 refine ite2 (fun c=>?_) (fun c=>?_)
 ·have c':=of_decide_eq_true c
  rw [hfl,hol2] at c'
  have hio:i < o.length:=by omega
  have eo:o[i]?=some o[i]:=List.getElem?_eq_getElem hio
  have hro:o[i]∈o:=List.getElem_mem hio
  generalize o[i]=r at eo hro
  obtain ⟨r0,r1⟩:=L.rg r hro
  have hrow:=row_mem r0 r1
  have hgl:=G.len _ hrow
  have hgo:=G.go _ hrow
  have hlen:=L.len
  refine cutN fun N nx2=>?_
  refine ⟨fa,spRow K rows nm,rfl,(hV.mono t2).1,_,rfl,_,rfl,lf,_,rfl,.inl (SqL.of glf),lo,_,_,V.int (nm r),rfl,rfl,SqL.of glo,atI_nat (by rw [List.getElem?_map,hfl,eo];rfl),hV.mono t2,r,rfl,r0,r1,fun v Hc sc dv=>?_⟩
  obtain ⟨t,b,cc,rfl,et,eb,ec⟩:=rowD_inv dv
  have t2:=t2.trans sc
  have glo:=sc _ _ glo
  have glp:=sc _ _ glp
  have glf:=sc _ _ glf
  have df:=df.mono sc
  refine ⟨t,_,rfl,SqT.of et,rfl,_,_,rfl,_,_,rfl,rfl,?_⟩
  unfold rowN at eb ec
  simp only at eb ec
  generalize hgs:(row rows r).2=gs at *
  refine ⟨_,rfl,cc,rfl,⟨_,SqT.of ec⟩,tupO (xs:=(gs.map nm).map V.int) (fun j σ H3=>∃ u:Option V,σ=[some (.int (nm 0)),some (.ref fa),some (.ref lo),some (.ref lp),some (.ref lf),some (.ref b),some (.ref cc),u]∧Same H H3∧TupK Hc H3∧H3 lo=some (.lst ((addAll o (gs.take j)).map (nV nm)))∧H3 lp=some (.dK (prs (kN nm) (addAll o (gs.take j))))∧H3 lf=some (.lst fs))
   ⟨_,rfl,t2,TupK.refl _,glo,glp,glf⟩ (fun j σ H3 _ h=>by obtain ⟨_,_,_,k3,_⟩:=h;exact SqT.of (k3 _ _ ec)) (fun j x σ H3 hx h Ed nx3=>?_) (fun σ H3 h=>?_)⟩
  ·obtain ⟨u,rfl,t3,k3,e1,e2,e3⟩:=h
   have hjl:j < gs.length:=by have:=(List.getElem?_eq_some_iff.mp hx).1;rwa [List.length_map,List.length_map] at this
   have eg:gs[j]?=some gs[j]:=List.getElem?_eq_getElem hjl
   generalize gs[j]=gj at eg
   have ex:x=V.int (nm gj):=by rw [List.getElem?_map,List.getElem?_map,eg] at hx;exact (Option.some.inj hx).symm
   subst ex
   have et':addAll o (gs.take (j+1))=addN (addAll o (gs.take j)) gj:=by rw [List.take_add_one,eg];exact addAll_snoc _ _ _
   have hal:(addAll o (gs.take j)).length≤4500:=by
    have:=addAll_len (gs.take j) o
    rw [List.length_take] at this
    omega
   generalize addAll o (gs.take j)=oj at *
   refine ⟨_,rfl,_,rfl,lp,_,rfl,DGet.k (k:=kN nm gj) e2,_,rfl,?_⟩
   have hv:=prs_val (κ:=Key) (kN nm) (kN_inj ni) oj gj
   by_cases hm:gj∈oj
   ·rw [hv,if_pos hm]
    refine iteF (nx3 _ _ ⟨_,rfl,t3,k3,?_,?_,e3⟩)
    ·rw [et',addN_mem hm];exact e1
    ·rw [et',addN_mem hm];exact e2
   ·rw [hv,if_neg hm]
    have nlop:lo≠lp:=ne_of e1 e2 (by intro z;cases z)
    refine iteT ⟨_,rfl,lo,_,rfl,.inl (SqL.of e1),_,rfl,_,rfl,lp,_,rfl,DPut.k (k:=kN nm gj) e2 (by rw [prsF_len];exact small5 (by omega)),?_⟩
    have e1':upd H3 lp (.dK (putK (prs (kN nm) oj) (kN nm gj) (V.int ((oj.map (nV nm)).length:Nat)))) lo=some (.lst (oj.map (nV nm))):=by rw [upd_ne nlop];exact e1
    refine ⟨_,rfl,.inl ⟨rfl,_,SqL.of e1'⟩,_,rfl,lo,_,_,rfl,rfl,e1',by rw [List.length_map];exact small5 (by omega),?_⟩
    refine nx3 _ _ ⟨_,rfl,same_over (same_over t3 hlp0) hlo,TupK.up (TupK.up k3 e2 (fun _ z=>by cases z)) e1' (fun _ z=>by cases z),?_,?_,?_⟩
    ·rw [upd_same,et',addN_new hm,List.map_append];rfl
    ·rw [upd_ne nlop.symm,upd_same,et',addN_new hm,List.length_map,prs_put (kN nm) (kN_inj ni) hm]
    ·rw [upd_ne nlf.symm,upd_ne nlpf.symm];exact e3
  ·obtain ⟨u,rfl,t3,k3,e1,e2,e3⟩:=h
   rw [List.length_map,List.length_map,List.take_length] at e1 e2
   obtain ⟨mm,em⟩:=bfs_sub rows (rows.length+1 - (i+1)) (i+1) (addAll o gs)
   have hb':bfs rows (rows.length+1 - (i+1)) (i+1) (addAll o gs)=order rows:=by
    rw [←hb,show rows.length+1 - i=(rows.length+1 - (i+1))+1 by omega,bfs_step eo,hgs]
   rw [hb'] at em
   have L':Line rows (addAll o gs):=by rw [←hgs];exact L.add G hro
   obtain ⟨m1,em1⟩:=addAll_sub gs o
   have hoi:(order rows)[i]?=some r:=by rw [em,em1,List.append_assoc,List.getElem?_append_left hio];exact eo
   have hi':i+1≤(addAll o gs).length:=by rw [em1,List.length_append];omega
   have hmem:∀ g∈gs,g∈addAll o gs:=fun g hg=>addAll_mem.mpr (.inr hg)
   have efound:(found rows).take (i+1)=(found rows).take i++[((row rows r).1,gs.map fun g=>(((addAll o gs).idxOf g:Nat):Int))]:=by
    have e4:(found rows)[i]?=some ((row rows r).1,gs.map fun g=>(((addAll o gs).idxOf g:Nat):Int)):=by
     unfold found foundOf
     rw [List.getElem?_map,hoi]
     show some ((row rows r).1,(row rows r).2.map fun g=>(((order rows).idxOf g:Nat):Int))=_
     rw [hgs]
     congr 2
     refine List.map_congr_left fun g hg=>?_
     rw [em,idxOf_app (hmem g hg)]
    rw [List.take_add_one,e4]
    rfl
   generalize addAll o gs=o' at *
   refine ⟨_,rfl,.inl ⟨rfl,_,SqL.of e3⟩,_,rfl,_,rfl,cc,rfl,⟨_,SqT.of (k3 _ _ ec)⟩,fun l4 hl4=>comp_tup (xs:=(gs.map nm).map V.int) (fun j ys H4=>j≤gs.length∧ys=((gs.take j).map fun g=>((o'.idxOf g:Nat):Int)).map V.int∧Same H3 H4) ⟨Nat.zero_le _,rfl,same_up (Same.refl H3) hl4⟩ (fun j ys H4 _ h=>SqT.of (h.2.2 _ _ (k3 _ _ ec))) (by rw [List.length_map,List.length_map];exact line_le (by omega)) (fun j ys H4 h=>?_) (fun j x ys H4 hx h hy=>?_) (fun ys H4 h hy=>?_)⟩
   ·obtain ⟨hj,rfl,_⟩:=h
    rw [List.length_map,List.length_map,List.length_take]
    omega
   ·obtain ⟨hj,rfl,s4⟩:=h
    have hjl:j < gs.length:=by have:=(List.getElem?_eq_some_iff.mp hx).1;rwa [List.length_map,List.length_map] at this
    have eg:gs[j]?=some gs[j]:=List.getElem?_eq_getElem hjl
    have hgm:=hmem _ (List.getElem_mem hjl)
    generalize gs[j]=gj at eg hgm
    have ex:x=V.int (nm gj):=by rw [List.getElem?_map,List.getElem?_map,eg] at hx;exact (Option.some.inj hx).symm
    subst ex
    have hv:=prs_val (κ:=Key) (kN nm) (kN_inj ni) o' gj
    rw [if_pos hgm] at hv
    refine ⟨_,rfl,_,rfl,lp,_,rfl,(by rw [←hv];exact DGet.k (k:=kN nm gj) (s4 _ _ e2)),hy,hjl,?_,same_over s4 hl4⟩
    rw [take_snoc _ eg,List.map_append]
    rfl
   ·obtain ⟨_,rfl,s4⟩:=h
    rw [List.length_map,List.length_map,List.take_length] at hy
    refine ⟨l4,_,rfl,.inl ⟨SqL.of hy,fun t4 ht4=>⟨by show 2≤sizeLine;decide,fun t5 ht5=>?_⟩⟩⟩
    have s5:=same_up (o:=HO.tup ((gs.map fun g=>((o'.idxOf g:Nat):Int)).map V.int)) s4 ht4
    have s6:=same_up (o:=HO.tup [.ref b,.ref t4]) s5 ht5
    have e3':=s6 _ _ e3
    refine ⟨lf,fs,.ref t5,rfl,rfl,e3',by rw [hfl];exact small5 (by omega),?_⟩
    have kk:TupK Hc (upd (upd (upd H4 t4 (.tup ((gs.map fun g=>((o'.idxOf g:Nat):Int)).map V.int))) t5 (.tup [.ref b,.ref t4])) lf (.lst (fs++[.ref t5]))):=TupK.up (k3.trans (TupK.of s6)) e3' (fun _ z=>by cases z)
    have nt5:t5≠lf:=ne_of upd_same e3' (by intro z;cases z)
    have nt4:t4≠t5:=ne_of_none upd_same ht5
    have nt4f:t4≠lf:=ne_of (show upd (upd H4 t4 (.tup ((gs.map fun g=>((o'.idxOf g:Nat):Int)).map V.int))) t5 (.tup [.ref b,.ref t4]) t4=some (.tup ((gs.map fun g=>((o'.idxOf g:Nat):Int)).map V.int)) by rw [upd_ne nt4];exact upd_same) e3' (by intro z;cases z)
    refine nx2 (rows.length+1 - (i+1)) _ _ (by omega) ⟨i+1,o',_,_,_,fs++[.ref t5],rfl,rfl,same_over (t3.trans s6) hlf0,?_,?_,upd_same,?_,L',hi',hb'⟩
    ·rw [upd_ne nlf];exact s6 _ _ e1
    ·rw [upd_ne nlpf];exact s6 _ _ e2
    ·rw [efound]
     unfold rowsD
     rw [List.map_append]
     refine DrL.append (df.keyed kk (rows_key _)) (DrL.one (rowD_mk (b:=b) (c:=t4) ?_ (kk _ _ eb) ?_))
     ·rw [upd_ne nt5];exact upd_same
     ·rw [upd_ne nt4f,upd_ne nt4];exact upd_same
 ·have c':=of_decide_eq_false (Bool.eq_false_iff.mpr c)
  rw [hfl,hol2] at c'
  have e:order rows=o:=by rw [←hb];exact bfs_stop (by omega)
  have e2:(found rows).take i=found rows:=List.take_of_length_le (by unfold found foundOf;rw [List.length_map,e];omega)
  rw [e2] at df
  exact ⟨_,rfl,q lf H2 t2 ⟨fs,glf,df⟩⟩
end
end Gu

set_option Elab.async false
set_option linter.all false
set_option maxRecDepth 100000
set_option maxHeartbeats 4000000
namespace Gu
open PySem L2
section
variable {P:Program} {w:World} {K:PySem.W.Frag} {mg:Str→Option Value} {base:Heap} {f g:Addr} {fd gd:FuncData} {CX:CXT} [NoE CX]
theorem scKinds:FnScope ["rows","kinds","count"] ["rows"] (defScope sKinds):=⟨rfl,rfl,rfl,by decide +kernel,rfl,by decide +kernel,by decide +kernel⟩
theorem csKinds1:CompS ["rows","kinds","count"] (defScope sKinds) ["rearranging","goings"] [none,none] (csc [(".0",.local),("rearranging",.local),("goings",.local)]):=⟨rfl,by decide +kernel,by decide +kernel,by decide +kernel,rfl,by decide +kernel,by decide +kernel⟩
theorem csKinds2:CompS ["rows","kinds","count"] (defScope sKinds) ["kind","rearranging","goings","kinds"] [none,none,none,some 1] (csc [(".0",.local),("kind",.local),("rearranging",.local),("goings",.local),("kinds_gone_to",.globalImplicit),("kinds",.free)]):=⟨rfl,by decide +kernel,by decide +kernel,by decide +kernel,rfl,by decide +kernel,by decide +kernel⟩
theorem ok_kindsX {k Ct:Addr} {kd:FuncData} {tm:Tok} {bmB:List Value} {B newId initId:String} (mC:mg "TooMany"=some (.ref Ct)) (xC:PySem.W.excIn K Ct bmB newId=true) (hB:ExcBaseFacts B newId initId bmB) (F:Fun K "kinds_of_rows" "kinds_of_rows" sKinds f fd) (mz:mg "zip"=none) (mx:mg "max"=none) (mM:mg "MOST_FORM_ROWS"=some (.int 60 tm))
  (G:FnOk P w K mg base (CXx P w) 1 g gd ["things"] (spNumbered K)) (bG:Binds K gd ["things"] []) (kG:PySem.W.keepIn K (.ref g)=true) (mG:mg "numbered"=some (.ref g))
  (T:FnOk P w K mg base (CXx P w) 1 k kd ["kinds","goings"] (spGone K)) (bT:Binds K kd ["kinds","goings"] []) (kT:PySem.W.keepIn K (.ref k)=true) (mT:mg "kinds_gone_to"=some (.ref k)):FnOk P w K mg base (CXx P w) 2 f fd ["rows"] (spKindsX K Ct):=by
 refine F.okx scKinds (fun vs H Q E h=>?_) (fun cdv A outer s H vs Q E hr h=>?_)
 ·obtain ⟨a,n,rows,rfl,_⟩:=h
  rfl
 obtain ⟨a,n,rows,rfl,⟨us,ea,da⟩,GF,hn,q,qx⟩:=h
 have h400:=GF.few
 refine ⟨_,pss_cons (ps_set (i:=1) scKinds.nd rfl (Or.inr rfl) (pe_call G hr rfl mG kG bG .nil passN (pa_cons (pe_comp rfl csKinds1 (pi_list (pv 0)) (fun _ _ _ _ _=>pgT K (n:=2) rfl rfl (pgs_cons (pg_name (i:=0) csKinds1.nd rfl (Or.inl rfl)) (pgs_cons (pg_name (i:=1) csKinds1.nd rfl (Or.inl rfl)) pgs_nil))) (fun _ _ _ _ _=>pv 0)) pa_nil)))
  (pss_cons (ps_set (i:=2) scKinds.nd rfl (Or.inl rfl) pe_int)
  (pss_cons (ps_while PassesOwn.leaving (pt_cmpR op_lt (pv 2) (pe_op op_add (pe_callB (cMax K rfl rfl) rfl mx PyProof.Rows.boot_max (pa_cons (pv 1) pa_nil)) pe_int) (nomark _))
   (pss_cons (ps_set (i:=2) scKinds.nd rfl (Or.inl rfl) (pe_op op_add (pe_callB (cMax K rfl rfl) rfl mx PyProof.Rows.boot_max (pa_cons (pv 1) pa_nil)) pe_int))
   (pss_cons (ps_if (pt_cmpR op_gt (pv 2) (pe_glob (v:=.int 60) rfl mM ⟨_,rfl⟩) (nomark _)) (pss_one (ps_raise mC rfl xC hB pe_str)) pss_nil)
   (pss_one (ps_set (i:=1) scKinds.nd rfl (Or.inr rfl) (pe_call G hr rfl mG kG bG .nil passN (pa_cons (pe_comp rfl csKinds2 (piZip K rfl rfl mz (pa_cons (pv 1) (pa_cons (pv 0) pa_nil)))
    (fun _ _ _ _ _=>pgT K (n:=2) rfl rfl (pgs_cons (pg_name (i:=0) csKinds2.nd rfl (Or.inl rfl)) (pgs_cons (pgT K (n:=2) rfl rfl (pgs_cons (pg_name (i:=1) csKinds2.nd rfl (Or.inl rfl)) (pgs_cons (pg_name (i:=2) csKinds2.nd rfl (Or.inl rfl)) pgs_nil))) pgs_nil)))
    (fun _ _ _ _ _=>pe_tup (pa_cons (pv 0) (pa_cons (pe_call T hr rfl mT kT bT .nil passN (pa_cons (pv 3) (pa_cons (pv 2) pa_nil))) pa_nil)))) pa_nil)))))))
  (pss_one (ps_ret (pv 1))))),?_⟩
 have hul:us.length=rows.length:=by have:=da.length;unfold rowsD at this;rw [List.length_map] at this;exact this.symm
 have hrs:=GF.some
 refine ⟨_,rfl,a,rfl,⟨_,SqL.of ea⟩,fun l1 hl1=>comp_list (xs:=us) (fun i ys H2=>i≤us.length∧ys.length=i∧Same H H2∧DrL K H2 ((rows.take i).map fun r=>D.its r.1) ys) ⟨Nat.zero_le _,rfl,same_up (Same.refl H) hl1,DrL.nil⟩ (fun i ys H2 _ h=>SqL.of (h.2.2.1 _ _ ea)) (line_le (by omega)) (fun i ys H2 h=>h.2.1) (fun i x ys H2 hx h hy=>?_) (fun ys H2 h hy=>?_)⟩
 ·obtain ⟨hi,hyl,s2,d2⟩:=h
  have hil:i < us.length:=(List.getElem?_eq_some_iff.mp hx).1
  have er:rows[i]?=some rows[i]:=List.getElem?_eq_getElem (by omega)
  obtain ⟨x',ex,dx⟩:=rows_at da er
  rw [hx] at ex
  cases ex
  generalize rows[i]=ri at er dx
  obtain ⟨t,b,c,rfl,et,eb,ec⟩:=rowD_inv (dx.mono s2)
  refine ⟨t,_,rfl,SqT.of et,rfl,_,_,rfl,_,_,rfl,rfl,_,rfl,hy,hil,by rw [List.length_append,hyl];rfl,same_over s2 hl1,?_⟩
  rw [take_snoc _ er]
  have kk:TupK H2 (upd H2 l1 (.lst (ys++[.ref b]))):=TupK.up (TupK.refl _) hy (fun _ z=>by cases z)
  exact DrL.append (d2.keyed kk (by have:=its_keys ((rows.take i).map (·.1));rw [List.map_map] at this;exact this)) (DrL.one (Dr.tup (kk _ _ eb) (DrL.ints _)))
 obtain ⟨_,hyl,s2,d2⟩:=h
 rw [List.take_of_length_le (by omega)] at d2
 have e1:(rows.map fun r=>D.its r.1)=(rows.map (·.1)).map D.its:=by rw [List.map_map];rfl
 rw [e1] at d2
 refine ⟨l1,ys,_,rfl,hy,d2,fun d hd=>?_,by rw [List.length_map,List.length_map];omega,fun l2 H3 s3 e3=>?_⟩
 ·obtain ⟨p,_,rfl⟩:=List.mem_map.mp hd
  exact ⟨its_key p,by rw [its_dep];decide,_,rfl⟩
 rw [numb_map D.its (fun _ _=>its_inj)] at e3
 have K0:=goodK0 GF
 refine ⟨fun m σ H4=>∃ (c:Int) (ks:List Int) (l:Addr),σ=[some (.ref a),some (.ref l),some (.int c)]∧Same H H4∧H4 l=some (.lst (ks.map V.int))∧GoodK rows ks∧NumbK rows ks∧(c=0∨c≤60)∧0≤c∧(rows.length:Int)+1≤m+c∧kloop rows m c ks=kinds rows,
  ⟨rows.length+1,0,_,l2,rfl,s2.trans s3,e3,K0,numbK0 rows,.inl rfl,Int.le_refl _,by omega,rfl⟩,?_⟩
 rintro m σ H4 ⟨c,ks,l,rfl,t4,e4,GK,NK,hc6,hc0,hm,hk⟩
 obtain ⟨x1,x2⟩:=cnt_max (ks_ne GF GK) fun k hk=>(GK.rg k hk).1
 obtain ⟨c1,c2⟩:=cnt_le (ks_ne GF GK) GK.rg
 have ec:cnt ks - 1+1=cnt ks:=by omega
 refine ⟨_,rfl,_,rfl,l,ks,cnt ks - 1,rfl,SqL.of e4,x1,x2,_,_,rfl,rfl,_,_,rfl,rfl,_,rfl,?_⟩
 refine ite2 (fun cc=>?_) (fun cc=>?_)
 ·have c':=of_decide_eq_true cc
  rw [ec] at c'
  refine cutN fun N nx2=>?_
  refine ⟨_,rfl,l,ks,cnt ks - 1,rfl,SqL.of e4,x1,x2,_,_,rfl,rfl,_,rfl,_,_,rfl,rfl,_,rfl,?_⟩
  have hmono:=kloop_mono GF m c ks NK GK
  rw [hk] at hmono
  refine ite2 (fun cc2=>?_) (fun cc2=>?_)
  ·have c'':=of_decide_eq_true cc2
   exact fun ea=>qx (by omega) ea H4 t4
  have c60:=of_decide_eq_false (Bool.eq_false_iff.mpr cc2)
  have hkl:=GK.len
  have hsl:=stepK_len GK
  have hn400:=GF.few
  refine ⟨_,rfl,_,rfl,l,a,rfl,⟨_,SqL.of e4⟩,⟨_,SqL.of (t4 _ _ ea)⟩,fun l5 hl5=>comp_zip (xs:=ks.map V.int) (zs:=us) (by rw [List.length_map];omega) (fun i ys H5=>i≤rows.length∧ys.length=i∧Same H4 H5∧DrL K H5 (((stepK ks rows).take i).map stepD) ys) ⟨Nat.zero_le _,rfl,same_up (Same.refl H4) hl5,DrL.nil⟩ (fun i ys H5 _ h=>⟨SqL.of (h.2.2.1 _ _ e4),SqL.of (h.2.2.1 _ _ (t4 _ _ ea))⟩) (by rw [List.length_map];exact line_le (by omega)) (fun i ys H5 h=>h.2.1) (fun i x y p ys H5 hx hz h hy hp=>?_) (fun ys H5 h hy=>?_)⟩
  ·obtain ⟨hi,hyl,s5,d5⟩:=h
   have hil:i < rows.length:=by have:=(List.getElem?_eq_some_iff.mp hz).1;omega
   have er:rows[i]?=some rows[i]:=List.getElem?_eq_getElem hil
   have ek:ks[i]?=some ks[i]:=List.getElem?_eq_getElem (by omega)
   have hrm:rows[i]∈rows:=List.getElem_mem hil
   obtain ⟨y',ey,dy⟩:=rows_at da er
   rw [hz] at ey
   cases ey
   have es:(stepK ks rows)[i]?=some (ks[i],rows[i].2.map fun g=>ks.getD g.toNat 0):=by
    unfold stepK
    rw [List.getElem?_map,List.getElem?_zip_eq_some (z:=(ks[i],rows[i])) |>.mpr ⟨ek,er⟩]
    rfl
   generalize rows[i]=ri at er dy es hrm
   generalize ks[i]=ki at ek es
   have ex:x=V.int ki:=by rw [List.getElem?_map,ek] at hx;exact (Option.some.inj hx).symm
   subst ex
   have sp:Same H (upd H5 p (.tup [V.int ki,y])):=(t4.trans s5).trans (same_up (Same.refl H5) hp)
   have sp5:Same H5 (upd H5 p (.tup [V.int ki,y])):=same_up (Same.refl H5) hp
   obtain ⟨t,b,c,rfl,et,eb,ec⟩:=rowD_inv (dy.mono sp)
   refine ⟨p,_,rfl,SqT.of upd_same,rfl,_,_,rfl,_,_,rfl,t,_,rfl,SqT.of et,rfl,_,_,rfl,_,_,rfl,rfl,rfl,_,rfl,_,rfl,_,rfl,l,.ref c,ks,ri.2,rfl,sp5 _ _ (s5 _ _ e4),Dr.tup ec (DrL.ints _),fun g hg=>by rw [hkl];exact GF.go ri hrm g hg,by rw [GF.len ri hrm];omega,fun v H6 s6 dv=>⟨by show 2≤sizeLine;decide,fun t7 ht7=>?_⟩⟩
   have s67:=same_up (o:=HO.tup [V.int ki,v]) s6 ht7
   have hy7:=s67 _ _ (sp5 _ _ hy)
   refine ⟨hy7,hil,by rw [List.length_append,hyl];rfl,same_over (s5.trans (sp5.trans s67)) hl5,?_⟩
   rw [take_snoc _ es]
   have kk:TupK H5 (upd (upd H6 t7 (.tup [V.int ki,v])) l5 (.lst (ys++[.ref t7]))):=TupK.up (TupK.of (sp5.trans s67)) hy7 (fun _ z=>by cases z)
   have k6:TupK H6 (upd (upd H6 t7 (.tup [V.int ki,v])) l5 (.lst (ys++[.ref t7]))):=TupK.up (TupK.of (same_up (Same.refl H6) ht7)) hy7 (fun _ z=>by cases z)
   have nt7:t7≠l5:=ne_of upd_same hy7 (by intro z;cases z)
   refine DrL.append (d5.keyed kk (steps_key _)) (DrL.one ?_)
   exact Dr.tup (vs:=[V.int ki,v]) (by rw [upd_ne nt7];exact upd_same) (DrL.cons (Dr.int ki) (DrL.one (dv.keyed k6 (its_key _))))
  obtain ⟨_,hyl5,s5,d5⟩:=h
  rw [List.length_map,hkl,List.take_of_length_le (by omega)] at d5
  refine ⟨l5,ys,_,rfl,hy,d5,fun d hd=>?_,by rw [List.length_map];omega,fun l6 H6 s6 e6=>?_⟩
  ·obtain ⟨p,_,rfl⟩:=List.mem_map.mp hd
   exact ⟨step_key p,step_dep p,_,rfl⟩
  rw [numb_map stepD stepD_inj] at e6
  cases m with
  | zero=>omega
  | succ m =>
   refine nx2 m _ _ (Nat.lt_succ_self m) ⟨cnt ks,_,l6,(by show [some (V.ref a),some (V.ref l6),some (V.int (cnt ks - 1+1))]=_;rw [ec]),(t4.trans s5).trans s6,e6,goodK1 GK,numbK1 hkl,.inr (by omega),by omega,by omega,?_⟩
   rw [←hk]
   exact (if_pos c').symm
 ·have c':=of_decide_eq_false (Bool.eq_false_iff.mpr cc)
  rw [ec] at c'
  have hkk:kinds rows=ks:=by
   rw [←hk]
   cases m with
   | zero=>rfl
   | succ m=>exact if_neg c'
  refine ⟨_,rfl,q (by rw [hkk];omega) l H4 t4 ?_⟩
  rw [hkk]
  exact e4
end
end Gu

set_option Elab.async false
set_option linter.all false
set_option maxRecDepth 100000
set_option maxHeartbeats 4000000
namespace Gu
open PySem L2
section
variable {P:Program} {w:World} {K:PySem.W.Frag} {mg:Str→Option Value} {base:Heap} {f g:Addr} {fd gd:FuncData} {CX:CXT} [NoE CX]
abbrev nLeastG:List Str:=["first","row_at","found","kinds","least","rearranging","goings","kind"]
theorem scLeastG:FnScope nLeastG ["first","row_at"] (defScope sLeast):=⟨rfl,rfl,rfl,by decide +kernel,rfl,by decide +kernel,by decide +kernel⟩
theorem ok_leastG {Cm:V→Addr→Hp→List Row→Prop} {k q Ct:Addr} {kd qd:FuncData} (F:Fun K "least_form" "least_form" sLeast f fd) (ml:mg "len"=none) (mt:mg "tuple"=none) (mz:mg "zip"=none)
  (G:FnOk P w K mg base (CXx P w) 5 g gd ["first","row_at"] (spComeG K Cm)) (bG:Binds K gd ["first","row_at"] []) (kG:PySem.W.keepIn K (.ref g)=true) (mG:mg "rows_come_to"=some (.ref g))
  (T:FnOk P w K mg base (CXx P w) 5 k kd ["rows"] (spKindsX K Ct)) (bT:Binds K kd ["rows"] []) (kT:PySem.W.keepIn K (.ref k)=true) (mT:mg "kinds_of_rows"=some (.ref k))
  (U:FnOk P w K mg base (CXx P w) 5 q qd ["kinds","goings"] (spGone K)) (bU:Binds K qd ["kinds","goings"] []) (kU:PySem.W.keepIn K (.ref q)=true) (mU:mg "kinds_gone_to"=some (.ref q)):FnOk P w K mg base (CXx P w) 6 f fd ["first","row_at"] (spLeastG K Cm Ct):=by
 refine F.okx scLeastG (fun vs H Q E h=>?_) (fun cdv A outer s H vs Q E hr h=>?_)
 ·obtain ⟨a,v0,n,rows,rfl,_⟩:=h
  rfl
 obtain ⟨fa,v0,n,rows,rfl,hC,GM,hn,gv,gx⟩:=h
 have hsc:=shr_cnt GM
 have h400:=GM.few
 refine ⟨_,pss_cons (ps_set (i:=2) scLeastG.nd rfl (Or.inl rfl) (pe_call G hr rfl mG kG bG .nil passN (pa_cons (pv 0) (pa_cons (pv 1) pa_nil))))
  (pss_cons (ps_set (i:=3) scLeastG.nd rfl (Or.inl rfl) (pe_call T hr rfl mT kT bT .nil (passX fun _ _ _ z=>z) (pa_cons (pv 2) pa_nil)))
  (pss_cons (ps_set (i:=4) scLeastG.nd rfl (Or.inl rfl) (pe_lst pa_nil))
  (pss_cons (ps_for PassesOwn.leaving rfl (pi_zip rfl mz (pa_cons (pv 2) (pa_cons (pv 3) pa_nil)))
   (pg_tup rfl (pgs_cons (pg_tup rfl (pgs_cons (pg_name (i:=5) scLeastG.nd rfl (Or.inl rfl)) (pgs_cons (pg_name (i:=6) scLeastG.nd rfl (Or.inl rfl)) pgs_nil))) (pgs_cons (pg_name (i:=7) scLeastG.nd rfl (Or.inl rfl)) pgs_nil)))
   (pss_one (ps_if (pt_cmp (pc_eqI (pv 7) (pe_callB call_len_seq rfl ml PySem.boot_len (pa_cons (pv 4) pa_nil))))
    (pss_one (ps_expr (pe_bm PySem.F.plainAttrs_list PySem.F.slot_list_append PySem.F.type_list_append mt_append (pv 4) (pa_cons (pe_tup (pa_cons (pv 5) (pa_cons (pe_call U hr rfl mU kU bU .nil passN (pa_cons (pv 3) (pa_cons (pv 6) pa_nil))) pa_nil))) pa_nil)))) pss_nil)))
  (pss_one (ps_ret (pe_callTy call_tuple_of rfl mt PyProof.Rows.boot_tuple (pa_cons (pv 4) pa_nil))))))),?_⟩
 have GF:=found_good GM
 have hfl:=found_le GM
 refine ⟨_,rfl,_,rfl,fa,v0,n,rows,rfl,hC,GM,hn,fun lf H1 s1 rf=>?_⟩
 refine ⟨_,rfl,lf,n,found rows,rfl,rf,GF,hn,fun h6 lk H2 s2 ek=>?_,fun h6 ea H' s'=>gx (by omega) ea H' (s1.trans s')⟩
 have gv:=gv (by omega)
 rw [←least_shr GM] at gv
 clear hsc h6
 have GK:=kinds_good GF
 have hkl:=GK.len
 unfold least at gv
 generalize kinds (found rows)=ks at *
 generalize found rows=fs at *
 obtain ⟨us,ef,df⟩:=rf.mono s2
 have hul:us.length=fs.length:=by have:=df.length;unfold rowsD at this;rw [List.length_map] at this;exact this.symm
 have s12:=s1.trans s2
 refine ⟨by show 0≤sizeLine;decide,fun ll hll=>⟨_,rfl,_,rfl,lf,lk,rfl,?_⟩⟩
 have hll0:H2 ll=none:=hll
 have s3:Same H2 (upd H2 ll (.lst [])):=same_up (Same.refl H2) hll
 refine ⟨⟨_,SqL.of (s3 _ _ ef)⟩,⟨_,SqL.of (s3 _ _ ek)⟩,zipO (xs:=us) (ys:=ks.map V.int) (by rw [List.length_map];omega) (fun i σ H3=>∃ (u1 u2 u3:Option V) (ws:List V),σ=[some v0,some (.ref fa),some (.ref lf),some (.ref lk),some (.ref ll),u1,u2,u3]∧Same H2 H3∧H3 ll=some (.lst ws)∧DrL K H3 (rowsD (leastP fs ks i)) ws)
  ⟨_,_,_,[],rfl,s3,upd_same,DrL.nil⟩ (fun i σ H3 _ h=>by obtain ⟨_,_,_,_,_,t3,_,_⟩:=h;exact ⟨SqL.of (t3 _ _ ef),SqL.of (t3 _ _ ek)⟩) (fun i x y p σ H3 hx hy h hp Ed nx3=>?_) (fun σ H3 h=>?_)⟩
 ·obtain ⟨u1,u2,u3,ws,rfl,t3,e3,d3⟩:=h
  have hil:i < fs.length:=by have:=(List.getElem?_eq_some_iff.mp hx).1;omega
  have er:fs[i]?=some fs[i]:=List.getElem?_eq_getElem hil
  have ek':ks[i]?=some ks[i]:=List.getElem?_eq_getElem (by omega)
  have hrm:fs[i]∈fs:=List.getElem_mem hil
  obtain ⟨x',ex,dx⟩:=rows_at df er
  rw [hx] at ex
  cases ex
  generalize fs[i]=ri at er dx hrm
  generalize ks[i]=ki at ek'
  have ey:y=V.int ki:=by rw [List.getElem?_map,ek'] at hy;exact (Option.some.inj hy).symm
  subst ey
  have hst:=leastP_step er ek'
  have hll2:=leastP_len fs ks i
  have hwl:ws.length=(leastP fs ks i).length:=by have:=d3.length;unfold rowsD at this;rw [List.length_map] at this;exact this.symm
  generalize leastP fs ks i=lp at *
  have sp3:Same H3 (upd H3 p (.tup [x,V.int ki])):=same_up (Same.refl H3) hp
  have sp:Same H2 (upd H3 p (.tup [x,V.int ki])):=t3.trans sp3
  obtain ⟨t,b,c,rfl,et,eb,ec⟩:=rowD_inv (dx.mono sp)
  refine ⟨p,_,rfl,SqT.of upd_same,rfl,_,_,rfl,t,_,rfl,SqT.of et,rfl,_,_,rfl,_,_,rfl,rfl,_,_,rfl,rfl,_,rfl,_,rfl,ll,_,rfl,.inl (SqL.of (sp3 _ _ e3)),_,_,rfl,rfl,_,rfl,?_⟩
  refine ite2 (fun c'=>?_) (fun c'=>?_)
  ·have c'':=of_decide_eq_true c'
   have hst2:leastP fs ks (i+1)=lp++[(ri.1,ri.2.map fun g=>ks.getD g.toNat 0)]:=by
    rw [hst];unfold lstep
    exact if_pos (by rw [←hwl];exact c'')
   refine ⟨_,rfl,.inl ⟨rfl,_,SqL.of (sp3 _ _ e3)⟩,_,rfl,_,rfl,_,rfl,lk,.ref c,ks,ri.2,rfl,sp _ _ ek,Dr.tup ec (DrL.ints _),fun g hg=>by rw [hkl];exact GF.go ri hrm g hg,by rw [GF.len ri hrm];omega,fun v H6 s6 dv=>⟨by show 2≤sizeLine;decide,fun t7 ht7=>?_⟩⟩
   have s67:=same_up (o:=HO.tup [.ref b,v]) s6 ht7
   have e7:=s67 _ _ (sp3 _ _ e3)
   refine ⟨ll,ws,.ref t7,rfl,rfl,e7,small5 (by omega),?_⟩
   have kk:TupK H3 (upd (upd H6 t7 (.tup [.ref b,v])) ll (.lst (ws++[.ref t7]))):=TupK.up (TupK.of (sp3.trans s67)) e7 (fun _ z=>by cases z)
   have k6:TupK H6 (upd (upd H6 t7 (.tup [.ref b,v])) ll (.lst (ws++[.ref t7]))):=TupK.up (TupK.of (same_up (Same.refl H6) ht7)) e7 (fun _ z=>by cases z)
   have nt7:t7≠ll:=ne_of upd_same e7 (by intro z;cases z)
   have eb':H6 b=some (.tup (ri.1.map V.int)):=s6 _ _ eb
   obtain ⟨c2,rfl,ec2⟩:=Dr.its_inv dv
   refine nx3 _ _ ⟨_,_,_,ws++[.ref t7],rfl,same_over (sp.trans s67) hll0,upd_same,?_⟩
   rw [hst2]
   unfold rowsD
   rw [List.map_append]
   refine DrL.append (d3.keyed kk (rows_key _)) (DrL.one (rowD_mk (b:=b) (c:=c2) ?_ (k6 _ _ eb') (k6 _ _ ec2)))
   rw [upd_ne nt7];exact upd_same
  ·have c'':=of_decide_eq_false (Bool.eq_false_iff.mpr c')
   have hst2:leastP fs ks (i+1)=lp:=by
    rw [hst];unfold lstep
    exact if_neg (by rw [←hwl];exact c'')
   refine nx3 _ _ ⟨_,_,_,ws,rfl,sp,sp3 _ _ e3,?_⟩
   rw [hst2]
   exact d3.mono sp3
 ·obtain ⟨u1,u2,u3,ws,rfl,t3,e3,d3⟩:=h
  rw [hul,leastP_all hkl] at d3
  refine ⟨_,rfl,ll,_,rfl,.inl ⟨SqL.of e3,fun t ht=>?_⟩⟩
  exact gv _ _ ((s12.trans t3).trans (same_up (Same.refl H3) ht)) (Dr.tup upd_same (d3.mono (same_up (Same.refl H3) ht)))
end
end Gu

set_option Elab.async false
set_option linter.all false
set_option maxRecDepth 100000
set_option maxHeartbeats 4000000
namespace Gu
open PySem L2
section
variable {P:Program} {w:World} {K:PySem.W.Frag} {mg:Str→Option Value} {base:Heap} {f g:Addr} {fd gd:FuncData} {CX:CXT} [NoE CX]
theorem scCell:FnScope ["_law_script","_law_at"] ["_law_script","_law_at"] (defScope sCell):=⟨rfl,rfl,rfl,by decide +kernel,rfl,by decide +kernel,by decide +kernel⟩
theorem ok_cell (F:Fun K "_law_cell" "_law_cell" sCell f fd) (ml:mg "len"=none):FnOk P w K mg base CX 1 f fd ["_law_script","_law_at"] (spCell K):=by
 refine F.okc scCell (fun vs H Q E h=>?_) (fun cdv A outer s H vs Q E hr h=>?_)
 ·obtain ⟨a,ns,i,rfl,_⟩:=h
  rfl
 obtain ⟨a,ns,i,rfl,hS,h63,hi,q⟩:=h
 refine ⟨_,pss_cons (ps_if (pt_cmpR op_lt (pv 1) (pe_callB call_len_seq rfl ml PySem.boot_len (pa_cons (pv 0) pa_nil)) (nomark _)) (pss_one (ps_ret (pe_ix ix_list (pv 0) (pv 1) (fun _ _=>rfl)))) pss_nil)
  (pss_cons (ps_if (pt_cmpR op_eq (pe_callB call_len_seq rfl ml PySem.boot_len (pa_cons (pv 0) pa_nil)) pe_int (nomark _)) (pss_one (ps_ret (pe_op op_add (pe_op op_mul pe_int (pv 1)) pe_int))) pss_nil)
  (pss_one (ps_ret (pe_op op_add (pe_op op_mod (pe_ix ix_list (pv 0) (pe_op op_mod (pv 1) (pe_callB call_len_seq rfl ml PySem.boot_len (pa_cons (pv 0) pa_nil))) (fun _ _=>rfl)) pe_int) (pe_op op_mul pe_int (pv 1)))))),?_⟩
 have hl:(ns.map V.int).length=ns.length:=List.length_map _
 refine ⟨_,rfl,_,rfl,a,_,rfl,.inl hS,_,_,rfl,rfl,_,rfl,?_⟩
 refine ite2 (fun c=>?_) (fun c=>?_)
 ·have c':(i:Int) < (((ns.map V.int).length:Nat):Int):=of_decide_eq_true c
  rw [hl] at c'
  have hin:i < ns.length:=by omega
  refine ⟨_,rfl,_,rfl,a,_,_,V.int (ns.getD i 0),rfl,rfl,hS,atI_nat (by simp [hin]),?_⟩
  have e:cell ns i=ns.getD i 0:=by unfold cell;rw [if_pos hin]
  rw [e] at q
  exact q
 ·have c':¬ (i:Int) < (((ns.map V.int).length:Nat):Int):=of_decide_eq_false (Bool.eq_false_iff.mpr c)
  rw [hl] at c'
  have hin:¬ i < ns.length:=by omega
  refine ⟨_,rfl,a,_,rfl,.inl hS,rfl,_,rfl,?_⟩
  refine ite2 (fun c=>?_) (fun c=>?_)
  ·have c2:=of_decide_eq_true c
   rw [hl] at c2
   have hz:ns.length=0:=by injection c2 with c2;omega
   refine ⟨_,rfl,_,_,rfl,rfl,.inl ⟨by decide,by decide⟩,_,_,rfl,rfl,?_⟩
   have e:cell ns i=29*i+5:=by unfold cell;rw [if_neg hin,if_pos hz]
   rw [e] at q
   exact q
  ·have c2:=of_decide_eq_false (Bool.eq_false_iff.mpr c)
   rw [hl] at c2
   have hz:¬ ns.length=0:=fun z=>c2 (congrArg V.int (by omega))
   have hpos:(0:Int) < ns.length:=by omega
   have hm:i % ns.length < ns.length:=Nat.mod_lt _ (by omega)
   have em:(i:Int) % (((ns.map V.int).length:Nat):Int)=((i % ns.length:Nat):Int):=by rw [hl];exact (Int.natCast_emod i ns.length).symm
   refine ⟨_,rfl,_,rfl,_,rfl,a,_,rfl,.inl hS,_,_,rfl,rfl,by rw [hl];exact hpos,a,_,_,V.int (ns.getD (i % ns.length) 0),rfl,rfl,hS,(by rw [em];exact atI_nat (by simp [hm])),_,_,rfl,rfl,(by show (0:Int) < 1000003;decide),_,rfl,_,_,rfl,rfl,.inl ⟨by decide,by decide⟩,_,_,rfl,rfl,?_⟩
   have e:cell ns i=ns.getD (i % ns.length) 0 % 1000003+103*i:=by unfold cell;rw [if_neg hin,if_neg hz]
   rw [e] at q
   exact q
theorem scLetters:FnScope ["_law_script","_law_at"] ["_law_script","_law_at"] (defScope sLetters):=⟨rfl,rfl,rfl,by decide +kernel,rfl,by decide +kernel,by decide +kernel⟩
theorem ok_letters (F:Fun K "_law_letters" "_law_letters" sLetters f fd) (G:FnOk P w K mg base CX 1 g gd ["_law_script","_law_at"] (spCell K)) (bG:Binds K gd ["_law_script","_law_at"] []) (kG:PySem.W.keepIn K (.ref g)=true) (mG:mg "_law_cell"=some (.ref g)) :
  FnOk P w K mg base CX 2 f fd ["_law_script","_law_at"] (spLetters K):=by
 refine F.okc scLetters (fun vs H Q E h=>?_) (fun cdv A outer s H vs Q E hr h=>?_)
 ·obtain ⟨a,ns,i,rfl,_⟩:=h
  rfl
 obtain ⟨a,ns,i,rfl,hS,h63,hi,q⟩:=h
 refine ⟨_,pss_one (ps_ret (pe_op op_add pe_int (pe_op op_mod (pe_call G hr rfl mG kG bG .nil passN (pa_cons (pv 0) (pa_cons (pv 1) pa_nil))) pe_int))),?_⟩
 rw [letN_int] at q
 exact ⟨_,rfl,_,rfl,a,ns,i,rfl,hS,h63,hi,_,_,rfl,rfl,(by show (0:Int) < 4;decide),_,_,rfl,rfl,q⟩
theorem scRear:FnScope ["_law_pick","_law_letters_here","_law_left","_law_made","_law_k","_law_many"] ["_law_pick","_law_letters_here"] (defScope sRear):=⟨rfl,rfl,rfl,by decide +kernel,rfl,by decide +kernel,by decide +kernel⟩
theorem ok_rear (F:Fun K "_law_rearranged" "_law_rearranged" sRear f fd) (ml:mg "len"=none) (mt:mg "tuple"=none) (mr:mg "range"=none) (mls:mg "list"=none):FnOk P w K mg base CX 1 f fd ["_law_pick","_law_letters_here"] (spRear K):=by
 refine F.okc scRear (fun vs H Q E h=>?_) (fun cdv A outer s H vs Q E hr h=>?_)
 ·obtain ⟨pick,n,rfl,_⟩:=h
  rfl
 obtain ⟨pick,n,rfl,hn,k⟩:=h
 refine ⟨_,pss_cons (ps_set (i:=2) scRear.nd rfl (Or.inl rfl) (pe_callTy (call_list_rng rfl) rfl mls PyProof.Rows.boot_list (pa_cons (pe_callTy call_rng rfl mr PyProof.Rows.boot_range (pa_cons (pv 1) pa_nil)) pa_nil)))
  (pss_cons (ps_set (i:=3) scRear.nd rfl (Or.inl rfl) (pe_lst pa_nil))
  (pss_cons (ps_for PassesOwn.never rfl (pi_range1 rfl mr (pa_cons (pv 1) pa_nil)) (pg_name (i:=4) scRear.nd rfl (Or.inl rfl))
   (pss_cons (ps_set (i:=5) scRear.nd rfl (Or.inl rfl) (pe_callB call_len_seq rfl ml PySem.boot_len (pa_cons (pv 2) pa_nil)))
   (pss_cons (ps_expr (pe_bm PySem.F.plainAttrs_list PySem.F.slot_list_append PySem.F.type_list_append mt_append (pv 3) (pa_cons (pe_bm PySem.F.plainAttrs_list PySem.F.slot_list_pop PySem.F.type_list_pop mt_popAt (pv 2) (pa_cons (pe_op op_mod (pv 0) (pv 5)) pa_nil)) pa_nil)))
   (pss_one (ps_set (i:=0) scRear.nd rfl (Or.inl rfl) (pe_op op_fdiv (pv 0) (pv 5)))))))
  (pss_one (ps_ret (pe_callTy call_tuple_of rfl mt PyProof.Rows.boot_tuple (pa_cons (pv 3) pa_nil)))))),?_⟩
 refine ⟨_,rfl,(n:Int),rfl,by omega,by omega,fun p hp=>⟨p,0,(n:Int),rfl,upd_same,⟨by decide,by decide,by omega,by omega⟩,by omega,fun l hl=>⟨by show 0≤sizeLine;decide,fun m hm=>?_⟩⟩⟩
 have e:((n:Int) - 0).toNat=n:=by omega
 rw [e,rint_iota] at hm ⊢
 have s1:Same H (upd H p (.rng 0 n)):=same_up (Same.refl H) hp
 have s2:Same H (upd (upd H p (.rng 0 n)) l (.lst ((iota n).map V.int))):=same_up s1 hl
 have hl0:H l=none:=s1.free hl
 have hm0:H m=none:=s2.free hm
 have hlm:l≠m:=ne_of_none upd_same hm
 have s3:Same H (upd (upd (upd H p (.rng 0 n)) l (.lst ((iota n).map V.int))) m (.lst [])):=same_up s2 hm
 refine ⟨_,rfl,(n:Int),rfl,by omega,by omega,rangeO (n:=(n:Int).toNat) (fun i σ H2=>∃ (u v:Option V) (pk:Int) (left made:List Int),σ=[some (.int pk),some (.int n),some (.ref l),some (.ref m),u,v]∧Same H H2∧H2 l=some (.lst (left.map V.int))∧H2 m=some (.lst (made.map V.int)) ∧
   left.length+i=n∧made.length=i∧rearr pick n=made++rear left.length pk left)
  ⟨none,none,pick,iota n,[],rfl,s3,(by rw [upd_ne hlm,upd_same]),upd_same,iota_len n,rfl,by rw [iota_len];rfl⟩ (fun i σ H2 hi h Ed nx3=>?_) (fun σ H2 h=>?_)⟩
 ·obtain ⟨u,v,pk,left,made,rfl,t2,gl,gm,e1,e2,e3⟩:=h
  have hin:i < n:=by simpa using hi
  have hpos:0 < left.length:=by omega
  have hL:(left.map V.int).length=left.length:=List.length_map _
  obtain ⟨ix,hixe,hix⟩:∃ ix:Nat,pk % (((left.map V.int).length:Nat):Int)=(ix:Int)∧ix < left.length:=by
   rw [hL]
   have h0:=Int.emod_nonneg pk (show (left.length:Int)≠0 by omega)
   have h1:=Int.emod_lt_of_pos pk (show (0:Int) < left.length by omega)
   exact ⟨(pk % (left.length:Int)).toNat,by omega,by omega⟩
  have hsq:PySem.seqIndex? (pk % (((left.map V.int).length:Nat):Int)) (left.map V.int).length=some ix:=by
   rw [hixe,hL,PySem.seqIndex_of (by omega) (by omega)]
   simp
  refine ⟨_,rfl,l,_,rfl,.inl (SqL.of gl),_,rfl,.inl ⟨rfl,_,SqL.of gm⟩,_,rfl,.inl ⟨rfl,_,SqL.of gl⟩,_,rfl,_,rfl,_,_,rfl,rfl,by rw [hL];omega,?_⟩
  refine ⟨l,_,_,ix,V.int (left.getD ix 0),rfl,rfl,gl,by rw [hixe];omega,by rw [hixe];omega,hsq,by simp [hix],m,_,_,rfl,rfl,by rw [upd_ne (Ne.symm hlm)];exact gm,by rw [List.length_map];exact small1000 (by omega),?_⟩
  refine ⟨_,rfl,_,rfl,_,_,rfl,rfl,⟨by rw [hL];omega,by rw [hL];omega⟩,?_⟩
  refine nx3 _ _ ⟨_,_,pk / (((left.map V.int).length:Nat):Int),left.eraseIdx ix,made++[left.getD ix 0],rfl,same_over (same_over t2 hl0) hm0,?_,?_,?_,by simp [e2],?_⟩
  ·rw [upd_ne hlm,upd_same]
   congr 2
   exact map_erase V.int left ix
  ·rw [upd_same,List.map_append];rfl
  ·rw [List.length_eraseIdx_of_lt hix];omega
  ·rw [e3,List.append_assoc]
   congr 1
   obtain ⟨q,hq⟩:∃ q,left.length=q+1:=⟨left.length - 1,by omega⟩
   have e5:(left.eraseIdx ix).length=q:=by rw [List.length_eraseIdx_of_lt hix];omega
   rw [e5,hL]
   rw [hL] at hixe
   have e6:(pk % (left.length:Int)).toNat=ix:=by omega
   have e7:rear (q+1) pk left=left.getD (pk % (left.length:Int)).toNat 0::rear q (pk / (left.length:Int)) (left.eraseIdx (pk % (left.length:Int)).toNat):=rfl
   rw [hq,e7,e6]
   rw [hq]
   rfl
 ·obtain ⟨u,v,pk,left,made,rfl,t2,gl,gm,e1,e2,e3⟩:=h
  refine ⟨_,rfl,m,_,rfl,.inl ⟨SqL.of gm,fun t ht=>?_⟩⟩
  have e9:(n:Int).toNat=n:=by omega
  have e4:left.length=0:=by omega
  rw [e4] at e3
  have e5:rearr pick n=made:=by rw [e3];unfold rear;simp
  rw [←e5]
  exact k _ _ (same_up t2 ht) (Dr.tup upd_same (DrL.ints _))
theorem scNumbered:FnScope ["things","numbers","thing"] ["things"] (defScope sNumbered):=⟨rfl,rfl,rfl,by decide +kernel,rfl,by decide +kernel,by decide +kernel⟩
theorem csNumbered:CompS ["things","numbers","thing"] (defScope sNumbered) ["thing","numbers"] [none,some 1] (csc [(".0",.local),("thing",.local),("numbers",.free)]):=⟨rfl,by decide +kernel,by decide +kernel,by decide +kernel,rfl,by decide +kernel,by decide +kernel⟩
theorem ok_numbered (F:Fun K "numbered" "numbered" sNumbered f fd) (ml:mg "len"=none):FnOk P w K mg base CX 1 f fd ["things"] (spNumbered K):=by
 refine F.okc scNumbered (fun vs H Q E h=>?_) (fun cdv A outer s H vs Q E hr h=>?_)
 ·obtain ⟨a,us,ds,rfl,_⟩:=h
  rfl
 obtain ⟨a,us,ds,rfl,ha,hd,hT,hlen,q⟩:=h
 have hu9:(A.deeper (PyProof.Rows.envOfC "numbered" (defScope sNumbered) s.heap.objs.size f cdv)).units+9 < cLine:=by have:=hr.units;omega
 refine ⟨_,pss_cons (ps_set (i:=1) scNumbered.nd rfl (Or.inr rfl) (pe_newD (K:=K)))
  (pss_cons (ps_for PassesOwn.never rfl (pi_list (pv 0)) (pg_name (i:=2) scNumbered.nd rfl (Or.inl rfl))
   (pss_one (ps_if (pt_cmp (pc_notinD (K:=K) hu9 (pv 2) (pv 1))) (pss_one (ps_putD (K:=K) hu9 (pv 1) (pv 2) (pe_callB (cLenD K) rfl ml PySem.boot_len (pa_cons (pv 1) pa_nil)))) pss_nil)))
  (pss_one (ps_ret (pe_comp rfl csNumbered (pi_list (pv 0)) (fun _ _ _ _ _=>pg_name (i:=0) csNumbered.nd rfl (Or.inl rfl)) (fun _ _ _ _ _=>peGetD P w K rfl rfl hu9 (pv 1) (pv 0) (fun _ _=>rfl)))))),?_⟩
 intro d hd0 ob0 g0
 have hul:ds.length=us.length:=hd.length
 have s0:Same H (upd H d ob0):=same_up (Same.refl H) hd0
 refine ⟨_,rfl,a,rfl,⟨_,SqL.of (s0 _ _ ha)⟩,listO (xs:=us) (fun i σ H2=>∃ v:Option V,σ=[some (.ref a),some (.ref d),v]∧Same H H2∧DD P w K H2 d (prs id (uniq (ds.take i))))
  ⟨none,rfl,s0,g0⟩ (fun i σ H2 _ h=>by obtain ⟨_,_,s2,_⟩:=h;exact SqL.of (s2 _ _ ha)) (fun i x σ H2 hx h Ed nx3=>?_) (fun σ H2 h=>?_)⟩
 ·obtain ⟨v,rfl,s2,g⟩:=h
  have hiu:i < us.length:=(List.getElem?_eq_some_iff.mp hx).1
  have ed:ds[i]?=some ds[i]:=List.getElem?_eq_getElem (by omega)
  obtain ⟨x',ex,dx⟩:=hd.get ed
  rw [hx] at ex
  cases ex
  have hk:=hT _ (List.getElem_mem (show i < ds.length by omega))
  generalize ds[i]=di at ed dx hk
  have et:uniq (ds.take (i+1))=addN (uniq (ds.take i)) di:=by
   unfold uniq
   rw [List.take_add_one,ed]
   exact addAll_snoc _ _ _
  have hlu:(uniq (ds.take i)).length≤4900:=by
   have:=addAll_len (ds.take i) []
   rw [List.length_take] at this
   unfold uniq
   simp at this
   omega
  refine ⟨_,rfl,_,rfl,d,_,di,rfl,g,keyV hk (dx.mono s2),_,rfl,?_⟩
  have hv:valV (prs id (uniq (ds.take i))) di=_:=prs_val id (fun _ _ e=>e) (uniq (ds.take i)) di
  by_cases hm:di∈uniq (ds.take i)
  ·rw [hv,if_pos hm]
   refine iteF (nx3 _ _ ⟨_,rfl,s2,?_⟩)
   rw [et,addN_mem hm]
   exact g
  ·rw [hv,if_neg hm]
   refine iteT ⟨_,rfl,d,_,rfl,g,_,rfl,_,rfl,d,_,di,rfl,g,keyV hk (dx.mono s2),by rw [prsF_len];exact small5 hlu,fun ob g2=>nx3 _ _ ⟨_,rfl,same_over s2 hd0,?_⟩⟩
   rw [et,addN_new hm,←prs_put id (fun _ _ e=>e) hm]
   rw [prsF_len] at g2
   exact g2
 ·obtain ⟨v,rfl,s2,g⟩:=h
  rw [List.take_of_length_le (by omega)] at g
  refine ⟨_,rfl,a,rfl,⟨_,SqL.of (s2 _ _ ha)⟩,fun l hl0=>comp_list (xs:=us) (fun i ys H3=>i≤ds.length∧ys=((numb ds).take i).map V.int∧Same H2 H3) ⟨Nat.zero_le _,rfl,same_up (Same.refl H2) hl0⟩ (fun i ys H3 _ h=>SqL.of (h.2.2 _ _ (s2 _ _ ha))) (line_le (by omega)) (fun i ys H3 h=>?_) (fun i x ys H3 hx h hy=>?_) (fun ys H3 h hy=>?_)⟩
  ·obtain ⟨hi,rfl,_⟩:=h
   unfold numb
   rw [List.length_map,List.length_take,List.length_map]
   omega
  ·obtain ⟨_,rfl,s3⟩:=h
   have hiu:i < us.length:=(List.getElem?_eq_some_iff.mp hx).1
   have ed:ds[i]?=some ds[i]:=List.getElem?_eq_getElem (by omega)
   obtain ⟨x',ex,dx⟩:=hd.get ed
   rw [hx] at ex
   cases ex
   have hmem:ds[i]∈ds:=List.getElem_mem (show i < ds.length by omega)
   have hk:=hT _ hmem
   generalize ds[i]=di at ed dx hk hmem
   have hm:di∈uniq ds:=addAll_mem.mpr (.inr hmem)
   have hv:valV (prs id (uniq ds)) di=_:=prs_val id (fun _ _ e=>e) (uniq ds) di
   rw [if_pos hm] at hv
   refine ⟨_,rfl,_,rfl,d,_,di,_,rfl,g.mono s3,keyV hk (dx.mono (s2.trans s3)),hv,hy,by omega,?_,same_over s3 hl0⟩
   have en:(numb ds)[i]?=some (((uniq ds).idxOf di:Nat):Int):=by unfold numb;rw [List.getElem?_map,ed];rfl
   rw [take_snoc _ en]
  ·obtain ⟨_,rfl,s3⟩:=h
   have e:((numb ds).take us.length)=numb ds:=List.take_of_length_le (by unfold numb;rw [List.length_map];omega)
   rw [e] at hy
   exact q l H3 (s2.trans s3) hy
theorem scGone:FnScope ["kinds","goings"] ["kinds","goings"] (defScope sGone):=⟨rfl,rfl,rfl,by decide +kernel,rfl,by decide +kernel,by decide +kernel⟩
theorem csGone:CompS ["kinds","goings"] (defScope sGone) ["going","kinds"] [none,some 0] (csc [(".0",.local),("going",.local),("kinds",.free)]):=⟨rfl,by decide +kernel,by decide +kernel,by decide +kernel,rfl,by decide +kernel,by decide +kernel⟩
theorem ok_gone (F:Fun K "kinds_gone_to" "kinds_gone_to" sGone f fd) (mt:mg "tuple"=none):FnOk P w K mg base CX 1 f fd ["kinds","goings"] (spGone K):=by
 refine F.okc scGone (fun vs H Q E h=>?_) (fun cdv A outer s H vs Q E hr h=>?_)
 ·obtain ⟨a,b,ks,gs,rfl,_⟩:=h
  rfl
 obtain ⟨a,b,ks,gs,rfl,ha,hb,hg,hl,q⟩:=h
 refine ⟨_,pss_one (ps_ret (pe_callTy call_tuple_of rfl mt PyProof.Rows.boot_tuple (pa_cons (pe_comp rfl csGone (pi_tup (pv 1)) (fun _ _ _ _ _=>pg_name (i:=0) csGone.nd rfl (Or.inl rfl)) (fun _ _ _ _ _=>pe_ix (ixL K rfl) (pv 1) (pv 0) (fun _ _=>rfl))) pa_nil))),?_⟩
 obtain ⟨b,rfl,eb⟩:=Dr.its_inv hb
 refine ⟨_,rfl,b,rfl,⟨_,SqT.of eb⟩,fun l hl0=>comp_tup (xs:=gs.map V.int) (fun i ys H2=>i≤gs.length∧ys=((gs.take i).map fun g=>ks.getD g.toNat 0).map V.int∧Same H H2) ⟨Nat.zero_le _,rfl,same_up (Same.refl H) hl0⟩ (fun i ys H2 _ h=>SqT.of (h.2.2 _ _ eb)) (by rw [List.length_map];exact line_le (by omega)) (fun i ys H2 h=>?_) (fun i x ys H2 hx h hy=>?_) (fun ys H2 h hy=>?_)⟩
 ·obtain ⟨hi,rfl,_⟩:=h
  rw [List.length_map,List.length_map,List.length_take]
  omega
 ·obtain ⟨hi,rfl,s2⟩:=h
  have hil:i < gs.length:=by have:=(List.getElem?_eq_some_iff.mp hx).1;rwa [List.length_map] at this
  have eg:gs[i]?=some gs[i]:=List.getElem?_eq_getElem hil
  obtain ⟨h0,h1⟩:=hg _ (List.getElem_mem hil)
  generalize gs[i]=gi at eg h0 h1
  have ex:x=V.int gi:=by rw [List.getElem?_map,eg] at hx;exact (Option.some.inj hx).symm
  subst ex
  have hk:gi.toNat < ks.length:=by omega
  refine ⟨_,rfl,_,rfl,a,_,gi,V.int (ks.getD gi.toNat 0),rfl,rfl,SqL.of (s2 _ _ ha),atI_of h0 (by simp [hk]),hy,hil,?_,same_over s2 hl0⟩
  rw [take_snoc _ eg,List.map_append]
  rfl
 ·obtain ⟨_,rfl,s2⟩:=h
  refine ⟨l,_,rfl,.inl ⟨SqL.of hy,fun t ht=>?_⟩⟩
  rw [List.length_map,List.take_length]
  exact q _ _ (same_up s2 ht) (Dr.tup upd_same (DrL.ints _))
end
end Gu

set_option Elab.async false
set_option linter.all false
set_option maxRecDepth 100000
set_option maxHeartbeats 4000000
namespace Gu
open PySem L2
section
variable {P:Program} {w:World} {K:PySem.W.Frag} {mg:Str→Option Value} {base:Heap} {f g:Addr} {fd gd:FuncData} {CX:CXT} [NoE CX]
theorem scWhole:FnScope ["_law_found"] ["_law_found"] (defScope sWhole):=⟨rfl,rfl,rfl,by decide +kernel,rfl,by decide +kernel,by decide +kernel⟩
theorem ok_whole (F:Fun K "_law_whole" "_law_whole" sWhole f fd) (B:Blt mg):FnOk P w K mg base CX 1 f fd ["_law_found"] (spWhole K):=by
 refine F.okc scWhole (fun vs H Q E h=>?_) (fun cdv A outer s H vs Q E hr h=>?_)
 ·obtain ⟨i,rfl,_⟩:=h
  rfl
 obtain ⟨i,rfl,q⟩:=h
 refine ⟨_,pss_one (ps_ret (pe_and (pIsi K rfl (pv 0) B.isi B.int PyProof.Rows.boot_int)
  (pe_one (pe_not (pIsi K rfl (pv 0) B.isi B.bl PyProof.Rows.boot_bool))))),?_⟩
 exact ⟨_,rfl,_,_,_,rfl,.of (.int i),rfl,_,rfl,iteT ⟨_,rfl,_,_,_,rfl,.of (.int i),rfl,_,rfl,q⟩⟩
theorem scLike:FnScope ["_law_found","_law_due"] ["_law_found","_law_due"] (defScope sLike):=⟨rfl,rfl,rfl,by decide +kernel,rfl,by decide +kernel,by decide +kernel⟩
theorem csLike:CompS ["_law_found","_law_due"] (defScope sLike) ["_law_k","_law_due","_law_found"] [none,some 1,some 0] (csc [(".0",.local),("_law_k",.local),("_law_like",.globalImplicit),("_law_due",.free),("_law_found",.free)]):=⟨rfl,by decide +kernel,by decide +kernel,by decide +kernel,rfl,by decide +kernel,by decide +kernel⟩
theorem ok_like {n:Nat} (F:Fun K "_law_like" "_law_like" sLike f fd) (B:Blt mg) (G:FnOk P w K mg base CX 1 g gd ["_law_found"] (spWhole K)) (bG:Binds K gd ["_law_found"] []) (kG:PySem.W.keepIn K (.ref g)=true) (mG:mg "_law_whole"=some (.ref g))
  (L:FnOk P w K mg base CX (n+1) f fd ["_law_found","_law_due"] (spLike K n)) (bL:Binds K fd ["_law_found","_law_due"] []) (kL:PySem.W.keepIn K (.ref f)=true) (mL:mg "_law_like"=some (.ref f)):FnOk P w K mg base CX (n+2) f fd ["_law_found","_law_due"] (spLike K (n+1)):=by
 refine F.okc scLike (fun vs H Q E h=>?_) (fun cdv A outer s H vs Q E hr h=>?_)
 ·obtain ⟨a,b,d,rfl,_⟩:=h
  rfl
 obtain ⟨a,b,d,rfl,da,db,hd,hfew,q⟩:=h
 have hr1:Room 1 _:=hr.mono (by omega)
 refine ⟨_,pss_cons (ps_if (pt_cmpR op_isN (pv 1) pe_non (nomark _)) (pss_one (ps_ret (pe_cmpR op_isN (pv 0) pe_non (nomark _)))) pss_nil)
  (pss_cons (ps_if (pt_val (pIsi K rfl (pv 1) B.isi B.bl PyProof.Rows.boot_bool))
   (pss_one (ps_ret (pe_and (pIsi K rfl (pv 0) B.isi B.bl PyProof.Rows.boot_bool) (pe_one (pe_cmpR op_eq (pv 0) (pv 1) (nomark _)))))) pss_nil)
  (pss_cons (ps_if (pt_val (pIsi K rfl (pv 1) B.isi B.int PyProof.Rows.boot_int))
   (pss_one (ps_ret (pe_and (pe_call G hr1 rfl mG kG bG .nil passN (pa_cons (pv 0) pa_nil)) (pe_one (pe_cmpR op_eq (pv 0) (pv 1) (nomark _)))))) pss_nil)
  (pss_cons (ps_if (pt_val (pIsi K rfl (pv 1) B.isi B.str PyProof.Rows.boot_str))
   (pss_one (ps_ret (pe_and (pIsi K rfl (pv 0) B.isi B.str PyProof.Rows.boot_str) (pe_one (pe_cmpR op_eq (pv 0) (pv 1) (nomark _)))))) pss_nil)
  (pss_cons (ps_if (PW.pt (pw_or (pt_cmpR op_ne (pIsi K rfl (pv 1) B.isi B.lst PyProof.Rows.boot_list)
     (pIsi K rfl (pv 0) B.isi B.lst PyProof.Rows.boot_list) (nomark _))
    (pw_or1 (pt_cmpR op_ne (pIsi K rfl (pv 1) B.isi B.tup PyProof.Rows.boot_tuple)
     (pIsi K rfl (pv 0) B.isi B.tup PyProof.Rows.boot_tuple) (nomark _)))))
   (pss_one (ps_ret pe_bl)) pss_nil)
  (pss_one (ps_ret (pe_and (pe_cmpR op_eq (pe_callB call_len_seq rfl B.len PySem.boot_len (pa_cons (pv 0) pa_nil)) (pe_callB call_len_seq rfl B.len PySem.boot_len (pa_cons (pv 1) pa_nil)) (nomark _))
   (pe_one (pe_callB (cAll K rfl rfl) rfl B.all PyProof.Rows.boot_all (pa_cons (pe_comp rfl csLike (pi_range1 rfl B.rng (pa_cons (pe_callB call_len_seq rfl B.len PySem.boot_len (pa_cons (pv 1) pa_nil)) pa_nil)) (fun _ _ _ _ _=>pg_name (i:=0) csLike.nd rfl (Or.inl rfl))
    (fun _ _ _ _ _=>pe_call L hr rfl mL kL bL .nil passN (pa_cons (pe_ix ((ixL K rfl).or (ixT K rfl)) (pv 2) (pv 0) (fun _ _=>rfl)) (pa_cons (pe_ix ((ixL K rfl).or (ixT K rfl)) (pv 1) (pv 0) (fun _ _=>rfl)) pa_nil)))) pa_nil)))))))))),?_⟩
 have kit:∀ t c b,PySem.W.kitOne K (.type t) (.type c)=some b→PySem.W.kitOne K (.type t) (.type c)=some b:=fun _ _ _ h=>h
 cases d with
 | non =>
  simp only [Dr] at da db
  subst da db
  exact ⟨_,rfl,rfl,_,rfl,iteT ⟨_,rfl,rfl,q _ (Same.refl H)⟩⟩
 | bl x =>
  simp only [Dr] at da db
  subst da db
  refine cutS (fun Ed nx=>⟨_,rfl,rfl,_,rfl,iteF nx⟩) ?_
  refine ⟨_,rfl,_,_,_,rfl,.of (.bl x),rfl,_,rfl,iteT ⟨_,rfl,_,_,_,rfl,.of (.bl x),rfl,_,rfl,iteT ⟨_,rfl,_,rfl,rfl,?_⟩⟩⟩
  rw [decide_eq_true rfl]
  exact q _ (Same.refl H)
 | int x =>
  simp only [Dr] at da db
  subst da db
  refine cutS (fun Ed nx=>⟨_,rfl,rfl,_,rfl,iteF nx⟩) (cutS (fun Ed nx=>⟨_,rfl,_,_,_,rfl,.of (.int x),rfl,_,rfl,iteF nx⟩) ?_)
  refine ⟨_,rfl,_,_,_,rfl,.of (.int x),rfl,_,rfl,iteT ⟨_,rfl,x,rfl,_,rfl,iteT ⟨_,rfl,_,rfl,rfl,?_⟩⟩⟩
  rw [decide_eq_true rfl]
  exact q _ (Same.refl H)
 | str x =>
  simp only [Dr] at da db
  subst da db
  refine cutS (fun Ed nx=>⟨_,rfl,rfl,_,rfl,iteF nx⟩) (cutS (fun Ed nx=>⟨_,rfl,_,_,_,rfl,.of (.str x),rfl,_,rfl,iteF nx⟩) (cutS (fun Ed nx=>⟨_,rfl,_,_,_,rfl,.of (.str x),rfl,_,rfl,iteF nx⟩) ?_))
  refine ⟨_,rfl,_,_,_,rfl,.of (.str x),rfl,_,rfl,iteT ⟨_,rfl,_,_,_,rfl,.of (.str x),rfl,_,rfl,iteT ⟨_,rfl,_,rfl,rfl,?_⟩⟩⟩
  rw [decide_eq_true rfl]
  exact q _ (Same.refl H)
 | tup ds =>
  simp only [Dr] at da db
  obtain ⟨a,vs,rfl,sa,ra⟩:=da
  obtain ⟨b,us,rfl,sb,rb⟩:=db
  replace sa:=SqT.of (K:=K) sa
  replace sb:=SqT.of (K:=K) sb
  simp only [D.few] at hfew
  simp only [D.dep] at hd
  refine cutS (fun Ed nx=>⟨_,rfl,rfl,_,rfl,iteF nx⟩) (cutS (fun Ed nx=>⟨_,rfl,_,_,_,rfl,.tup sb,rfl,_,rfl,iteF nx⟩) (cutS (fun Ed nx=>⟨_,rfl,_,_,_,rfl,.tup sb,rfl,_,rfl,iteF nx⟩) (cutS (fun Ed nx=>⟨_,rfl,_,_,_,rfl,.tup sb,rfl,_,rfl,iteF nx⟩) (cutS (fun Ed nx=>⟨_,rfl,_,_,_,rfl,.tup sb,rfl,_,rfl,_,_,_,rfl,.tup sa,rfl,rfl,_,rfl,iteF ⟨_,rfl,_,_,_,rfl,.tup sb,rfl,_,rfl,_,_,_,rfl,.tup sa,rfl,rfl,_,rfl,iteF nx⟩⟩) ?_))))
  have lav:ds.length=vs.length:=ra.length
  have lbu:ds.length=us.length:=rb.length
  refine ⟨_,rfl,a,_,rfl,.inr sa,_,rfl,b,_,rfl,.inr sb,rfl,true,congrArg V.bl (decide_eq_true (congrArg V.int (by omega))),iteT ?_⟩
  refine ⟨_,rfl,b,_,rfl,.inr sb,(us.length:Int),rfl,by omega,by omega,fun l hl0=>comp_range (n:=(us.length:Int).toNat) (fun i ys H2=>i≤us.length∧ys=List.replicate i (V.bl true)∧Same H H2) ⟨Nat.zero_le _,rfl,same_up (Same.refl H) hl0⟩ (line_le (by omega)) (fun i ys H2 h=>by obtain ⟨_,rfl,_⟩:=h;exact List.length_replicate)
   (fun i ys H2 hi h hy=>?_) (fun ys H2 h hy=>?_)⟩
  ·obtain ⟨_,rfl,s2⟩:=h
   have hiu:i < us.length:=by omega
   have e0:(0:Int)+(i:Int)=(i:Int):=by omega
   have ed:ds[i]?=some ds[i]:=List.getElem?_eq_getElem (by omega)
   obtain ⟨x,ex,dx⟩:=ra.get ed
   obtain ⟨y,ey,dy⟩:=rb.get ed
   have dl:=D.depL_get ed
   refine ⟨_,rfl,_,rfl,.inr ⟨a,_,_,x,rfl,rfl,s2.tupl sa,(by rw [e0];exact atI_nat ex),?_⟩⟩
   refine ⟨_,rfl,_,rfl,.inr ⟨b,_,_,y,rfl,rfl,s2.tupl sb,(by rw [e0];exact atI_nat ey),?_⟩⟩
   refine ⟨x,y,ds[i],rfl,dx.mono s2,dy.mono s2,by omega,D.fewL_get hfew.2 ed,fun H3 s3=>⟨s3 _ _ hy,hiu,?_,same_over (s2.trans s3) hl0⟩⟩
   rw [List.replicate_succ']
  ·obtain ⟨_,rfl,s2⟩:=h
   refine ⟨l,List.replicate ((us.length:Int).toNat) true,rfl,?_,?_⟩
   ·rw [List.map_replicate];exact SqL.of hy
   ·have e:(List.replicate ((us.length:Int).toNat) true).all id=true:=by simp
    rw [e]
    exact q _ s2
 | lst ds =>
  simp only [Dr] at da db
  obtain ⟨a,vs,rfl,sa,ra⟩:=da
  obtain ⟨b,us,rfl,sb,rb⟩:=db
  simp only [D.few] at hfew
  simp only [D.dep] at hd
  refine cutS (fun Ed nx=>⟨_,rfl,rfl,_,rfl,iteF nx⟩) (cutS (fun Ed nx=>⟨_,rfl,_,_,_,rfl,.lst sb,rfl,_,rfl,iteF nx⟩) (cutS (fun Ed nx=>⟨_,rfl,_,_,_,rfl,.lst sb,rfl,_,rfl,iteF nx⟩) (cutS (fun Ed nx=>⟨_,rfl,_,_,_,rfl,.lst sb,rfl,_,rfl,iteF nx⟩) (cutS (fun Ed nx=>⟨_,rfl,_,_,_,rfl,.lst sb,rfl,_,rfl,_,_,_,rfl,.lst sa,rfl,rfl,_,rfl,iteF ⟨_,rfl,_,_,_,rfl,.lst sb,rfl,_,rfl,_,_,_,rfl,.lst sa,rfl,rfl,_,rfl,iteF nx⟩⟩) ?_))))
  have lav:ds.length=vs.length:=ra.length
  have lbu:ds.length=us.length:=rb.length
  refine ⟨_,rfl,a,_,rfl,.inl sa,_,rfl,b,_,rfl,.inl sb,rfl,true,congrArg V.bl (decide_eq_true (congrArg V.int (by omega))),iteT ?_⟩
  refine ⟨_,rfl,b,_,rfl,.inl sb,(us.length:Int),rfl,by omega,by omega,fun l hl0=>comp_range (n:=(us.length:Int).toNat) (fun i ys H2=>i≤us.length∧ys=List.replicate i (V.bl true)∧Same H H2) ⟨Nat.zero_le _,rfl,same_up (Same.refl H) hl0⟩ (line_le (by omega)) (fun i ys H2 h=>by obtain ⟨_,rfl,_⟩:=h;exact List.length_replicate)
   (fun i ys H2 hi h hy=>?_) (fun ys H2 h hy=>?_)⟩
  ·obtain ⟨_,rfl,s2⟩:=h
   have hiu:i < us.length:=by omega
   have e0:(0:Int)+(i:Int)=(i:Int):=by omega
   have ed:ds[i]?=some ds[i]:=List.getElem?_eq_getElem (by omega)
   obtain ⟨x,ex,dx⟩:=ra.get ed
   obtain ⟨y,ey,dy⟩:=rb.get ed
   have dl:=D.depL_get ed
   refine ⟨_,rfl,_,rfl,.inl ⟨a,_,_,x,rfl,rfl,s2.seq sa,(by rw [e0];exact atI_nat ex),?_⟩⟩
   refine ⟨_,rfl,_,rfl,.inl ⟨b,_,_,y,rfl,rfl,s2.seq sb,(by rw [e0];exact atI_nat ey),?_⟩⟩
   refine ⟨x,y,ds[i],rfl,dx.mono s2,dy.mono s2,by omega,D.fewL_get hfew.2 ed,fun H3 s3=>⟨s3 _ _ hy,hiu,?_,same_over (s2.trans s3) hl0⟩⟩
   rw [List.replicate_succ']
  ·obtain ⟨_,rfl,s2⟩:=h
   refine ⟨l,List.replicate ((us.length:Int).toNat) true,rfl,?_,?_⟩
   ·rw [List.map_replicate];exact SqL.of hy
   ·have e:(List.replicate ((us.length:Int).toNat) true).all id=true:=by simp
    rw [e]
    exact q _ s2
theorem like_none:FnOk P w K mg base CX 1 f fd ["_law_found","_law_due"] (spLike K 0):=by
 have no:∀ vs H Q E,¬ spLike K 0 vs H Q E:=fun vs H Q E h=>by
  obtain ⟨a,b,d,_,_,_,hd,_⟩:=h
  omega
 exact ⟨fun vs H Q E h=>absurd h (no vs H Q E),fun A outer s H args us vs Q E _ _ _ _ h=>absurd h (no vs H Q E)⟩
theorem all_like (F:Fun K "_law_like" "_law_like" sLike f fd) (B:Blt mg) (G:FnOk P w K mg base CX 1 g gd ["_law_found"] (spWhole K)) (bG:Binds K gd ["_law_found"] []) (kG:PySem.W.keepIn K (.ref g)=true) (mG:mg "_law_whole"=some (.ref g))
  (bL:Binds K fd ["_law_found","_law_due"] []) (kL:PySem.W.keepIn K (.ref f)=true) (mL:mg "_law_like"=some (.ref f)):∀ n:Nat,FnOk P w K mg base CX (n+1) f fd ["_law_found","_law_due"] (spLike K n)
 | 0=>like_none
 | n+1=>ok_like F B G bG kG mG (all_like F B G bG kG mG bL kL mL n) bL kL mL
abbrev nPq:List Str:=["_law_one","_law_other","_law_rows_here","_law_first","_law_goings","_law_late","_law_ends","_law_both","_law_paired"]
theorem scPq:FnScope nPq ["_law_one","_law_other"] (defScope sPairsL):=⟨rfl,rfl,rfl,by decide +kernel,rfl,by decide +kernel,by decide +kernel⟩
theorem csPq:CompS nPq (defScope sPairsL) ["_law_k","_law_ends","_law_first","_law_goings","_law_other"] [none,some 6,some 3,some 4,some 1] (csc [(".0",.local),("_law_k",.local),("len",.globalImplicit),("_law_ends",.free),("_law_first",.free),("_law_goings",.free),("_law_other",.free)]):=⟨rfl,by decide +kernel,by decide +kernel,by decide +kernel,rfl,by decide +kernel,by decide +kernel⟩
theorem csPq2:CompS nPq (defScope sPairsL) ["_law_became","_law_late"] [none,some 5] (csc [(".0",.local),("_law_became",.local),("_law_late",.free)]):=⟨rfl,by decide +kernel,by decide +kernel,by decide +kernel,rfl,by decide +kernel,by decide +kernel⟩
theorem prod_take {one other:List Row} {r b:Nat} (hr:r < one.length) (hb:b < other.length):(prodM one other).take (r*other.length+b+1)=(prodM one other).take (r*other.length+b)++[prow other.length (row one (r:Int)) (row other (b:Int))]:=by
 have hlt:r*other.length+b < one.length*other.length:=by
  have:(r+1)*other.length≤one.length*other.length:=Nat.mul_le_mul_right _ hr
  rw [Nat.add_mul,Nat.one_mul] at this
  omega
 have e:=row_get (rows:=prodM one other) (r:=((r*other.length+b:Nat):Int)) (by omega) (by rw [prodM_len];omega)
 rw [prodM_row (by omega) (by omega),Int.toNat_natCast] at e
 have q1:((r*other.length+b:Nat):Int) / (other.length:Int)=(r:Int):=by
  rw [←Int.natCast_ediv,Nat.add_comm,Nat.add_mul_div_right _ _ (by omega),Nat.div_eq_of_lt hb];omega
 have q2:((r*other.length+b:Nat):Int) % (other.length:Int)=(b:Int):=by
  rw [←Int.natCast_emod,Nat.add_comm,Nat.add_mul_mod_self_right,Nat.mod_eq_of_lt hb]
 rw [q1,q2] at e
 rw [List.take_add_one,e]
 rfl
theorem ok_pairsl (F:Fun K "_law_pairs" "_law_pairs" sPairsL f fd) (ml:mg "len"=none) (mt:mg "tuple"=none) (mr:mg "range"=none):FnOk P w K mg base CX 1 f fd ["_law_one","_law_other"] (spPairsL K):=by
 refine F.okc scPq (fun vs H Q E h=>?_) (fun cdv A outer s H vs Q E hr h=>?_)
 ·obtain ⟨v1,v2,n,one,other,rfl,_⟩:=h
  rfl
 obtain ⟨v1,v2,n,one,other,rfl,d1,d2,G1,G2,hn,h1,h2,q⟩:=h
 refine ⟨_,pss_cons (ps_set (i:=2) scPq.nd rfl (Or.inl rfl) (pe_lst pa_nil))
  (pss_cons (ps_for PassesOwn.never rfl (pi_tup (pv 0)) (pg_tup rfl (pgs_cons (pg_name (i:=3) scPq.nd rfl (Or.inr rfl)) (pgs_cons (pg_name (i:=4) scPq.nd rfl (Or.inr rfl)) pgs_nil)))
   (pss_one (ps_for PassesOwn.never rfl (pi_tup (pv 1)) (pg_tup rfl (pgs_cons (pg_name (i:=5) scPq.nd rfl (Or.inr rfl)) (pgs_cons (pg_name (i:=6) scPq.nd rfl (Or.inr rfl)) pgs_nil)))
    (pss_cons (ps_set (i:=7) scPq.nd rfl (Or.inl rfl) (pe_callTy call_tuple_of rfl mt PyProof.Rows.boot_tuple (pa_cons (pe_comp rfl csPq2 (pi_tup (pv 3)) (fun _ _ _ _ _=>pg_name (i:=0) csPq2.nd rfl (Or.inl rfl)) (fun _ _ _ _ _=>pe_ix (ixT K rfl) (pv 1) (pv 0) (fun _ _=>rfl))) pa_nil)))
    (pss_cons (ps_set (i:=8) scPq.nd rfl (Or.inl rfl) (pe_callTy call_tuple_of rfl mt PyProof.Rows.boot_tuple (pa_cons (pe_comp rfl csPq (pi_range1 rfl mr (pa_cons (pe_callB call_len_seq rfl ml PySem.boot_len (pa_cons (pv 3) pa_nil)) pa_nil)) (fun _ _ _ _ _=>pg_name (i:=0) csPq.nd rfl (Or.inl rfl)) (fun _ _ _ _ _=>pe_op op_add (pe_op op_mul (pe_ix (ixT K rfl) (pv 3) (pv 0) (fun _ _=>rfl)) (pe_callB (cLen K rfl) rfl ml PySem.boot_len (pa_cons (pv 4) pa_nil))) (pe_ix (ixT K rfl) (pv 1) (pe_ix (ixT K rfl) (pv 2) (pv 0) (fun _ _=>rfl)) (fun _ _=>rfl)))) pa_nil)))
    (pss_one (ps_expr (pe_bm PySem.F.plainAttrs_list PySem.F.slot_list_append PySem.F.type_list_append mt_append (pv 2) (pa_cons (pe_tup (pa_cons (pv 7) (pa_cons (pv 8) pa_nil))) pa_nil)))))))))
  (pss_one (ps_ret (pv 2)))),?_⟩
 obtain ⟨a1,us,rfl,e1,dus⟩:∃ (a:Addr) (us:List V),v1=.ref a∧H a=some (.tup us)∧DrL K H (rowsD one) us:=by
  simp only [Dr] at d1
  exact d1
 obtain ⟨a2,vs,rfl,e2,dvs⟩:∃ (a:Addr) (us:List V),v2=.ref a∧H a=some (.tup us)∧DrL K H (rowsD other) us:=by
  simp only [Dr] at d2
  exact d2
 have hul:us.length=one.length:=by have:=dus.length;unfold rowsD at this;rw [List.length_map] at this;omega
 have hvl:vs.length=other.length:=by have:=dvs.length;unfold rowsD at this;rw [List.length_map] at this;omega
 refine ⟨by show 0≤sizeLine;decide,fun lr hlr=>?_⟩
 have s1:=same_up (o:=HO.lst []) (Same.refl H) hlr
 refine ⟨_,rfl,a1,rfl,⟨_,SqT.of (s1 _ _ e1)⟩,tupO (xs:=us) (fun r σ H2=>∃ (u3 u4 u5 u6 u7 u8:Option V) (rs:List V),σ=[some (.ref a1),some (.ref a2),some (.ref lr),u3,u4,u5,u6,u7,u8]∧Same H H2∧H2 lr=some (.lst rs)∧DrL K H2 (rowsD ((prodM one other).take (r*other.length))) rs)
  ⟨_,_,_,_,_,_,[],rfl,s1,upd_same,by rw [Nat.zero_mul];exact DrL.nil⟩ (fun r σ H2 _ h=>by obtain ⟨_,_,_,_,_,_,_,_,t2,_⟩:=h;exact SqT.of (t2 _ _ e1)) (fun r x σ H2 hx h Ed nx2=>?_) (fun σ H2 h=>?_)⟩
 ·obtain ⟨u3,u4,u5,u6,u7,u8,rs,rfl,t2,er,dr⟩:=h
  have hr1:r < one.length:=by have:=(List.getElem?_eq_some_iff.mp hx).1;omega
  have eo:one[r]?=some (row one (r:Int)):=by have:=row_get (rows:=one) (r:=(r:Int)) (by omega) (by omega);rwa [Int.toNat_natCast] at this
  have hR:=row_mem (rows:=one) (r:=(r:Int)) (by omega) (by omega)
  obtain ⟨x',ex,dx⟩:=rows_at dus eo
  rw [hx] at ex
  cases ex
  have pR:=G1.perm _ hR
  have lR:=G1.len _ hR
  have gR:=G1.go _ hR
  have hpt:∀ b,b < other.length→(prodM one other).take (r*other.length+b+1)=(prodM one other).take (r*other.length+b)++[prow other.length (row one (r:Int)) (row other (b:Int))]:=fun b hb=>prod_take hr1 hb
  generalize row one (r:Int)=R at *
  obtain ⟨t1,b1,c1,rfl,et1,eb1,ec1⟩:=rowD_inv dx
  have hpl:=pR.len
  refine ⟨t1,_,rfl,SqT.of (t2 _ _ et1),rfl,_,_,rfl,_,_,rfl,rfl,?_⟩
  refine ⟨_,rfl,a2,rfl,⟨_,SqT.of (t2 _ _ e2)⟩,tupO (xs:=vs) (fun b σ H3=>∃ (u5 u6 u7 u8:Option V) (rs:List V),σ=[some (.ref a1),some (.ref a2),some (.ref lr),some (.ref b1),some (.ref c1),u5,u6,u7,u8]∧Same H H3∧H3 lr=some (.lst rs)∧DrL K H3 (rowsD ((prodM one other).take (r*other.length+b))) rs)
   ⟨_,_,_,_,rs,rfl,t2,er,dr⟩ (fun b σ H3 _ h=>by obtain ⟨_,_,_,_,_,_,t3,_⟩:=h;exact SqT.of (t3 _ _ e2)) (fun b x σ H3 hx h Ed3 nx3=>?_) (fun σ H3 h=>?_)⟩
  ·obtain ⟨u5,u6,u7,u8,rs,rfl,t3,er,dr⟩:=h
   have hb1:b < other.length:=by have:=(List.getElem?_eq_some_iff.mp hx).1;omega
   have eo':other[b]?=some (row other (b:Int)):=by have:=row_get (rows:=other) (r:=(b:Int)) (by omega) (by omega);rwa [Int.toNat_natCast] at this
   have hS:=row_mem (rows:=other) (r:=(b:Int)) (by omega) (by omega)
   obtain ⟨x',ex,dx'⟩:=rows_at dvs eo'
   rw [hx] at ex
   cases ex
   have pS:=G2.perm _ hS
   have lS:=G2.len _ hS
   have gS:=G2.go _ hS
   have ept:=hpt b hb1
   generalize row other (b:Int)=S at *
   obtain ⟨t2',b2,c2,rfl,et2,eb2,ec2⟩:=rowD_inv dx'
   have hsl:=pS.len
   refine ⟨t2',_,rfl,SqT.of (t3 _ _ et2),rfl,_,_,rfl,_,_,rfl,rfl,?_⟩
   refine ⟨_,rfl,b1,rfl,⟨_,SqT.of (t3 _ _ eb1)⟩,fun l4 hl4=>comp_tup (xs:=R.1.map V.int) (fun j ys H4=>j≤R.1.length∧ys=((R.1.take j).map fun x=>S.1.getD x.toNat 0).map V.int∧Same H3 H4) ⟨Nat.zero_le _,rfl,same_up (Same.refl H3) hl4⟩ (fun j ys H4 _ h=>SqT.of ((t3.trans h.2.2) _ _ eb1)) (by rw [List.length_map];exact line_le (by omega)) (fun j ys H4 h=>?_) (fun j x ys H4 hx h hy=>?_) (fun ys H4 h hy=>?_)⟩
   ·obtain ⟨hj,rfl,_⟩:=h
    rw [List.length_map,List.length_map,List.length_take];omega
   ·obtain ⟨hj,rfl,s4⟩:=h
    have hjl:j < R.1.length:=by have:=(List.getElem?_eq_some_iff.mp hx).1;rwa [List.length_map] at this
    have eg:R.1[j]?=some R.1[j]:=List.getElem?_eq_getElem hjl
    obtain ⟨l0,l1⟩:=mem_iota.mp (pR.mem_iff.mp (List.getElem_mem hjl))
    generalize R.1[j]=l at eg l0 l1
    have ex:x=V.int l:=by rw [List.getElem?_map,eg] at hx;exact (Option.some.inj hx).symm
    subst ex
    have hll:l.toNat < S.1.length:=by omega
    refine ⟨_,rfl,_,rfl,b2,_,l,V.int (S.1.getD l.toNat 0),rfl,rfl,SqT.of ((t3.trans s4) _ _ eb2),atI_of l0 ?_,hy,hjl,?_,same_over s4 hl4⟩
    ·rw [List.getElem?_map,List.getD_eq_getElem?_getD,List.getElem?_eq_getElem hll];rfl
    ·rw [take_snoc _ eg,List.map_append];rfl
   ·obtain ⟨_,rfl,s4⟩:=h
    rw [List.length_map,List.take_length] at hy
    refine ⟨l4,_,rfl,.inl ⟨SqL.of hy,fun t5 ht5=>?_⟩⟩
    have s5:=same_up (o:=HO.tup ((R.1.map fun x=>S.1.getD x.toNat 0).map V.int)) s4 ht5
    have e5:upd H4 t5 (HO.tup ((R.1.map fun x=>S.1.getD x.toNat 0).map V.int)) t5=some (.tup ((turn R.1 S.1).map V.int)):=upd_same
    generalize upd H4 t5 (HO.tup ((R.1.map fun x=>S.1.getD x.toNat 0).map V.int))=H5 at s5 e5
    have t35:=t3.trans s5
    refine ⟨_,rfl,b1,_,rfl,.inr (SqT.of (t35 _ _ eb1)),((R.1.length:Nat):Int),(by rw [List.length_map]),by omega,by omega,fun l6 hl6=>comp_range (n:=((R.1.length:Nat):Int).toNat) (fun j ys H6=>ys.length=j∧ys=((List.range j).map fun k=>R.2.getD k 0*(other.length:Int)+S.2.getD (R.1.getD k 0).toNat 0).map V.int∧Same H5 H6) ⟨rfl,rfl,same_up (Same.refl H5) hl6⟩ (line_le (by omega)) (fun j ys H6 h=>h.1) (fun j ys H6 hj h hy6=>?_) (fun ys H6 h hy6=>?_)⟩
    ·obtain ⟨hyl,rfl,s6⟩:=h
     have hj':j < n:=by omega
     obtain ⟨l,g',e,q1,q2,q3,q4,q5,q6,g0,g1',e0,e1'⟩:=prow_go (m:=other.length) (N:=one.length) pR lR gR lS gS hj'
     have ej:(0:Int)+(j:Int)=(j:Int):=by omega
     rw [ej]
     have t36:=t35.trans s6
     refine ⟨_,rfl,_,rfl,c1,_,_,V.int g',rfl,rfl,SqT.of (t36 _ _ ec1),atI_nat (by rw [List.getElem?_map,q3];rfl),_,rfl,a2,_,rfl,.inr (SqT.of (t36 _ _ e2)),_,_,rfl,rfl,.inl ⟨by omega,by omega⟩,_,rfl,_,rfl,_,rfl,b1,_,_,V.int l,rfl,rfl,SqT.of (t36 _ _ eb1),atI_nat (by rw [List.getElem?_map,q1];rfl),c2,_,_,V.int e,rfl,rfl,SqT.of (t36 _ _ ec2),atI_nat (by rw [List.getElem?_map,q4];rfl),_,_,rfl,rfl,hy6,?_,?_,same_over s6 hl6⟩
     ·rw [List.length_append,hyl];rfl
     ·rw [List.range_succ,List.map_append,List.map_append]
      show _=_++[V.int (R.2.getD j 0*(other.length:Int)+S.2.getD (R.1.getD j 0).toNat 0)]
      rw [q5,q6,←hvl]
    ·obtain ⟨_,rfl,s6⟩:=h
     rw [Int.toNat_natCast] at hy6
     refine ⟨l6,_,rfl,.inl ⟨SqL.of hy6,fun t7 ht7=>?_⟩⟩
     have s7:=same_up (o:=HO.tup (((List.range R.1.length).map fun k=>R.2.getD k 0*(other.length:Int)+S.2.getD (R.1.getD k 0).toNat 0).map V.int)) s6 ht7
     have e7:upd H6 t7 (HO.tup (((List.range R.1.length).map fun k=>R.2.getD k 0*(other.length:Int)+S.2.getD (R.1.getD k 0).toNat 0).map V.int)) t7=some (.tup ((prow other.length R S).2.map V.int)):=upd_same
     generalize upd H6 t7 (HO.tup (((List.range R.1.length).map fun k=>R.2.getD k 0*(other.length:Int)+S.2.getD (R.1.getD k 0).toNat 0).map V.int))=H7 at s7 e7
     have er7:=(s5.trans s7) _ _ er
     have hrl:rs.length≤4000:=by
      have:=dr.length
      unfold rowsD at this
      rw [List.length_map,List.length_take] at this
      have h3:=prodM_len one other
      have:one.length*other.length≤60*60:=Nat.mul_le_mul h1 h2
      omega
     refine ⟨_,rfl,.inl ⟨rfl,_,SqL.of er7⟩,_,rfl,_,rfl,by show 2≤sizeLine;decide,fun t8 ht8=>?_⟩
     have s8:=same_up (o:=HO.tup [.ref t5,.ref t7]) (Same.refl H7) ht8
     have e8:upd H7 t8 (HO.tup [.ref t5,.ref t7]) t8=some (.tup [.ref t5,.ref t7]):=upd_same
     generalize upd H7 t8 (HO.tup [.ref t5,.ref t7])=H8 at s8 e8
     have er8:=s8 _ _ er7
     refine ⟨lr,rs,.ref t8,rfl,rfl,er8,small5 (by omega),?_⟩
     have kk:TupK H8 (upd H8 lr (.lst (rs++[.ref t8]))):=TupK.up (TupK.refl _) er8 (fun _ z=>by cases z)
     refine nx3 _ _ ⟨_,_,_,_,rs++[.ref t8],rfl,same_over ((t35.trans s7).trans s8) hlr,upd_same,?_⟩
     show DrL K _ (rowsD ((prodM one other).take (r*other.length+b+1))) _
     rw [ept]
     unfold rowsD
     rw [List.map_append]
     exact DrL.append ((dr.mono (s5.trans (s7.trans s8))).keyed kk (rows_key _)) (DrL.one (rowD_mk (r:=prow other.length R S) (kk _ _ e8) (kk _ _ ((s7.trans s8) _ _ e5)) (kk _ _ (s8 _ _ e7))))
  ·obtain ⟨u5,u6,u7,u8,rs,rfl,t3,er,dr⟩:=h
   refine nx2 _ _ ⟨_,_,_,_,_,_,rs,rfl,t3,er,?_⟩
   rw [hvl] at dr
   rw [Nat.add_mul,Nat.one_mul]
   exact dr
 ·obtain ⟨u3,u4,u5,u6,u7,u8,rs,rfl,t2,er,dr⟩:=h
  rw [hul,List.take_of_length_le (by rw [prodM_len];exact Nat.le_refl _)] at dr
  exact ⟨_,rfl,q lr H2 t2 ⟨rs,er,dr⟩⟩
abbrev nCl:List Str:=["_law_one","_law_start","_law_seen","_law_line","_law_at"]
theorem scCl:FnScope nCl ["_law_one","_law_start"] (defScope sComesL):=⟨rfl,rfl,rfl,by decide +kernel,rfl,by decide +kernel,by decide +kernel⟩
theorem ok_comesl (ml:mg "len"=none) (mli:mg "list"=none) (F:Fun K "_law_comes_again" "_law_comes_again" sComesL f fd):FnOk P w K mg base CX 1 f fd ["_law_one","_law_start"] (spComesL K):=by
 refine F.okc scCl (fun vs H Q E h=>?_) (fun cdv A outer s H vs Q E hr h=>?_)
 ·obtain ⟨v,rows,n,r,rfl,_⟩:=h
  rfl
 obtain ⟨v,rows,n,r,rfl,dv,GM,n5,h60,r0,r1,q⟩:=h
 refine ⟨_,pss_cons (ps_set (i:=2) scCl.nd rfl (Or.inl rfl) (pe_lst pa_nil))
  (pss_cons (ps_set (i:=3) scCl.nd rfl (Or.inl rfl) (pe_callTy call_list_of rfl mli PyProof.Rows.boot_list (pa_cons (pe_ix ix_tup (pe_ix ix_tup (pv 0) (pv 1) (fun _ _=>rfl)) pe_int (fun _ _=>rfl)) pa_nil)))
  (pss_cons (ps_while PassesOwn.never (pt_cmpR op_gt (pe_callB call_len_seq rfl ml PySem.boot_len (pa_cons (pv 3) pa_nil)) pe_int (nomark _))
   (pss_cons (ps_set (i:=4) scCl.nd rfl (Or.inl rfl) (pe_bm0 PySem.F.plainAttrs_list PySem.F.slot_list_pop PySem.F.type_list_pop mt_pop (pv 3)))
   (pss_one (ps_if (pt_cmpR op_notIn_seq (pv 4) (pv 2) rfl) (pss_cons (ps_expr (pe_bm PySem.F.plainAttrs_list PySem.F.slot_list_append PySem.F.type_list_append mt_append (pv 2) (pa_cons (pv 4) pa_nil)))
    (pss_one (ps_expr (pe_bm PySem.F.plainAttrs_list PySem.F.slot_list_extend PySem.F.type_list_extend mt_extendT (pv 3) (pa_cons (pe_ix ix_tup (pe_ix ix_tup (pv 0) (pv 4) (fun _ _=>rfl)) pe_int (fun _ _=>rfl)) pa_nil))))) pss_nil))))
  (pss_one (ps_ret (pe_cmpR op_in_seq (pv 1) (pv 2) rfl))))),?_⟩
 obtain ⟨av,us,rfl,eav,dus⟩:∃ (av:Addr) (us:List V),v=.ref av∧H av=some (.tup us)∧DrL K H (rowsD rows) us:=by
  simp only [Dr] at dv
  exact dv
 have at_:∀ {H':Hp},Same H H'→∀ x:Int,0≤x→x < (rows.length:Int)→∃ tr br cr,atI us x=some (.ref tr)∧H' tr=some (.tup [.ref br,.ref cr])∧H' cr=some (.tup ((row rows x).2.map V.int)):=fun {H'} s' x x0 x1=>by
  obtain ⟨rn,hrn⟩:=nat_of x0
  subst hrn
  have eR:rows[rn]?=some (row rows (rn:Int)):=by
   unfold row
   rw [Int.toNat_natCast,List.getD_eq_getElem?_getD,List.getElem?_eq_getElem (by omega)]
   rfl
  obtain ⟨xr,exr,dxr⟩:=rows_at (dus.mono s') eR
  obtain ⟨tr,br,cr,rfl,etr,ebr,ecr⟩:=rowD_inv dxr
  exact ⟨tr,br,cr,atI_nat exr,etr,ecr⟩
 refine ⟨by show 0≤sizeLine;decide,fun ls hls=>?_⟩
 have s0:=same_up (o:=HO.lst []) (Same.refl H) hls
 obtain ⟨tr,br,cr,e1,e2,e3⟩:=at_ s0 r r0 r1
 refine ⟨_,rfl,_,rfl,av,_,_,.ref tr,rfl,rfl,SqT.of (s0 _ _ eav),e1,tr,_,_,.ref cr,rfl,rfl,SqT.of e2,atI_nat (j:=1) rfl,cr,_,rfl,.inr (SqT.of e3),fun ll hll=>?_⟩
 have s1:=same_up (o:=HO.lst ((row rows r).2.map V.int)) s0 hll
 have hllH:H ll=none:=s0.free hll
 have nsl:ls≠ll:=ne_of_none upd_same hll
 have hlr:=GM.len _ (row_mem r0 r1)
 have D0:Dfs n rows r [] (row rows r).2:=⟨List.nodup_nil,fun x hx=>by rcases hx with z | z;simp at z;exact GM.go _ (row_mem r0 r1) x z,fun g hg=>.inr hg,fun x hx=>by rcases hx with z | z;simp at z;exact go_stepB GM (v:=[]) (fun _ z=>by simp at z) r0 r1 rfl z,fun x hx=>by simp at hx⟩
 refine ⟨fun m σ H3=>∃ (seen line:List Int) (u4:Option V),m=6*(rows.length - seen.length)+line.length∧σ=[some (.ref av),some (.int r),some (.ref ls),some (.ref ll),u4]∧Same H H3∧H3 ls=some (.lst (seen.map V.int))∧H3 ll=some (.lst (line.map V.int))∧Dfs n rows r seen line∧line.length≤5*(seen.length+1),
  ⟨_,[],(row rows r).2,none,rfl,rfl,s1,by rw [upd_ne nsl];exact upd_same,upd_same,D0,by simp;omega⟩,?_⟩
 rintro m σ H3 ⟨seen,line,u4,rfl,rfl,s3,es,el,Df,hl5⟩
 have hsl:seen.length≤rows.length:=nodup_len Df.nd fun x hx=>Df.rg x (.inl hx)
 refine ⟨_,rfl,ll,_,rfl,.inl (SqL.of el),_,_,rfl,rfl,_,rfl,?_⟩
 refine ite2 (fun c=>?_) (fun c=>?_)
 ·have c':=of_decide_eq_true c
  rw [List.length_map] at c'
  have hlp:0 < line.length:=by omega
  have ex:line[line.length - 1]?=some line[line.length - 1]:=List.getElem?_eq_getElem (by omega)
  generalize line[line.length - 1]=x at ex
  obtain ⟨x0,x1⟩:=Df.rg x (.inr (List.mem_of_getElem? ex))
  refine cutN fun N nx=>?_
  refine ⟨_,rfl,.inl ⟨rfl,_,SqL.of el⟩,ll,line.map V.int,V.int x,rfl,rfl,el,by rw [List.length_map,List.getElem?_map,ex];rfl,?_⟩
  have edl:(line.map V.int).dropLast=line.dropLast.map V.int:=by rw [List.map_dropLast]
  rw [edl]
  have s4:Same H (upd H3 ll (.lst (line.dropLast.map V.int))):=same_over s3 hllH
  have es4:upd H3 ll (.lst (line.dropLast.map V.int)) ls=some (.lst (seen.map V.int)):=by rw [upd_ne nsl];exact es
  have el4:upd H3 ll (.lst (line.dropLast.map V.int)) ll=some (.lst (line.dropLast.map V.int)):=upd_same
  have hdl:line.dropLast.length=line.length - 1:=List.length_dropLast
  generalize upd H3 ll (.lst (line.dropLast.map V.int))=H4 at s4 es4 el4
  refine ⟨_,rfl,_,rfl,ls,seen.map V.int,rfl,.inl (SqL.of es4),rfl,flat_ints seen,?_⟩
  rw [show (if true=true then !inV (V.int x) (seen.map V.int) else inV (V.int x) (seen.map V.int))=!decide (x∈seen) from by rw [if_pos rfl,inV_int]]
  refine ⟨_,rfl,?_⟩
  by_cases hs:x∈seen
  ·rw [decide_eq_true hs]
   refine iteF ?_
   exact nx (6*(rows.length - seen.length)+line.dropLast.length) _ _ (by omega) ⟨seen,line.dropLast,_,rfl,rfl,s4,es4,el4,Df.old ex hs,by omega⟩
  ·rw [decide_eq_false hs]
   refine iteT ?_
   have Dn:=Df.new GM r0 r1 ex hs
   have hsl2:(seen++[x]).length≤rows.length:=nodup_len Dn.nd fun y hy=>Dn.rg y (.inl hy)
   have hsl3:(seen++[x]).length=seen.length+1:=by rw [List.length_append];rfl
   refine ⟨_,rfl,.inl ⟨rfl,_,SqL.of es4⟩,_,rfl,ls,_,_,rfl,rfl,es4,by rw [List.length_map];exact small1000 (by omega),?_⟩
   have hlsH:H ls=none:=hls
   have s5:Same H (upd H4 ls (.lst (seen.map V.int++[V.int x]))):=same_over s4 hlsH
   have es5:upd H4 ls (.lst (seen.map V.int++[V.int x])) ls=some (.lst ((seen++[x]).map V.int)):=by rw [upd_same,List.map_append];rfl
   have el5:upd H4 ls (.lst (seen.map V.int++[V.int x])) ll=some (.lst (line.dropLast.map V.int)):=by rw [upd_ne (Ne.symm nsl)];exact el4
   generalize upd H4 ls (.lst (seen.map V.int++[V.int x]))=H5 at s5 es5 el5
   obtain ⟨tr,br,cr,z1,z2,z3⟩:=at_ s5 x x0 x1
   have hlx:=GM.len _ (row_mem x0 x1)
   refine ⟨_,rfl,.inl ⟨rfl,_,SqL.of el5⟩,_,rfl,_,rfl,av,_,_,.ref tr,rfl,rfl,SqT.of (s5 _ _ eav),z1,tr,_,_,.ref cr,rfl,rfl,SqT.of z2,atI_nat (j:=1) rfl,ll,cr,_,_,rfl,rfl,el5,z3,line_le (by rw [List.length_map,List.length_map];omega),?_⟩
   refine nx (6*(rows.length - (seen++[x]).length)+(line.dropLast++(row rows x).2).length) _ _ (by rw [List.length_append (as:=line.dropLast)];omega) ⟨seen++[x],line.dropLast++(row rows x).2,_,rfl,rfl,same_over s5 hllH,by rw [upd_ne nsl];exact es5,by rw [upd_same,List.map_append],Dn,by rw [List.length_append (as:=line.dropLast)];omega⟩
 ·have c':¬ ((((line.map V.int).length:Nat):Int) > 0):=fun z=>c (decide_eq_true z)
  rw [List.length_map] at c'
  have hl0:line=[]:=List.eq_nil_of_length_eq_zero (by omega)
  subst hl0
  refine ⟨_,rfl,_,rfl,ls,seen.map V.int,rfl,.inl (SqL.of es),rfl,flat_ints seen,?_⟩
  rw [show (if false=true then !inV (V.int r) (seen.map V.int) else inV (V.int r) (seen.map V.int))=decide (r∈seen) from inV_int r seen]
  exact q _ (dfs_end GM r0 r1 Df) H3 s3
end
end Gu

set_option Elab.async false
set_option linter.all false
set_option maxRecDepth 100000
set_option maxHeartbeats 4000000
namespace Gu
open PySem L2
section
variable {P:Program} {w:World} {K:PySem.W.Frag} {mg:Str→Option Value} {base:Heap} {f g:Addr} {fd gd:FuncData} {CX:CXT} [NoE CX]
abbrev nRows:List Str:=["_law_letters_here","_law_cell_here","_law_nums","_law_many","_law_kind","_law_rows_here","_law_at","_law_pick","_law_first","_law_goings"]
theorem scRows:FnScope nRows ["_law_letters_here","_law_cell_here"] (defScope sRows):=⟨rfl,rfl,rfl,by decide +kernel,rfl,by decide +kernel,by decide +kernel⟩
theorem csRows1:CompS nRows (defScope sRows) ["_law_k","_law_many","_law_pick"] [none,some 3,some 7] (csc [(".0",.local),("_law_k",.local),("_law_many",.free),("_law_pick",.free)]):=⟨rfl,by decide +kernel,by decide +kernel,by decide +kernel,rfl,by decide +kernel,by decide +kernel⟩
theorem csRows2:CompS nRows (defScope sRows) ["_law_to","_law_at","_law_many"] [none,some 6,some 3] (csc [(".0",.local),("_law_to",.local),("min",.globalImplicit),("_law_at",.free),("_law_many",.free)]):=⟨rfl,by decide +kernel,by decide +kernel,by decide +kernel,rfl,by decide +kernel,by decide +kernel⟩
theorem csRows3:CompS nRows (defScope sRows) ["_law_k","_law_goings","_law_letters_here","_law_many","_law_pick"] [none,some 9,some 0,some 3,some 7] (csc [(".0",.local),("_law_k",.local),("_law_goings",.free),("_law_letters_here",.free),("_law_many",.free),("_law_pick",.free)]):=⟨rfl,by decide +kernel,by decide +kernel,by decide +kernel,rfl,by decide +kernel,by decide +kernel⟩
theorem ok_rows {k:Addr} {kd:FuncData} (F:Fun K "_law_rows" "_law_rows" sRows f fd) (mr:mg "range"=none) (mt:mg "tuple"=none) (mm:mg "min"=none)
  (G:FnOk P w K mg base CX 1 g gd ["_law_cell_here","_law_many"] (spNumbers K)) (bG:Binds K gd ["_law_cell_here","_law_many"] []) (kG:PySem.W.keepIn K (.ref g)=true) (mG:mg "_law_numbers"=some (.ref g))
  (T:FnOk P w K mg base CX 1 k kd ["_law_pick","_law_letters_here"] (spRear K)) (bT:Binds K kd ["_law_pick","_law_letters_here"] []) (kT:PySem.W.keepIn K (.ref k)=true) (mT:mg "_law_rearranged"=some (.ref k)):FnOk P w K mg base CX 2 f fd ["_law_letters_here","_law_cell_here"] (spRows K):=by
 refine F.okc scRows (fun vs H Q E h=>?_) (fun cdv A outer s H vs Q E hr h=>?_)
 ·obtain ⟨n,c,rfl,_⟩:=h
  rfl
 obtain ⟨n,c,rfl,hn2,hn5,q⟩:=h
 refine ⟨_,pss_cons (ps_set (i:=2) scRows.nd rfl (Or.inl rfl) (pe_call G hr rfl mG kG bG .nil passN (pa_cons (pv 1) (pa_cons pe_int pa_nil))))
  (pss_cons (ps_set (i:=3) scRows.nd rfl (Or.inr rfl) (pe_op op_add pe_int (pe_op op_mod (pe_ix ix_list (pv 2) pe_int (fun _ _=>rfl)) pe_int)))
  (pss_cons (ps_set (i:=4) scRows.nd rfl (Or.inl rfl) (pe_op op_mod (pe_ix ix_list (pv 2) pe_int (fun _ _=>rfl)) pe_int))
  (pss_cons (ps_set (i:=5) scRows.nd rfl (Or.inl rfl) (pe_lst pa_nil))
  (pss_cons (ps_for PassesOwn.never rfl (pi_range1 rfl mr (pa_cons (pv 3) pa_nil)) (pg_name (i:=6) scRows.nd rfl (Or.inr rfl))
   (pss_cons (ps_set (i:=7) scRows.nd rfl (Or.inr rfl) (pe_slice sl_list (pv 2) (po_some (pe_op op_add pe_int (pe_op op_mul pe_int (pv 6)))) (po_some (pe_op op_add pe_int (pe_op op_mul pe_int (pv 6))))))
   (pss_cons (ps_set (i:=8) scRows.nd rfl (Or.inl rfl) (pe_call T hr rfl mT kT bT .nil passN (pa_cons (pe_ix ix_list (pv 7) pe_int (fun _ _=>rfl)) (pa_cons (pv 0) pa_nil))))
   (pss_cons (ps_set (i:=9) scRows.nd rfl (Or.inr rfl) (pe_comp rfl csRows1 (pi_range1 rfl mr (pa_cons (pv 0) pa_nil)) (fun _ _ _ _ _=>pg_name (i:=0) csRows1.nd rfl (Or.inl rfl)) (fun _ _ _ _ _=>pe_op op_mod (pe_ix (ixL K rfl) (pv 2) (pe_op op_add pe_int (pv 0)) (fun _ _=>rfl)) (pv 1))))
   (pss_cons (PS.weak (tRI K) (ps_if (pt_cmp (pc_eqI (pv 4) pe_int)) (pss_one (ps_set (i:=9) scRows.nd rfl (Or.inr rfl) (pe_comp rfl csRows2 (pi_list (pv 9)) (fun _ _ _ _ _=>pg_name (i:=0) csRows2.nd rfl (Or.inl rfl)) (fun _ _ _ _ _=>pe_callB (call_min2 rfl) rfl mm PyProof.Rows.boot_min (pa_cons (pe_op op_sub (pv 2) pe_int) (pa_cons (pe_op op_add (pe_op op_add (pv 1) pe_int) (pv 0)) pa_nil)))))) pss_nil) ?_)
   (pss_cons (PS.weak (tRI K) (ps_if (pt_cmp (pc_eqI (pv 4) pe_int)) (pss_one (ps_set (i:=9) scRows.nd rfl (Or.inr rfl) (pe_comp rfl csRows3 (pi_range1 rfl mr (pa_cons (pv 0) pa_nil)) (fun _ _ _ _ _=>pg_name (i:=0) csRows3.nd rfl (Or.inl rfl)) (fun _ _ _ _ _=>pe_ifExp (pt_cmp (pc_eqI (pv 0) (pe_op op_mod (pe_op op_fdiv (pe_ix (ixL K rfl) (pv 4) pe_int (fun _ _=>rfl)) pe_int) (pv 2)))) (pe_ix (ixL K rfl) (pv 1) (pv 0) (fun _ _=>rfl)) (pe_op op_sub (pv 3) pe_int))))) pss_nil) ?_)
   (pss_cons (PS.weak (tRI K) (ps_if (PT.weak (tAny (PreRI K)) (PW.pt (pw_or (PW.pt (pw_and (pt_chain op_le op_le pe_int (pv 4) pe_int) (pw_and1 (pt_cmp (pc_eqI (pv 6) (pe_op op_sub (pv 3) pe_int)))))) (pw_or1 (PW.pt (pw_and (pt_cmp (pc_eqI (pv 4) pe_int)) (pw_and1 (pt_cmp (pc_eqI (pe_op op_mod (pe_ix ix_list (pv 7) pe_int (fun _ _=>rfl)) pe_int) pe_int)))))))) ?_)
    (pss_one (ps_set (i:=8) scRows.nd rfl (Or.inl rfl) (pe_callTy (call_tuple_rng rfl) rfl mt PyProof.Rows.boot_tuple (pa_cons (pe_callTy call_rng rfl mr PyProof.Rows.boot_range (pa_cons (pv 0) pa_nil)) pa_nil)))) pss_nil) ?_)
   (pss_cons (PS.weak (tRI K) (ps_if (PT.weak (tAny (PreRI K)) (PW.pt (pw_and (pt_chain op_le op_le pe_int (pv 4) pe_int) (pw_and1 (pt_cmp (pc_eqI (pv 6) (pe_op op_sub (pv 3) pe_int)))))) ?_)
    (pss_one (ps_set (i:=9) scRows.nd rfl (Or.inr rfl) (pe_op op_rep (pe_lst (pa_cons (pv 6) pa_nil)) (pv 0)))) pss_nil) ?_)
   (pss_one (ps_expr (pe_bm PySem.F.plainAttrs_list PySem.F.slot_list_append PySem.F.type_list_append mt_append (pv 5) (pa_cons (pe_tup (pa_cons (pv 8) (pa_cons (pe_callTy call_tuple_of rfl mt PyProof.Rows.boot_tuple (pa_cons (pv 9) pa_nil)) pa_nil))) pa_nil))))))))))))
  (pss_one (ps_ret (pv 5))))))),?_⟩
 ·intro D σ H h
  obtain ⟨n,m,c,kd,j,ln,lr,lp,ps,H0,rf,ri,nx⟩:=h
  obtain ⟨b,lg,p,gs,rfl,s0,db,hp,eg,hgl,hgr⟩:=ri.ex
  have h5:=rf.n5
  have hjm:=rf.jm
  refine ⟨_,rfl,_,_,rfl,rfl,_,rfl,ite2 (fun _=>?_) (fun _=>nx _ _ ri)⟩
  refine ⟨_,rfl,lg,rfl,⟨_,SqL.of eg⟩,fun l hl=>comp_list (xs:=gs.map V.int) (GI m H) (GI.nil hl) (fun i ys H2 _ h=>by obtain ⟨_,_,_,_,s⟩:=h;exact SqL.of (s _ _ eg)) (by rw [List.length_map];exact line_le (by omega)) (fun i ys H2 h=>h.len) (fun i x ys H2 hx h hy=>?_) (fun ys H2 h hy=>?_)⟩
  ·have hil:i < gs.length:=by have:=(List.getElem?_eq_some_iff.mp hx).1;rwa [List.length_map] at this
   have eg':gs[i]?=some gs[i]:=List.getElem?_eq_getElem hil
   obtain ⟨h0,h1⟩:=hgr _ (List.getElem_mem hil)
   generalize gs[i]=gi at eg' h0 h1
   have ex:x=V.int gi:=by rw [List.getElem?_map,eg'] at hx;exact (Option.some.inj hx).symm
   subst ex
   exact ⟨_,rfl,_,_,rfl,rfl,_,rfl,_,_,rfl,rfl,_,rfl,_,_,rfl,rfl,_,_,rfl,hy,h.snoc hl ⟨by split<;>omega,by split<;>omega⟩⟩
  ·obtain ⟨gs',rfl,el,r',s'⟩:=h
   rw [List.length_map] at el
   exact nx _ _ ⟨b,l,p,gs',rfl,s0.trans s',db.mono s',hp,hy,by omega,r'⟩
 ·intro D σ H h
  obtain ⟨n,m,c,kd,j,ln,lr,lp,ps,H0,rf,ri,nx⟩:=h
  obtain ⟨b,lg,p,gs,rfl,s0,db,hp,eg,hgl,hgr⟩:=ri.ex
  have h5:=rf.n5
  have h2:=rf.n2
  have hjm:=rf.jm
  have elp:=s0 _ _ rf.lp
  have h6:=rf.len
  have ep:ps[0]?=some ps[0]:=List.getElem?_eq_getElem (by omega)
  refine ⟨_,rfl,_,_,rfl,rfl,_,rfl,ite2 (fun _=>?_) (fun _=>nx _ _ ri)⟩
  refine ⟨_,rfl,(n:Int),rfl,by omega,by omega,fun l hl=>comp_range (n:=(n:Int).toNat) (GI m H) (GI.nil hl) (line_le (by omega)) (fun i ys H2 h=>h.len) (fun i ys H2 hi h hy=>?_) (fun ys H2 h hy=>?_)⟩
  ·have e0:(0:Int)+(i:Int)=(i:Int):=by omega
   rw [e0]
   have hil:i < gs.length:=by omega
   have eg':gs[i]?=some gs[i]:=List.getElem?_eq_getElem hil
   obtain ⟨h0,h1⟩:=hgr _ (List.getElem_mem hil)
   generalize gs[i]=gi at eg' h0 h1
   obtain ⟨_,_,_,_,s2⟩:=id h
   refine ⟨_,rfl,_,rfl,lp,_,_,V.int ps[0],rfl,rfl,SqL.of (s2 _ _ elp),atI_nat (j:=0) (by rw [List.getElem?_map,ep];rfl),_,_,rfl,rfl,⟨by decide,by decide⟩,_,rfl,_,_,rfl,rfl,pmod (by omega),_,_,rfl,rfl,_,rfl,ite2 (fun _=>?_) (fun _=>?_)⟩
   ·exact ⟨_,rfl,_,rfl,lg,_,_,V.int gi,rfl,rfl,SqL.of (s2 _ _ eg),atI_nat (by rw [List.getElem?_map,eg'];rfl),hy,h.snoc hl ⟨h0,h1⟩⟩
   ·exact ⟨_,rfl,_,_,rfl,rfl,hy,h.snoc hl ⟨by omega,by omega⟩⟩
  ·obtain ⟨gs',rfl,el,r',s'⟩:=h
   exact nx _ _ ⟨b,l,p,gs',rfl,s0.trans s',db.mono s',hp,hy,by omega,r'⟩
 ·intro σ H Q h
  obtain ⟨⟨n,m,c,kd,j,ln,lr,lp,ps,H0,rf,ri⟩,q⟩:=h
  obtain ⟨b,lg,p,gs,rfl,s0,db,hp,eg,hgl,hgr⟩:=ri.ex
  have elp:=s0 _ _ rf.lp
  have h6:=rf.len
  have ep:ps[0]?=some ps[0]:=List.getElem?_eq_getElem (by omega)
  refine ⟨_,rfl,_,_,rfl,rfl,_,rfl,ite2 (fun _=>⟨_,_,rfl,rfl,_,rfl,ite2 (fun _=>⟨_,rfl,_,rfl,_,_,rfl,rfl,_,_,rfl,rfl,_,rfl,ite2 (fun _=>q _) (fun _=>?_)⟩) (fun _=>iteF ?_)⟩) (fun _=>⟨_,rfl,iteF (iteF ?_)⟩)⟩
  all_goals exact ⟨_,rfl,_,_,rfl,rfl,_,rfl,ite2 (fun _=>⟨_,rfl,lp,_,_,V.int ps[0],rfl,rfl,SqL.of elp,atI_nat (j:=0) (by rw [List.getElem?_map,ep];rfl),_,_,rfl,rfl,pmod,_,_,rfl,rfl,_,rfl,q _⟩) (fun _=>q _)⟩
 ·intro D σ H h
  obtain ⟨n,m,c,kd,j,ln,lr,lp,ps,H0,rf,ri,nx⟩:=h
  obtain ⟨b,lg,p,gs,rfl,s0,db,hp,eg,hgl,hgr⟩:=ri.ex
  have h5:=rf.n5
  refine ⟨⟨n,m,c,kd,j,ln,lr,lp,ps,H0,rf,ri⟩,fun cc=>ite2 (fun _=>?_) (fun _=>nx _ _ ri)⟩
  refine ⟨_,rfl,(n:Int),rfl,by omega,by omega,fun r hr0=>⟨r,0,(n:Int),rfl,upd_same,⟨by decide,by decide,by omega,by omega⟩,by omega,fun l hl=>?_⟩⟩
  have e:((n:Int) - 0).toNat=n:=by omega
  rw [e,rint_iota]
  have s':=same_up (o:=HO.tup ((iota n).map V.int)) (same_up (o:=HO.rng 0 n) (Same.refl H) hr0) hl
  exact nx _ _ ⟨.ref l,lg,iota n,gs,rfl,s0.trans s',Dr.tup upd_same (DrL.ints _),isP_iota n,s' _ _ eg,hgl,hgr⟩
 ·intro σ H Q h
  obtain ⟨⟨n,m,c,kd,j,ln,lr,lp,ps,H0,rf,ri⟩,q⟩:=h
  obtain ⟨b,lg,p,gs,rfl,s0,db,hp,eg,hgl,hgr⟩:=ri.ex
  exact ⟨_,rfl,_,_,rfl,rfl,_,rfl,ite2 (fun _=>⟨_,_,rfl,rfl,_,rfl,ite2 (fun _=>⟨_,rfl,_,rfl,_,_,rfl,rfl,_,_,rfl,rfl,_,rfl,q _⟩) (fun _=>q _)⟩) (fun _=>⟨_,rfl,iteF (q _)⟩)⟩
 ·intro D σ H h
  obtain ⟨n,m,c,kd,j,ln,lr,lp,ps,H0,rf,ri,nx⟩:=h
  obtain ⟨b,lg,p,gs,rfl,s0,db,hp,eg,hgl,hgr⟩:=ri.ex
  have h5:=rf.n5
  have hjm:=rf.jm
  refine ⟨⟨n,m,c,kd,j,ln,lr,lp,ps,H0,rf,ri⟩,fun cc=>ite2 (fun _=>?_) (fun _=>nx _ _ ri)⟩
  refine ⟨_,rfl,by show 1≤sizeLine;decide,fun l0 hl0=>⟨_,rfl,l0,(n:Int),_,rfl,rfl,upd_same,by omega,by omega,?_,fun l hl=>?_⟩⟩
  ·show 1*(n:Int).toNat≤sizeLine
   exact line_le (by omega)
  have e:((n:Int)).toNat=n:=by omega
  rw [e,flat1]
  have s':=same_up (o:=HO.lst ((List.replicate n (j:Int)).map V.int)) (same_up (o:=HO.lst [V.int (j:Int)]) (Same.refl H) hl0) hl
  exact nx _ _ ⟨b,l,p,List.replicate n (j:Int),rfl,s0.trans s',db.mono s',hp,upd_same,List.length_replicate,fun g hg=>by rw [(List.mem_replicate.mp hg).2];omega⟩
 refine ⟨_,rfl,c,64,rfl,by omega,fun ln H1 ns s1 e1 hns=>?_⟩
 have hnl:=hns.1
 have en0:ns[0]?=some ns[0]:=List.getElem?_eq_getElem (by omega)
 have en1:ns[1]?=some ns[1]:=List.getElem?_eq_getElem (by omega)
 obtain ⟨m,hm⟩:=nat_of (x:=(1:Int)+ns[0] % 8) (by omega)
 have hm1:1≤m:=by omega
 have hm8:m≤8:=by omega
 refine ⟨_,rfl,ln,_,_,V.int ns[0],rfl,rfl,SqL.of e1,atI_nat (j:=0) (by rw [List.getElem?_map,en0];rfl),_,_,rfl,rfl,pmod,_,_,rfl,rfl,?_⟩
 generalize ns[1]=n1 at en1
 refine ⟨_,rfl,ln,_,_,V.int n1,rfl,rfl,SqL.of e1,atI_nat (j:=1) (by rw [List.getElem?_map,en1];rfl),_,_,rfl,rfl,pmod,by show 0≤sizeLine;decide,fun lr hlr=>?_⟩
 obtain ⟨kd,hkd⟩:∃ kd,kd=n1 % 6:=⟨_,rfl⟩
 have s2:=same_up (o:=HO.lst []) (Same.refl H1) hlr
 refine ⟨_,rfl,(m:Int),(by rw [←hm]),by omega,by omega,rangeO (n:=(m:Int).toNat) (fun i σ H2=>∃ (u6 u7 u8 u9:Option V) (us:List V) (rs:List Row),σ=[some (.int n),some (.int c),some (.ref ln),some (.int m),some (.int kd),some (.ref lr),u6,u7,u8,u9]∧Same H1 H2∧H2 lr=some (.lst us)∧DrL K H2 (rowsD rs) us∧rs.length=i∧GR n m rs)
  ⟨_,_,_,_,[],[],(by rw [←hm,hkd];rfl),s2,upd_same,DrL.nil,rfl,fun r hr=>by simp at hr⟩ (fun i σ H2 hi h Ed nx3=>?_) (fun σ H2 h=>?_)⟩
 ·obtain ⟨u6,u7,u8,u9,us,rs,rfl,t2,elr,drs,hrl,gr⟩:=h
  have e0:(0:Int)+(i:Int)=(i:Int):=by omega
  rw [e0]
  have him:i < m:=by omega
  obtain ⟨ps,ecut,hp6,hpr⟩:=cut6 (i:=i) hns (by omega)
  have ep:ps[0]?=some ps[0]:=List.getElem?_eq_getElem (by omega)
  refine ⟨_,rfl,_,rfl,_,_,rfl,rfl,.inl ⟨by decide,by decide⟩,_,_,rfl,rfl,_,rfl,_,rfl,_,_,rfl,rfl,.inl ⟨by decide,by decide⟩,_,_,rfl,rfl,_,rfl,ln,_,rfl,SqL.of (t2 _ _ e1),fun lp hlp=>?_⟩
  rw [ecut]
  have s3:=same_up (o:=HO.lst (ps.map V.int)) (Same.refl H2) hlp
  refine ⟨_,rfl,lp,_,_,V.int ps[0],rfl,rfl,SqL.of upd_same,atI_nat (j:=0) (by rw [List.getElem?_map,ep];rfl),_,rfl,ps[0],n,rfl,by omega,fun b H3 s4 d3=>?_⟩
  have elp3:H3 lp=some (.lst (ps.map V.int)):=s4 _ _ upd_same
  refine ⟨_,rfl,(n:Int),rfl,by omega,by omega,fun lg hlg=>comp_range (n:=(n:Int).toNat) (GI m H3) (GI.nil hlg) (line_le (by omega)) (fun i ys H h=>h.len) (fun k ys H4 hk h hy=>?_) (fun ys H4 h hy=>?_)⟩
  ·have ek:(1:Int)+(0+(k:Int))=((1+k:Nat):Int):=by omega
   have ek':ps[1+k]?=some (ps[1+k]'(by omega)):=List.getElem?_eq_getElem (by omega)
   generalize ps[1+k]'(by omega)=pk at ek'
   obtain ⟨_,_,_,_,s5⟩:=id h
   refine ⟨_,rfl,_,rfl,_,_,rfl,rfl,lp,_,_,V.int pk,rfl,rfl,SqL.of (s5 _ _ elp3),(by rw [ek];exact atI_nat (by rw [List.getElem?_map,ek'];rfl)),_,rfl,_,_,rfl,rfl,pmod (by omega),hy,h.snoc hlg ⟨?_,?_⟩⟩
   ·exact Int.emod_nonneg _ (by omega)
   ·exact Int.emod_lt_of_pos _ (by omega)
  obtain ⟨gs,rfl,hgl,hgr,s5⟩:=h
  have rf:RF n m i ps lp H3:=⟨hn2,hn5,him,hm8,elp3,hp6,hpr⟩
  refine ⟨n,m,c,kd,i,ln,lr,lp,ps,H3,rf,⟨b,lg,_,gs,rfl,s5,d3.mono s5,rearr_perm _ _,hy,by omega,hgr⟩,fun σ1 H5 r1=>⟨n,m,c,kd,i,ln,lr,lp,ps,H3,rf,r1,fun σ2 H6 r2=>⟨n,m,c,kd,i,ln,lr,lp,ps,H3,rf,r2,fun σ3 H7 r3=>⟨n,m,c,kd,i,ln,lr,lp,ps,H3,rf,r3,fun σ4 H8 r4=>?_⟩⟩⟩⟩
  clear hgl hgr hy
  obtain ⟨b,lg,p,gs,rfl,s0,db,hp,eg,hgl,hgr⟩:=r4.ex
  have s28:Same H2 H8:=(s3.trans s4).trans s0
  refine ⟨_,rfl,.inl ⟨rfl,_,SqL.of (s28 _ _ elr)⟩,_,rfl,_,rfl,lg,_,rfl,.inl ⟨SqL.of eg,fun t4 ht4=>⟨by show 2≤sizeLine;decide,fun t5 ht5=>?_⟩⟩⟩
  have s9:=same_up (o:=HO.tup (gs.map V.int)) (Same.refl H8) ht4
  have s10:=same_up (o:=HO.tup [b,.ref t4]) s9 ht5
  have elr':=s10 _ _ (s28 _ _ elr)
  have hul:us.length=i:=by have:=drs.length;unfold rowsD at this;rw [List.length_map] at this;omega
  refine ⟨lr,us,.ref t5,rfl,rfl,elr',small1000 (by omega),?_⟩
  obtain ⟨b0,rfl,eb⟩:=Dr.its_inv db
  have kk:TupK H8 (upd (upd (upd H8 t4 (.tup (gs.map V.int))) t5 (.tup [.ref b0,.ref t4])) lr (.lst (us++[.ref t5]))):=TupK.up (TupK.of s10) elr' (fun _ z=>by cases z)
  have nt5:t5≠lr:=ne_of upd_same elr' (by intro z;cases z)
  have nt4:t4≠t5:=ne_of_none upd_same ht5
  have nt4f:t4≠lr:=ne_of (show upd (upd H8 t4 (.tup (gs.map V.int))) t5 (.tup [.ref b0,.ref t4]) t4=some (.tup (gs.map V.int)) by rw [upd_ne nt4];exact upd_same) elr' (by intro z;cases z)
  refine nx3 _ _ ⟨_,_,_,_,us++[.ref t5],rs++[(p,gs)],rfl,same_over (t2.trans (s28.trans s10)) hlr,upd_same,?_,by rw [List.length_append,hrl];rfl,gr.snoc ⟨hp,hgl,hgr⟩⟩
  unfold rowsD
  rw [List.map_append]
  refine DrL.append ((drs.mono s28).keyed kk (rows_key _)) (DrL.one (rowD_mk (r:=(p,gs)) (b:=b0) (c:=t4) ?_ (kk _ _ eb) ?_))
  ·rw [upd_ne nt5];exact upd_same
  ·rw [upd_ne nt4f,upd_ne nt4];exact upd_same
 ·obtain ⟨u6,u7,u8,u9,us,rs,rfl,t2,elr,drs,hrl,gr⟩:=h
  exact ⟨_,rfl,q lr H2 rs (s1.trans t2) ⟨us,elr,drs⟩ (gr.good (by omega) hm1 (by omega)) (by omega)⟩
end
end Gu

set_option Elab.async false
set_option linter.all false
set_option maxRecDepth 100000
set_option maxHeartbeats 4000000
namespace Gu
open PySem L2
section
variable {P:Program} {w:World} {K:PySem.W.Frag} {mg:Str→Option Value} {base:Heap} {f g:Addr} {fd gd:FuncData} {CX:CXT} [NoE CX]
abbrev nIlN:List Str:=["_law_rows_here","_law_line","_law_marks","_law_place","_law_heads","_law_row"]
abbrev nIlN1:List Str:=["_law_row","_law_marks","_law_place","_law_rows_here"]
abbrev cIlN1:Scope:=csc [(".0",.local),("_law_row",.local),("tuple",.globalImplicit),("_law_marks",.free),("_law_place",.free),("_law_rows_here",.free)]
theorem scIlN:FnScope nIlN ["_law_rows_here","_law_line","_law_marks"] (defScope sInLine):=⟨rfl,rfl,rfl,by decide +kernel,rfl,by decide +kernel,by decide +kernel⟩
theorem csIlN1:CompS nIlN (defScope sInLine) nIlN1 [none,some 2,some 3,some 0] cIlN1:=⟨rfl,by decide +kernel,by decide +kernel,by decide +kernel,rfl,by decide +kernel,by decide +kernel⟩
abbrev cIlN2:Scope:=csc [(".0",.local),("_law_row",.local),("tuple",.globalImplicit),("_law_marks",.cell),("_law_place",.cell),("_law_rows_here",.cell)]
theorem csIlN2:CompS nIlN1 cIlN2 ["_law_to","_law_marks","_law_place"] [none,some 1,some 2] (csc [(".0",.local),("_law_to",.local),("_law_marks",.free),("_law_place",.free)]):=⟨rfl,by decide +kernel,by decide +kernel,by decide +kernel,rfl,by decide +kernel,by decide +kernel⟩
theorem ok_inlineN (F:Fun K "_law_in_line" "_law_in_line" sInLine f fd) (ml:mg "len"=none) (mt:mg "tuple"=none):FnOk P w K mg base CX 1 f fd ["_law_rows_here","_law_line","_law_marks"] (spInLineN K):=by
 refine F.okc scIlN (fun vs H Q E h=>?_) (fun cdv A outer s H vs Q E hr h=>?_)
 ·obtain ⟨a,l,m,n,rows,nm,us,o,k,kvs,rfl,_⟩:=h
  rfl
 obtain ⟨a,l,m,n,rows,nm,us,o,k,kvs,rfl,Sa,da,ni,GM,hn,el,em,mk,L,cl,q⟩:=h
 have hu:=hu_of hr
 refine ⟨_,pss_cons (ps_set (i:=3) scIlN.nd rfl (Or.inr rfl) pe_dnewK)
  (pss_cons (ps_set (i:=4) scIlN.nd rfl (Or.inl rfl) (pe_lst pa_nil))
  (pss_cons (ps_for PassesOwn.never rfl (pi_list (pv 1)) (pg_name (i:=5) scIlN.nd rfl (Or.inl rfl))
   (pss_one (ps_if (pt_cmp (pc_dnotin hu (pe_dget hu (pv 2) (pv 5) (fun _ _=>rfl)) (pv 3)))
    (pss_cons (ps_dput hu (pv 3) (pe_dget hu (pv 2) (pv 5) (fun _ _=>rfl)) (pe_callB call_len_seq rfl ml PySem.boot_len (pa_cons (pv 4) pa_nil)) rfl)
    (pss_one (ps_expr (pe_bm PySem.F.plainAttrs_list PySem.F.slot_list_append PySem.F.type_list_append mt_append (pv 4) (pa_cons (pv 5) pa_nil))))) pss_nil)))
  (pss_one (ps_ret (pe_callTy call_tuple_of rfl mt PyProof.Rows.boot_tuple (pa_cons (pe_comp rfl csIlN1 (pi_list (pv 4)) (fun _ _ _ _ _=>pg_name (i:=0) csIlN1.nd rfl (Or.inl rfl))
   (fun _ _ _ _ _=>pe_tup (pa_cons (pe_callTy (cTup K rfl) rfl mt PyProof.Rows.boot_tuple (pa_cons (pe_ix (ixT K rfl) (pe_ix (ixQ K rfl) (pv 3) (pv 0) (fun _ _=>rfl)) pe_int (fun _ _=>rfl)) pa_nil))
    (pa_cons (pe_callTy (cTup K rfl) rfl mt PyProof.Rows.boot_tuple (pa_cons (pe_comp rfl csIlN2 (piT K rfl (pe_ix (ixT K rfl) (pe_ix (ixQ K rfl) (pv 3) (pv 0) (fun _ _=>rfl)) pe_int (fun _ _=>rfl))) (fun _ _ _ _ _=>pg_name (i:=0) csIlN2.nd rfl (Or.inl rfl))
     (fun _ _ _ _ _=>pe_dget hu (pv 2) (pe_dget hu (pv 1) (pv 0) (fun _ _=>rfl)) (fun _ _=>rfl))) pa_nil)) pa_nil)))) pa_nil)))))),?_⟩
 have hol:=L.len
 have h400:=GM.few
 have gk:∀ r∈o,valV kvs (kN nm r)=some (V.int (k r)):=fun r hr=>by
  obtain ⟨v,hv,d⟩:=mk.get ni hr
  simp only [Dr] at d
  rw [hv,d]
 refine fun lp hlp=>⟨by show 0≤sizeLine;decide,fun lh hlh=>?_⟩
 have s1:=same_up (o:=HO.dK []) (Same.refl H) hlp
 have hlh0:H lh=none:=s1.free hlh
 have nph:lp≠lh:=ne_of_none upd_same hlh
 have s2:=same_up (o:=HO.lst []) s1 hlh
 refine ⟨_,rfl,l,rfl,⟨_,SqL.of (s2 _ _ el)⟩,listO (xs:=o.map (nV nm)) (fun i σ H2=>∃ (u:Option V),σ=[some (.ref a),some (.ref l),some (.ref m),some (.ref lp),some (.ref lh),u]∧Same H H2∧H2 lh=some (.lst ((heads k (o.take i)).map (nV nm)))∧H2 lp=some (.dK (prs Sum.inl ((heads k (o.take i)).map k))))
  ⟨_,rfl,s2,upd_same,by rw [upd_ne nph];exact upd_same⟩ (fun i σ H2 _ h=>by obtain ⟨_,_,t2,_⟩:=h;exact SqL.of (t2 _ _ el)) (fun i x σ H2 hx h Ed nx3=>?_) (fun σ H2 h=>?_)⟩
 ·obtain ⟨u,rfl,t2,e1,e2⟩:=h
  have hil:i < o.length:=by have:=(List.getElem?_eq_some_iff.mp hx).1;rwa [List.length_map] at this
  have eo:o[i]?=some o[i]:=List.getElem?_eq_getElem hil
  have hro:o[i]∈o:=List.getElem_mem hil
  generalize o[i]=r at eo hro
  have ex:x=V.int (nm r):=by rw [List.getElem?_map,eo] at hx;exact (Option.some.inj hx).symm
  subst ex
  have et:heads k (o.take (i+1))=hdStep k (heads k (o.take i)) r:=by rw [List.take_add_one,eo];exact heads_snoc k _ _
  have hhl:=(heads_has k (o.take i)).2.2
  rw [List.length_take] at hhl
  generalize heads k (o.take i)=hs at *
  have gm:DGet H2 m (V.int (nm r)) (some (V.int (k r))):=by rw [←gk r hro];exact DGet.k (k:=kN nm r) (t2 _ _ em)
  refine ⟨_,rfl,_,rfl,m,_,rfl,gm,_,rfl,lp,_,rfl,DGet.k (k:=Sum.inl (k r)) e2,_,rfl,?_⟩
  have hv:=prs_val (κ:=Key) Sum.inl inl_inj (hs.map k) (k r)
  by_cases hm:k r∈hs.map k
  ·rw [hv,if_pos hm]
   refine iteF (nx3 _ _ ⟨_,rfl,t2,?_,?_⟩)
   ·rw [et,hdStep,if_pos hm];exact e1
   ·rw [et,hdStep,if_pos hm];exact e2
  ·rw [hv,if_neg hm]
   have nlop:lh≠lp:=Ne.symm nph
   refine iteT ⟨_,rfl,lh,_,rfl,.inl (SqL.of e1),_,rfl,_,rfl,_,rfl,m,_,rfl,gm,lp,_,rfl,DPut.k (k:=Sum.inl (k r)) e2 (by rw [prsF_len,List.length_map];exact small5 (by omega)),?_⟩
   have e1':upd H2 lp (.dK (putK (prs Sum.inl (hs.map k)) (Sum.inl (k r):Key) (V.int ((hs.map (nV nm)).length:Nat)))) lh=some (.lst (hs.map (nV nm))):=by rw [upd_ne nlop];exact e1
   refine ⟨_,rfl,.inl ⟨rfl,_,SqL.of e1'⟩,_,rfl,lh,_,_,rfl,rfl,e1',by rw [List.length_map];exact small5 (by omega),?_⟩
   refine nx3 _ _ ⟨_,rfl,same_over (same_over t2 hlp) hlh0,?_,?_⟩
   ·rw [upd_same,et,hdStep,if_neg hm,List.map_append];rfl
   ·rw [upd_ne nph,upd_same,et,hdStep,if_neg hm,List.map_append]
    have:=prs_put (κ:=Key) Sum.inl inl_inj hm
    rw [List.length_map] at this ⊢
    rw [this];rfl
 ·obtain ⟨u,rfl,t2,e1,e2⟩:=h
  rw [List.length_map,List.take_length] at e1 e2
  obtain ⟨hh1,hh2,hh3⟩:=heads_has k o
  unfold inLine at q
  generalize heads k o=hs at *
  refine ⟨_,rfl,lh,rfl,⟨_,SqL.of e1⟩,fun l3 hl3=>comp_list (xs:=hs.map (nV nm)) (fun i ys H3=>i≤hs.length∧ys.length=i∧Same H2 H3∧DrL K H3 (((hs.take i).map fun r=>rowD ((row rows r).1,(row rows r).2.map fun g=>(((hs.map k).idxOf (k g):Nat):Int)))) ys) ⟨Nat.zero_le _,rfl,same_up (Same.refl H2) hl3,DrL.nil⟩ (fun i ys H3 _ h=>SqL.of (h.2.2.1 _ _ e1)) (by rw [List.length_map];exact line_le (by omega)) (fun i ys H3 h=>h.2.1) (fun i x ys H3 hx h hy=>?_) (fun ys H3 h hy=>?_)⟩
  ·obtain ⟨_,hyl,s3,d3⟩:=h
   have hil:i < hs.length:=by have:=(List.getElem?_eq_some_iff.mp hx).1;rwa [List.length_map] at this
   have eo:hs[i]?=some hs[i]:=List.getElem?_eq_getElem hil
   have hrh:hs[i]∈hs:=List.getElem_mem hil
   generalize hs[i]=r at eo hrh
   have hro:=hh2 r hrh
   have ex:x=V.int (nm r):=by rw [List.getElem?_map,eo] at hx;exact (Option.some.inj hx).symm
   subst ex
   obtain ⟨r0,r1⟩:=L.rg r hro
   obtain ⟨nr0,v,ev,dv⟩:=da r r0 r1
   have t3:=t2.trans s3
   obtain ⟨t,b,cc,rfl,et,eb,ec⟩:=rowD_inv (dv.mono t3)
   dsimp only [rowN] at eb ec
   have hgl:=GM.len _ (row_mem r0 r1)
   have hgo:=cl r hro
   have esn:=take_snoc (fun r=>rowD ((row rows r).1,(row rows r).2.map fun g=>(((hs.map k).idxOf (k g):Nat):Int))) eo
   generalize hrr:(row rows r).2=gs at *
   refine ⟨_,rfl,_,rfl,a,_,nm r,.ref t,rfl,rfl,Sa.mono t3,atI_of nr0 ev,t,_,_,.ref b,rfl,rfl,SqT.of et,atI_nat (j:=0) rfl,b,_,rfl,.inr ⟨SqT.of eb,?_⟩⟩
   refine ⟨_,rfl,_,rfl,a,_,nm r,.ref t,rfl,rfl,Sa.mono t3,atI_of nr0 ev,t,_,_,.ref cc,rfl,rfl,SqT.of et,atI_nat (j:=1) rfl,cc,rfl,⟨_,SqT.of ec⟩,fun l4 hl4=>comp_tup (xs:=(gs.map nm).map V.int) (fun j zs H4=>j≤gs.length∧zs=((gs.take j).map fun g=>(((hs.map k).idxOf (k g):Nat):Int)).map V.int∧Same H3 H4) ⟨Nat.zero_le _,rfl,same_up (Same.refl H3) hl4⟩ (fun j zs H4 _ h=>SqT.of (h.2.2 _ _ ec)) (by rw [List.length_map,List.length_map];exact line_le (by omega)) (fun j zs H4 h=>?_) (fun j x zs H4 hx h hy4=>?_) (fun zs H4 h hy4=>?_)⟩
   ·obtain ⟨hj,rfl,_⟩:=h
    rw [List.length_map,List.length_map,List.length_take]
    omega
   ·obtain ⟨hj,rfl,s4⟩:=h
    have hjl:j < gs.length:=by have:=(List.getElem?_eq_some_iff.mp hx).1;rwa [List.length_map,List.length_map] at this
    have eg:gs[j]?=some gs[j]:=List.getElem?_eq_getElem hjl
    have hgm:=hgo _ (List.getElem_mem hjl)
    generalize gs[j]=gj at eg hgm
    have ex:x=V.int (nm gj):=by rw [List.getElem?_map,List.getElem?_map,eg] at hx;exact (Option.some.inj hx).symm
    subst ex
    have t4:=t3.trans s4
    have gm:DGet H4 m (V.int (nm gj)) (some (V.int (k gj))):=by rw [←gk gj hgm];exact DGet.k (k:=kN nm gj) (t4 _ _ em)
    have hv:=prs_val (κ:=Key) Sum.inl inl_inj (hs.map k) (k gj)
    rw [if_pos (hh1 gj hgm)] at hv
    refine ⟨_,rfl,_,rfl,_,rfl,m,_,rfl,gm,lp,_,rfl,(by rw [←hv];exact DGet.k (k:=Sum.inl (k gj)) (s4 _ _ (s3 _ _ e2))),hy4,hjl,?_,same_over s4 hl4⟩
    rw [take_snoc _ eg,List.map_append]
    rfl
   ·obtain ⟨_,rfl,s4⟩:=h
    rw [List.length_map,List.length_map,List.take_length] at hy4
    refine ⟨l4,_,rfl,.inl ⟨SqL.of hy4,fun t4 ht4=>⟨by show 2≤sizeLine;decide,fun t5 ht5=>?_⟩⟩⟩
    have s5:=same_up (o:=HO.tup ((gs.map fun g=>(((hs.map k).idxOf (k g):Nat):Int)).map V.int)) s4 ht4
    have s6:=same_up (o:=HO.tup [.ref b,.ref t4]) s5 ht5
    have hy6:=s6 _ _ hy
    refine ⟨hy6,hil,by rw [List.length_append,hyl];rfl,same_over (s3.trans s6) hl3,?_⟩
    have kk:TupK H3 (upd (upd (upd H4 t4 (.tup ((gs.map fun g=>(((hs.map k).idxOf (k g):Nat):Int)).map V.int))) t5 (.tup [.ref b,.ref t4])) l3 (.lst (ys++[.ref t5]))):=TupK.up (TupK.of s6) hy6 (fun _ z=>by cases z)
    have nt5:t5≠l3:=ne_of upd_same hy6 (by intro z;cases z)
    have nt4:t4≠t5:=ne_of_none upd_same ht5
    have nt4f:t4≠l3:=ne_of (show upd (upd H4 t4 (.tup ((gs.map fun g=>(((hs.map k).idxOf (k g):Nat):Int)).map V.int))) t5 (.tup [.ref b,.ref t4]) t4=_ by rw [upd_ne nt4];exact upd_same) hy6 (by intro z;cases z)
    rw [esn]
    refine DrL.append (d3.keyed kk (by have:=rows_key ((hs.take i).map fun r=>((row rows r).1,(row rows r).2.map fun g=>(((hs.map k).idxOf (k g):Nat):Int)));unfold rowsD at this;rw [List.map_map] at this;exact this)) (DrL.one (rowD_mk (b:=b) (c:=t4) ?_ (kk _ _ eb) ?_))
    ·rw [upd_ne nt5];exact upd_same
    ·rw [upd_ne nt4f,upd_ne nt4];exact upd_same
  ·obtain ⟨_,_,s3,d3⟩:=h
   rw [List.length_map,List.take_length] at d3
   refine ⟨l3,_,rfl,.inl ⟨SqL.of hy,fun t ht=>?_⟩⟩
   refine q _ _ ((t2.trans s3).trans (same_up (Same.refl H3) ht)) (Dr.tup upd_same ?_)
   unfold rowsD
   rw [List.map_map]
   exact d3.mono (same_up (Same.refl H3) ht)
end
end Gu

set_option Elab.async false
set_option linter.all false
set_option maxRecDepth 100000
set_option maxHeartbeats 4000000
namespace Gu
open PySem L2
section
variable {P:Program} {w:World} {K:PySem.W.Frag} {mg:Str→Option Value} {base:Heap} {f g:Addr} {fd gd:FuncData} {CX:CXT} [NoE CX]
abbrev nShN:List Str:=["_law_rows_here","_law_start","_law_line","_law_marks","_law_at","_law_to","_law_many","_law_grown","_law_known","_law_fresh","_law_row","_law_key"]
theorem scShN:FnScope nShN ["_law_rows_here","_law_start"] (defScope sShrunk):=⟨rfl,rfl,rfl,by decide +kernel,rfl,by decide +kernel,by decide +kernel⟩
theorem csShN:CompS nShN (defScope sShrunk) ["_law_to","_law_marks"] [none,some 3] (csc [(".0",.local),("_law_to",.local),("_law_marks",.free)]):=⟨rfl,by decide +kernel,by decide +kernel,by decide +kernel,rfl,by decide +kernel,by decide +kernel⟩
theorem put_addN2 (u:List D) (d:D) (hn:u.Nodup):putK (prs id u) d ((valV (prs id u) d).getD (V.int ((prs id u).length:Nat)))=prs id (addN u d):=by
 have hv:valV (prs id u) d=_:=prs_val id (fun _ _ e=>e) u d
 by_cases hm:d∈u
 ·rw [hv,if_pos hm,addN_mem hm]
  have:=prs_put_same 0 u d hm hn
  rw [Nat.zero_add] at this
  exact this
 ·rw [hv,if_neg hm,addN_new hm,←prs_put id (fun _ _ e=>e) hm]
  rw [prsF_len]
  rfl
theorem ok_shrunkN (F:Fun K "_law_shrunk" "_law_shrunk" sShrunk f fd) (ml:mg "len"=none) (mt:mg "tuple"=none)
  (G:FnOk P w K mg base CX 1 g gd ["_law_rows_here","_law_line","_law_marks"] (spInLineN K)) (bG:Binds K gd ["_law_rows_here","_law_line","_law_marks"] []) (kG:PySem.W.keepIn K (.ref g)=true) (mG:mg "_law_in_line"=some (.ref g)):FnOk P w K mg base CX 2 f fd ["_law_rows_here","_law_start"] (spShrunkN K):=by
 refine F.okc scShN (fun vs H Q E h=>?_) (fun cdv A outer s H vs Q E hr h=>?_)
 ·obtain ⟨a,n,rows,nm,us,rfl,_⟩:=h
  rfl
 obtain ⟨a,n,rows,nm,us,rfl,Sa,da,ni,GM,hn,q⟩:=h
 have hu:=hu_of hr
 have hu9:(A.deeper (PyProof.Rows.envOfC "_law_shrunk" (defScope sShrunk) s.heap.objs.size f cdv)).units+9 < cLine:=by have:=hr.units;omega
 refine ⟨_,pss_cons (ps_set (i:=2) scShN.nd rfl (Or.inl rfl) (pe_lst (pa_cons (pv 1) pa_nil)))
  (pss_cons (ps_set (i:=3) scShN.nd rfl (Or.inr rfl) (pe_disp (pps_cons (pv 1) (pe_ix ix_tup (pe_ix (ixQ K rfl) (pv 0) (pv 1) (fun _ _=>rfl)) pe_int (fun _ _=>rfl)) pps_nil) rfl rfl (by simp) (by decide)))
  (pss_cons (ps_set (i:=4) scShN.nd rfl (Or.inl rfl) pe_int)
  (pss_cons (ps_while PassesOwn.never (pt_cmpR op_lt (pv 4) (pe_callB call_len_seq rfl ml PySem.boot_len (pa_cons (pv 2) pa_nil)) (nomark _))
   (pss_cons (ps_for PassesOwn.never rfl (pi_tup (pe_ix ix_tup (pe_ix (ixQ K rfl) (pv 0) (pe_ix ix_list (pv 2) (pv 4) (fun _ _=>rfl)) (fun _ _=>rfl)) pe_int (fun _ _=>rfl))) (pg_name (i:=5) scShN.nd rfl (Or.inl rfl))
    (pss_one (ps_if (pt_cmp (pc_dnotin hu (pv 5) (pv 3)))
     (pss_cons (ps_dput hu (pv 3) (pv 5) (pe_ix ix_tup (pe_ix (ixQ K rfl) (pv 0) (pv 5) (fun _ _=>rfl)) pe_int (fun _ _=>rfl)) rfl)
     (pss_one (ps_expr (pe_bm PySem.F.plainAttrs_list PySem.F.slot_list_append PySem.F.type_list_append mt_append (pv 2) (pa_cons (pv 5) pa_nil))))) pss_nil)))
   (pss_one (ps_aug (i:=4) scShN.nd rfl (Or.inl rfl) pe_int ip_add))))
  (pss_cons (ps_set (i:=6) scShN.nd rfl (Or.inl rfl) pe_int)
  (pss_cons (ps_set (i:=7) scShN.nd rfl (Or.inl rfl) pe_bl)
  (pss_cons (ps_while PassesOwn.never (pt_val (pv 7))
   (pss_cons (ps_set (i:=8) scShN.nd rfl (Or.inl rfl) (pe_newD (K:=K)))
   (pss_cons (ps_set (i:=9) scShN.nd rfl (Or.inl rfl) pe_dnewK)
   (pss_cons (ps_for PassesOwn.never rfl (pi_list (pv 2)) (pg_name (i:=10) scShN.nd rfl (Or.inl rfl))
    (pss_cons (ps_set (i:=11) scShN.nd rfl (Or.inl rfl) (pe_tup (pa_cons (pe_dget hu (pv 3) (pv 10) (fun _ _=>rfl)) (pa_cons (pe_callTy call_tuple_of rfl mt PyProof.Rows.boot_tuple (pa_cons
     (pe_comp rfl csShN (pi_tup (pe_ix ix_tup (pe_ix (ixQ K rfl) (pv 0) (pv 10) (fun _ _=>rfl)) pe_int (fun _ _=>rfl))) (fun _ _ _ _ _=>pg_name (i:=0) csShN.nd rfl (Or.inl rfl)) (fun _ _ _ _ _=>pe_dget hu (pv 1) (pv 0) (fun _ _=>rfl))) pa_nil)) pa_nil))))
    (pss_cons (ps_putD (K:=K) hu9 (pv 8) (pv 11) (pe_get2D (K:=K) hu9 (pv 8) (pv 11) (pe_callB (cLenD K) rfl ml PySem.boot_len (pa_cons (pv 8) pa_nil)) ⟨rfl,rfl,rfl,rfl⟩))
    (pss_one (ps_dput hu (pv 9) (pv 10) (pe_getD (K:=K) hu9 (pv 8) (pv 11) (fun _ _=>rfl)) rfl)))))
   (pss_cons (ps_set (i:=7) scShN.nd rfl (Or.inl rfl) (pe_cmpR op_gt (pe_callB (cLenD K) rfl ml PySem.boot_len (pa_cons (pv 8) pa_nil)) (pv 6) (nomark _)))
   (pss_cons (ps_set (i:=6) scShN.nd rfl (Or.inl rfl) (pe_callB (cLenD K) rfl ml PySem.boot_len (pa_cons (pv 8) pa_nil)))
   (pss_one (ps_set (i:=3) scShN.nd rfl (Or.inr rfl) (pv 9)))))))))
  (pss_one (ps_ret (pe_call G hr rfl mG kG bG .nil passN (pa_cons (pv 0) (pa_cons (pv 2) (pa_cons (pv 3) pa_nil)))))))))))),?_⟩
 have h400:=GM.few
 have h1:=GM.some
 have hz1:(0:Int) < (rows.length:Int):=by omega
 refine ⟨_,rfl,by show 1≤sizeLine;decide,fun lo hlo=>?_⟩
 refine fun lm hlm=>⟨_,rfl,?_⟩
 have s1:=same_up (o:=HO.lst [V.int (nm 0)]) (Same.refl H) hlo
 have s2:=same_up (o:=HO.dK []) s1 hlm
 have nlo:lo≠lm:=ne_of_none upd_same hlm
 have hlm0:H lm=none:=s1.free hlm
 obtain ⟨nz0,v0,ev0,dv0⟩:=da 0 (Int.le_refl 0) hz1
 obtain ⟨t0,b0,c0,rfl,et0,eb0,ec0⟩:=rowD_inv (dv0.mono s2)
 refine ⟨_,rfl,_,rfl,a,_,nm 0,.ref t0,rfl,rfl,Sa.mono s2,atI_of nz0 ev0,t0,_,_,.ref b0,rfl,rfl,SqT.of et0,atI_nat (j:=0) rfl,upd_same,[(Sum.inl (nm 0),V.ref b0)],rfl,by simp,?_⟩
 have s3:Same H (upd (upd (upd H lo (.lst [.int (nm 0)])) lm (.dK [])) lm (.dK (mergeK [] [(Sum.inl (nm 0),V.ref b0)]))):=same_over s2 hlm0
 have hF0:=FK.its rows
 have L0:=line0 GM
 have OL:=order_line GM
 have hol:=OL.1.len
 show tWhile _ _ _ _ _
 refine cutW (fun σ' H'=>∃ (i0:Int) (o:List Int) (u5:Option V) (kvs:List (Key × V)),σ'=[some (.ref a),some (.int (nm 0)),some (.ref lo),some (.ref lm),some (.int i0),u5,none,none,none,none,none,none]∧Same H H'∧H' lo=some (.lst (o.map (nV nm)))∧H' lm=some (.dK kvs)∧MkN nm K H' o (fun r=>D.its (row rows r).1) kvs∧Line rows o∧order rows=o) (fun Ed nx=>?_) (fun σ' H' p=>?_)
 rotate_left
 ·obtain ⟨i0,o,u5,kvs,rfl,t2,glo,glm,mk2,L,eoo⟩:=p
  have cl:∀ r∈o,∀ g∈(row rows r).2,g∈o:=by have:=OL.2;rwa [eoo] at this
  have hln:=L.len
  refine ⟨fun m σ H3=>∃ (f:Int→D) (many:Nat) (gr:Bool) (lm:Addr) (kvs:List (Key × V)) (u8 u9 u10 u11:Option V),σ=[some (.ref a),some (.int (nm 0)),some (.ref lo),some (.ref lm),some (.int i0),u5,some (.int many),some (.bl gr),u8,u9,u10,u11]∧Same H H3∧H3 lo=some (.lst (o.map (nV nm)))∧H3 lm=some (.dK kvs)∧MkN nm K H3 o f kvs∧FK f ∧
    ((gr=true∧o.length+2≤m+many∧many≤o.length∧sloop rows o m many f=smarks rows)∨(gr=false∧f=smarks rows)),
   ⟨rows.length+2,_,0,true,lm,kvs,_,_,_,_,rfl,t2,glo,glm,mk2,hF0,.inl ⟨rfl,by omega,by omega,by unfold smarks;rw [eoo]⟩⟩,?_⟩
  clear glm mk2
  rintro m σ H3 ⟨f,many,gr,lm,kvs,u8,u9,u10,u11,rfl,t3,elo,elm,mk3,hf,alt⟩
  refine ⟨_,rfl,_,rfl,ite2 (fun c=>?_) (fun c=>?_)⟩
  ·obtain ⟨_,hm1,hm2,hsl⟩:=alt.resolve_right fun z=>by rw [z.1] at c;cases c
   clear alt
   refine cutN fun N nx2=>?_
   intro lk hlk ob0 g0 lf hlf
   have s4:=same_up (o:=ob0) (Same.refl H3) hlk
   have hlf0:H3 lf=none:=s4.free hlf
   have nkf:lk≠lf:=ne_of_none upd_same hlf
   have s5:=same_up (o:=HO.dK []) s4 hlf
   refine ⟨_,rfl,lo,rfl,⟨_,SqL.of (s5 _ _ elo)⟩,listO (xs:=o.map (nV nm)) (fun i σ H4=>∃ (u10 u11:Option V) (kv4:List (Key × V)),σ=[some (.ref a),some (.int (nm 0)),some (.ref lo),some (.ref lm),some (.int i0),u5,some (.int many),some (.bl gr),some (.ref lk),some (.ref lf),u10,u11]∧Same H3 H4∧DD P w K H4 lk (prs id (uniq ((skeys rows o f).take i)))∧H4 lf=some (.dK kv4)∧MkN nm K H4 (o.take i) (sround rows o f) kv4)
    ⟨_,_,[],rfl,s5,?_,upd_same,MkN.nil⟩ (fun i σ H4 _ h=>by obtain ⟨_,_,_,_,t4,_⟩:=h;exact SqL.of (t4 _ _ elo)) (fun i x σ H4 hx h Ed nx3=>?_) (fun σ H4 h=>?_)⟩
   ·exact g0.mono (same_up (Same.refl _) hlf)
   ·obtain ⟨u10,u11,kv4,rfl,t4,g4,elf,mk4⟩:=h
    have hil:i < o.length:=by have:=(List.getElem?_eq_some_iff.mp hx).1;rwa [List.length_map] at this
    have eo:o[i]?=some o[i]:=List.getElem?_eq_getElem hil
    have hro:o[i]∈o:=List.getElem_mem hil
    have hnew:o[i]∉o.take i:=nd_take L.nd eo
    generalize o[i]=r at eo hro hnew
    have ex:x=V.int (nm r):=by rw [List.getElem?_map,eo] at hx;exact (Option.some.inj hx).symm
    subst ex
    obtain ⟨r0,r1⟩:=L.rg r hro
    have t34:=t3.trans t4
    obtain ⟨nr0,vr,evr,dvr⟩:=da r r0 r1
    obtain ⟨t,b,cc,rfl,et,eb,ec⟩:=rowD_inv (dvr.mono t34)
    dsimp only [rowN] at eb ec
    have hgl:=GM.len _ (row_mem r0 r1)
    have hgo:=cl r hro
    obtain ⟨v,hv,dv⟩:=mk3.get ni hro
    have gm:DGet H4 lm (V.int (nm r)) (some v):=by rw [←hv];exact DGet.k (k:=kN nm r) (t4 _ _ elm)
    have ekey:keyOf rows f r=D.tup [f r,D.tup ((row rows r).2.map f)]:=rfl
    have ks:=hf.key (rows:=rows) r
    have esk:(skeys rows o f)[i]?=some (keyOf rows f r):=by unfold skeys;rw [List.getElem?_map,eo];rfl
    have hidx:(((uniq ((skeys rows o f).take (i+1))).idxOf (keyOf rows f r):Nat):Int)=sroundI rows o f r:=by
     unfold sroundI
     obtain ⟨m2,e2⟩:=addAll_sub ((skeys rows o f).drop (i+1)) (uniq ((skeys rows o f).take (i+1)))
     have e3:uniq (skeys rows o f)=uniq ((skeys rows o f).take (i+1))++m2:=by
      rw [←e2]
      unfold uniq addAll
      rw [←List.foldl_append,List.take_append_drop]
     rw [e3,idxOf_app]
     refine addAll_mem.mpr (.inr ?_)
     rw [List.take_add_one,esk]
     simp
    have hun:uniq ((skeys rows o f).take (i+1))=addN (uniq ((skeys rows o f).take i)) (keyOf rows f r):=by
     unfold uniq
     rw [List.take_add_one,esk]
     exact addAll_snoc _ _ _
    have hund:(uniq ((skeys rows o f).take i)).Nodup:=addAll_nodup _ _ List.nodup_nil
    have hunl:(uniq ((skeys rows o f).take i)).length≤4000:=by
     have:=uniq_le ((skeys rows o f).take i)
     rw [List.length_take] at this
     omega
    rw [hun] at hidx
    generalize uniq ((skeys rows o f).take i)=un at *
    generalize hgs:(row rows r).2=gs at *
    dsimp only [gName]
    refine cutQ (fun σ' H'=>∃ t7:Addr,σ'=[some (.ref a),some (.int (nm 0)),some (.ref lo),some (.ref lm),some (.int i0),u5,some (.int many),some (.bl gr),some (.ref lk),some (.ref lf),some (.int (nm r)),some (.ref t7)]∧Same H4 H'∧Dr K H' (keyOf rows f r) (.ref t7)) (fun Eq nxq=>?_) (fun σ' H7 p=>?_)
    rotate_left
    ·obtain ⟨t7,rfl,s47,dk⟩:=p
     have g7:=g4.mono s47
     have e7f:=s47 _ _ elf
     have t7':=t4.trans s47
     refine ⟨_,rfl,lk,_,rfl,g7,_,rfl,_,rfl,lk,_,rfl,g7,_,_,g7,keyV ks dk,_,rfl,_,rfl,lk,_,_,rfl,g7,keyV ks dk,by rw [prsF_len];exact small5 (by omega),fun ob g8=>?_⟩
     rw [put_addN2 un _ hund] at g8
     have k8:TupK H7 (upd H7 lk ob):=by
      obtain ⟨xs,e0,_⟩:=g7
      exact TupK.up (TupK.refl _) e0 (fun _ z=>by unfold dExt at z;cases z)
     have dk8:=dk.keyed k8 ks.1
     have hval:valV (prs id (addN un (keyOf rows f r))) (keyOf rows f r)=some (V.int (sroundI rows o f r)):=by
      have:=prs_val (κ:=D) id (fun _ _ e=>e) (addN un (keyOf rows f r)) (keyOf rows f r)
      rw [if_pos (addN_has _ _),hidx] at this
      exact this
     have e8f:upd H7 lk ob lf=some (.dK kv4):=by rw [upd_ne nkf.symm];exact e7f
     refine ⟨_,rfl,_,rfl,lk,_,_,_,rfl,g8,keyV ks dk8,hval,_,rfl,_,rfl,lf,_,rfl,DPut.k (k:=kN nm r) e8f (by rw [mk4.len,List.length_take];exact small5 (by omega)),?_⟩
     have k9:TupK (upd H7 lk ob) (upd (upd H7 lk ob) lf (.dK (putK kv4 (kN nm r) (V.int (sroundI rows o f r))))):=TupK.up (TupK.refl _) e8f (fun _ z=>by cases z)
     refine nx3 _ _ ⟨_,_,_,rfl,same_over (same_over t7' hlk) hlf0,?_,upd_same,?_⟩
     ·rw [hun]
      exact DD.keyed g8 k9 (by rw [upd_ne nkf])
     ·rw [List.take_add_one,eo]
      exact (mk4.mono s47).put ni hnew (((mk4.mono s47).keyed k8 (FK.int _)).keyed k9 (FK.int _)) (Dr.int _)
    refine ⟨_,rfl,_,rfl,lm,v,rfl,gm,_,rfl,_,rfl,a,_,nm r,.ref t,rfl,rfl,Sa.mono t34,atI_of nr0 evr,t,_,_,.ref cc,rfl,rfl,SqT.of et,atI_nat (j:=1) rfl,cc,rfl,⟨_,SqT.of ec⟩,fun l5 hl5=>comp_tup (xs:=(gs.map nm).map V.int) (fun j zs H5=>j≤gs.length∧zs.length=j∧Same H4 H5∧DrL K H5 ((gs.take j).map f) zs) ⟨Nat.zero_le _,rfl,same_up (Same.refl H4) hl5,DrL.nil⟩ (fun j zs H5 _ h=>SqT.of (h.2.2.1 _ _ ec)) (by rw [List.length_map,List.length_map];exact line_le (by omega)) (fun j zs H5 h=>h.2.1) (fun j x zs H5 hx h hy5=>?_) (fun zs H5 h hy5=>?_)⟩
    ·obtain ⟨hj,hzl,s5',d5⟩:=h
     have hjl:j < gs.length:=by have:=(List.getElem?_eq_some_iff.mp hx).1;rwa [List.length_map,List.length_map] at this
     have eg:gs[j]?=some gs[j]:=List.getElem?_eq_getElem hjl
     have hgm:=hgo _ (List.getElem_mem hjl)
     generalize gs[j]=gj at eg hgm
     have ex:x=V.int (nm gj):=by rw [List.getElem?_map,List.getElem?_map,eg] at hx;exact (Option.some.inj hx).symm
     subst ex
     obtain ⟨vg,hvg,dvg⟩:=mk3.get ni hgm
     have gmg:DGet H5 lm (V.int (nm gj)) (some vg):=by rw [←hvg];exact DGet.k (k:=kN nm gj) (s5' _ _ (t4 _ _ elm))
     have kk:TupK H5 (upd H5 l5 (.lst (zs++[vg]))):=TupK.up (TupK.refl _) hy5 (fun _ z=>by cases z)
     refine ⟨_,rfl,_,rfl,lm,vg,rfl,gmg,hy5,hjl,by rw [List.length_append,hzl];rfl,same_over s5' hl5,?_⟩
     rw [take_snoc _ eg]
     exact DrL.append (d5.keyed kk (hf.keyL _)) (DrL.one ((dvg.mono (t4.trans s5')).keyed kk (hf gj).1))
    ·obtain ⟨_,hzl,s5',d5⟩:=h
     rw [List.length_map,List.length_map,List.take_length] at d5
     refine ⟨l5,_,rfl,.inl ⟨SqL.of hy5,fun t6 ht6=>⟨by show 2≤sizeLine;decide,fun t7 ht7=>?_⟩⟩⟩
     have s6:=same_up (o:=HO.tup zs) (Same.refl H5) ht6
     have s7:=same_up (o:=HO.tup [v,.ref t6]) s6 ht7
     have s47:=s5'.trans s7
     have nt6:t6≠t7:=ne_of_none upd_same ht7
     have dk:Dr K (upd (upd H5 t6 (.tup zs)) t7 (.tup [v,.ref t6])) (keyOf rows f r) (.ref t7):=by
      rw [ekey]
      exact Dr.tup upd_same (DrL.cons (dv.mono (t4.trans s47)) (DrL.one (Dr.tup (by rw [upd_ne nt6];exact upd_same) (d5.mono s7))))
     exact nxq _ _ ⟨t7,rfl,s47,dk⟩
   ·obtain ⟨u10,u11,kv4,rfl,t4,g4,elf,mk4⟩:=h
    rw [List.length_map] at g4 mk4
    rw [List.take_length] at mk4
    rw [List.take_of_length_le (by unfold skeys;rw [List.length_map];omega)] at g4
    have hcl:=scount_le rows o f
    refine ⟨_,rfl,lk,_,rfl,g4,_,rfl,_,_,rfl,rfl,_,rfl,lk,_,rfl,g4,_,rfl,?_⟩
    have hpl:(prs id (uniq (skeys rows o f))).length=scount rows o f:=prsF_len _ _ _
    cases m with
    | zero=>omega
    | succ m =>
     refine nx2 m _ _ (Nat.lt_succ_self m) ⟨sround rows o f,scount rows o f,decide ((many:Int) < (scount rows o f:Nat)),lf,kv4,_,_,_,_,(by rw [←hpl];rfl),t3.trans t4,t4 _ _ elo,elf,mk4,FK.int _,?_⟩
     unfold sloop at hsl
     by_cases hc:many < scount rows o f
     ·rw [if_pos hc] at hsl
      exact .inl ⟨decide_eq_true (by omega),by omega,hcl,hsl⟩
     ·rw [if_neg hc] at hsl
      exact .inr ⟨decide_eq_false (by omega),hsl⟩
  ·rcases alt with ⟨hg,_⟩ | ⟨_,hfs⟩
   ·exact absurd hg c
   refine ⟨_,rfl,_,rfl,_,rfl,a,lo,lm,n,rows,nm,us,o,kOf rows,kvs,rfl,Sa.mono t3,da.mono t3,ni,GM,hn,elo,elm,?_,L,cl,fun v H4 s4 d4=>?_⟩
   ·rw [hfs,smarks_int rows] at mk3;exact mk3
   ·refine q v H4 (t3.trans s4) ?_
    unfold shr
    rw [eoo]
    exact d4
 refine ⟨fun m σ H2=>∃ (i:Nat) (o:List Int) (u5:Option V) (kvs:List (Key × V)),m=rows.length+1 - i∧σ=[some (.ref a),some (.int (nm 0)),some (.ref lo),some (.ref lm),some (.int i),u5,none,none,none,none,none,none]∧Same H H2∧H2 lo=some (.lst (o.map (nV nm)))∧H2 lm=some (.dK kvs) ∧
   MkN nm K H2 o (fun r=>D.its (row rows r).1) kvs∧Line rows o∧i≤o.length∧bfs rows (rows.length+1 - i) i o=order rows,
  ⟨_,0,[0],none,_,rfl,rfl,s3,?_,upd_same,?_,L0,by simp,rfl⟩,?_⟩
 ·rw [upd_ne nlo,upd_ne nlo];exact upd_same
 ·refine ⟨[.ref b0],rfl,?_⟩
  show DrL K _ [D.its (row rows 0).1] [.ref b0]
  exact DrL.one (Dr.tup (by rw [upd_ne (ne_of eb0 upd_same (by intro z;cases z))];exact eb0) (DrL.ints _))
 rintro m σ H2 ⟨i,o,u5,kvs,rfl,rfl,t2,glo,glm,mk2,L,hi,hb⟩
 have hol2:(o.map (nV nm)).length=o.length:=List.length_map _
 refine ⟨_,rfl,_,rfl,lo,_,rfl,.inl (SqL.of glo),_,_,rfl,rfl,_,rfl,ite2 (fun c=>?_) (fun c=>?_)⟩
 ·have c':=of_decide_eq_true c
  rw [hol2] at c'
  have hio:i < o.length:=by omega
  have eo:o[i]?=some o[i]:=List.getElem?_eq_getElem hio
  have hro:o[i]∈o:=List.getElem_mem hio
  generalize o[i]=r at eo hro
  obtain ⟨r0,r1⟩:=L.rg r hro
  obtain ⟨nr0,v,ev,dv⟩:=da r r0 r1
  obtain ⟨t,b,cc,rfl,et,eb,ec⟩:=rowD_inv (dv.mono t2)
  dsimp only [rowN] at eb ec
  have hrow:=row_mem r0 r1
  have hgl:=GM.len _ hrow
  have hgo:=GM.go _ hrow
  have hlen:=L.len
  refine cutN fun N nx2=>?_
  refine ⟨_,rfl,_,rfl,_,rfl,lo,_,_,V.int (nm r),rfl,rfl,SqL.of glo,atI_nat (by rw [List.getElem?_map,eo];rfl),a,_,nm r,.ref t,rfl,rfl,Sa.mono t2,atI_of nr0 ev,t,_,_,.ref cc,rfl,rfl,SqT.of et,atI_nat (j:=1) rfl,cc,rfl,⟨_,SqT.of ec⟩,?_⟩
  generalize hgs:(row rows r).2=gs at *
  refine tupO (xs:=(gs.map nm).map V.int) (fun j σ H3=>∃ (u:Option V) (kv3:List (Key × V)),σ=[some (.ref a),some (.int (nm 0)),some (.ref lo),some (.ref lm),some (.int i),u,none,none,none,none,none,none]∧Same H H3∧TupK H2 H3∧H3 lo=some (.lst ((addAll o (gs.take j)).map (nV nm)))∧H3 lm=some (.dK kv3)∧MkN nm K H3 (addAll o (gs.take j)) (fun r=>D.its (row rows r).1) kv3)
   ⟨_,kvs,rfl,t2,TupK.refl _,glo,glm,mk2⟩ (fun j σ H3 _ h=>by obtain ⟨_,_,_,_,k3,_⟩:=h;exact SqT.of (k3 _ _ ec)) (fun j x σ H3 hx h Ed nx3=>?_) (fun σ H3 h=>?_)
  ·obtain ⟨u,kv3,rfl,t3,k3,e1,e2,mk3⟩:=h
   have hjl:j < gs.length:=by have:=(List.getElem?_eq_some_iff.mp hx).1;rwa [List.length_map,List.length_map] at this
   have eg:gs[j]?=some gs[j]:=List.getElem?_eq_getElem hjl
   obtain ⟨g0,g1⟩:=hgo _ (List.getElem_mem hjl)
   generalize gs[j]=gj at eg g0 g1
   have ex:x=V.int (nm gj):=by rw [List.getElem?_map,List.getElem?_map,eg] at hx;exact (Option.some.inj hx).symm
   subst ex
   have et':addAll o (gs.take (j+1))=addN (addAll o (gs.take j)) gj:=by rw [List.take_add_one,eg];exact addAll_snoc _ _ _
   have hal:(addAll o (gs.take j)).length≤4500:=by
    have:=addAll_len (gs.take j) o
    rw [List.length_take] at this
    omega
   generalize addAll o (gs.take j)=oj at *
   refine ⟨_,rfl,_,rfl,lm,_,rfl,DGet.k (k:=kN nm gj) e2,_,rfl,?_⟩
   by_cases hm:gj∈oj
   ·obtain ⟨v',hv',_⟩:=mk3.get ni hm
    rw [hv']
    refine iteF (nx3 _ _ ⟨_,kv3,rfl,t3,k3,?_,e2,?_⟩)
    ·rw [et',addN_mem hm];exact e1
    ·rw [et',addN_mem hm];exact mk3
   ·rw [mk3.no ni hm]
    have nlop:lo≠lm:=nlo
    obtain ⟨ng0,v',ev',dv'⟩:=da gj g0 g1
    obtain ⟨t',b',c'',rfl,et'',eb'',ec''⟩:=rowD_inv (dv'.mono t3)
    refine iteT ⟨_,rfl,_,rfl,a,_,nm gj,.ref t',rfl,rfl,Sa.mono t3,atI_of ng0 ev',t',_,_,.ref b',rfl,rfl,SqT.of et'',atI_nat (j:=0) rfl,_,rfl,_,rfl,lm,_,rfl,DPut.k (k:=kN nm gj) e2 (by rw [mk3.len];exact small5 (by omega)),?_⟩
    have e1':upd H3 lm (.dK (putK kv3 (kN nm gj) (V.ref b'))) lo=some (.lst (oj.map (nV nm))):=by rw [upd_ne nlop];exact e1
    refine ⟨_,rfl,.inl ⟨rfl,_,SqL.of e1'⟩,_,rfl,lo,_,_,rfl,rfl,e1',by rw [List.length_map];exact small5 (by omega),?_⟩
    have kk:TupK H3 (upd (upd H3 lm (.dK (putK kv3 (kN nm gj) (V.ref b')))) lo (.lst (oj.map (nV nm)++[V.int (nm gj)]))):=TupK.up (TupK.up (TupK.refl _) e2 (fun _ z=>by cases z)) e1' (fun _ z=>by cases z)
    refine nx3 _ _ ⟨_,_,rfl,same_over (same_over t3 hlm0) hlo,k3.trans kk,?_,(by rw [upd_ne nlo.symm];exact upd_same),?_⟩
    ·rw [upd_same,et',addN_new hm,List.map_append];rfl
    ·rw [et',addN_new hm]
     exact mk3.put ni hm (mk3.keyed kk hF0) (Dr.tup (kk _ _ eb'') (DrL.ints _))
  ·obtain ⟨u,kv3,rfl,t3,k3,e1,e2,mk3⟩:=h
   rw [List.length_map,List.length_map,List.take_length] at e1 mk3
   obtain ⟨mm,em⟩:=bfs_sub rows (rows.length+1 - (i+1)) (i+1) (addAll o gs)
   have hb':bfs rows (rows.length+1 - (i+1)) (i+1) (addAll o gs)=order rows:=by
    rw [←hb,show rows.length+1 - i=(rows.length+1 - (i+1))+1 by omega,bfs_step eo,hgs]
   have L':Line rows (addAll o gs):=by rw [←hgs];exact L.add GM hro
   obtain ⟨m1,em1⟩:=addAll_sub gs o
   have hi':i+1≤(addAll o gs).length:=by rw [em1,List.length_append];omega
   exact ⟨_,rfl,_,_,rfl,rfl,nx2 (rows.length+1 - (i+1)) _ _ (by omega) ⟨i+1,addAll o gs,_,kv3,rfl,rfl,t3,e1,e2,mk3,L',hi',hb'⟩⟩
 have c':=of_decide_eq_false (Bool.eq_false_iff.mpr c)
 rw [hol2] at c'
 have eoo:order rows=o:=by rw [←hb];exact bfs_stop (by omega)
 exact nx _ _ ⟨_,o,u5,kvs,rfl,t2,glo,glm,mk2,L,eoo⟩
end
end Gu

set_option Elab.async false
set_option linter.all false
set_option maxRecDepth 100000
set_option maxHeartbeats 4000000
namespace Gu
open PySem L2
section
variable {P:Program} {w:World} {K:PySem.W.Frag} {mg:Str→Option Value} {base:Heap} {f g:Addr} {fd gd:FuncData} {CX:CXT} [NoE CX]
theorem scNumbers:FnScope ["_law_cell_here","_law_many","_law_row","_law_rest","_law_seed"] ["_law_cell_here","_law_many"] (defScope sNumbers):=⟨rfl,rfl,rfl,by decide +kernel,rfl,by decide +kernel,by decide +kernel⟩
theorem ok_numbers (F:Fun K "_law_numbers" "_law_numbers" sNumbers f fd) (ml:mg "len"=none):FnOk P w K mg base CX 1 f fd ["_law_cell_here","_law_many"] (spNumbers K):=by
 refine F.okc scNumbers (fun vs H Q E h=>?_) (fun cdv A outer s H vs Q E hr h=>?_)
 ·obtain ⟨c,m,rfl,_⟩:=h
  rfl
 obtain ⟨c,m,rfl,hm,q⟩:=h
 refine ⟨_,pss_cons (ps_set (i:=2) scNumbers.nd rfl (Or.inl rfl) (pe_lst pa_nil))
  (pss_cons (ps_set (i:=3) scNumbers.nd rfl (Or.inl rfl) (pe_op op_sub (pv 0) (pe_op op_pow pe_int pe_int)))
  (pss_cons (ps_while PassesOwn.never (PW.pt (pw_and (pt_cmpR op_gt (pv 3) pe_int (nomark _)) (pw_and1 (pt_cmpR op_lt (pe_callB call_len_seq rfl ml PySem.boot_len (pa_cons (pv 2) pa_nil)) (pv 1) (nomark _)))))
   (pss_cons (ps_expr (pe_bm PySem.F.plainAttrs_list PySem.F.slot_list_append PySem.F.type_list_append mt_append (pv 2) (pa_cons (pe_op op_mod (pv 3) pe_int) pa_nil)))
   (pss_one (ps_set (i:=3) scNumbers.nd rfl (Or.inl rfl) (pe_op op_fdiv (pv 3) pe_int)))))
  (pss_cons (ps_set (i:=4) scNumbers.nd rfl (Or.inl rfl) (pe_op op_mod (pv 0) pe_int))
  (pss_cons (ps_while PassesOwn.never (pt_cmpR op_lt (pe_callB call_len_seq rfl ml PySem.boot_len (pa_cons (pv 2) pa_nil)) (pv 1) (nomark _))
   (pss_cons (ps_set (i:=4) scNumbers.nd rfl (Or.inl rfl) (pe_op op_mod (pe_op op_add (pe_op op_add (pe_op op_mul (pv 4) pe_int) pe_int) (pe_callB call_len_seq rfl ml PySem.boot_len (pa_cons (pv 2) pa_nil))) pe_int))
   (pss_one (ps_expr (pe_bm PySem.F.plainAttrs_list PySem.F.slot_list_append PySem.F.type_list_append mt_append (pv 2) (pa_cons (pe_op op_mod (pe_op op_fdiv (pe_op op_mod (pe_op op_mul (pv 4) pe_int) pe_int) pe_int) pe_int) pa_nil))))))
  (pss_one (ps_ret (pv 2))))))),?_⟩
 refine ⟨by show 0≤sizeLine;decide,fun l hl=>⟨_,rfl,_,_,rfl,rfl,⟨by decide,by decide,by decide⟩,_,_,rfl,rfl,?_⟩⟩
 show tWhile _ _ _ _ _
 refine cutW (fun σ' H'=>∃ (k:Nat) (r:Int) (ns:List Int),σ'=[some (.int c),some (.int m),some (.ref l),some (.int r),none]∧Same H H'∧H' l=some (.lst (ns.map V.int))∧k+ns.length=m∧∀ x∈ns,0≤x∧x < 1009) (fun Ed nx=>?_) (fun σ' H' p=>?_)
 rotate_left
 ·obtain ⟨k,r,ns,rfl,s2,e2,hk,hns⟩:=p
  refine ⟨_,rfl,_,_,rfl,rfl,pmod,?_⟩
  refine ⟨fun k σ H2=>∃ (v:Int) (ns:List Int),σ=[some (.int c),some (.int m),some (.ref l),some (.int r),some (.int v)]∧Same H H2∧H2 l=some (.lst (ns.map V.int))∧k+ns.length=m∧∀ x∈ns,0≤x∧x < 1009,
   ⟨k,_,ns,rfl,s2,e2,hk,hns⟩,?_⟩
  rintro k σ H2 ⟨v,ns,rfl,s2,e2,hk,hns⟩
  have hnl:(ns.map V.int).length=ns.length:=List.length_map _
  refine ⟨_,rfl,l,_,rfl,.inl (SqL.of e2),_,rfl,_,_,rfl,rfl,_,rfl,ite2 (fun c2=>?_) (fun c2=>?_)⟩
  ·have c2':=of_decide_eq_true c2
   rw [hnl] at c2'
   have hkp:ns.length < m:=by omega
   refine cutN fun N nx2=>?_
   refine ⟨_,rfl,_,_,rfl,rfl,.inr ⟨by decide,by decide⟩,_,_,rfl,rfl,_,rfl,l,_,rfl,.inl (SqL.of e2),_,_,rfl,rfl,_,_,rfl,rfl,pmod,?_⟩
   refine ⟨_,rfl,.inl ⟨rfl,_,SqL.of e2⟩,_,rfl,_,_,rfl,rfl,.inr ⟨by decide,by decide⟩,_,_,rfl,rfl,pmod,_,_,rfl,rfl,⟨by decide,by decide⟩,_,_,rfl,rfl,pmod,l,_,_,rfl,rfl,e2,by rw [hnl];exact small1000 (by omega),?_⟩
   refine nx2 (k - 1) _ _ (by omega) ⟨_,ns++[(v*48271+9973+((ns.map V.int).length:Nat)) % 2147483647*39373 % 2147483629 / 11 % 1009],rfl,same_over s2 hl,?_,?_,nums_snoc hns (mod1009 _)⟩
   ·rw [upd_same,List.map_append];rfl
   ·rw [List.length_append];show k - 1+(ns.length+1)=m;omega
  ·have c2':=of_decide_eq_false (Bool.eq_false_iff.mpr c2)
   rw [hnl] at c2'
   exact ⟨_,rfl,q l H2 ns s2 e2 ⟨by omega,hns⟩⟩
 refine ⟨fun k σ H2=>∃ (r:Int) (ns:List Int),σ=[some (.int c),some (.int m),some (.ref l),some (.int r),none]∧Same H H2∧H2 l=some (.lst (ns.map V.int))∧k+ns.length=m∧∀ x∈ns,0≤x∧x < 1009,
  ⟨m,_,[],rfl,same_up (Same.refl H) hl,upd_same,rfl,fun x hx=>by simp at hx⟩,?_⟩
 rintro k σ H2 ⟨r,ns,rfl,s2,e2,hk,hns⟩
 have hnl:(ns.map V.int).length=ns.length:=List.length_map _
 refine ⟨_,rfl,_,_,rfl,rfl,_,rfl,ite2 (fun c1=>⟨_,rfl,l,_,rfl,.inl (SqL.of e2),_,rfl,_,_,rfl,rfl,_,rfl,ite2 (fun c2=>?_) (fun c2=>?_)⟩) (fun c1=>iteF ?_)⟩
 ·have c2':=of_decide_eq_true c2
  rw [hnl] at c2'
  have hkp:ns.length < m:=by omega
  refine cutN fun N nx2=>?_
  refine ⟨_,rfl,.inl ⟨rfl,_,SqL.of e2⟩,_,rfl,_,_,rfl,rfl,pmod,l,_,_,rfl,rfl,e2,by rw [hnl];exact small1000 (by omega),?_⟩
  refine ⟨_,rfl,_,_,rfl,rfl,⟨by decide,by decide⟩,nx2 (k - 1) _ _ (by omega) ⟨_,ns++[r % 1009],rfl,same_over s2 hl,?_,?_,nums_snoc hns (mod1009 r)⟩⟩
  ·rw [upd_same,List.map_append];rfl
  ·rw [List.length_append];show k - 1+(ns.length+1)=m;omega
 all_goals exact nx _ _ ⟨k,r,ns,rfl,s2,e2,hk,hns⟩
theorem scGuise:FnScope ["_law_letters_here","_law_cell_here"] ["_law_letters_here","_law_cell_here"] (defScope sGuise):=⟨rfl,rfl,rfl,by decide +kernel,rfl,by decide +kernel,by decide +kernel⟩
theorem ok_guise {k:Addr} {kd:FuncData} (F:Fun K "_law_guise" "_law_guise" sGuise f fd)
  (G:FnOk P w K mg base CX 2 g gd ["_law_letters_here","_law_cell_here"] (spRows K)) (bG:Binds K gd ["_law_letters_here","_law_cell_here"] []) (kG:PySem.W.keepIn K (.ref g)=true) (mG:mg "_law_rows"=some (.ref g))
  (T:FnOk P w K mg base CX 2 k kd ["_law_rows_here","_law_start"] (spShrunk K)) (bT:Binds K kd ["_law_rows_here","_law_start"] []) (kT:PySem.W.keepIn K (.ref k)=true) (mT:mg "_law_shrunk"=some (.ref k)):FnOk P w K mg base CX 3 f fd ["_law_letters_here","_law_cell_here"] (spGuise K):=by
 refine F.okc scGuise (fun vs H Q E h=>?_) (fun cdv A outer s H vs Q E hr h=>?_)
 ·obtain ⟨n,c,rfl,_⟩:=h
  rfl
 obtain ⟨n,c,rfl,h2,h5,q⟩:=h
 refine ⟨_,pss_one (ps_ret (pe_call T hr rfl mT kT bT .nil passN (pa_cons (pe_call G hr rfl mG kG bG .nil passN (pa_cons (pv 0) (pa_cons (pv 1) pa_nil))) (pa_cons pe_int pa_nil)))),?_⟩
 refine ⟨_,rfl,_,rfl,n,c,rfl,h2,h5,fun r H1 rows s1 hr1 G1 h8=>⟨r,n,rows,rfl,hr1,G1,by omega,fun v H2 s2 d=>q v H2 rows (s1.trans s2) G1 h8 d⟩⟩
end
end Gu

set_option Elab.async false
set_option linter.all false
set_option maxRecDepth 100000
set_option maxHeartbeats 4000000
namespace Gu
open PySem L2
structure FA (K:PySem.W.Frag) (f:Addr) (x:Str) (st:Stmt):Prop where
 a:PySem.W.nsIn K mainGlobals x=some (some (.ref f))
 l:∃ oc od kV dc pm an cd ct sl,K.lookup f=some ⟨oc,od,.func (PySem.W.fnOf x x (defArgs st) (defBody st) (defScope st) .none kV dc pm an cd ct),sl⟩∧PySem.W.codeIn K cd x=true
 k:PySem.W.keepIn K (.ref f)=true
theorem FA.of {K:PySem.W.Frag} {f:Addr} {x:Str} {st:Stmt} {oc kV dc pm cd ct:Value} {od an:Option Addr} {sl:Array (Option Value)} (a:PySem.W.nsIn K mainGlobals x=some (some (.ref f))) (l:K.lookup f=some ⟨oc,od,.func (PySem.W.fnOf x x (defArgs st) (defBody st) (defScope st) .none kV dc pm an cd ct),sl⟩) (c:PySem.W.codeIn K cd x=true) (k:PySem.W.keepIn K (.ref f)=true):FA K f x st:=⟨a,⟨_,_,_,_,_,_,_,_,_,l,c⟩,k⟩
theorem FA.go {K:PySem.W.Frag} {f:Addr} {x:Str} {st:Stmt} {h:Heap} {mg:Str→Option Value} (A:FA K f x st) (X:K.In h) (G:h.Ns mainGlobals mg):∃ fd,Fun K x x st f fd∧mg x=some (.ref f)∧PySem.W.keepIn K (.ref f)=true:=by
 obtain ⟨a,⟨_,_,_,_,_,_,_,_,_,l,c⟩,k⟩:=A
 exact ⟨_,fun_mk l c k,PySem.W.mg_of X G a,k⟩

abbrev fnY (x:Str) (st:Stmt) (kV dc pm:Value) (an:Option Addr) (cd ct:Value):=PySem.W.fnOf x x (defArgs st) (defBody st) (defScope st) .none kV dc pm an cd ct
section
variable {K:PySem.W.Frag} {x:Str} {st:Stmt} {f:Addr} {fd:FuncData}
theorem bnd1 {a:Str} (F:Fun K x x st f fd) (h:∀ (kV dc pm:Value) (an:Option Addr) (cd ct u:Value),bindArgs (fnY x st kV dc pm an cd ct) ⟨[u],[]⟩=pure [(a,u)]):Binds K fd [a] []:=F.binds fun _ _ _ _ _ _ us hl=>by obtain ⟨_,rfl⟩:=len1 hl;exact h _ _ _ _ _ _ _
theorem bnd2 {a b:Str} (F:Fun K x x st f fd) (h:∀ (kV dc pm:Value) (an:Option Addr) (cd ct u v:Value),bindArgs (fnY x st kV dc pm an cd ct) ⟨[u,v],[]⟩=pure [(a,u),(b,v)]):Binds K fd [a,b] []:=F.binds fun _ _ _ _ _ _ us hl=>by obtain ⟨_,_,rfl⟩:=len2 hl;exact h _ _ _ _ _ _ _ _
theorem bnd3 {a b c:Str} (F:Fun K x x st f fd) (h:∀ (kV dc pm:Value) (an:Option Addr) (cd ct u v w:Value),bindArgs (fnY x st kV dc pm an cd ct) ⟨[u,v,w],[]⟩=pure [(a,u),(b,v),(c,w)]):Binds K fd [a,b,c] []:=F.binds fun _ _ _ _ _ _ us hl=>by obtain ⟨_,_,_,rfl⟩:=len3 hl;exact h _ _ _ _ _ _ _ _ _
end
abbrev TsOf (P1:Addr):List Tb:=[⟨P1,lamPos (defBody sSect),("section_at.<locals>."++"<lambda>":Str)⟩]
theorem all_mk {l:PySem.W.OpenLaw} {w:World} {K:PySem.W.Frag} {h:Heap} {mg:Str→Option Value} {fa f1 f2 f3 f4 f5 f6 f7 f8 f9 f10 f11 f12 f13 f14 f15 f16 f17 f18 f19 f20 f21 f22 f23 f24 f25:Addr} (X:K.In h) (G:h.Ns mainGlobals mg) (hfa:mg "law"=some (.ref fa))
  {od1 an1 od25 an25:Option Addr} {sl1 sl25:Array (Option Value)} {tk1:Tok}
  {oc1 kV1 dc1 pm1 ct1 oc25 kV25 dc25 pm25 ct25 cd25:Value}
  {cc1 P1:Addr}
  (a1:PySem.W.nsIn K mainGlobals "section_at"=some (some (.ref f1))) (l1:K.lookup f1=some ⟨oc1,od1,.func (PySem.W.fnOf "section_at" "section_at" (defArgs sSect) (defBody sSect) (defScope sSect) .none kV1 dc1 pm1 an1 (.ref cc1) ct1),sl1⟩) (c1:PySem.W.codeIn K (.ref cc1) "section_at"=true) (k1:PySem.W.keepIn K (.ref f1)=true)
  (h2:FA K f2 "least_form" sLeast)
  (h3:FA K f3 "rows_come_to" sCome)
  (h4:FA K f4 "kinds_of_rows" sKinds)
  (h5:FA K f5 "kinds_gone_to" sGone)
  (h6:FA K f6 "numbered" sNumbered)
  (h7:FA K f7 "sections" sSections)
  (h8:FA K f8 "lasting" sLasting)
  (h9:FA K f9 "comes_again" sComesA)
  (h10:FA K f10 "gone_to" sGoneTo)
  (h11:FA K f11 "_law_in_line" sInLine)
  (h12:FA K f12 "_law_shrunk" sShrunk)
  (h13:FA K f13 "_law_whole" sWhole)
  (h14:FA K f14 "_law_like" sLike)
  (h15:FA K f15 "_law_cell" sCell)
  (h16:FA K f16 "_law_letters" sLetters)
  (h17:FA K f17 "_law_numbers" sNumbers)
  (h18:FA K f18 "_law_rearranged" sRear)
  (h19:FA K f19 "_law_rows" sRows)
  (h20:FA K f20 "_law_guise" sGuise)
  (h21:FA K f21 "_law_ample" sAmple)
  (h22:FA K f22 "_law_pairs" sPairsL)
  (h23:FA K f23 "_law_comes_again" sComesL)
  (h24:FA K f24 "_law_right" sRight)
  (a25:PySem.W.nsIn K mainGlobals "law"=some (some (.ref f25))) (l25:K.lookup f25=some ⟨oc25,od25,.func (PySem.W.fnOf "law" "law" (defArgs sLaw) (defBody sLaw) (defScope sLaw) .none kV25 dc25 pm25 an25 cd25 ct25),sl25⟩) (c25:PySem.W.codeIn K cd25 "law"=true) (k25:PySem.W.keepIn K (.ref f25)=true)
  (t1:PySem.W.codeHdIn K cc1 P1=true) (u1:K.lookup P1=none)
  (nP:([P1]:List Addr).Nodup)
  (i1:PySem.W.nsIn K mainGlobals "MOST_FORM_ROWS"=some (some (.int 60 tk1)))
  (z1:PySem.W.nsIn K mainGlobals "len"=some none)
  (z2:PySem.W.nsIn K mainGlobals "tuple"=some none)
  (z3:PySem.W.nsIn K mainGlobals "list"=some none)
  (z4:PySem.W.nsIn K mainGlobals "range"=some none)
  (z5:PySem.W.nsIn K mainGlobals "isinstance"=some none)
  (z6:PySem.W.nsIn K mainGlobals "int"=some none)
  (z7:PySem.W.nsIn K mainGlobals "bool"=some none)
  (z8:PySem.W.nsIn K mainGlobals "str"=some none)
  (z9:PySem.W.nsIn K mainGlobals "all"=some none)
  (z10:PySem.W.nsIn K mainGlobals "any"=some none)
  (z11:PySem.W.nsIn K mainGlobals "sorted"=some none)
  (z12:PySem.W.nsIn K mainGlobals "zip"=some none)
  (z13:PySem.W.nsIn K mainGlobals "max"=some none)
  (z14:PySem.W.nsIn K mainGlobals "min"=some none)
  (z15:PySem.W.nsIn K mainGlobals "enumerate"=some none)
  (z16:PySem.W.nsIn K mainGlobals "abs"=some none)
  (z17:PySem.W.nsIn K mainGlobals "set"=some none)
  {CtTooMany:Addr} (yTooMany:PySem.W.nsIn K mainGlobals "TooMany"=some (some (.ref CtTooMany))) (xTooMany:PySem.W.excIn K CtTooMany [.type "ValueError",.type "Exception",.type "BaseException",.type "object"] "ValueError.__new__"=true)
  : ∃ fd:FuncData,(∀ (s:Shared) (v:Value),BindsTo s fd ⟨[v],[]⟩ [("_law_script",v)])∧(∀ T∈(TsOf P1),K.lookup T.at_=none∧∃ c,PySem.W.codeHdIn K c T.at_=true)∧∀ base:Heap,K.In base→base.Ns mainGlobals mg→BMain base mg→FnOk l.prog w K mg base (CXx l.prog w) 10 fa fd ["_law_script"] (spLawL (TsOf P1) K):=by
 have e:=hfa.symm.trans (PySem.W.mg_of X G a25)
 cases e
 have F1:=fun_mk (st:=sSect) l1 c1 k1
 have b1:=F1.binds (ps:=["guise","row"]) fun _ _ _ _ _ _ us hl=>by obtain ⟨a0,a1,rfl⟩:=len2 hl;rfl
 have m1:=PySem.W.mg_of X G a1
 obtain ⟨d2,F2,m2,k2⟩:=h2.go X G
 have b2:Binds K d2 ["first","row_at"] []:=bnd2 F2 fun _ _ _ _ _ _ _ _=>rfl
 obtain ⟨d3,F3,m3,k3⟩:=h3.go X G
 have b3:Binds K d3 ["first","row_at"] []:=bnd2 F3 fun _ _ _ _ _ _ _ _=>rfl
 obtain ⟨d4,F4,m4,k4⟩:=h4.go X G
 have b4:Binds K d4 ["rows"] []:=bnd1 F4 fun _ _ _ _ _ _ _=>rfl
 obtain ⟨d5,F5,m5,k5⟩:=h5.go X G
 have b5:Binds K d5 ["kinds","goings"] []:=bnd2 F5 fun _ _ _ _ _ _ _ _=>rfl
 obtain ⟨d6,F6,m6,k6⟩:=h6.go X G
 have b6:Binds K d6 ["things"] []:=bnd1 F6 fun _ _ _ _ _ _ _=>rfl
 obtain ⟨d7,F7,m7,k7⟩:=h7.go X G
 have b7:Binds K d7 ["guise"] []:=bnd1 F7 fun _ _ _ _ _ _ _=>rfl
 obtain ⟨d8,F8,m8,k8⟩:=h8.go X G
 have b8:Binds K d8 ["guise"] []:=bnd1 F8 fun _ _ _ _ _ _ _=>rfl
 obtain ⟨d9,F9,m9,k9⟩:=h9.go X G
 have b9:Binds K d9 ["guise","row"] []:=bnd2 F9 fun _ _ _ _ _ _ _ _=>rfl
 obtain ⟨d10,F10,m10,k10⟩:=h10.go X G
 have b10:Binds K d10 ["guise","rows"] []:=bnd2 F10 fun _ _ _ _ _ _ _ _=>rfl
 obtain ⟨d11,F11,m11,k11⟩:=h11.go X G
 have b11:Binds K d11 ["_law_rows_here","_law_line","_law_marks"] []:=bnd3 F11 fun _ _ _ _ _ _ _ _ _=>rfl
 obtain ⟨d12,F12,m12,k12⟩:=h12.go X G
 have b12:Binds K d12 ["_law_rows_here","_law_start"] []:=bnd2 F12 fun _ _ _ _ _ _ _ _=>rfl
 obtain ⟨d13,F13,m13,k13⟩:=h13.go X G
 have b13:Binds K d13 ["_law_found"] []:=bnd1 F13 fun _ _ _ _ _ _ _=>rfl
 obtain ⟨d14,F14,m14,k14⟩:=h14.go X G
 have b14:Binds K d14 ["_law_found","_law_due"] []:=bnd2 F14 fun _ _ _ _ _ _ _ _=>rfl
 obtain ⟨d15,F15,m15,k15⟩:=h15.go X G
 have b15:Binds K d15 ["_law_script","_law_at"] []:=bnd2 F15 fun _ _ _ _ _ _ _ _=>rfl
 obtain ⟨d16,F16,m16,k16⟩:=h16.go X G
 have b16:Binds K d16 ["_law_script","_law_at"] []:=bnd2 F16 fun _ _ _ _ _ _ _ _=>rfl
 obtain ⟨d17,F17,m17,k17⟩:=h17.go X G
 have b17:Binds K d17 ["_law_cell_here","_law_many"] []:=bnd2 F17 fun _ _ _ _ _ _ _ _=>rfl
 obtain ⟨d18,F18,m18,k18⟩:=h18.go X G
 have b18:Binds K d18 ["_law_pick","_law_letters_here"] []:=bnd2 F18 fun _ _ _ _ _ _ _ _=>rfl
 obtain ⟨d19,F19,m19,k19⟩:=h19.go X G
 have b19:Binds K d19 ["_law_letters_here","_law_cell_here"] []:=bnd2 F19 fun _ _ _ _ _ _ _ _=>rfl
 obtain ⟨d20,F20,m20,k20⟩:=h20.go X G
 have b20:Binds K d20 ["_law_letters_here","_law_cell_here"] []:=bnd2 F20 fun _ _ _ _ _ _ _ _=>rfl
 obtain ⟨d21,F21,m21,k21⟩:=h21.go X G
 have b21:Binds K d21 ["_law_letters_here","_law_cell_here"] []:=bnd2 F21 fun _ _ _ _ _ _ _ _=>rfl
 obtain ⟨d22,F22,m22,k22⟩:=h22.go X G
 have b22:Binds K d22 ["_law_one","_law_other"] []:=bnd2 F22 fun _ _ _ _ _ _ _ _=>rfl
 obtain ⟨d23,F23,m23,k23⟩:=h23.go X G
 have b23:Binds K d23 ["_law_one","_law_start"] []:=bnd2 F23 fun _ _ _ _ _ _ _ _=>rfl
 obtain ⟨d24,F24,m24,k24⟩:=h24.go X G
 have b24:Binds K d24 ["_law_one"] []:=bnd1 F24 fun _ _ _ _ _ _ _=>rfl
 have F25:=fun_mk (st:=sLaw) l25 c25 k25
 have m25:=PySem.W.mg_of X G a25
 have mTooMany:=PySem.W.mg_of X G yTooMany
 have j1:=PySem.W.mg_of X G i1
 have n_len:=PySem.W.mg_none_of X G z1
 have n_tuple:=PySem.W.mg_none_of X G z2
 have n_list:=PySem.W.mg_none_of X G z3
 have n_range:=PySem.W.mg_none_of X G z4
 have n_isinstance:=PySem.W.mg_none_of X G z5
 have n_int:=PySem.W.mg_none_of X G z6
 have n_bool:=PySem.W.mg_none_of X G z7
 have n_str:=PySem.W.mg_none_of X G z8
 have n_all:=PySem.W.mg_none_of X G z9
 have n_any:=PySem.W.mg_none_of X G z10
 have n_sorted:=PySem.W.mg_none_of X G z11
 have n_zip:=PySem.W.mg_none_of X G z12
 have n_max:=PySem.W.mg_none_of X G z13
 have n_min:=PySem.W.mg_none_of X G z14
 have n_enumerate:=PySem.W.mg_none_of X G z15
 have n_abs:=PySem.W.mg_none_of X G z16
 have n_set:=PySem.W.mg_none_of X G z17
 have B:Blt mg:=⟨n_len,n_tuple,n_list,n_range,n_isinstance,n_int,n_bool,n_str,n_all⟩
 refine ⟨PySem.W.fnOf "law" "law" (defArgs sLaw) (defBody sLaw) (defScope sLaw) .none kV25 dc25 pm25 an25 cd25 ct25,fun s v=>.of_eq rfl,?_,fun base hK _ hBM=>?_⟩
 ·simp only [TsOf,List.forall_mem_cons]
  exact ⟨⟨u1,cc1,t1⟩,fun _ h=>absurd h (by simp)⟩
 have O6:FnOk l.prog w K mg base (CXx l.prog w) 1 f6 _ ["things"] (spNumbered K):=ok_numbered F6 B.len
 have O5:FnOk l.prog w K mg base (CXx l.prog w) 1 f5 _ ["kinds","goings"] (spGone K):=ok_gone F5 B.tup
 have O4:FnOk l.prog w K mg base (CXx l.prog w) 2 f4 _ ["rows"] (spKindsX K CtTooMany):=ok_kindsX mTooMany xTooMany PySem.F.excBase_ValueError F4 n_zip n_max j1 O6 b6 k6 m6 O5 b5 k5 m5
 have O3F:FnOk l.prog w K mg base (CXx l.prog w) 5 f3 _ ["first","row_at"] (spComeF l.prog w K mg base (CXx l.prog w) 4):=ok_comeF F3 B.len B.tup
 have O2F:FnOk l.prog w K mg base (CXx l.prog w) 6 f2 _ ["first","row_at"] (spLeastF l.prog w K mg base (CXx l.prog w) 4 CtTooMany):=((ok_leastG F2 B.len B.tup n_zip (O3F.sub come_F) b3 k3 m3 (O4.mono (by decide)) b4 k4 m4 (O5.mono (by decide)) b5 k5 m5).sub least_F)
 have O1:FnOk l.prog w K mg base (CXx l.prog w) 7 f1 _ ["guise","row"] (spSect (TsOf P1) K):=ok_sect F1 rfl (PySem.W.codeHd_of_K hK t1) hBM List.mem_cons_self (tb_uniq nP List.mem_cons_self) rfl rfl O2F b2 k2 m2
 have O10:FnOk l.prog w K mg base (CXx l.prog w) 1 f10 _ ["guise","rows"] (spGoneTo K):=ok_goneto B.lst F10
 have O9:FnOk l.prog w K mg base (CXx l.prog w) 2 f9 _ ["guise","row"] (spComesA K):=ok_comesa B.len F9 O10 b10 k10 m10
 have O7:FnOk l.prog w K mg base (CXx l.prog w) 8 f7 _ ["guise"] (spSectionsN (TsOf P1) K):=ok_sectionsN B.len B.rng F7 O1 b1 k1 m1
 have O8:FnOk l.prog w K mg base (CXx l.prog w) 8 f8 _ ["guise"] (spLastingN (TsOf P1) K):=ok_lastingN B.len B.rng F8 O1 b1 k1 m1 (O9.mono (by decide)) b9 k9 m9
 have O15:FnOk l.prog w K mg base (CXx l.prog w) 1 f15 _ ["_law_script","_law_at"] (spCell K):=ok_cell F15 B.len
 have O16:FnOk l.prog w K mg base (CXx l.prog w) 2 f16 _ ["_law_script","_law_at"] (spLetters K):=ok_letters F16 O15 b15 k15 m15
 have O17:FnOk l.prog w K mg base (CXx l.prog w) 1 f17 _ ["_law_cell_here","_law_many"] (spNumbers K):=ok_numbers F17 B.len
 have O18:FnOk l.prog w K mg base (CXx l.prog w) 1 f18 _ ["_law_pick","_law_letters_here"] (spRear K):=ok_rear F18 B.len B.tup B.rng B.lst
 have O19:FnOk l.prog w K mg base (CXx l.prog w) 2 f19 _ ["_law_letters_here","_law_cell_here"] (spRows K):=ok_rows F19 B.rng B.tup n_min O17 b17 k17 m17 O18 b18 k18 m18
 have O11:FnOk l.prog w K mg base (CXx l.prog w) 1 f11 _ ["_law_rows_here","_law_line","_law_marks"] (spInLineN K):=ok_inlineN F11 B.len B.tup
 have O12:FnOk l.prog w K mg base (CXx l.prog w) 2 f12 _ ["_law_rows_here","_law_start"] (spShrunkN K):=ok_shrunkN F12 B.len B.tup O11 b11 k11 m11
 have O13:FnOk l.prog w K mg base (CXx l.prog w) 1 f13 _ ["_law_found"] (spWhole K):=ok_whole F13 B
 have O20:FnOk l.prog w K mg base (CXx l.prog w) 3 f20 _ ["_law_letters_here","_law_cell_here"] (spGuise K):=ok_guise F20 O19 b19 k19 m19 ((O12.mono (by decide)).sub shrunk_sub) b12 k12 m12
 have O21:FnOk l.prog w K mg base (CXx l.prog w) 4 f21 _ ["_law_letters_here","_law_cell_here"] (spAmple K):=ok_ample F21 B.rng B.tup (O17.mono (by decide)) b17 k17 m17 (O18.mono (by decide)) b18 k18 m18 ((O12.mono (by decide)).sub shrunk_sub) b12 k12 m12 (O20.mono (by decide)) b20 k20 m20
 have O22:FnOk l.prog w K mg base (CXx l.prog w) 1 f22 _ ["_law_one","_law_other"] (spPairsL K):=ok_pairsl F22 B.len B.tup B.rng
 have O14:FnOk l.prog w K mg base (CXx l.prog w) 6 f14 _ ["_law_found","_law_due"] (spLike K 5):=all_like F14 B O13 b13 k13 m13 b14 k14 m14 5
 have O23:FnOk l.prog w K mg base (CXx l.prog w) 1 f23 _ ["_law_one","_law_start"] (spComesL K):=ok_comesl B.len B.lst F23
 have O24:FnOk l.prog w K mg base (CXx l.prog w) 9 f24 _ ["_law_one"] (spRight26 (TsOf P1) K):=ok_right26 B.len B.rng n_set F24 (O12.mono (by decide)) b12 k12 m12 (O7.mono (by decide)) b7 k7 m7 (O14.mono (by decide)) b14 k14 m14 (O23.mono (by decide)) b23 k23 m23 (O8.mono (by decide)) b8 k8 m8
 exact ok_law B.len F25 (O15.mono (by decide)) b15 k15 m15 (O16.mono (by decide)) b16 k16 m16 (O20.mono (by decide)) b20 k20 m20 (O21.mono (by decide)) b21 k21 m21 ((O12.mono (by decide)).sub shrunk_sub) b12 k12 m12 (O22.mono (by decide)) b22 k22 m22 (O24.mono (by decide)) b24 k24 m24
theorem walk {l:PySem.W.OpenLaw} {q:Program} {loose:List Str} {XP:(Str→Option Value)→Heap→Prop} {YP:World→Heap→Prop} {d:DefRec} {K:Params→PySem.W.Frag} {P1:Addr} (hn:l.most=some 63) (hdf:d.params.defaults=[])
  (hY:∀ (w:World) (h:Heap),YP w h→(K w.params).In h∧∀ P∈([P1]:List Addr),h.get? P=some (PySem.W.tabObj #[]))
  (F:∀ (w:World) (mg:Str→Option Value) (fa:Addr) (h:Heap),(K w.params).In h→h.Ns mainGlobals mg→mg d.name=some (.ref fa) →
   ∃ fd:FuncData,(∀ (s:Shared) (u:Value),BindsTo s fd ⟨[u],[]⟩ [("_law_script",u)])∧(∀ T∈(TsOf P1),(K w.params).lookup T.at_=none∧∃ c,PySem.W.codeHdIn (K w.params) c T.at_=true)∧∀ base:Heap,(K w.params).In base→base.Ns mainGlobals mg→BMain base mg→FnOk l.prog w (K w.params) mg base (CXx l.prog w) 10 fa fd ["_law_script"] (spLawL (TsOf P1) (K w.params))) :
  PySem.W.WalkO q loose XP YP l.row.toRowW d [] (fun f vs=>PySem.call f vs) :=
 L2.walk_of2 (Ts:=(TsOf P1)) (n:=63) (k:=10) (x:="_law_script") (CX:=fun w=>(CXx l.prog w)) (sp:=fun w=>spLawL (TsOf P1) (K w.params)) hn (by decide) hdf ⟨rfl,by decide,by decide⟩ hY F (fun _ _ a ns hl hT hS=>⟨a,ns,rfl,hS,hl,hT,fun _=>rfl⟩) fun _ _ _ _ _ z=>(by obtain ⟨_,_,_,_,_,_,_,_,_,h⟩:=z;exact h)
end Gu
open PySem PySem.W PyProof.Rows
set_option maxRecDepth 100000 in
set_option maxHeartbeats 0 in
theorem PySem.Challenge.cw_guisery_k26_sections_told_holds : PySem.Challenge.rw_guisery_k26_sections_told.Holds := by
 w_on;o_law;refine holds_open (q:=Gu.viewOf Gu.pY) (loose:=[]) (Xt:=fun s=>xlAt (Gu.viewOf Gu.pY) [] s && recOk (RowW.records Gu.rY.toRowW) s) (XP:=XL (Gu.viewOf Gu.pY) []) (Yf:=Hook.obs Gu.HK) (Ya:=Hook.val Gu.HK) (YP:=Hook.says (PySem.W.kmHook Gu.KH Gu.KA (fun _=>by kernel_rfl) [41])) (N:=2450) Gu.left (Hook.of Gu.HK) (Hook.keeps Gu.HK) (fun s e=>xl_of s (Bool.and_eq_true_iff.mp e).1) XL.keeps (by rfl) (by rfl) (by rfl) (fun s e=>recFacts_of (Bool.and_eq_true_iff.mp e).2) (by rfl) (by first | assumption | decide +kernel) (by decide +kernel) ⟨rfl,rfl,rfl,rfl,rfl,by decide +kernel⟩ ?hw ?hc;(case hw=>w_witness2)
 k_fill
 refine Gu.walk (l:=PySem.Challenge.rw_guisery_k26_sections_told) rfl rfl (fun w h Y=>⟨PySem.W.km_in_of Y,PySem.W.km_tabs_of Y⟩) ?F
 case F =>
  intro w mg fa h KX G hmg
  refine' Gu.all_mk KX G hmg ?a1 ?l1 ?c1 ?k1 ?h2 ?h3 ?h4 ?h5 ?h6 ?h7 ?h8 ?h9 ?h10 ?h11 ?h12 ?h13 ?h14 ?h15 ?h16 ?h17 ?h18 ?h19 ?h20 ?h21 ?h22 ?h23 ?h24 ?a25 ?l25 ?c25 ?k25 ?t1 ?u1 ?nP ?i1 ?z1 ?z2 ?z3 ?z4 ?z5 ?z6 ?z7 ?z8 ?z9 ?z10 ?z11 ?z12 ?z13 ?z14 ?z15 ?z16 ?z17 ?yTooMany ?xTooMany
  all_goals try (refine' Gu.FA.of ?_ ?_ ?_ ?_<;>try k_is)
  (case a1=>k_is);(case l1=>k_is);(case c1=>k_is);(case k1=>k_is)
  (case a25=>k_is);(case l25=>k_is);(case c25=>k_is);(case k25=>k_is)
  (case t1=>(first | kernel_rfl | k_is))
  (case u1=>(first | kernel_rfl | k_is))
  (case nP=>decide)
  (case i1=>k_is)
  (case z1=>k_is)
  (case z2=>k_is)
  (case z3=>k_is)
  (case z4=>k_is)
  (case z5=>k_is)
  (case z6=>k_is)
  (case z7=>k_is)
  (case z8=>k_is)
  (case z9=>k_is)
  (case z10=>k_is)
  (case z11=>k_is)
  (case z12=>k_is)
  (case z13=>k_is)
  (case z14=>k_is)
  (case z15=>k_is)
  (case z16=>k_is)
  (case z17=>k_is)
  (case yTooMany=>k_is)
  (case xTooMany=>k_exc)

